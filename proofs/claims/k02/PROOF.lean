import PyProof.Rows.All
import Wide.All
import OpenK.AllK
import Wide.FinOn
import PySem.Challenge.RW_rightrecord_k02_whole_records_and_keys
import HandS.ForMost
import HandS.ForExc
import HandS.Wide
import HandS.Codes
import HandS.StrMore
import HandS.TryMany
import HandS.ExcValue
import HandS.ExcIs
import HandS.IsInst
import HandS.Sort
import HandS.Conv
import HandS.TupAny
import KE.KExcInit
import HandS.ExcInit
import HandS.More
import HandS.Deep
import HandS.Flow
import HandS.Zip
import HandS.SetFor
import HandS.Style
import HandS.Lambda
import PyProof.EqKinds
import PyProof.NeKinds
import HandS.TupMul
import KE.SortData
import HandS.Text
import HandS.ExcOwn
import HandS.WordsExc
import HandS.RaiseMore
import HandS.Dict
import KE.KRevSl
import PyProof.Rows.IntBool
import HandS.Set
import HandS.SetKeys
import PyProof.SetRoads
import HandS.SetBool
import HandS.Zip0
import PyProof.EnumMake
import PyProof.EnumFor
import HandS.ExcField
import PyProof.FitsInt
import PyProof.ReprLen
import PyProof.Rows.ReprOcc
import PyProof.Rows.StrCase
import PyProof.Rows.StrFit
set_option Elab.async false
set_option linter.all false
set_option maxRecDepth 100000
set_option maxHeartbeats 4000000
section
namespace Kb
open PySem PySem.Spec PyProof.Rows L2
open C8 (pss_cut)
/-! ### a stream of draws -/
/-- the stream's list stands at a -/
def StOk (H : Hp) (a : Addr) : Prop := ∃ g m c : Int, H a = some (.lst [.int g, .int m, .int c])
/-- all but the stream's list is as it was; the list is a stream's still -/
def Ev (a : Addr) (H H' : Hp) : Prop := (∀ b o, b ≠ a → H b = some o → H' b = some o) ∧ StOk H' a
theorem Ev.rfl' {a : Addr} {H : Hp} (h : StOk H a) : Ev a H H := ⟨fun _ _ _ e => e, h⟩
theorem Ev.trans {a : Addr} {H H1 H2 : Hp} (x : Ev a H H1) (y : Ev a H1 H2) : Ev a H H2 := ⟨fun b o n e => y.1 b o n (x.1 b o n e), y.2⟩
theorem Ev.put {a : Addr} {H : Hp} {g m c : Int} : Ev a H (upd H a (.lst [.int g, .int m, .int c])) := ⟨fun b o n e => by rw [upd_ne n]; exact e, g, m, c, upd_same⟩
theorem StOk.new {a p : Addr} {H : Hp} {o : HO} (h : StOk H a) (np : H p = none) : StOk (upd H p o) a := by
  obtain ⟨g, m, c, e⟩ := h
  exact ⟨g, m, c, by rw [upd_ne (ne_of_none e np)]; exact e⟩
theorem Ev.new {a p : Addr} {H : Hp} {o : HO} (h : StOk H a) (np : H p = none) : Ev a H (upd H p o) := ⟨fun b u n e => by rw [upd_ne (ne_of_none e np)]; exact e, h.new np⟩
theorem StOk.ne {a p : Addr} {H : Hp} (h : StOk H a) (np : H p = none) : p ≠ a := by
  obtain ⟨g, m, c, e⟩ := h
  exact (ne_of_none e np).symm
/-! ### numbers -/
def CPowW (i j : Int) : Prop := 0 ≤ j ∧ (Builtin.Int.intBits i : Int) * j ≤ 2 ^ 27
section
variable {X : Cx}
theorem op_powW : OpR X (binaryOp .Pow) (rI CPowW fun i j => .int (i ^ j.toNat)) := opI fun _ _ _ _ _ _ _ hc q => pow_int hc.1 hc.2 q
end
theorem pow_bits : (Builtin.Int.intBits (10 ^ 60) : Int) * 12 ≤ 2 ^ 27 := by decide +kernel
theorem pow_one : (Builtin.Int.intBits 10 : Int) * 60 ≤ 2 ^ 27 := by decide +kernel
theorem pow_two : (Builtin.Int.intBits 10 : Int) * 18 ≤ 2 ^ 27 := by decide +kernel
theorem pow_three : (Builtin.Int.intBits 10 : Int) * 9 ≤ 2 ^ 27 := by decide +kernel
theorem modk {j : Int} (h : 0 < j) : 0 < j := h
theorem divk {i j : Int} (h : 0 < j) (h2 : j.natAbs.log2 < 9000) : CDivW i j := ⟨h, h2⟩
theorem atI_of {ns : List V} {k : Int} {v : V} (h0 : 0 ≤ k) (h : ns[k.toNat]? = some v) : atI ns k = some v := by
  obtain ⟨j, e⟩ : ∃ j : Nat, k = (j : Int) := ⟨k.toNat, by omega⟩
  subst e
  exact atI_nat h
end Kb
end
section
namespace Kb
open PySem PySem.Spec PyProof.Rows L2
/-! ### words -/
/-- the twenty-six signs from b on -/
def abc (b : Nat) : Str := ⟨((List.range 26).map (b + ·)).toArray⟩
def longOf (b : Nat) : Nat := if b = 97 then 8 else 4
/-- a word of such signs, by its codes -/
def WordC (b n : Nat) (l : List Nat) : Prop := 1 ≤ l.length ∧ l.length ≤ n ∧ ∀ c ∈ l, b ≤ c ∧ c < b + 26
def WordB (b n : Nat) (x : Str) : Prop := WordC b n x.cps.toList
theorem str_len (x : Str) : x.length = x.cps.toList.length := by
  show x.cps.size = _
  simp
theorem str_ext {x y : Str} (h : x.cps.toList = y.cps.toList) : x = y := by
  obtain ⟨a⟩ := x
  obtain ⟨b⟩ := y
  congr 1
  exact Array.ext' h
theorem abc_get {b : Nat} {k : Nat} (h : k < 26) : (abc b).cps.toList[k]? = some (b + k) := by
  unfold abc
  simp [h]
theorem abc_len {b : Nat} : (abc b).length = 26 := by
  show ((List.range 26).map (b + ·)).toArray.size = 26
  simp
theorem abc_cps_len {b : Nat} : (abc b).cps.toList.length = 26 := by
  rw [← str_len]; exact abc_len
theorem idx97 : ∀ k : _root_.Fin 26, Txt.index0 (abc 97) ⟨#[97 + k.val]⟩ = some k.val := by decide +kernel
theorem idx65 : ∀ k : _root_.Fin 26, Txt.index0 (abc 65) ⟨#[65 + k.val]⟩ = some k.val := by decide +kernel
theorem idx_abc {b k : Nat} (hb : b = 97 ∨ b = 65) (h : k < 26) : Txt.index0 (abc b) ⟨#[b + k]⟩ = some k := by
  rcases hb with rfl | rfl
  · exact idx97 ⟨k, h⟩
  · exact idx65 ⟨k, h⟩
theorem cat_cps (x y : Str) : (x ++ y).cps.toList = x.cps.toList ++ y.cps.toList := by
  show (x.cps ++ y.cps).toList = _
  simp
theorem cat_len (x y : Str) : (x ++ y).length = x.length + y.length := by
  rw [str_len, str_len, str_len, cat_cps, List.length_append]
/-- the first sign goes round -/
def rot (b : Nat) (l : List Nat) (j : Nat) : List Nat := match l with
  | [] => []
  | c :: r => (b + (c - b + j) % 26) :: r
theorem rot_word {b n j : Nat} {l : List Nat} (h : WordC b n l) : WordC b n (rot b l j) := by
  cases l with
  | nil => exact h
  | cons c r =>
    obtain ⟨h1, h2, h3⟩ := h
    refine ⟨h1, h2, fun d hd => ?_⟩
    rcases List.mem_cons.mp hd with e | hd
    · have := Nat.mod_lt (c - b + j) (show 0 < 26 by decide)
      omega
    · exact h3 d (List.mem_cons_of_mem _ hd)
theorem rot_zero {b n : Nat} {l : List Nat} (h : WordC b n l) : rot b l 0 = l := by
  cases l with
  | nil => rfl
  | cons c r =>
    have h3 := h.2.2 c List.mem_cons_self
    show (b + (c - b + 0) % 26) :: r = c :: r
    rw [Nat.mod_eq_of_lt (by omega), show b + (c - b + 0) = c by omega]
theorem rot_inj {b n i j : Nat} {l : List Nat} (h : WordC b n l) (hi : i < 26) (hj : j < 26) (e : rot b l i = rot b l j) : i = j := by
  cases l with
  | nil => exact absurd h.1 (by decide)
  | cons c r =>
    have h3 := h.2.2 c List.mem_cons_self
    have e1 : b + (c - b + i) % 26 = b + (c - b + j) % 26 := (List.cons.inj e).1
    omega
theorem nodup_le {α : Type} [DecidableEq α] : ∀ {l m : List α}, l.Nodup → (∀ x ∈ l, x ∈ m) → l.length ≤ m.length
  | [], _, _, _ => Nat.zero_le _
  | a :: l, m, nd, h => by
    have hm : a ∈ m := h a List.mem_cons_self
    have nd' := List.nodup_cons.mp nd
    have := nodup_le (l := l) (m := m.erase a) nd'.2 fun x hx => by
      have hxa : x ≠ a := fun e => nd'.1 (e ▸ hx)
      exact (List.mem_erase_of_ne hxa).mpr (h x (List.mem_cons_of_mem _ hx))
    rw [List.length_erase_of_mem hm] at this
    have pos : 0 < m.length := List.length_pos_of_mem hm
    rw [List.length_cons]
    omega
/-- a word that goes round as often as there are words more than one meets a place that is free -/
theorem rot_free {b n t : Nat} {l : List Nat} {xs : List Str} (h : WordC b n l) (ht : t ≤ 26) (hx : xs.length < t) (all : ∀ i, i < t → (⟨(rot b l i).toArray⟩ : Str) ∈ xs) : False := by
  have nd : ((List.range t).map fun i => (⟨(rot b l i).toArray⟩ : Str)).Nodup := by
    refine List.pairwise_map.mpr ?_
    refine (List.pairwise_lt_range (n := t)).imp_of_mem ?_
    intro i j hi hj hij e
    have e1 : rot b l i = rot b l j := by
      have e2 : (rot b l i).toArray = (rot b l j).toArray := Str.mk.inj e
      simpa using e2
    have := rot_inj h (by have := List.mem_range.mp hi; omega) (by have := List.mem_range.mp hj; omega) e1
    omega
  have := nodup_le nd (m := xs) fun x hx => by
    obtain ⟨i, hi, rfl⟩ := List.mem_map.mp hx
    exact all i (List.mem_range.mp hi)
  rw [List.length_map, List.length_range] at this
  omega
/-! ### lists of texts in the heap -/
theorem flat_strs (xs : List Str) : (xs.map V.str).all flatV = true := by
  rw [List.all_map]
  exact List.all_eq_true.mpr fun _ _ => rfl
theorem inV_strs (x : Str) (xs : List Str) : inV (.str x) (xs.map V.str) = decide (x ∈ xs) := by
  unfold inV
  rw [List.any_map]
  induction xs with
  | nil => rfl
  | cons y r ih =>
    rw [List.any_cons, ih]
    have e : (eqV · (.str x)) (V.str y) = decide (y = x) := by
      show (y == x) = decide (y = x)
      exact Bool.beq_eq_decide_eq y x
    show ((eqV · (.str x)) (V.str y) || _) = _
    rw [e, ← Bool.decide_or]
    refine decide_eq_decide.mpr ?_
    rw [List.mem_cons]
    exact or_congr_left eq_comm
theorem dpAll_strs {K : PySem.W.Frag} {H : Hp} : ∀ xs : List Str, DpAll K H (xs.map V.str) (xs.map PyData.str)
  | [] => .nil
  | x :: xs => .cons (.str x) (dpAll_strs xs)
/-- all signs of a text are signs -/
def Signs (x : Str) : Prop := PyData.strOk x = true
theorem signs_of {x : Str} (h : ∀ c ∈ x.cps.toList, c < 1114112) : Signs x := by
  unfold Signs PyData.strOk
  rw [← Array.all_toList]
  exact List.all_eq_true.mpr fun c hc => decide_eq_true (h c hc)
theorem WordB.signs {b n : Nat} {x : Str} (h : WordB b n x) (hb : b ≤ 97) : Signs x := signs_of fun c hc => by
  have := h.2.2 c hc
  omega
theorem canLay_strs : ∀ {xs : List Str}, (∀ x ∈ xs, Signs x) → PyData.canLayAll0 (xs.map PyData.str) = true
  | [], _ => by simp [PyData.canLayAll0]
  | x :: xs, h => by
    have h1 : PyData.strOk x = true := h x List.mem_cons_self
    have h2 := canLay_strs (xs := xs) fun y hy => h y (List.mem_cons_of_mem _ hy)
    simp only [List.map_cons, PyData.canLayAll0, PyData.canLay0, h1, h2, Bool.and_self]
theorem depth_strs : ∀ xs : List Str, PyData.depthAll (xs.map PyData.str) ≤ 1
  | [] => by simp [PyData.depthAll]
  | x :: xs => by
    have := depth_strs xs
    simp only [List.map_cons, PyData.depthAll, PyData.depth]
    omega
theorem shaped_strs {xs : List Str} (h : ∀ x ∈ xs, Signs x) : SeqAt.shaped (.list (xs.map PyData.str)) = true := by
  have h1 := depth_strs xs
  have h2 : PyData.depth (.list (xs.map PyData.str)) ≤ 64 := by
    show PyData.depth (PyData.list (xs.map PyData.str)) ≤ 64
    simp only [PyData.depth]
    omega
  unfold SeqAt.shaped
  rw [decide_eq_true h2, Bool.and_true]
  simp only [PyData.canLay0]
  exact canLay_strs h
theorem shaped_empty : SeqAt.shaped (.list []) = true := by decide +kernel
theorem eqv_nil (xs : List PyData) : PyData.eqv (.list xs) (.list []) = xs.isEmpty := by
  cases xs <;> simp [PyData.eqv, PyData.eqvAll]
theorem cut_to (z : Str) (n : Nat) : (cutS z none (some (n : Int))).cps.toList = z.cps.toList.take n := by
  unfold cutS
  rw [HT.sIx_none, HT.sIx_nat]
  simp only [List.drop_zero, Nat.sub_zero]
  rw [str_len]
  by_cases h : n ≤ z.cps.toList.length
  · rw [Nat.min_eq_left h]
  · rw [Nat.min_eq_right (by omega), List.take_of_length_le (Nat.le_refl _), List.take_of_length_le (show z.cps.toList.length ≤ n by omega)]
theorem cut_from (z : Str) (n : Nat) : (cutS z (some (n : Int)) none).cps.toList = z.cps.toList.drop n := by
  unfold cutS
  rw [HT.sIx_none, HT.sIx_nat]
  show ((z.cps.toList.drop _).take _) = _
  rw [str_len]
  by_cases h : n ≤ z.cps.toList.length
  · rw [Nat.min_eq_left h, List.take_of_length_le (by rw [List.length_drop]; omega)]
  · rw [Nat.min_eq_right (by omega), List.drop_of_length_le (Nat.le_refl _), List.drop_of_length_le (by omega), List.take_nil]
theorem cut_one (z : Str) : (cutS z (some 1) none).cps.toList = z.cps.toList.drop 1 := cut_from z 1
theorem word_head {b n : Nat} {l : List Nat} (h : WordC b n l) : ∃ k r, k < 26 ∧ l = (b + k) :: r := by
  cases l with
  | nil => exact absurd h.1 (by decide)
  | cons c r =>
    have h3 := h.2.2 c List.mem_cons_self
    exact ⟨c - b, r, by omega, by rw [show b + (c - b) = c by omega]⟩
end Kb
end
section
namespace PySem.HandSPX
open PySem.F Builtin Builtin.ObjectAttr
theorem keyStore : StoreFacts "KeyError" [.type "KeyError", .type "LookupError", .type "Exception", .type "BaseException", .type "object"] "object.__setattr__" "object" where
  mro := by kernel_rfl
  slot := .of (owner := "object") (n := "__setattr__") (by rw [typeLookup_type, builtinLookup_eq_fast] <;> kernel_rfl) (by decide +kernel) (by decide +kernel) (by decide +kernel) (.inl (by decide +kernel)) (by rw [isSubtype_type] <;> kernel_rfl)
  entry := entry_object_sa
  kind := by decide +kernel
  split := by decide +kernel
  hasOwner := by decide +kernel
  args := fun _ _ _ => by unfold argsOk <;> kernel_rfl
  passes := fun _ => by kernel_rfl
/-! ### making an exception of an own class: by what its __new__ asks of the class's line alone -/
/-- what the maker newId, which B brings, asks of the classes bm behind an own class -/
structure Line (B newId : String) (bm : List Value) : Prop where
  f : ∃ initId l, ExcBaseFacts B newId initId l
  b : bm.contains (.type B) = true
  a : bm.contains (.type "AttributeError") = false
  n : bm.contains (.type "NameError") = false
section
variable {prog : Program} {w : World} {A : Around} {E : Value → Shared → Prop} {R : Result → Shared → Prop} {M : Model} {h : Heap} {g : Array GenState} {d : Drawn} {t : Nat} {os : OsState}
variable {nm qn : Str} {C N : Addr} {bs bm : List Value} {hdct : Bool} {sn : List Str} {sub : List Value} {ab : Bool} {col : Option Bool} {dd : Option Addr} {k0 k1 k2 k3 k5 : Option Value} {B newId : String}
theorem Line.check (L : Line B newId bm) {rest : List Value} {Q : Unit → Shared → Prop} (hC : h.get? C = some (excClassObj nm qn C N bs bm hdct sn sub ab col dd k0 k1 k2 k3 k5 newId)) (hq : Q () ⟨h, g, d, t, os⟩) :
    wpAny M A (checkBuiltinCall newId ⟨.ref C :: rest, []⟩) Q E ⟨h, g, d, t, os⟩ := by
  obtain ⟨i, l, G⟩ := L.f
  have in1 : (Value.ref C :: bm).contains (.type B) = true := by rw [List.contains_cons, L.b, Bool.or_true]
  have far := G.noStar
  simp only [checkBuiltinCall, G.newKind, G.newSplit, G.newRow]
  repeat (first
    | refine wpAny_loadPart_at hC ?_
    | (refine wpAny_isSubtype_exc hC ?_; rw [in1])
    | refine wpAny_staticBase_exc hC ?_
    | refine wpAny_madeBy_exc hC ?_
    | simp only [bne_self_eq_false, Bool.false_eq_true, if_false]
    | wp_step)
  exact hq
theorem Line.new (L : Line B newId bm) {rest : List Value} (hC : h.get? C = some (excClassObj nm qn C N bs bm hdct sn sub ab col dd k0 k1 k2 k3 k5 newId)) (hrest : rest.length ≤ sizeLine)
    (hq : R (.ok (.ret (.ref (h.objs.size + 1)))) ⟨(h.push (W.kdv_tup rest)).push (excO C h.objs.size), g, d, t, os⟩) : codeAny (model prog w) A (.builtin newId ⟨.ref C :: rest, []⟩) R ⟨h, g, d, t, os⟩ := by
  obtain ⟨i, l, G⟩ := L.f
  have far := G.ends
  have in1 : (Value.ref C :: bm).contains (.type B) = true := by rw [List.contains_cons, L.b, Bool.or_true]
  have in2 : (Value.ref C :: bm).contains (.type "AttributeError") = false := by rw [List.contains_cons, L.a] <;> rfl
  have in3 : (Value.ref C :: bm).contains (.type "NameError") = false := by rw [List.contains_cons, L.n] <;> rfl
  refine codeAny_builtinAt G.entry ?_
  unfold Builtin.«BaseException.__new__»
  refine wpAt_bind ?_
  show wpAt _ _ _ (stack >>= _) _ _ _
  refine wpAt_bind (wpAt_stack fun p below => wpAt_of_wpAny ?_)
  wp_walk
  refine wpAt_of_wpAny ?_
  rw [G.owner]
  repeat (first
    | with_reducible refine wpAny_madeHere_exc G.canon hC ?_
    | with_reducible refine wpAny_loadPart_at hC ?_
    | (with_reducible refine wpAny_isSubtype_exc hC ?_; first | rw [in1] | rw [in2] | rw [in3])
    | wp_step)
  show R _ _
  rw [Heap.size_push]
  exact hq
theorem Line.made (L : Line B newId bm) {rest : List Value} {fI : Addr} {Q : Fin → Shared → Prop} (hC : h.get? C = some (excClassObj nm qn C N bs bm hdct sn sub ab col dd k0 k1 k2 k3 k5 newId))
    (hi : W.Looks (model prog w) h (typeLookup (.ref C) "__init__") (some (.ref fI))) (hb : ∀ self, W.Looks (model prog w) h (bindSpecial (.ref fI) self) (.ref fI, [self])) (hrest : rest.length ≤ sizeLine)
    (hq : codeAny (model prog w) A (.call (.ref fI) ⟨.ref (h.objs.size + 1) :: rest, []⟩) (fun r s' => match r with | .ok (.ret v) => v = .none ∧ Q (.done (.ret (.ref (h.objs.size + 1)))) s' | .ok _ => False | .error e => E e s')
      ⟨(h.push (W.kdv_tup rest)).push (excO C h.objs.size), g, d, t, os⟩) : wpAny (model prog w) A (Builtin.«type.__call__» ⟨.ref C :: rest, []⟩) Q E ⟨h, g, d, t, os⟩ := by
  obtain ⟨i, l, G⟩ := id L.f
  repeat (first
    | with_reducible refine wpAny_loadPart_at hC ?_
    | with_reducible refine wpAny_madeBy_exc hC ?_
    | wp_step)
  refine codeAny_call_builtin_code (Code.quiet_builtin _ G.quiet) (L.check hC ?_)
  refine L.new hC hrest ?_
  show wpAny _ _ _ _ _ _
  have kp : ∀ b o, h.get? b = some o → ((h.push (W.kdv_tup rest)).push (excO C h.objs.size)).get? b = some o := fun b o e => Heap.get?_push_of_some _ (Heap.get?_push_of_some _ e)
  have hC1 := kp _ _ hC
  have gt : ((h.push (W.kdv_tup rest)).push (excO C h.objs.size)).get? (h.objs.size + 1) = some (excO C h.objs.size) := by heap_get
  have inC : (Value.ref C :: bm).contains (.ref C) = true := by simp
  have i1 := hi.keeps kp
  have b1 := (hb (.ref (h.objs.size + 1))).keeps kp
  unfold isInstance
  repeat (first
    | with_reducible refine wpAny_loadPart_at gt ?_
    | (with_reducible refine wpAny_isSubtype_exc hC1 ?_; rw [inC])
    | wp_step)
  show wpAny _ _ (typeLookup (.ref C) _) _ _ _
  refine i1.at (wpAny_holding (wpAny_bind (b1.at (wpAny_bind (wpAny_call (codeAny_mono hq fun r s' z => ?_))))))
  rcases r with e | (v | _ | _ | _) <;> first | exact z | exact z.elim | skip
  obtain ⟨rfl, z⟩ := z
  first
    | exact wpAny_pure (wpAny_pure z)
    | (wp_walk; exact z)
theorem Line.call (L : Line B newId bm) {rest : List Value} {fI : Addr} (hC : h.get? C = some (excClassObj nm qn C N bs bm hdct sn sub ab col dd k0 k1 k2 k3 k5 newId))
    (hi : W.Looks (model prog w) h (typeLookup (.ref C) "__init__") (some (.ref fI))) (hb : ∀ self, W.Looks (model prog w) h (bindSpecial (.ref fI) self) (.ref fI, [self])) (hrest : rest.length ≤ sizeLine)
    (hq : codeAny (model prog w) (A.under (.builtin "type.__call__" ⟨.ref C :: rest, []⟩)) (.call (.ref fI) ⟨.ref (h.objs.size + 1) :: rest, []⟩) (W.InitBack (h.objs.size + 1) R) ⟨(h.push (W.kdv_tup rest)).push (excO C h.objs.size), g, d, t, os⟩) :
    codeAny (model prog w) A (.call (.ref C) ⟨rest, []⟩) R ⟨h, g, d, t, os⟩ := by
  have f1 := tc_lookup
  have f2 := tc_bind (.ref C)
  have ty : (⟨h, g, d, t, os⟩ : Shared).TypeIs (.ref C) "type" := ⟨_, hC, rfl⟩
  refine codeAny_of_tree ?_
  show wpAny _ _ (callAny (.ref C) _) _ _ _
  repeat (any_goals (first | assumption | with_reducible refine wpAny_loadPart_at hC ?_ | wp_step))
  refine ⟨rfl, codeAny_call_builtin_at (Code.quiet_builtin _ (by decide +kernel)) entry_typeCall (wpAny_check_type_call_sub hC (L.made hC hi hb hrest ?_))⟩
  refine codeAny_mono hq fun r s' z => ?_
  rcases r with e | (v | _ | _ | _) <;> exact z
end
theorem line_key : Line "LookupError" "LookupError.__new__" [.type "KeyError", .type "LookupError", .type "Exception", .type "BaseException", .type "object"] := ⟨⟨_, _, excBase_LookupError⟩, by decide +kernel, by decide +kernel, by decide +kernel⟩
theorem line_lookup : Line "LookupError" "LookupError.__new__" [.type "LookupError", .type "Exception", .type "BaseException", .type "object"] := ⟨⟨_, _, excBase_LookupError⟩, by decide +kernel, by decide +kernel, by decide +kernel⟩
theorem line_index : Line "IndexError" "IndexError.__new__" [.type "IndexError", .type "LookupError", .type "Exception", .type "BaseException", .type "object"] := ⟨⟨_, _, excBase_IndexError⟩, by decide +kernel, by decide +kernel, by decide +kernel⟩
theorem line_over : Line "OverflowError" "OverflowError.__new__" [.type "OverflowError", .type "ArithmeticError", .type "Exception", .type "BaseException", .type "object"] := ⟨⟨_, _, excBase_OverflowError⟩, by decide +kernel, by decide +kernel, by decide +kernel⟩
theorem line_run : Line "RuntimeError" "RuntimeError.__new__" [.type "RuntimeError", .type "Exception", .type "BaseException", .type "object"] := ⟨⟨_, _, excBase_RuntimeError⟩, by decide +kernel, by decide +kernel, by decide +kernel⟩
end PySem.HandSPX
end
section
namespace PySem.Kx
open PySem.W PySem.Calls PyProof.Rows PySem.HandSPX Builtin Builtin.ObjectAttr
/-! ### class X(B): def __init__(self, f): self.f = f -/
def iA (f : Str) (p1 p2 : Pos) : Arguments := { posonlyargs := [], args := [{ arg := "self", annotation := none, pos := p1 }, { arg := f, annotation := none, pos := p2 }], vararg := none, kwonlyargs := [], kw_defaults := [], kwarg := none, defaults := [] }
def iB (f : Str) (q1 q2 q3 q4 : Pos) : List Stmt := [.Assign [.Attribute (.Name "self" q1) f q2] (.Name f q3) q4]
def iS (f : Str) : Scope := { kind := .function, names := [(PySem.Str.ofString "self", .local), (f, .local)], isGenerator := false, isCoroutine := false }
/-- what is asked of the field's name -/
structure FName (f : Str) : Prop where
  fs : (f == ("self" : Str)) = false
  fd : (f == ("__debug__" : Str)) = false
  bd : ∀ (qual : Str) (doc pm : Value) (an : Option Addr) (cdv ct : Value) (p1 p2 q1 q2 q3 q4 : Pos) (u v : Value),
    bindArgs (fnOf "__init__" qual (iA f p1 p2) (iB f q1 q2 q3 q4) (iS f) .none .none doc pm an cdv ct) ⟨[u, v], []⟩ = pure [(PySem.Str.ofString "self", u), (f, v)]
theorem fName : FName "name" := ⟨by decide, by decide, fun _ _ _ _ _ _ _ _ _ _ _ _ _ _ => rfl⟩
theorem fGroup : FName "group" := ⟨by decide, by decide, fun _ _ _ _ _ _ _ _ _ _ _ _ _ _ => rfl⟩
theorem fValue : FName "value" := ⟨by decide, by decide, fun _ _ _ _ _ _ _ _ _ _ _ _ _ _ => rfl⟩
theorem fLimit : FName "limit" := ⟨by decide, by decide, fun _ _ _ _ _ _ _ _ _ _ _ _ _ _ => rfl⟩
theorem fCycle : FName "cycle" := ⟨by decide, by decide, fun _ _ _ _ _ _ _ _ _ _ _ _ _ _ => rfl⟩
/-- what the written part says of such a class, at C, and of its __init__, at fI -/
structure OwnX (K : Frag) (mg : Str → Option Value) (x f qual : Str) (B B2 newId : String) (bmB : List Value) (C fI : Addr) : Prop where
  gC : mg x = some (.ref C)
  line : Line B newId bmB
  sto : StoreFacts B2 bmB "object.__setattr__" "object"
  cls : ∃ nm q N bs sn sub ab col dd k0 k1 k2 k3 k5, K.lookup C = some (excClassObj nm q C N bs bmB true sn sub ab col dd k0 k1 k2 k3 k5 newId)
  sa : findIn K (.ref C) "__setattr__" = some (some (.builtin "object.__setattr__"))
  noN : findIn K (.ref C) f = some none
  tk : takerIn K C f = some none
  iC : findIn K (.ref C) "__init__" = some (some (.ref fI))
  tI : typeIn K (.ref fI) = some (.type "function")
  kC : keepIn K (.ref C) = true
  tyC : typeIn K (.ref C) = some (.type "type")
  ec : L2.ExcC K C
  fn : ∃ (oc : Value) (od : Option Addr) (doc pm : Value) (an : Option Addr) (cdv ct : Value) (osl : Array (Option Value)) (p1 p2 q1 q2 q3 q4 : Pos),
    K.lookup fI = some ⟨oc, od, .func (fnOf "__init__" qual (iA f p1 p2) (iB f q1 q2 q3 q4) (iS f) .none .none doc pm an cdv ct), osl⟩ ∧ codeIn K cdv qual = true
  tail : excTail bmB bmB = true
  nm : FName f
theorem size1 (v : Value) : [v].length ≤ sizeLine := by rw [sizeLine_eq]; exact (by decide : 1 ≤ 16777216)
/-- what __init__ leaves of a fresh exception at x -/
structure Left (f : Str) (h h' : Heap) (x C dx t1 : Addr) (v : Value) : Prop where
  keep : ∀ b o, b ≠ x → h.get? b = some o → h'.get? b = some o
  obj : h'.get? x = some { cls := .ref C, dict := some dx, data := .fields #[.ref t1, .none, .none, .none, .bool false, .none] }
  big : h.objs.size ≤ dx
  ne : dx ≠ x
  ns : h'.Ns1 dx (fun y => if y = f then some v else none)
section
variable {prog : Program} {w : World} {A : Around} {E : Value → Shared → Prop} {R : Result → Shared → Prop} {s : Shared} {K : Frag} {mg : Str → Option Value} {x f qual : Str} {B B2 newId : String} {bmB : List Value} {C fI : Addr}
theorem OwnX.over (T : OwnX K mg x f qual B B2 newId bmB C fI) : excOver K C bmB = true ∧ ∃ cd, clsIn K C = some cd ∧ cd.hasDict = true := by
  obtain ⟨nm, q, N, bs, sn, sub, ab, col, dd, k0, k1, k2, k3, k5, hC⟩ := T.cls
  have hcl : clsIn K C = some { name := nm, bases := bs, mro := .ref C :: bmB, ns := N, qualname := q, hasDict := true, slotNames := sn, subclasses := sub, abstract := ab, collection := col, hasDel := false } := by unfold clsIn; rw [hC] <;> rfl
  refine ⟨?_, _, hcl, rfl⟩
  unfold excOver
  rw [hcl]
  show (C == C && excTail bmB bmB) = true
  rw [T.tail, beq_self_eq_true, Bool.and_self]
/-- self.f = v, the first store -/
theorem OwnX.store (T : OwnX K mg x f qual B B2 newId bmB C fI) {a t0 : Addr} {tk : Tok} {v : Value} (X : K.In s.heap) (hx : s.heap.get? a = some (excO C t0))
    (hq : ∀ h' tk' dx, (∀ b o, b ≠ a → s.heap.get? b = some o → h'.get? b = some o) → s.heap.objs.size ≤ dx → dx ≠ a → h'.get? a = some { cls := .ref C, dict := some dx, data := .fields #[.ref t0, .none, .none, .none, .bool false, .none] } →
      h'.Ns1 dx (fun y => if y = f then some v else none) → R (.ok (.ret .none)) { s with heap := h', toks := tk' }) :
    codeAny (model prog w) A (.call (.builtin "object.__setattr__") ⟨[.ref a, .str f tk, v], []⟩) R s := by
  obtain ⟨ho, cd, hcd, hd⟩ := T.over
  obtain ⟨hp, g, dr, tk0, os⟩ := s
  have far : a ≠ hp.objs.size := Nat.ne_of_lt (Heap.lt_size hx)
  refine osa_openX (od := none) (ox := excO C t0) T.sto X ⟨hx, rfl, rfl, trivial⟩ ho T.tk fun b => ?_
  refine wpAny_bind (wpAny_pure (wpAny_bind (instanceDict_exc (t := t0) (c2 := .none) hx (looks_clsIn X hcd) hd ?_)))
  show wpAny _ _ (storeInDict hp.objs.size (.str f tk) f v) _ _ _
  refine store_in_new ⟨_, #[], _, (Heap.get?_update_ne _ _ _ _ far.symm).trans (Heap.get?_push_at rfl rfl), rfl, fun e he => absurd he (by simp), fun _ => rfl⟩ fun h' tk' hn hs => ?_
  have hx1 : (hp.push (dictOf [] 0)).get? a = some (excO C t0) := Heap.get?_push_of_some _ hx
  exact hq h' tk' hp.objs.size (fun b o hb q => (hs.2 b (Nat.ne_of_lt (Heap.lt_size q))).trans ((Heap.get?_update_ne _ _ _ _ hb).trans (Heap.get?_push_of_some _ q))) (Nat.le_refl _) far.symm ((hs.2 a far).trans (Heap.get?_update_self _ hx1 rfl)) hn
theorem ld {M : Model} {s : Shared} {name : Str} {scope : Scope} {L a : Addr} {cd : Value} {m : Str → Option Value} {y : Str} {pos : Pos} {v : Value} {Q : Value → Shared → Prop} {A : Around} {E : Value → Shared → Prop} (hn : s.heap.Ns L m) (hv : m y = some v)
    (hk : scope.kind = .function) (hl : scope.names.lookup y = some .local) (hd : (y == ("__debug__" : Str)) = false) (h : Q v s) : wpAny M A (eval (.Name y pos) (envOfC name scope L a cd)) Q E s :=
  wpAny_Name (wpAny_loadName_local hk (show (envOfC name scope L a cd).kindOf y = some .local from hl) hn hv h) hd
theorem OwnX.init (T : OwnX K mg x f qual B B2 newId bmB C fI) {a t0 : Addr} {v : Value} (X : K.In s.heap) (hlim : s.heap.NoLimit) (hx : s.heap.get? a = some (excO C t0)) (hroom : A.depth < recursionLimit)
    (hq : ∀ h' tk dx, Left f s.heap h' a C dx t0 v → R (.ok (.ret .none)) { s with heap := h', toks := tk }) : codeAny (model prog w) A (.call (.ref fI) ⟨[.ref a, v], []⟩) R s := by
  obtain ⟨oc, od, doc, pm, an, cdv, ct, osl, p1, p2, q1, q2, q3, q4, ho, hcd⟩ := T.fn
  have lf : (iS f).names.lookup f = some NameKind.local := by
    show List.lookup f [(PySem.Str.ofString "self", NameKind.local), (f, NameKind.local)] = _
    rw [List.lookup_cons, T.nm.fs, List.lookup_cons, beq_self_eq_true]
  have ls : (iS f).names.lookup (PySem.Str.ofString "self") = some NameKind.local := rfl
  refine Att.call_fn (binds := [("self", .ref a), (f, v)]) X hlim ho hcd hroom (BindsTo.of_eq (T.nm.bd qual doc pm an cdv ct p1 p2 q1 q2 q3 q4 (.ref a) v)) ?_ (fun s₁ IC => ?_) rfl rfl rfl
  · simp only [List.all_cons, List.all_nil, lf, ls]
    rfl
  obtain ⟨h₁, tk₁, rfl⟩ := IC.toInCall.same
  have k : ∀ b o, s.heap.get? b = some o → h₁.get? b = some o := IC.toInCall.keep
  have hn := IC.toInCall.ns
  have X₁ : K.In h₁ := X.keeps k
  have hx₁ := k _ _ hx
  have mf : (bindL (envOfC qual (iS f) s.heap.objs.size fI cdv).kindOf [("self", .ref a), (f, v)] fun _ => none) f = some v := by
    have kf : (envOfC qual (iS f) s.heap.objs.size fI cdv).kindOf f = some .local := lf
    simp [bindL, kf]
  have ms : (bindL (envOfC qual (iS f) s.heap.objs.size fI cdv).kindOf [("self", .ref a), (f, v)] fun _ => none) "self" = some (.ref a) := by
    have kf : (envOfC qual (iS f) s.heap.objs.size fI cdv).kindOf f = some .local := lf
    have ks : (envOfC qual (iS f) s.heap.objs.size fI cdv).kindOf "self" = some .local := ls
    have ne : ("self" : Str) ≠ f := fun e => by
      have := T.nm.fs
      rw [← e] at this
      exact absurd this (by decide)
    simp [bindL, kf, ks, ne]
  show wpAny _ _ (execs _ _) _ _ _
  refine wpAny_execs_cons (plainObj_wpAny_Assign_Attribute ?_)
  refine ld (v := v) hn mf rfl lf T.nm.fd (ld (v := .ref a) hn ms rfl ls (by decide) ?_)
  refine set_plain X₁ (ox := excO C t0) (od := none) ⟨hx₁, rfl, rfl, trivial⟩ T.sa ?_
  refine T.store (s := { s with heap := h₁, toks := _ }) X₁ hx₁ (fun h₃ tk₃ dx k₃ dn dne hx₃ hn₃ => ?_)
  show wpAny _ _ (execs _ _) _ _ _
  have z : s.heap.objs.size < h₁.objs.size := hn.lt
  exact wpAny_execs_nil (hq h₃ tk₃ dx ⟨fun b o hb e => k₃ b o hb (k b o e), hx₃, Nat.le_of_lt (Nat.lt_of_lt_of_le z dn), dne, hn₃⟩)
/-- a made exception -/
structure Made (f : Str) (h h' : Heap) (e C d : Addr) (v : Value) : Prop where
  keep : ∀ b o, h.get? b = some o → h'.get? b = some o
  new : h.objs.size ≤ e
  obj : ∃ t1, h'.get? e = some ({ cls := .ref C, dict := some d, data := .fields #[.ref t1, .none, .none, .none, .bool false, .none] } : Obj)
  big : h.objs.size ≤ d
  ne : d ≠ e
  ns : h'.Ns1 d (fun y => if y = f then some v else none)
theorem OwnX.made (T : OwnX K mg x f qual B B2 newId bmB C fI) {v : Value} (X : K.In s.heap) (hlim : s.heap.NoLimit) (hroom : A.depth + 1 < recursionLimit)
    (hq : ∀ h' tk e d, Made f s.heap h' e C d v → R (.ok (.ret (.ref e))) { s with heap := h', toks := tk }) : codeAny (model prog w) A (.call (.ref C) ⟨[v], []⟩) R s := by
  obtain ⟨nm, q, N, bs, sn, sub, ab, col, dd, k0, k1, k2, k3, k5, hC⟩ := T.cls
  obtain ⟨hp, g, dr, tk, os⟩ := s
  have k : ∀ b o, hp.get? b = some o → ((hp.push (kdv_tup [v])).push (excO C hp.objs.size)).get? b = some o := fun b o e => Heap.get?_push_of_some _ (Heap.get?_push_of_some _ e)
  have hget : ((hp.push (kdv_tup [v])).push (excO C hp.objs.size)).get? (hp.objs.size + 1) = some (excO C hp.objs.size) := by heap_get
  refine T.line.call (X _ _ hC) (looks_findIn X T.iC) (fun self => bind_fn X self T.tI) (size1 v) ?_
  refine T.init (s := ⟨(hp.push (kdv_tup [v])).push (excO C hp.objs.size), g, dr, tk, os⟩) (X.keeps k) (hlim.keeps k) hget ?_ fun h' tk' dx L => ?_
  · show A.depth + 1 < recursionLimit
    exact hroom
  · have z : hp.objs.size + 1 + 1 ≤ dx := by
      have q := L.big
      rw [Heap.size_push, Heap.size_push] at q
      exact q
    exact ⟨rfl, hq h' tk' (hp.objs.size + 1) dx ⟨fun b o e => L.keep b o (Nat.ne_of_lt (Nat.lt_succ_of_lt (Heap.lt_size e))) (k b o e), Nat.le_succ _, ⟨_, L.obj⟩, (show hp.objs.size ≤ dx by omega), L.ne, L.ns⟩⟩
end
end PySem.Kx
end
section
namespace PySem.W
open PySem PySem.Spec PySem.Calls PyProof.Rows
section
variable {prog : Program} {w : World} {A : Around} {E : Value → Shared → Prop} {s : Shared} {K : Frag} {x D : Addr} {ox : Obj} {od : Option Obj}
theorem dataOf {C : Addr} {n : Str} {u v : Value} (h1 : (clsIn K C).isSome = true) (h2 : findIn K (.ref C) n = some (some u)) (h3 : specialIn K u "__get__" = some (some v)) (h4 : takesIn K u = some true) : findObj K C od n = some (.bind v u) := by
  obtain ⟨cd, e⟩ := Option.isSome_iff_exists.mp h1
  unfold findObj
  rw [e, Option.bind_some, h2, Option.bind_some]
  simp [h3, h4]
/-- an exception's own class, asked by its name -/
theorem clsOfExc {Q : Option Value → Shared → Prop} (c : L2.ExcC K D) (X : K.In s.heap) (I : InstAt s.heap x ox D od) (h : Q (some (.ref D)) { s with toks := s.toks + 1 }) : wpAny (model prog w) A (getAttr? (.ref x) "__class__") Q E s := by
  have fo : findObj K D od "__class__" = some (.bind (.builtin "getset_descriptor.__get__") (.builtin "object.__class__")) := dataOf (by obtain ⟨cd, e, _⟩ := any_some c.hd; rw [e] <;> rfl) c.ha c.hn c.ht
  obtain ⟨hp, g, d, t, os⟩ := s
  have a0 := I.type (M := model prog w)
  have a1 := looks_findIn (M := model prog w) X c.hg
  have a2 := looks_findIn (M := model prog w) X c.hk
  have a3 := looks_find (M := model prog w) X I fo
  have isE : Looks (model prog w) hp (isInstance (.ref x) (.type "BaseException")) true := a0.andThen (looks_subIn X c.hs)
  have n2 : (Value.builtin "BaseException.__getattribute__" == Value.builtin "object.__getattribute__") = false := by decide +kernel
  have n1 : (onTheHeap (Value.ref D) && Value.builtin "BaseException.__getattribute__" == Value.builtin "object.__getattribute__") = false := by rw [n2] <;> rfl
  unfold getAttr? getAttrBy? getAttrBy
  refine wpAny_bind (wpAny_mkText (wpAny_bind (wpAny_attempt (wpAny_holding (wpAny_bind (a0.at (wpAny_bind (a1.at ?_))))))))
  show wpAny _ _ (if (onTheHeap (Value.ref D) && Value.builtin "BaseException.__getattribute__" == Value.builtin "object.__getattribute__") = true then _ else _) _ _ _
  rw [n1, if_neg Bool.false_ne_true]
  unfold getAttrByItsOwn hookBefore
  refine wpAny_bind ?_
  rw [if_pos (show onTheHeap (Value.ref D) = true from rfl)]
  refine a2.at (wpAny_bind (wpAny_attempt (wpAny_holding ?_)))
  unfold callGetattribute
  rw [show (false && onTheHeap (Value.builtin "BaseException.__getattribute__")) = false from rfl, if_neg Bool.false_ne_true]
  unfold boundAndCalled
  rw [PySem.F.excAttr_ValueError.ga.bind (.ref x)]
  refine wpAny_bind (wpAny_pure ?_)
  show wpAny _ _ (call (.builtin "BaseException.__getattribute__") [.ref x, .str "__class__" t]) _ _ _
  refine wpAny_call (codeAny_call_builtin PySem.F.excAttr_ValueError.ga.plain PySem.F.entry_bexc_ga (@check_slot (model prog w) _ _ ⟨hp, g, d, t + 1, os⟩ "BaseException.__getattribute__" "BaseException" "__getattribute__" (.ref x) [.str "__class__" t] [] _ (by decide +kernel) (by decide +kernel) isE (PySem.F.args_bexc_ga (.ref x) (.str "__class__" t)) ?_))
  unfold Builtin.«object.__getattribute__»
  refine wpAny_bind (wpAny_of_eq (a := ((Value.ref x : Value), [Value.str "__class__" t])) (by first | rfl | (simp only [slotArgs] <;> rfl)) (wpAny_bind (wpAny_pure (wpAny_bind (a0.at (wpAny_bind (a3.at ?_)))))))
  show wpAny _ _ (holding [Value.builtin "object.__class__"] (call (.builtin "getset_descriptor.__get__") [.builtin "object.__class__", .ref x, .ref D]) >>= ret) _ _ _
  refine wpAny_bind (wpAny_holding (wpAny_call (class_get (s := ⟨hp, g, d, t + 1, os⟩) (ox := ox) (od := od) X I c.hm (wpAny_pure ?_))))
  show wpAny _ _ (handedOut (.ref D)) _ _ _
  rw [handedOut_of (v := .ref D) rfl]
  first
    | exact wpAny_pure (wpAny_pure h)
    | exact wpAny_pure h
    | exact wpAny_pure (wpAny_bind (wpAny_pure (wpAny_pure h)))
theorem kitExc (c : L2.ExcC K D) : KitX K (.ref x) (.ref D) (fun h => InstAt h x ox D od) where
  ty := fun _ _ _ I => I.type
  it := fun _ _ X _ => by
    obtain ⟨cdD, hcD, _⟩ := any_some c.hd
    unfold clsIn at hcD
    split at hcD
    · rename_i c' d' cd' sl' ho
      intro A' Q' E' s' k q
      unfold isType loadHead
      exact wpAny_bind (wpAny_loadPart (k _ _ (X _ _ ho)) (wpAny_pure q))
    · cases hcD
  ne := fun h tp dd its n sl X htp => by
    obtain ⟨cdD, hcD, _⟩ := any_some c.hd
    refine Bool.eq_false_iff.mpr fun q => ?_
    have e : D = tp := Value.ref.inj (beq_iff_eq.mp q)
    subst e
    unfold clsIn at hcD
    split at hcD
    · rename_i c' d' cd' sl' ho
      have z := (X _ _ ho).symm.trans htp
      cases z
    · cases hcD
  ca := fun X I k => clsOfExc c X I k
end
end PySem.W
end
section
namespace L2
open PySem PySem.Spec PyProof.Rows PySem.Kx
theorem relO_one {f : Str} {v : V} {u : Value} (r : RelV v u) (g : Str) : RelO (List.lookup g [(f, v)]) (if g = f then some u else none) := by
  by_cases e : g = f
  · subst e
    rw [if_pos rfl, List.lookup_cons, beq_self_eq_true]
    exact r
  · rw [if_neg e, List.lookup_cons, beq_eq_false_iff_ne.mpr e]
    trivial
section
variable {X : Cx} {x f qual : Str} {B B2 newId : String} {bmB : List Value} {C fI : Addr}
/-- X(e), an own exception with its field, as a value -/
def tOwnX (f : Str) (C : Addr) (ta : TA) : TE := fun σ H Q => ta σ H fun vs H1 => ∃ v, vs = [v] ∧ ∀ a d, H1 a = none → H1 d = none → a ≠ d → Q (.ref a) (upd (upd H1 d (exd d [(f, v)])) a (exo a C (some d)))
theorem pe_ownX {e : Expr} {ta : TA} {p pos : Pos} {k : Nat} (T : OwnX X.K X.mg x f qual B B2 newId bmB C fI) (hr : Room k X.A) (he : PA X [e] ta) (hg : Gl X x := by rfl) (hdb : (x == ("__debug__" : Str)) = false := by decide)
    (hs : starEach [e] X.env = (false, eval e X.env) :: starEach [] X.env := by rfl) (hpl : (backTo pos (starEach [] X.env)).any (·.1) = false := by rfl) : PE X (.Call (.Name x p) [e] [] pos) (tOwnX f C ta) := by
  refine ⟨fun pins s σ H Q I h => ?_⟩
  refine wpAny_Call_Name_kw (ld_glob I hg T.gC ?_ hdb)
  refine PySem.W.callWith_K (h₀ := X.base) I.ok.mod.kin T.kC (thn (he.run pos pins s σ H _ I h) fun us s1 hh => ?_) hs hpl
  obtain ⟨vs, H1, I1, r1, v, rfl, q1⟩ := hh
  cases r1 with
  | cons rv rn =>
    cases rn
    rename_i u
    refine ⟨I1.kIn, ?_⟩
    show wpAny _ _ (call (.ref C) [u]) _ _ _
    have lim := I1.nolimit
    obtain ⟨hp, g, dr, tk, os⟩ := s1
    refine wpAny_call (T.made I1.kIn lim (by have := hr.dp; omega) fun h' tk' a d M => ?_)
    show EP X pins σ Q (.ref a) ⟨h', g, dr, tk', os⟩
    obtain ⟨t1, hoe⟩ := M.obj
    have hns := M.ns
    obtain ⟨G, g1, g2⟩ := restrict h' fun b => decide (b ≠ a)
    have gk : ∀ b, b ≠ a → G.get? b = h'.get? b := fun b hb => g1 b (decide_eq_true hb)
    have ga : G.get? a = none := g2 a (by simp)
    have old : ∀ b o, hp.get? b = some o → G.get? b = some o := fun b o q => (gk b (Nat.ne_of_lt (Nat.lt_of_lt_of_le (Heap.lt_size q) M.new))).trans (M.keep b o q)
    have nd : H1 d = none := I1.hok.fresh M.big
    have na : H1 a = none := I1.hok.fresh M.new
    have J : Inv X pins σ (upd H1 d (exd d [(f, v)])) ⟨G, g, dr, tk', os⟩ := I1.laid (t' := tk') old M.big (exd_ok (hns.at fun o q => (gk d M.ne).trans q) (relO_one rv))
    have J2 : Inv X pins σ (upd (upd H1 d (exd d [(f, v)])) a (exo a C (some d))) ⟨h', g, dr, tk', os⟩ := J.laidN (t' := tk') (h' := h') (a := a) (fun b o q => by
      by_cases hb : b = a
      · have q' : G.get? b = some o := q
        rw [hb, ga] at q'
        cases q'
      · exact (gk b hb).symm.trans q) ga (by rw [upd_ne M.ne.symm]; exact na) (exo_ok hoe)
    exact ⟨.ref a, _, J2, rfl, q1 a d na nd M.ne.symm⟩
/-- an exception of the class D stands at a -/
def IsEx (H : Hp) (a D : Addr) : Prop := H a = some (ExO (.ref D) a) ∨ ∃ (d : Addr) (fs : List (Str × V)), H a = some (exo a D (some d)) ∧ H d = some (exd d fs)
def rIsX (K : PySem.W.Frag) : List V → Hp → VK → Prop := fun xs H Q => ∃ (a D : Addr) (c : V) (cv : Value) (b : Bool), xs = [.ref a, c] ∧ IsEx H a D ∧ ExcC K D ∧ (∀ u, RelV c u → u = cv) ∧ PySem.W.kitOne K (.ref D) cv = some b ∧ Q (.bl b) H
theorem call_isX : CallR X (.builtin "isinstance") (rIsX X.K) := by
  intro pins s σ H xs us Q I r h
  obtain ⟨a, D, c, cv, b, rfl, ie, cc, hcv, e, q⟩ := h
  obtain ⟨u1, u2, rfl, r1, r2⟩ := vals2 r
  cases (show u1 = Value.ref a from r1)
  have ec := hcv _ r2
  subst ec
  rcases ie with ha | ⟨d, fs, ha, hd⟩
  · obtain ⟨⟨oe, vs, ho, hz, hv, _⟩, _⟩ := I.hok a _ ha
    have J : PySem.W.InstAt s.heap a oe D none := by
      obtain ⟨oc, od, oda, osl⟩ := oe
      obtain ⟨h1, h2⟩ := hz
      dsimp only at h1 h2 hv
      subst h1 h2 hv
      exact ⟨ho, rfl, rfl, trivial⟩
    exact PySem.W.kia_one (PySem.W.kitExc cc) I.kIn J e (fun z => nomatch z) fun tk => ⟨.bl b, H, I.kept (t' := tk) fun _ _ z => z, rfl, q⟩
  · obtain ⟨t1, ho⟩ := exo_at I.hok ha
    obtain ⟨mA, hns, _⟩ := exd_at I.hok hd
    obtain ⟨od, hod, _⟩ := lookIn_ns hns
    have J : PySem.W.InstAt s.heap a _ D (some od) := ⟨ho, rfl, rfl, hod⟩
    exact PySem.W.kia_one (PySem.W.kitExc cc) I.kIn J e (fun z => nomatch z) fun tk => ⟨.bl b, H, I.kept (t' := tk) fun _ _ z => z, rfl, q⟩
/-- e.f, the field of such an exception -/
def tFldX (f : Str) (C : Addr) (te : TE) : TE := fun σ H Q => te σ H fun y H1 => ∃ (a d : Addr) (v : V), y = .ref a ∧ H1 a = some (exo a C (some d)) ∧ H1 d = some (exd d [(f, v)]) ∧ Q v H1
theorem pe_fldX {e : Expr} {te : TE} {pos : Pos} (T : OwnX X.K X.mg x f qual B B2 newId bmB C fI) (he : PE X e te) (hb : attributeBase e f X.env (eval e X.env) = eval e X.env := by rfl) : PE X (.Attribute e f pos) (tFldX f C te) := by
  refine ⟨fun pins s σ H Q I h => ?_⟩
  refine attr_of hb (thn (he.run pins s σ H _ I h) fun u s1 hh => ?_)
  obtain ⟨y, H1, I1, rx, a, d, v, rfl, ha, hd, q⟩ := hh
  obtain rfl : u = Value.ref a := rx
  obtain ⟨t1, ho⟩ := exo_at I1.hok ha
  obtain ⟨mA, hns, hr⟩ := exd_at I1.hok hd
  obtain ⟨od, hod, hl⟩ := lookIn_ns hns
  have l : List.lookup f [(f, v)] = some v := by rw [List.lookup_cons, beq_self_eq_true]
  obtain ⟨u, hu, ru⟩ := RelO.some_of (v := v) (o := mA f) (by rw [← l]; exact hr f)
  exact HandSPX.exc_get I1.kIn (PySem.W.InstAt.mk ho rfl rfl hod) T.ec.hg T.ec.hk T.ec.hs (PySem.W.findObj_own T.ec.hd T.noN rfl (by rw [hl, hu])) (handed_of ru) ⟨v, H1, I1.tok _, ru, q⟩
end
end L2
end
section
namespace L2
open PySem PySem.Spec PyProof.Rows PySem.Kx
/-- how an except clause's classes are asked: m cls b, an exception of the class cls is taken (b) -/
def TestG (X : Cx) (t : Expr) (m : Value → Bool → Prop) : Prop := ∀ (a : Addr) (oe : Obj) (pn : List (Addr × Obj)) (σ : St) (H : Hp) (s : Shared) (cls : Value) (b : Bool), Inv (X.suite a ((a, oe) :: pn)) [] σ H s → s.heap.get? a = some oe → oe.cls = cls → m cls b →
  ∀ (Q : Bool → Shared → Prop) (E E2 : Value → Shared → Prop), (∀ h' tk, (∀ b o, s.heap.get? b = some o → h'.get? b = some o) → Q b { s with heap := h', toks := tk }) →
    wpAny (model X.prog X.w) (X.A.mark (some (.ref a))) (eval t X.env) (fun c s₁ => wpAny (model X.prog X.w) (X.A.mark (some (.ref a))) (excMatches (.ref a) c) Q E2 s₁) E s
theorem name_suite {X : Cx} {x : Str} {np : Pos} {c : Value} (hc : Names X x c) {a : Addr} {oe : Obj} {pn : List (Addr × Obj)} {σ : St} {H : Hp} {s : Shared} (S : Inv (X.suite a ((a, oe) :: pn)) [] σ H s) {Q : Value → Shared → Prop} {E : Value → Shared → Prop} (q : Q c s) :
    wpAny (model X.prog X.w) (X.A.mark (some (.ref a))) (eval (.Name x np) X.env) Q E s := by
  obtain ⟨hg, hdbg, hm | ⟨hm, hv, hnn⟩⟩ := hc
  · exact ld_glob (X := X.suite a ((a, oe) :: pn)) S hg hm q hdbg
  · exact ld_blt (X := X.suite a ((a, oe) :: pn)) S hg hm hv q hnn hdbg
theorem tg_name {X : Cx} {x : Str} {np : Pos} {c : Value} (hc : Names X x c) : TestG X (.Name x np) (fun cls b => PySem.W.exmOne X.K cls c = some b) := fun a oe pn σ H s cls b S ha hcl hm Q E E2 hQ => by
  have LT : PySem.W.Looks (model X.prog X.w) s.heap (typeOf (.ref a)) cls := fun A Q E s k q => wpAny_typeOf_ref (k _ _ ha) (by rw [hcl]; exact q)
  exact name_suite hc S ((PySem.W.exm_one (M := model X.prog X.w) S.kIn LT hm).here (hQ s.heap s.toks fun _ _ e => e))
theorem tg_two {X : Cx} {x1 x2 : Str} {n1 n2 np : Pos} {k0 : Nat} {c1 c2 : Value} (h1 : Names X x1 c1) (h2 : Names X x2 c2) (hs1 : starEach [.Name x1 n1, .Name x2 n2] X.env = (false, eval (.Name x1 n1) X.env) :: starEach [.Name x2 n2] X.env := by rfl)
    (hs2 : starEach [.Name x2 n2] X.env = (false, eval (.Name x2 n2) X.env) :: starEach [] X.env := by rfl) : TestG X (.Tuple [.Name x1 n1, .Name x2 n2] k0 np) (fun cls b => PySem.W.exmAny X.K cls [c1, c2] = some b) := fun a oe pn σ H s cls b S ha hcl hm Q E E2 hQ => by
  refine wpAny_Tuple_spliced ?_
  rw [hs1]
  refine Calls.spliced_cons (name_suite h1 S ?_)
  rw [hs2]
  refine Calls.spliced_cons (name_suite h2 S ?_)
  refine Calls.spliced_nil ⟨by show 2 ≤ sizeLine; decide, ?_⟩
  have kp : ∀ b o, s.heap.get? b = some o → (s.heap.push { cls := .type "tuple", data := .seq [c1, c2].toArray }).get? b = some o := fun b o e => Heap.get?_push_of_some _ e
  have LT : PySem.W.Looks (model X.prog X.w) (s.heap.push { cls := .type "tuple", data := .seq [c1, c2].toArray }) (typeOf (.ref a)) cls := fun A Q E s k q => wpAny_typeOf_ref (k _ _ (kp _ _ ha)) (by rw [hcl]; exact q)
  exact (PySem.W.exm_tup2 (M := model X.prog X.w) (S.kIn.keeps kp) LT (Heap.get?_push_size _ rfl) hm).here (hQ _ s.toks kp)
theorem flying_keeps {B h h' : Heap} {l : List Env} {a : Addr} {Z : Obj → Prop} (x : HandSPX.FlyingZ B l a Z h) (k : ∀ b o, h.get? b = some o → h'.get? b = some o) : HandSPX.FlyingZ B l a Z h' := by
  obtain ⟨x1, x2, x3, oe, vs, T, oT, ts, e1, e2, e3, e4, e5, e6, e7, e8⟩ := x
  exact ⟨fun b o e => k _ _ (x1 b o e), x2, Heap.FunFrames.of_keeps (fun b o e _ => ⟨o, k _ _ e, rfl⟩) x3, oe, vs, T, oT, ts, k _ _ e1, e2, e3, e4, e5, e6, k _ _ e7, e8⟩
/-- an except clause: how it asks, where the exception's name stands, what the suite wishes -/
structure HS where
  m : Value → Bool → Prop
  slot : Option Nat
  ts : Addr → Value → Option Addr → TS
def HS.wish (h : HS) (D : Ends) (a : Addr) (cls : Value) (d : Option Addr) (σ : St) (H : Hp) : Prop := match h.slot with
  | none => h.ts a cls d D σ H
  | some i => h.ts a cls d { nx := fun σ' H' => D.nx (σ'.set i none) H', rt := D.rt, bk := fun σ' H' => D.bk (σ'.set i none) H', ct := fun σ' H' => D.ct (σ'.set i none) H' } (σ.set i (some (.ref a))) H
def wG (Wout : WX) (D : Ends) : List HS → WX
  | [] => Wout
  | h :: r => fun cls d σ H => ∃ b, h.m cls b ∧ (b = true → ∀ a, H a = none → h.wish D a cls d σ H) ∧ (b = false → wG Wout D r cls d σ H)
inductive HG (X : Cx) : List ExceptHandler → List HS → Prop
  | nil : HG X [] []
  | plain {t : Expr} {m : Value → Bool → Prop} {ts : Addr → Value → Option Addr → TS} {b₀ : Stmt} {suite : List Stmt} {pos' : Pos} {hds : List ExceptHandler} {l : List HS} (ht : TestG X t m)
      (hsu : ∀ (a : Addr) (oe : Obj) (cls : Value) (d : Option Addr) (pn : List (Addr × Obj)), Zc cls d oe → (∃ vs, oe.data = .fields vs) → PSs (X.suite a ((a, oe) :: pn)) (b₀ :: suite) (ts a cls d)) (r : HG X hds l) :
      HG X (.ExceptHandler (some t) none (b₀ :: suite) pos' :: hds) (⟨m, none, ts⟩ :: l)
  | named {t : Expr} {n : Str} {i : Nat} {m : Value → Bool → Prop} {ts : Addr → Value → Option Addr → TS} {b₀ : Stmt} {suite : List Stmt} {pos' : Pos} {hds : List ExceptHandler} {l : List HS} (hi : X.N[i]? = some n) (hln : X.env.kindOf n = some .local) (ht : TestG X t m)
      (hsu : ∀ (a : Addr) (oe : Obj) (cls : Value) (d : Option Addr) (pn : List (Addr × Obj)), Zc cls d oe → (∃ vs, oe.data = .fields vs) → PSs (X.suite a ((a, oe) :: pn)) (b₀ :: suite) (ts a cls d)) (r : HG X hds l) :
      HG X (.ExceptHandler (some t) (some n) (b₀ :: suite) pos' :: hds) (⟨m, some i, ts⟩ :: l)
section
variable {X : Cx} {body : List Stmt} {h₀ : ExceptHandler} {hds : List ExceptHandler} {l : List HS} {pos : Pos} {tb : WX → TS} {Wout : WX}
theorem ps_tryG (hs : X.stack = X.env :: X.outer) (hf : X.env.frame = some X.env.locals) (hN : X.N.Nodup) (tk : Takes X Wout)
    (hb : ∀ (W : WX) (pn : List (Addr × Obj)) (xe : Value → Shared → Prop), Takes (X.tr pn xe) W → PassesOwn (model X.prog X.w) X.A X.env xe → PSs (X.tr pn xe) body (tb W))
    (hh : HG X (h₀ :: hds) l) : PS X (.Try body (h₀ :: hds) [] [] pos) (fun D σ H => tb (wG Wout D l) D σ H) := by
  refine ⟨fun pins s σ H D I h => ?_⟩
  have ok := I.ok
  have hfr : X.A.frames = some (X.env :: X.outer) := by rw [ok.frames, hs]
  refine wpAny_Try_except (wpAny_mono ((hb (wG Wout D l) (X.pn ++ pins) (fun e s₁ => wpAny (model X.prog X.w) X.A (noteFrame e X.env) (fun _ s₂ => wpAny (model X.prog X.w) X.A (setFlight e none) (fun _ s₃ => wpAny (model X.prog X.w) X.A (handleBy e X.env (h₀ :: hds)) (SP X pins D) X.xe s₃) X.xe s₂) X.xe s₁)
    (fun u s' xx => ?_) PassesOwn.looking).run [] s σ H D (I.toTry _) h) (fun f s1 hsp => ?_) (fun e s1 he => he))
  · obtain ⟨a, B, sI, pins', σ', H', cls, d, rfl, J', nb, up, sky, na, os, ag, w⟩ := xx
    have J : Inv X pins σ' H' sI := J'.ofTry ok
    show wpAny (model X.prog X.w) X.A (noteFrame (.ref a) X.env) _ _ _
    refine Sky.land Zc.steady hfr hf (by rw [← hs]; exact sky) fun h3 fl3 up3 => ?_
    -- the clauses, one after the other, each over a heap that has grown
    have go : ∀ {hds' : List ExceptHandler} {l' : List HS}, HG X hds' l' → wG Wout D l' cls d σ' H' → ∀ (h3 : Heap) (tk3 : Nat), HandSPX.FlyingZ B (X.env :: X.outer) a (Zc cls d) h3 → s'.heap.UpToSlots h3 →
        wpAny (model X.prog X.w) X.A (handleBy (.ref a) X.env hds') (SP X pins D) X.xe { s' with heap := h3, toks := tk3 } := by
      intro hds' l' hk
      have prep : ∀ {h3 : Heap} {tk3 : Nat}, HandSPX.FlyingZ B (X.env :: X.outer) a (Zc cls d) h3 → s'.heap.UpToSlots h3 → ∃ oe3, h3.get? a = some oe3 ∧ Zc cls d oe3 ∧ (∃ vs, oe3.data = .fields vs) ∧ Inv (X.suite a ((a, oe3) :: (X.pn ++ pins))) [] σ' H' { s' with heap := h3, toks := tk3 } := by
        intro h3 tk3 fl3 up3
        have J3 : Inv X pins σ' H' { s' with heap := h3, toks := tk3 } := J.landed nb fl3.1 (up.trans up3) os ag
        obtain ⟨oe3, vs3, he3, hz3, hd3⟩ := fl3.there
        have nfr : a ∉ frs (X.env :: X.outer) := fun hm => by
          obtain ⟨_, o', e', hnf⟩ := fl3.2.2.1.mem hm
          rw [he3] at e'
          cases e'
          exact hnf _ hd3
        refine ⟨oe3, he3, hz3, ⟨_, hd3⟩, J3.suite he3 hd3 na (fun z => nfr (List.mem_filterMap.mpr ⟨X.env, List.mem_cons_self, by rw [hf, z]⟩)) fun hm => ?_⟩
        obtain ⟨e, he, q⟩ := List.mem_filterMap.mp hm
        exact nfr (List.mem_filterMap.mpr ⟨e, List.mem_cons_of_mem _ he, q⟩)
      induction hk with
      | nil =>
        intro w h3 tk3 fl3 up3
        refine wpAny_handleBy_nil ?_
        obtain ⟨_, _, _, oe, vs, T, oT, ts', he, _, hd, h1, _⟩ := id fl3
        unfold PySem.passOn
        refine wpAny_bind (wpAny_field he hd h1 ?_)
        rw [if_neg (show ¬ ((Value.ref T == Value.none) = true) by simp)]
        have fin : wpAny (model X.prog X.w) X.A (setFlight (.ref a) X.env.frame) (fun _ s4 => wpAny (model X.prog X.w) X.A (throw (.ref a) : Sem Flow) (SP X pins D) X.xe s4) X.xe { s' with heap := h3, toks := tk3 } := by
          rw [hf]
          exact HandSPX.setFlight_upZ fl3 fun h4 hh4 up4 => wpAny_throw (tk _ _ ⟨a, B, sI, pins, σ', H', cls, d, rfl, J, nb, (up.trans up3).trans up4, .inr (.inr (by rw [hs]; exact hh4)), na, os, ag, w⟩)
        first
          | exact wpAny_bind (wpAny_pure (wpAny_bind fin))
          | exact wpAny_bind fin
      | @plain t m ts b₀ suite pos' hds2 l2 ht hsu r ih =>
        intro w h3 tk3 fl3 up3
        obtain ⟨b, hb1, hyes, hno⟩ := w
        obtain ⟨oe3, he3, hz3, _, S3⟩ := prep (tk3 := tk3) fl3 up3
        refine wpAny_handleBy_cons (codeAny_handlers_test (ht a oe3 _ σ' H' _ cls b S3 he3 hz3.1 hb1 _ _ _ fun h5 tk5 k5 => ?_)) (by intro q; cases q)
        have fl5 := flying_keeps fl3 k5
        have up5 := up3.trans (Heap.UpToSlots.of_keeps k5)
        cases b with
        | true =>
          refine codeAny_handlers_suite (HandSPX.lands_againZ fl5 fun h4 fl4 up4 => ?_)
          obtain ⟨oe4, he4, hz4, hd4, S4⟩ := prep (tk3 := tk5) fl4 (up5.trans up4)
          refine wpAny_mono ((hsu a oe4 cls d (X.pn ++ pins) hz4 hd4).run [] _ _ H' _ S4 (hyes rfl a na)) (fun f s6 hsp => ?_) (fun _ _ z => False.elim z)
          cases f with
          | ret u => obtain ⟨v6, σ6, H6, S6, r6, q6⟩ := hsp; exact ⟨_, _, _, S6.unsuite ok, r6, q6⟩
          | next => obtain ⟨σ6, H6, S6, q6⟩ := hsp; exact ⟨_, _, S6.unsuite ok, q6⟩
          | brk => obtain ⟨σ6, H6, S6, q6⟩ := hsp; exact ⟨_, _, S6.unsuite ok, q6⟩
          | cont => obtain ⟨σ6, H6, S6, q6⟩ := hsp; exact ⟨_, _, S6.unsuite ok, q6⟩
        | false =>
          show wpAny _ X.A (handleBy (.ref a) X.env hds2) _ _ _
          exact ih (hno rfl) h5 tk5 fl5 up5
      | @named t n i m ts b₀ suite pos' hds2 l2 hi hln ht hsu r ih =>
        intro w h3 tk3 fl3 up3
        obtain ⟨b, hb1, hyes, hno⟩ := w
        obtain ⟨oe3, he3, hz3, _, S3⟩ := prep (tk3 := tk3) fl3 up3
        refine wpAny_handleBy_cons (codeAny_handlers_test (ht a oe3 _ σ' H' _ cls b S3 he3 hz3.1 hb1 _ _ _ fun h5 tk5 k5 => ?_)) (by intro q; cases q)
        have fl5 := flying_keeps fl3 k5
        have up5 := up3.trans (Heap.UpToSlots.of_keeps k5)
        cases b with
        | true =>
          refine codeAny_handlers_suite_as (HandSPX.lands_againZ fl5 fun h4 fl4 up4 => ?_)
          obtain ⟨oe4, he4, hz4, hd4, S4⟩ := prep (tk3 := tk5) fl4 (up5.trans up4)
          refine store_ok (X := X.suite a ((a, oe4) :: (X.pn ++ pins))) (v := .ref a) S4 hN hi (.inl hln) rfl (fun s5 S5 => ?_) (.inr hln)
          refine wpAny_mono ((hsu a oe4 cls d (X.pn ++ pins) hz4 hd4).run [] s5 _ H' _ S5 (hyes rfl a na)) (fun f s6 hsp => ?_) (fun _ _ z => False.elim z)
          have gone : ∀ {σ6 : St} {H6 : Hp} {Q : Shared → Prop}, Inv (X.suite a ((a, oe4) :: (X.pn ++ pins))) [] σ6 H6 s6 → (∀ s7, Inv X pins (σ6.set i none) H6 s7 → Q s7) →
              wpAny (model X.prog X.w) X.A (do bindName X.env n .none; unbindBehindTheSuite X.env n pos') (fun _ s7 => Q s7) X.xe s6 := fun {σ6 H6 Q} S6 hq => gone_ok (S6.unsuite ok) hN hi hln hq
          cases f with
          | ret u => obtain ⟨v6, σ6, H6, S6, r6, q6⟩ := hsp; exact gone S6 fun s7 J7 => ⟨_, _, _, J7, r6, q6⟩
          | next => obtain ⟨σ6, H6, S6, q6⟩ := hsp; exact gone S6 fun s7 J7 => ⟨_, _, J7, q6⟩
          | brk => obtain ⟨σ6, H6, S6, q6⟩ := hsp; exact gone S6 fun s7 J7 => ⟨_, _, J7, q6⟩
          | cont => obtain ⟨σ6, H6, S6, q6⟩ := hsp; exact gone S6 fun s7 J7 => ⟨_, _, J7, q6⟩
        | false =>
          show wpAny _ X.A (handleBy (.ref a) X.env hds2) _ _ _
          exact ih (hno rfl) h5 tk5 fl5 up5
    exact go hh w h3 s'.toks fl3 up3
  · cases f with
    | ret u => obtain ⟨v, σ', H', J', r, q⟩ := hsp; exact ⟨v, σ', H', J'.ofTry ok, r, q⟩
    | next => obtain ⟨σ', H', J', q⟩ := hsp; exact wpAny_execs_nil ⟨σ', H', J'.ofTry ok, q⟩
    | brk => obtain ⟨σ', H', J', q⟩ := hsp; exact ⟨σ', H', J'.ofTry ok, q⟩
    | cont => obtain ⟨σ', H', J', q⟩ := hsp; exact ⟨σ', H', J'.ofTry ok, q⟩
end
end L2
end
section
namespace L2
open PySem PySem.Spec PyProof.Rows PySem.Kx
section
variable {X : Cx} {x f qual : Str} {B B2 newId : String} {bmB : List Value} {C fI : Addr}
/-- raise X(e), an own exception with its field -/
def tMkX (f : Str) (C : Addr) (ta : TA) : St → Hp → XK → Prop := fun σ H Q => ta σ H fun vs H1 => ∃ v, vs = [v] ∧ ∀ d, H1 d = none → Q (.ref C) (some d) (upd H1 d (.xd [(f, v)]))
theorem pmk_ownX {e : Expr} {ta : TA} {p pos : Pos} {k : Nat} (T : OwnX X.K X.mg x f qual B B2 newId bmB C fI) (hr : Room k X.A) (he : PA X [e] ta) (hg : Gl X x := by rfl) (hdb : (x == ("__debug__" : Str)) = false := by decide)
    (hs : starEach [e] X.env = (false, eval e X.env) :: starEach [] X.env := by rfl) (hpl : (backTo pos (starEach [] X.env)).any (·.1) = false := by rfl) : PMk X (.Call (.Name x p) [e] [] pos) (tMkX f C ta) := by
  intro pins s σ H Q I h
  refine wpAny_Call_Name_kw (ld_glob I hg T.gC ?_ hdb)
  refine PySem.W.callWith_K (h₀ := X.base) I.ok.mod.kin T.kC (thn (he.run pos pins s σ H _ I h) fun us s1 hh => ?_) hs hpl
  obtain ⟨vs, H1, I1, r1, v, rfl, q1⟩ := hh
  cases r1 with
  | cons rv rn =>
    cases rn
    rename_i u
    refine ⟨I1.kIn, ?_⟩
    show wpAny _ _ (call (.ref C) [u]) _ _ _
    have lim := I1.nolimit
    obtain ⟨hp, g, dr, tk, os⟩ := s1
    refine wpAny_call (T.made I1.kIn lim (by have := hr.dp; omega) fun h' tk' a d M => ?_)
    show MkP X pins σ Q (.ref a) ⟨h', g, dr, tk', os⟩
    obtain ⟨t1, hoe⟩ := M.obj
    have hns := M.ns
    obtain ⟨G, g1, g2⟩ := restrict h' fun b => decide (b ≠ a)
    have gk : ∀ b, b ≠ a → G.get? b = h'.get? b := fun b hb => g1 b (decide_eq_true hb)
    have ga : G.get? a = none := g2 a (by simp)
    have old : ∀ b o, hp.get? b = some o → G.get? b = some o := fun b o q => (gk b (Nat.ne_of_lt (Nat.lt_of_lt_of_le (Heap.lt_size q) M.new))).trans (M.keep b o q)
    have nd : H1 d = none := I1.hok.fresh M.big
    have na : H1 a = none := I1.hok.fresh M.new
    have ob : ObjOk X.prog X.w (upd H1 d (.xd [(f, v)])) G d (.xd [(f, v)]) := ⟨_, hns.at fun o q => (gk d M.ne).trans q, relO_one rv⟩
    have J : Inv X pins σ (upd H1 d (.xd [(f, v)])) ⟨G, g, dr, tk', os⟩ := I1.laid (t' := tk') old M.big ob
    refine ⟨a, _, _, ⟨G, g, dr, tk', os⟩, _, .ref C, some d, rfl, J, fun b o q => ?_, ga, hoe, ⟨rfl, rfl⟩, rfl, rfl, ?_, rfl, I1.bare, raises_own T.ec.hs T.tyC, q1 d nd⟩
    · by_cases hb : b = a
      · have q' : G.get? b = some o := q
        rw [hb, ga] at q'
        cases q'
      · exact (gk b hb).symm.trans q
    · rw [upd_ne M.ne.symm]
      exact na
/-- e.f within the suite that holds e -/
def tByX (f : Str) (C a : Addr) (cls : Value) (d : Option Addr) (te : TE) : TE := fun σ H Q => te σ H fun y H1 => y = .ref a ∧ cls = .ref C ∧ ∃ (dd : Addr) (v : V), d = some dd ∧ H1 dd = some (.xd [(f, v)]) ∧ Q v H1
theorem pe_byX {a : Addr} {oe : Obj} {cls : Value} {d : Option Addr} {pn : List (Addr × Obj)} {e : Expr} {te : TE} {pos : Pos} (T : OwnX X.K X.mg x f qual B B2 newId bmB C fI) (hz : Zc cls d oe) (hf : ∃ vs, oe.data = .fields vs) (he : PE (X.suite a ((a, oe) :: pn)) e te)
    (hb : attributeBase e f X.env (eval e X.env) = eval e X.env := by rfl) : PE (X.suite a ((a, oe) :: pn)) (.Attribute e f pos) (tByX f C a cls d te) := by
  refine ⟨fun pins s σ H Q I h => ?_⟩
  refine attr_of hb (thn (he.run pins s σ H _ I h) fun u s1 hh => ?_)
  obtain ⟨y, H1, I1, rx, rfl, rfl, dd, v, rfl, hd, q⟩ := hh
  obtain rfl : u = Value.ref a := rx
  obtain ⟨ho, _⟩ := I1.pin (a, oe) (List.mem_append_left _ List.mem_cons_self)
  obtain ⟨vs, hv⟩ := hf
  obtain ⟨mA, hns, hr⟩ := (show ObjOk X.prog X.w H1 s1.heap dd (.xd [(f, v)]) from I1.hok dd _ hd)
  obtain ⟨od, hod, hl⟩ := lookIn_ns hns
  have l : List.lookup f [(f, v)] = some v := by rw [List.lookup_cons, beq_self_eq_true]
  obtain ⟨u, hu, ru⟩ := RelO.some_of (v := v) (o := mA f) (by rw [← l]; exact hr f)
  have J : PySem.W.InstAt s1.heap a oe C (some od) := ⟨ho, hz.1, by unfold PySem.W.notCls; rw [hv] <;> rfl, by rw [hz.2]; exact hod⟩
  exact HandSPX.exc_get I1.kIn J T.ec.hg T.ec.hk T.ec.hs (PySem.W.findObj_own T.ec.hd T.noN rfl (by rw [hl, hu])) (handed_of ru) ⟨v, H1, I1.tok _, ru, q⟩
/-- isinstance(e, c) within the suite that holds e -/
def rIsS (K : PySem.W.Frag) (D a : Addr) (d : Option Addr) : List V → Hp → VK → Prop := fun xs H Q => ∃ (c : V) (cv : Value) (b : Bool), xs = [.ref a, c] ∧ (∀ u, RelV c u → u = cv) ∧ (∀ dd, d = some dd → ∃ fs, H dd = some (.xd fs)) ∧ PySem.W.kitOne K (.ref D) cv = some b ∧ Q (.bl b) H
theorem call_isS {a D : Addr} {oe : Obj} {d : Option Addr} {pn : List (Addr × Obj)} (cc : ExcC X.K D) (hz : Zc (.ref D) d oe) (hf : ∃ vs, oe.data = .fields vs) : CallR (X.suite a ((a, oe) :: pn)) (.builtin "isinstance") (rIsS X.K D a d) := by
  intro pins s σ H xs us Q I r h
  obtain ⟨c, cv, b, rfl, hcv, hdd, e, q⟩ := h
  obtain ⟨u1, u2, rfl, r1, r2⟩ := vals2 r
  cases (show u1 = Value.ref a from r1)
  have ec := hcv _ r2
  subst ec
  obtain ⟨ho, _⟩ := I.pin (a, oe) (List.mem_append_left _ List.mem_cons_self)
  obtain ⟨vs, hv⟩ := hf
  obtain ⟨od, J⟩ : ∃ od, PySem.W.InstAt s.heap a oe D od := by
    cases d with
    | none => exact ⟨none, ho, hz.1, by unfold PySem.W.notCls; rw [hv] <;> rfl, by rw [hz.2]; trivial⟩
    | some dd =>
      obtain ⟨fs, hd⟩ := hdd dd rfl
      obtain ⟨mA, hns, _⟩ := (show ObjOk X.prog X.w H s.heap dd (.xd fs) from I.hok dd _ hd)
      obtain ⟨od, hod, _⟩ := lookIn_ns hns
      exact ⟨some od, ho, hz.1, by unfold PySem.W.notCls; rw [hv] <;> rfl, by rw [hz.2]; exact hod⟩
  exact PySem.W.kia_one (PySem.W.kitExc cc) I.kIn J e (fun z => nomatch z) fun tk => ⟨.bl b, H, I.kept (t' := tk) fun _ _ z => z, rfl, q⟩
end
end L2
end
section
namespace L2
open PySem PySem.Spec PyProof.Rows PySem.Kx
/-! ### defs that show values (repr): they are called where no repr is under way -/
structure FnG (P : Program) (w : World) (K : PySem.W.Frag) (mg : Str → Option Value) (base : Heap) (CX : CXT) (k : Nat) (f : Addr) (fd : FuncData) (ps : List Str) (sp : Sp) : Prop where
  len : ∀ vs H Q E, sp vs H Q E → vs.length = ps.length
  run : ∀ (A : Around) (outer : List Env) (s : Shared) (H : Hp) (args : Args) (us : List Value) (vs : List V) (Q : VK) (E : XK), A.guards = some [] → Room k A → Env0 P w K mg base A outer s H → BindsTo s fd args (ps.zip us) → Vals vs us → sp vs H Q E →
    codeAny (model P w) A (.call (.ref f) args) (CR CX outer P w H s Q E) s
section
variable {P : Program} {w : World} {K : PySem.W.Frag} {mg : Str → Option Value} {base : Heap} {CX : CXT} {k : Nat} {f : Addr} {fd : FuncData} {ps : List Str} {sp : Sp}
theorem FnOk.toG (F : FnOk P w K mg base CX k f fd ps sp) : FnG P w K mg base CX k f fd ps sp := ⟨F.len, fun A outer s H args us vs Q E _ => F.run A outer s H args us vs Q E⟩
theorem guards_deeper {A : Around} {env : Env} (h : A.guards = some []) : (A.deeper env).guards = some [] := h
theorem Fun.okG {x qual : Str} {st : Stmt} {N : List Str} (F : Fun K x qual st f fd) (S : FnScope N ps (defScope st)) (len : ∀ vs H Q E, sp vs H Q E → vs.length = ps.length)
    (hbody : ∀ (cdv : Value) (A : Around) (outer : List Env) (s : Shared) (H : Hp) (vs : List V) (Q : VK) (E : XK), A.guards = some [] → Room k (A.deeper (envOfC qual (defScope st) s.heap.objs.size f cdv)) → sp vs H Q E →
      ∃ t, PSs (cxOf CX P w K mg base N qual (defScope st) f cdv A outer s H E) (defBody st) t ∧ t { nx := fun _ H' => Q .non H', rt := Q } (start N vs) H) : FnG P w K mg base CX (k + 1) f fd ps sp := by
  obtain ⟨oc, od, kV, doc, pm, an, cdv, ct, osl, rfl, lk, hcd⟩ := F.ex
  refine ⟨len, fun A outer s H args us vs Q E gA hr e0 hb r hsp => ?_⟩
  have old : ∀ b o, base.get? b = some o → s.heap.get? b = some o := fun b o e => (e0.bs b o e).1
  have hk : ∀ y ∈ ps.zip us, (defScope st).names.lookup y.1 = some .local ∨ ((defScope st).names.lookup y.1 = some .cell ∧ ((cellsFrom (s.heap.objs.size + 1) (defScope st).names []).lookup y.1).isSome = true) := fun y hy =>
    (S.par y.1 (List.of_mem_zip (show (y.1, y.2) ∈ ps.zip us from hy)).1).imp id fun q => ⟨q, PySem.W.cellsFrom_some _ _ _ (.inl q)⟩
  refine codeAny_call_function hr.depth (e0.mod.kin.keeps old _ _ lk) rfl S.co S.gen rfl (PySem.W.codeRec_of (e0.mod.kin.keeps old) hcd) (hb _ _ _ _ (wpAny_newFunctionEnv_cells S.kind hk fun env he s1 x => ?_))
  subst he
  refine ⟨(e0.mod.nolimit.keeps old).keeps x.toInCall.keep, codeAny_func ?_⟩
  obtain ⟨t, ht, hq⟩ := hbody cdv A outer s H vs Q E gA (hr.deeper _) hsp
  refine wpAny_mono (ht.run [] s1 (start N vs) H _ (inv_start S hr.hd e0 (len _ _ _ _ hsp) r x) hq) (fun fl s' hs => ?_) fun e s' hs => hs
  cases fl with
  | ret u => obtain ⟨v, σ', H', J, rv, q⟩ := hs; exact ⟨v, H', J.os, J.bare, J.base, J.hok, rv, q⟩
  | next => obtain ⟨σ', H', J, q⟩ := hs; exact ⟨V.non, H', J.os, J.bare, J.base, J.hok, rfl, q⟩
  | brk => obtain ⟨_, _, _, q⟩ := hs; exact False.elim q
  | cont => obtain ⟨_, _, _, q⟩ := hs; exact False.elim q
/-- the same, where no exception leaves the def -/
theorem Fun.okG0 {x qual : Str} {st : Stmt} {N : List Str} (F : Fun K x qual st f fd) (S : FnScope N ps (defScope st)) (len : ∀ vs H Q E, sp vs H Q E → vs.length = ps.length)
    (hbody : ∀ (cdv : Value) (A : Around) (outer : List Env) (s : Shared) (H : Hp) (vs : List V) (Q : VK) (E : XK), A.guards = some [] → Room k (A.deeper (envOfC qual (defScope st) s.heap.objs.size f cdv)) → sp vs H Q E →
      ∃ t, PSs (cxOf CX0 P w K mg base N qual (defScope st) f cdv A outer s H E).nox (defBody st) t ∧ t { nx := fun _ H' => Q .non H', rt := Q } (start N vs) H) : FnG P w K mg base CX0 (k + 1) f fd ps sp :=
  F.okG S len fun cdv A outer s H vs Q E gA hr h => by
    obtain ⟨t, ht, q⟩ := hbody cdv A outer s H vs Q E gA hr h
    exact ⟨t, ht.nox, q⟩
end
section
variable {X : Cx} {CX : CXT} {k : Nat} {f : Addr} {fd : FuncData} {ps : List Str} {sp : Sp} {dvs : List V} {ds : List Value} {E : XK} {x : Str} {p pos : Pos} {e : Expr} {es : List Expr} {t : TA}
theorem pe_callG (F : FnG X.prog X.w X.K X.mg X.base CX k f fd ps sp) (gA : X.A.guards = some []) (hr : Room k X.A) (hg : Gl X x) (hm : X.mg x = some (.ref f)) (hk : PySem.W.keepIn X.K (.ref f) = true) (hb : Binds X.K fd ps ds) (hd : Vals dvs ds) (hx : Passes CX X E) (ha : PA X (e :: es) t)
    (hdb : (x == ("__debug__" : Str)) = false := by decide) (he : starEach (e :: es) X.env = (false, eval e X.env) :: starEach es X.env := by rfl) (hpl : (backTo pos (starEach es X.env)).any (·.1) = false := by rfl) : PE X (.Call (.Name x p) (e :: es) [] pos) (tCall sp dvs E t) := by
  refine ⟨fun pins s σ H Q I h => wpAny_Call_Name_kw (ld_glob I hg hm ?_ hdb)⟩
  refine PySem.W.callWith_K (h₀ := X.base) I.ok.mod.kin hk (thn (ha.run pos pins s σ H _ I h) fun us s1 ⟨vs, H1, I1, r, q⟩ => ⟨I1.kIn, ?_⟩) he hpl
  have r2 : Vals (vs ++ dvs) (us ++ ds) := r.append hd
  refine wpAny_call (codeAny_mono (F.run X.A X.stack s1 H1 ⟨us, []⟩ (us ++ ds) (vs ++ dvs) Q E gA hr I1.env0 (hb s1 us I1.kIn (by rw [← r2.length]; exact F.len _ _ _ _ q)) r2 q) fun z s' hq => ?_)
  cases z with
  | error e => exact hx pins σ H1 s1 e s' I1 hq
  | ok fl =>
    cases fl with
    | ret u => exact I1.after hq
    | next => exact False.elim hq
    | brk => exact False.elim hq
    | cont => exact False.elim hq
/-- repr of data -/
def rRepr (K : PySem.W.Frag) : List V → Hp → VK → Prop := fun xs H Q => ∃ (x : V) (d : PyData), xs = [x] ∧ Dp K H x d ∧ d.showable = true ∧ d.depth ≤ 60 ∧ d.shown.length ≤ sizeLine ∧ Q (.str d.shown) H
mutual
theorem Dp.noDict {K : PySem.W.Frag} {H : Hp} : ∀ {v : V} (d : PyData), Dp K H v d → d.hasDict = false
  | _, .none, _ => rfl
  | _, .bool _, _ => rfl
  | _, .int _, _ => rfl
  | _, .str _, _ => rfl
  | _, .list ds, h => by cases h with | lst _ a => simp only [PyData.hasDict]; exact Dp.noDicts ds a
  | _, .tuple ds, h => by cases h with | tup _ a => simp only [PyData.hasDict]; exact Dp.noDicts ds a
  | _, .dict _, h => by cases h
theorem Dp.noDicts {K : PySem.W.Frag} {H : Hp} : ∀ {vs : List V} (ds : List PyData), DpAll K H vs ds → PyData.hasDictAll ds = false
  | _, [], _ => rfl
  | _, d :: ds, h => by cases h with | cons a b => simp only [PyData.hasDictAll, Dp.noDict d a, Dp.noDicts ds b, Bool.or_self]
end
theorem call_reprD (gA : X.A.guards = some []) (hr : X.A.units + 64 < cLine) : CallR X (.builtin "repr") (rRepr X.K) := by
  intro pins s σ H xs us Q I r h
  obtain ⟨x, d, rfl, hd, hs, hdep, hz, q⟩ := h
  cases r with
  | cons rx rn =>
    cases rn
    rename_i u
    show wpAny _ _ (call (.builtin "repr") [u]) _ _ _
    obtain ⟨as, rd⟩ := Dp.reads I d x u hd rx
    cases hd with
    | non => cases rx; exact PySem.P.repr_of_none ⟨.str _, H, I.tok _, ⟨_, rfl⟩, q⟩
    | bl b => cases rx; exact PySem.P.repr_of_bool ⟨.str _, H, I.tok _, ⟨_, rfl⟩, by simpa only [PyData.shown] using q⟩
    | int i => obtain ⟨t, rfl⟩ := rx; exact PySem.P.repr_of_int (by simpa only [PyData.showable, decide_eq_true_eq] using hs) ⟨.str _, H, I.tok _, ⟨_, rfl⟩, by simpa only [PyData.shown] using q⟩
    | str y => obtain ⟨t, rfl⟩ := rx; exact PySem.P.repr_of_str ⟨.str _, H, I.tok _, ⟨_, rfl⟩, by simpa only [PyData.shown] using q⟩ (by simpa only [PyData.shown] using hz)
    | lst a b => cases rx; exact repr_of_reads' rd hs (PyData.noDict_hsm (Dp.noDict _ (.lst a b))) gA (by omega) (fun _ _ e => e) (fun h' u tk hk => ⟨.str _, H, I.kept (t' := tk) hk, ⟨_, rfl⟩, q⟩) hz
    | tup a b => cases rx; exact repr_of_reads' rd hs (PyData.noDict_hsm (Dp.noDict _ (.tup a b))) gA (by omega) (fun _ _ e => e) (fun h' u tk hk => ⟨.str _, H, I.kept (t' := tk) hk, ⟨_, rfl⟩, q⟩) hz
end
end L2
end
section
namespace L2
open PySem PySem.Spec PyProof.Rows PySem.Kx
/-- the law's call, by a promise that may show values -/
theorem lawG {P : Program} {w : World} {K : PySem.W.Frag} {mg mb : Str → Option Value} {CX : CXT} {k : Nat} {fa a : Addr} {fd : FuncData} {x : Str} {sp : Sp} {s₁ : Shared} {vs : List Value} {ns : List Int} (KX : K.In s₁.heap) (hns : s₁.heap.Ns mainGlobals mg) (hb : s₁.heap.Ns builtinsNs mb)
    (hbb : ∀ x : Str, x ≠ "__name__" → mb x = bootBuiltins x) (hlim : s₁.heap.NoLimit) (hg : s₁.gens = #[]) (ha : s₁.heap.get? a = some { cls := .type "list", data := .seq vs.toArray }) (hi : IntsAre vs ns) (hl : ns.length ≤ sizeLine) (hr : Room k callerA)
    (F : ∀ base : Heap, K.In base → base.Ns mainGlobals mg → FnG P w K mg base CX k fa fd [x] sp) (hbind : ∀ (s : Shared) (u : Value), BindsTo s fd ⟨[u], []⟩ [(x, u)]) (hsp : ∀ H : Hp, Only H → SqL K H a (ns.map V.int) → sp [.ref a] H (fun v _ => v = .bl true) fun _ _ _ => False)
    (hCX : ∀ H e s', CX [] H s₁ (fun _ _ _ => False) e s' → False) : codeAny (model P w) callerA (.call (.ref fa) ⟨[.ref a], []⟩) (fun r s' => r = .ok (.ret (.bool true)) ∧ OldK s₁.heap s'.heap ∧ s'.os = s₁.os ∧ AllBare s'.gens) s₁ := by
  have rv := vals_ints hi
  -- H tells of the script alone, or of nothing
  have main : ∀ H : Hp, Only H → SqL K H a (ns.map V.int) → HOk P w H s₁.heap → (∀ b, H b ≠ none → b = a ∧ K.lookup a = none) → codeAny (model P w) callerA (.call (.ref fa) ⟨[.ref a], []⟩) (fun r s' => r = .ok (.ret (.bool true)) ∧ OldK s₁.heap s'.heap ∧ s'.os = s₁.os ∧ AllBare s'.gens) s₁ := by
    intro H hO hS hok hA
    have isA : ∀ {b : Addr} {u : HO}, H b = some u → b = a ∧ K.lookup a = none := fun {b u} q => hA b (by rw [q]; exact fun z => nomatch z)
    have nsK : ∀ {b : Addr} {m : Str → Option Value}, s₁.heap.Ns b m → (hidT s₁.heap H).Ns b m := fun {b m} ⟨o, es, ep, e, d, r⟩ => ⟨o, es, ep, hidT_get e (by
      cases q : H b with
      | none => rfl
      | some u =>
        obtain ⟨z, _⟩ := isA q
        rw [z, ha] at e
        cases e
        exact absurd (show Data.seq vs.toArray _ = Data.dict es ep from d) (fun z => nomatch z)), d, r⟩
    have KB : K.In (hidT s₁.heap H) := fun b o e => hidT_get (KX b o e) (by
      cases q : H b with
      | none => rfl
      | some u =>
        obtain ⟨z, z2⟩ := isA q
        rw [z, z2] at e
        cases e)
    have e0 : Env0 P w K mg (hidT s₁.heap H) callerA [] s₁ H := ⟨rfl, ⟨KB, nsK hns, ⟨mb, nsK hb, hbb⟩, by obtain ⟨mc, h1, h2⟩ := hlim; exact ⟨mc, nsK h1, h2⟩⟩, fun b o e => of_hidT e, Nat.le_of_eq (hidT_size _ _), trivial, fun b z => absurd (show b ∈ ([] : List Addr) from z) (by simp), hok, .of_eq hg⟩
    refine codeAny_mono ((F _ KB (nsK hns)).run callerA [] s₁ H ⟨[.ref a], []⟩ [.ref a] [.ref a] _ _ rfl hr e0 (hbind s₁ (.ref a)) (.cons rfl .nil) (hsp H hO hS)) fun r s' h => ?_
    match r, h with
    | .error e, h => exact (hCX H e s' h).elim
    | .ok .next, h => exact False.elim h
    | .ok .brk, h => exact False.elim h
    | .ok .cont, h => exact False.elim h
    | .ok (.ret u), ⟨v, H', os, bare, un, hok', r', q⟩ =>
      obtain rfl : v = .bl true := q
      obtain rfl : u = Value.bool true := r'
      refine ⟨rfl, OldK.of_keep fun b o e => ?_, os, bare⟩
      cases q : H b with
      | none => exact un.keep b o e q (fun z => absurd (show b ∈ ([] : List Addr) from z) (by simp)) (by simp)
      | some u =>
        rcases hO b with z | ⟨ob, xs, z⟩
        · rw [q] at z
          cases z
        · have e1 := (hok b _ z).1
          have e2 := (hok' b _ (un.frzs b ob _ z)).1
          rw [e] at e1
          cases e1
          exact e2
  cases hk : K.lookup a with
  | some o =>
    have e := KX a o hk
    rw [ha] at e
    cases e
    exact main (fun _ => none) (fun _ => .inl rfl) (.inr ⟨_, vs.toArray, _, hk, rfl, rfl, rfl, by rw [List.size_toArray, hi.length]; exact hl, by simpa using rv⟩) (fun b u z => nomatch (show (none : Option HO) = some u from z)) fun b z => absurd rfl z
  | none =>
    have he : ∀ b, b ≠ a → (if b = a then some (HO.frz { cls := .type "list", data := .seq vs.toArray } (.lst (ns.map V.int))) else none) = none := fun b z => if_neg z
    refine main (fun b => if b = a then some (.frz { cls := .type "list", data := .seq vs.toArray } (.lst (ns.map V.int))) else none) (fun b => ?_) (.inl (.inr ⟨{ cls := .type "list", data := .seq vs.toArray }, if_pos rfl⟩)) (fun b u z => ?_) (fun b z => ⟨Classical.byContradiction fun q => z (he b q), hk⟩)
    · by_cases q : b = a
      · exact .inr ⟨_, _, if_pos q⟩
      · exact .inl (he b q)
    · by_cases q : b = a
      · have y := (if_pos q).symm.trans z
        cases y
        subst q
        exact ⟨ha, by rw [List.length_map]; exact hl, vs, _, rv, ha⟩
      · have y := (he b q).symm.trans z
        cases y
theorem walkG {l : PySem.W.OpenLaw} {n k : Nat} {q : Program} {loose : List Str} {XP : (Str → Option Value) → Heap → Prop} {YP : World → Heap → Prop} {d : DefRec} {K : Params → PySem.W.Frag} {CX : World → CXT} {sp : World → Sp} {x : Str} (hn : l.most = some n) (hn2 : n ≤ sizeLine) (hdf : d.params.defaults = []) (hr : Room k callerA)
    (hY : ∀ (w : World) (h : Heap), YP w h → (K w.params).In h) (F : ∀ (w : World) (mg : Str → Option Value) (fa : Addr) (h : Heap), (K w.params).In h → h.Ns mainGlobals mg → mg d.name = some (.ref fa) →
      ∃ fd : FuncData, (∀ (s : Shared) (u : Value), BindsTo s fd ⟨[u], []⟩ [(x, u)]) ∧ ∀ base : Heap, (K w.params).In base → base.Ns mainGlobals mg → FnG l.prog w (K w.params) mg base (CX w) k fa fd [x] (sp w))
    (hsp : ∀ (w : World) (H : Hp) (a : Addr) (ns : List Int), ns.length ≤ n → Only H → SqL (K w.params) H a (ns.map V.int) → sp w [.ref a] H (fun v _ => v = .bl true) fun _ _ _ => False)
    (hCX : ∀ (w : World) (H : Hp) (s : Shared) (e : Value) (s' : Shared), CX w [] H s (fun _ _ _ => False) e s' → False) : PySem.W.WalkO q loose XP YP l.row.toRowW d [] (fun f vs => PySem.call f vs) :=
  Att.attach_call hn hdf fun w s₀ s₁ mg mb fa o pm cd doc a vs ns G Y ho hd hcd hmg hobj hints hlen hg => by
    obtain ⟨fd, hb, hF⟩ := F w mg fa _ (hY w _ Y) G.T.g hmg
    exact lawG (hY w _ Y) G.T.g G.T.b G.T.builtins G.T.nolimit hg hobj hints (Nat.le_trans hlen hn2) hr hF hb (fun H hO hS => hsp w H a ns hlen hO hS) fun H e s' => hCX w H s₁ e s'
end L2
end
section
namespace Kb
open PySem PySem.Spec PyProof.Rows L2 PySem.Kx
/-! ### the classes of the package's errors, read off the written part by their names -/
def clsAt (K : PySem.W.Frag) (n : Str) : Addr := match PySem.W.nsIn K mainGlobals n with
  | some (some (.ref a)) => a
  | _ => 0
/-- facts of one error class: what isinstance and an except clause ask of it -/
def okCls (K : PySem.W.Frag) (n : Str) : Bool :=
  decide (PySem.W.nsIn K mainGlobals n = some (some (.ref (clsAt K n)))) && PySem.W.keepIn K (.ref (clsAt K n)) &&
  decide (PySem.W.findIn K (.ref (clsAt K n)) "__getattribute__" = some (some (.builtin "BaseException.__getattribute__"))) &&
  decide (PySem.W.findIn K (.ref (clsAt K n)) "__getattr__" = some none) && decide (PySem.W.subIn K (.ref (clsAt K n)) (.type "BaseException") = some true) && PySem.W.hasDictIn K (clsAt K n) &&
  decide (PySem.W.findIn K (.ref (clsAt K n)) "__class__" = some (some (.builtin "object.__class__"))) && decide (PySem.W.mroIn K (clsAt K n) (.type "object") = some true) &&
  decide (PySem.W.typeIn K (.ref (clsAt K n)) = some (.type "type")) &&
  decide (PySem.W.specialIn K (.builtin "object.__class__") "__get__" = some (some (.builtin "getset_descriptor.__get__"))) && decide (PySem.W.takesIn K (.builtin "object.__class__") = some true)
structure ClsOk (K : PySem.W.Frag) (mg : Str → Option Value) (n : Str) : Prop where
  g : mg n = some (.ref (clsAt K n))
  k : PySem.W.keepIn K (.ref (clsAt K n)) = true
  e : ExcC K (clsAt K n)
  t : PySem.W.typeIn K (.ref (clsAt K n)) = some (.type "type")
theorem clsOk_of {K : PySem.W.Frag} {h : Heap} {mg : Str → Option Value} {n : Str} (X : K.In h) (G : h.Ns mainGlobals mg) (c : okCls K n = true) : ClsOk K mg n := by
  unfold okCls at c
  simp only [Bool.and_eq_true, decide_eq_true_eq] at c
  obtain ⟨⟨⟨⟨⟨⟨⟨⟨⟨⟨c1, c2⟩, c3⟩, c4⟩, c5⟩, c6⟩, c7⟩, c8⟩, c9⟩, c10⟩, c11⟩ := c
  exact ⟨PySem.W.mg_of X G c1, c2, ⟨c3, c4, c5, c6, c7, c10, c11, c8⟩, c9⟩
abbrev veL : List Value := [.type "ValueError", .type "Exception", .type "BaseException", .type "object"]
/-- a class over ValueError that adds nothing -/
def okPlain (K : PySem.W.Frag) (n : Str) : Bool := PySem.W.excIn K (clsAt K n) veL "ValueError.__new__"
end Kb
end
section
namespace L2
open PySem PySem.Spec PyProof.Rows PySem.Kx
/-- the law's call, by a promise that may show values -/
theorem lawS {P : Program} {w : World} {K : PySem.W.Frag} {mg mb : Str → Option Value} {CX : CXT} {k : Nat} {fa a : Addr} {fd : FuncData} {x : Str} {sp : Sp} {s₁ : Shared} {vs : List Value} {ns : List Int} (KX : K.In s₁.heap) (hns : s₁.heap.Ns mainGlobals mg) (hb : s₁.heap.Ns builtinsNs mb)
    (hbb : ∀ x : Str, x ≠ "__name__" → mb x = bootBuiltins x) (hlim : s₁.heap.NoLimit) (hg : s₁.gens = #[]) (hmod : ∃ m, s₁.heap.Ns sysModules m) (ha : s₁.heap.get? a = some { cls := .type "list", data := .seq vs.toArray }) (hi : IntsAre vs ns) (hl : ns.length ≤ sizeLine) (hr : Room k callerA)
    (F : ∀ base : Heap, K.In base → base.Ns mainGlobals mg → (∃ o, base.get? sysModules = some o) → FnG P w K mg base CX k fa fd [x] sp) (hbind : ∀ (s : Shared) (u : Value), BindsTo s fd ⟨[u], []⟩ [(x, u)]) (hsp : ∀ H : Hp, Only H → SqL K H a (ns.map V.int) → sp [.ref a] H (fun v _ => v = .bl true) fun _ _ _ => False)
    (hCX : ∀ H e s', CX [] H s₁ (fun _ _ _ => False) e s' → False) : codeAny (model P w) callerA (.call (.ref fa) ⟨[.ref a], []⟩) (fun r s' => r = .ok (.ret (.bool true)) ∧ OldK s₁.heap s'.heap ∧ s'.os = s₁.os ∧ AllBare s'.gens) s₁ := by
  have rv := vals_ints hi
  -- H tells of the script alone, or of nothing
  have main : ∀ H : Hp, Only H → SqL K H a (ns.map V.int) → HOk P w H s₁.heap → (∀ b, H b ≠ none → b = a ∧ K.lookup a = none) → codeAny (model P w) callerA (.call (.ref fa) ⟨[.ref a], []⟩) (fun r s' => r = .ok (.ret (.bool true)) ∧ OldK s₁.heap s'.heap ∧ s'.os = s₁.os ∧ AllBare s'.gens) s₁ := by
    intro H hO hS hok hA
    have isA : ∀ {b : Addr} {u : HO}, H b = some u → b = a ∧ K.lookup a = none := fun {b u} q => hA b (by rw [q]; exact fun z => nomatch z)
    have nsK : ∀ {b : Addr} {m : Str → Option Value}, s₁.heap.Ns b m → (hidT s₁.heap H).Ns b m := fun {b m} ⟨o, es, ep, e, d, r⟩ => ⟨o, es, ep, hidT_get e (by
      cases q : H b with
      | none => rfl
      | some u =>
        obtain ⟨z, _⟩ := isA q
        rw [z, ha] at e
        cases e
        exact absurd (show Data.seq vs.toArray _ = Data.dict es ep from d) (fun z => nomatch z)), d, r⟩
    have KB : K.In (hidT s₁.heap H) := fun b o e => hidT_get (KX b o e) (by
      cases q : H b with
      | none => rfl
      | some u =>
        obtain ⟨z, z2⟩ := isA q
        rw [z, z2] at e
        cases e)
    have e0 : Env0 P w K mg (hidT s₁.heap H) callerA [] s₁ H := ⟨rfl, ⟨KB, nsK hns, ⟨mb, nsK hb, hbb⟩, by obtain ⟨mc, h1, h2⟩ := hlim; exact ⟨mc, nsK h1, h2⟩⟩, fun b o e => of_hidT e, Nat.le_of_eq (hidT_size _ _), trivial, fun b z => absurd (show b ∈ ([] : List Addr) from z) (by simp), hok, .of_eq hg⟩
    refine codeAny_mono ((F _ KB (nsK hns) (by obtain ⟨m, hm⟩ := hmod; obtain ⟨o, _, _, e, _⟩ := nsK hm; exact ⟨o, e⟩)).run callerA [] s₁ H ⟨[.ref a], []⟩ [.ref a] [.ref a] _ _ rfl hr e0 (hbind s₁ (.ref a)) (.cons rfl .nil) (hsp H hO hS)) fun r s' h => ?_
    match r, h with
    | .error e, h => exact (hCX H e s' h).elim
    | .ok .next, h => exact False.elim h
    | .ok .brk, h => exact False.elim h
    | .ok .cont, h => exact False.elim h
    | .ok (.ret u), ⟨v, H', os, bare, un, hok', r', q⟩ =>
      obtain rfl : v = .bl true := q
      obtain rfl : u = Value.bool true := r'
      refine ⟨rfl, OldK.of_keep fun b o e => ?_, os, bare⟩
      cases q : H b with
      | none => exact un.keep b o e q (fun z => absurd (show b ∈ ([] : List Addr) from z) (by simp)) (by simp)
      | some u =>
        rcases hO b with z | ⟨ob, xs, z⟩
        · rw [q] at z
          cases z
        · have e1 := (hok b _ z).1
          have e2 := (hok' b _ (un.frzs b ob _ z)).1
          rw [e] at e1
          cases e1
          exact e2
  cases hk : K.lookup a with
  | some o =>
    have e := KX a o hk
    rw [ha] at e
    cases e
    exact main (fun _ => none) (fun _ => .inl rfl) (.inr ⟨_, vs.toArray, _, hk, rfl, rfl, rfl, by rw [List.size_toArray, hi.length]; exact hl, by simpa using rv⟩) (fun b u z => nomatch (show (none : Option HO) = some u from z)) fun b z => absurd rfl z
  | none =>
    have he : ∀ b, b ≠ a → (if b = a then some (HO.frz { cls := .type "list", data := .seq vs.toArray } (.lst (ns.map V.int))) else none) = none := fun b z => if_neg z
    refine main (fun b => if b = a then some (.frz { cls := .type "list", data := .seq vs.toArray } (.lst (ns.map V.int))) else none) (fun b => ?_) (.inl (.inr ⟨{ cls := .type "list", data := .seq vs.toArray }, if_pos rfl⟩)) (fun b u z => ?_) (fun b z => ⟨Classical.byContradiction fun q => z (he b q), hk⟩)
    · by_cases q : b = a
      · exact .inr ⟨_, _, if_pos q⟩
      · exact .inl (he b q)
    · by_cases q : b = a
      · have y := (if_pos q).symm.trans z
        cases y
        subst q
        exact ⟨ha, by rw [List.length_map]; exact hl, vs, _, rv, ha⟩
      · have y := (he b q).symm.trans z
        cases y
theorem walkS {l : PySem.W.OpenLaw} {n k : Nat} {q : Program} {loose : List Str} {XP : (Str → Option Value) → Heap → Prop} {YP : World → Heap → Prop} {d : DefRec} {K : Params → PySem.W.Frag} {CX : World → CXT} {sp : World → Sp} {x : Str} (hn : l.most = some n) (hn2 : n ≤ sizeLine) (hdf : d.params.defaults = []) (hr : Room k callerA) (hq : importsNone q = true)
    (hY : ∀ (w : World) (h : Heap), YP w h → (K w.params).In h) (F : ∀ (w : World) (mg : Str → Option Value) (fa : Addr) (h : Heap), (K w.params).In h → h.Ns mainGlobals mg → mg d.name = some (.ref fa) →
      ∃ fd : FuncData, (∀ (s : Shared) (u : Value), BindsTo s fd ⟨[u], []⟩ [(x, u)]) ∧ ∀ base : Heap, (K w.params).In base → base.Ns mainGlobals mg → (∃ o, base.get? sysModules = some o) → FnG l.prog w (K w.params) mg base (CX w) k fa fd [x] (sp w))
    (hsp : ∀ (w : World) (H : Hp) (a : Addr) (ns : List Int), ns.length ≤ n → Only H → SqL (K w.params) H a (ns.map V.int) → sp w [.ref a] H (fun v _ => v = .bl true) fun _ _ _ => False)
    (hCX : ∀ (w : World) (H : Hp) (s : Shared) (e : Value) (s' : Shared), CX w [] H s (fun _ _ _ => False) e s' → False) : PySem.W.WalkO q loose XP YP l.row.toRowW d [] (fun f vs => PySem.call f vs) :=
  Att.attach_call hn hdf fun w s₀ s₁ mg mb fa o pm cd doc a vs ns G Y ho hd hcd hmg hobj hints hlen hg => by
    obtain ⟨fd, hb, hF⟩ := F w mg fa _ (hY w _ Y) G.T.g hmg
    exact lawS (hY w _ Y) G.T.g G.T.b G.T.builtins G.T.nolimit hg (let ⟨m, hm, _⟩ := (G.T.seer hq).mods; ⟨m, hm⟩) hobj hints (Nat.le_trans hlen hn2) hr hF hb (fun H hO hS => hsp w H a ns hlen hO hS) fun H e s' => hCX w H s₁ e s'
end L2
end
section
/-! Z0: data without the heap: values as data, frames, what a reading gives in words of data alone -/
namespace Zl
open PySem PySem.Spec PyProof.Rows L2 Kb
/-! ### the part of the heap that is seen -/
def hid (O : List Addr) (H : Hp) : Hp := fun b => if b ∈ O then none else H b
/-- objects that never change: an exception's dict, a code object -/
def Fx : HO → Prop
  | .xd _ => True
  | .ext _ => True
  | _ => False
structure Le (H H' : Hp) : Prop where
  rd : ∀ a u, Rd H a u → Rd H' a u
  fx : ∀ a o, Fx o → H a = some o → H' a = some o
  ls : ∀ a xs, H a = some (.lst xs) → H' a = some (.lst xs)
theorem Le.refl (H : Hp) : Le H H := ⟨fun _ _ h => h, fun _ _ _ h => h, fun _ _ h => h⟩
theorem Le.trans {A B C : Hp} (x : Le A B) (y : Le B C) : Le A C := ⟨fun a u h => y.rd a u (x.rd a u h), fun a o f h => y.fx a o f (x.fx a o f h), fun a u h => y.ls a u (x.ls a u h)⟩
theorem Le.of_same {A B : Hp} (x : ∀ b o, A b = some o → B b = some o) : Le A B := ⟨fun a u h => by
  rcases h with h | ⟨o, h⟩
  · exact .inl (x _ _ h)
  · exact .inr ⟨o, x _ _ h⟩, fun a o _ h => x _ _ h, fun a u h => x _ _ h⟩
theorem hid_some {O : List Addr} {H : Hp} {b : Addr} {o : HO} : hid O H b = some o ↔ b ∉ O ∧ H b = some o := by
  unfold hid
  split
  · rename_i h
    exact ⟨fun e => (nomatch e), fun e => absurd h e.1⟩
  · rename_i h
    exact ⟨fun e => ⟨h, e⟩, fun e => e.2⟩
theorem hid_nil {H : Hp} : hid [] H = H := by
  funext b
  unfold hid
  simp
theorem Le.hid {O : List Addr} {H H' : Hp} (x : ∀ b o, b ∉ O → H b = some o → H' b = some o) : Le (hid O H) (hid O H') := Le.of_same fun b o e => by
  rw [hid_some] at e ⊢
  exact ⟨e.1, x b o e.1 e.2⟩
theorem Le.sub {O O' : List Addr} {H : Hp} (x : ∀ b, b ∈ O → b ∈ O') : Le (Zl.hid O' H) (Zl.hid O H) := Le.of_same fun b o e => by
  rw [hid_some] at e ⊢
  exact ⟨fun z => e.1 (x b z), e.2⟩
theorem Le.new {O : List Addr} {H : Hp} {p : Addr} {o : HO} (n : H p = none) : Le (Zl.hid O H) (Zl.hid O (upd H p o)) := Le.hid fun b u _ e => by
  rw [upd_ne (ne_of_none e n)]
  exact e
theorem Le.newO {O : List Addr} {H : Hp} {p : Addr} {o : HO} (n : H p = none) : Le (Zl.hid O H) (Zl.hid (p :: O) (upd H p o)) := Le.of_same fun b u e => by
  rw [hid_some] at e ⊢
  have h := ne_of_none e.2 n
  refine ⟨fun z => ?_, ?_⟩
  · rcases List.mem_cons.mp z with z | z
    · exact h z
    · exact e.1 z
  · rw [upd_ne h]
    exact e.2
theorem Le.own {O : List Addr} {H : Hp} {p : Addr} {o : HO} (n : p ∈ O) : Le (Zl.hid O H) (Zl.hid O (upd H p o)) := Le.hid fun b u h e => by
  rw [upd_ne (fun z => h (by rw [z]; exact n))]
  exact e
theorem Le.hid_self {O : List Addr} {H : Hp} : Le (Zl.hid O H) H := Le.of_same fun b o e => (hid_some.mp e).2
theorem Le.seqL {K : PySem.W.Frag} {H H' : Hp} {a : Addr} {xs : List V} (e : Le H H') (h : SqL K H a xs) : SqL K H' a xs := by
  rcases h with h | h
  · exact .inl (e.rd _ _ h)
  · exact .inr h
theorem Le.seqT {K : PySem.W.Frag} {H H' : Hp} {a : Addr} {xs : List V} (e : Le H H') (h : SqT K H a xs) : SqT K H' a xs := by
  rcases h with h | h
  · exact .inl (e.rd _ _ h)
  · exact .inr h
/-! ### data -/
def line : Nat := 2000000
def kD : Key → PyData
  | .inl i => .int i
  | .inr x => .str x
mutual
inductive Dz (K : PySem.W.Frag) (H : Hp) : V → PyData → Prop where
  | non : Dz K H .non .none
  | bl (b : Bool) : Dz K H (.bl b) (.bool b)
  | int (i : Int) : Dz K H (.int i) (.int i)
  | str (x : Str) : Dz K H (.str x) (.str x)
  | lst {p : Addr} {xs : List V} {ds : List PyData} (h : H p = some (.lst xs)) (a : DzAll K H xs ds) : Dz K H (.ref p) (.list ds)
  | tup {p : Addr} {xs : List V} {ds : List PyData} (h : SqT K H p xs) (a : DzAll K H xs ds) : Dz K H (.ref p) (.tuple ds)
  | dic {p : Addr} {kvs : List (Key × V)} {ds : List (PyData × PyData)} (h : Rd H p (.dK kvs)) (a : DzKvs K H kvs ds) : Dz K H (.ref p) (.dict ds)
inductive DzAll (K : PySem.W.Frag) (H : Hp) : List V → List PyData → Prop where
  | nil : DzAll K H [] []
  | cons {v : V} {d : PyData} {vs : List V} {ds : List PyData} (h : Dz K H v d) (t : DzAll K H vs ds) : DzAll K H (v :: vs) (d :: ds)
inductive DzKvs (K : PySem.W.Frag) (H : Hp) : List (Key × V) → List (PyData × PyData) → Prop where
  | nil : DzKvs K H [] []
  | cons {k : Key} {v : V} {d : PyData} {vs : List (Key × V)} {ds : List (PyData × PyData)} (h : Dz K H v d) (t : DzKvs K H vs ds) : DzKvs K H ((k, v) :: vs) ((kD k, d) :: ds)
end
mutual
theorem Dz.mono {K : PySem.W.Frag} {H H' : Hp} (s : Le H H') : ∀ {v : V} (d : PyData), Dz K H v d → Dz K H' v d
  | _, .none, h => by cases h; exact .non
  | _, .bool b, h => by cases h; exact .bl b
  | _, .int i, h => by cases h; exact .int i
  | _, .str x, h => by cases h; exact .str x
  | _, .list ds, h => by cases h with | lst a b => exact .lst (s.ls _ _ a) (Dz.monos s ds b)
  | _, .tuple ds, h => by cases h with | tup a b => exact .tup (s.seqT a) (Dz.monos s ds b)
  | _, .dict ds, h => by cases h with | dic a b => exact .dic (s.rd _ _ a) (Dz.monoK s ds b)
theorem Dz.monos {K : PySem.W.Frag} {H H' : Hp} (s : Le H H') : ∀ {vs : List V} (ds : List PyData), DzAll K H vs ds → DzAll K H' vs ds
  | _, [], h => by cases h; exact .nil
  | _, d :: ds, h => by cases h with | cons a b => exact .cons (Dz.mono s d a) (Dz.monos s ds b)
theorem Dz.monoK {K : PySem.W.Frag} {H H' : Hp} (s : Le H H') : ∀ {vs : List (Key × V)} (ds : List (PyData × PyData)), DzKvs K H vs ds → DzKvs K H' vs ds
  | _, [], h => by cases h; exact .nil
  | _, (_, d) :: ds, h => by cases h with | cons a b => exact .cons (Dz.mono s d a) (Dz.monoK s ds b)
end
theorem DzAll.len {K : PySem.W.Frag} {H : Hp} : ∀ {vs : List V} {ds : List PyData}, DzAll K H vs ds → vs.length = ds.length
  | _, _, .nil => rfl
  | _, _, .cons _ t => congrArg (· + 1) t.len
theorem DzAll.get {K : PySem.W.Frag} {H : Hp} : ∀ {vs : List V} {ds : List PyData} {i : Nat} {v : V}, DzAll K H vs ds → vs[i]? = some v → ∃ d, ds[i]? = some d ∧ Dz K H v d
  | _, _, _, _, .nil, e => by simp at e
  | _, _, 0, _, .cons h t, e => by simp at e; subst e; exact ⟨_, rfl, h⟩
  | _, _, i + 1, _, .cons h t, e => by
    obtain ⟨d, h1, h2⟩ := t.get (i := i) (by simpa using e)
    exact ⟨d, by simpa using h1, h2⟩
theorem DzAll.get' {K : PySem.W.Frag} {H : Hp} : ∀ {vs : List V} {ds : List PyData} {i : Nat} {d : PyData}, DzAll K H vs ds → ds[i]? = some d → ∃ v, vs[i]? = some v ∧ Dz K H v d
  | _, _, _, _, .nil, e => by simp at e
  | _, _, 0, _, .cons h t, e => by simp at e; subst e; exact ⟨_, rfl, h⟩
  | _, _, i + 1, _, .cons h t, e => by
    obtain ⟨d, h1, h2⟩ := t.get' (i := i) (by simpa using e)
    exact ⟨d, by simpa using h1, h2⟩
theorem DzAll.app {K : PySem.W.Frag} {H : Hp} : ∀ {vs : List V} {ds : List PyData} {us : List V} {es : List PyData}, DzAll K H vs ds → DzAll K H us es → DzAll K H (vs ++ us) (ds ++ es)
  | _, _, _, _, .nil, h => h
  | _, _, _, _, .cons h t, k => .cons h (t.app k)
theorem DzAll.take {K : PySem.W.Frag} {H : Hp} : ∀ (n : Nat) {vs : List V} {ds : List PyData}, DzAll K H vs ds → DzAll K H (vs.take n) (ds.take n)
  | 0, _, _, _ => .nil
  | n + 1, _, _, .nil => .nil
  | n + 1, _, _, .cons h t => .cons h (t.take n)
theorem DzAll.drop {K : PySem.W.Frag} {H : Hp} : ∀ (n : Nat) {vs : List V} {ds : List PyData}, DzAll K H vs ds → DzAll K H (vs.drop n) (ds.drop n)
  | 0, _, _, h => h
  | n + 1, _, _, .nil => .nil
  | n + 1, _, _, .cons _ t => t.drop n
theorem DzAll.rev {K : PySem.W.Frag} {H : Hp} : ∀ {vs : List V} {ds : List PyData}, DzAll K H vs ds → DzAll K H vs.reverse ds.reverse
  | _, _, .nil => .nil
  | _, _, .cons h t => by
    rw [List.reverse_cons, List.reverse_cons]
    exact t.rev.app (.cons h .nil)
/-! ### what a slot holds -/
/-- a lambda that was made: the data that it sees, where they stand, the function object, its code object and its name -/
structure Tag where
  ρ : List (Option PyData)
  σ : L2.St
  f : Addr
  c : Addr
  q : Str
inductive Z where
  | dat (d : PyData)
  | strm
  | own (ds : List PyData)
  | ownD (kvs : List (PyData × PyData))
  | scr (ns : List Int)
  | exc (a : Addr) (x : Str)
  | exf (a : Addr) (x : Str) (dd : Addr) (f : Str) (pd : PyData)
  | clo (t : Tag)
def Z.free : Z → Prop
  | .own _ => False
  | .ownD _ => False
  | _ => True
/-- a list or a dict of one's own -/
def Z.mine : Z → Prop
  | .own _ => True
  | .ownD _ => True
  | _ => False
theorem Z.free_mine {z : Z} (f : z.free) (m : z.mine) : False := by
  cases z with
  | own _ => exact f
  | ownD _ => exact f
  | _ => exact m
def Z.out : Z → Z
  | .own ds => .dat (.list ds)
  | .ownD kvs => .dat (.dict kvs)
  | z => z
abbrev Rho := List (Option Z)
structure Xc where
  n : Str
  pay : Option (Str × PyData)
/-- the tables of code objects that a text may write, with the name of what they tell -/
class Tabd where
  T : List (Addr × Str)
variable [Tabd]
def tabs : List Addr := Tabd.T.map (·.1)
theorem tabs_mem {p : Addr × Str} (h : p ∈ Tabd.T) : p.1 ∈ tabs := List.mem_map.mpr ⟨p, h, rfl⟩
/-- the tables' codes are known, none of them is hidden -/
def TabG (O : List Addr) (H : Hp) : Prop := ∀ p ∈ Tabd.T, ∃ ps : Array Value, H p.1 = some (.tbl ps) ∧ TriplesOk ps.toList ∧ ∀ (pos : Pos) (cv : Value), codeAmong pos ps.toList = some cv → ∃ c, cv = .ref c ∧ hid O H c = some (LamX.CodeO c p.2)
theorem TabG.mono {O O' : List Addr} {H H' : Hp} (h : TabG O H) (t : ∀ p ∈ Tabd.T, ∀ ps, H p.1 = some (.tbl ps) → H' p.1 = some (.tbl ps)) (l : ∀ c o, hid O H c = some o → hid O' H' c = some o) : TabG O' H' := fun p hp => by
  obtain ⟨ps, e, ok, k⟩ := h p hp
  refine ⟨ps, t p hp ps e, ok, fun pos cv hc => ?_⟩
  obtain ⟨c, rfl, hh⟩ := k pos cv hc
  exact ⟨c, rfl, l _ _ hh⟩
theorem TabG.sub {O O' : List Addr} {H : Hp} (h : TabG O' H) (s : ∀ b, b ∈ O → b ∈ O') : TabG O H := h.mono (fun _ _ _ e => e) fun c o e => by
  rw [hid_some] at e ⊢
  exact ⟨fun z => e.1 (s c z), e.2⟩
theorem TabG.new {O : List Addr} {H : Hp} {p : Addr} {o : HO} (h : TabG O H) (n : H p = none) : TabG O (upd H p o) := h.mono (fun _ _ _ e => by rw [upd_ne (ne_of_none e n)]; exact e) fun c u e => by
  rw [hid_some] at e ⊢
  exact ⟨e.1, by rw [upd_ne (ne_of_none e.2 n)]; exact e.2⟩
/-- a hidden object that is no table is written -/
theorem TabG.own {O : List Addr} {H : Hp} {p : Addr} {o : HO} (h : TabG O H) (n : p ∈ O) (t : p ∉ tabs) : TabG O (upd H p o) := h.mono (fun q hq _ e => by rw [upd_ne (fun z => t (by rw [← z]; exact tabs_mem hq))]; exact e) fun c u e => by
  rw [hid_some] at e ⊢
  exact ⟨e.1, by rw [upd_ne (fun z => e.1 (by rw [z]; exact n))]; exact e.2⟩
theorem TabG.keep {O : List Addr} {H H' : Hp} (h : TabG O H) (k : ∀ b o, H b = some o → H' b = some o) : TabG O H' := h.mono (fun _ _ _ e => k _ _ e) fun c u e => by
  rw [hid_some] at e ⊢
  exact ⟨e.1, k _ _ e.2⟩
/-- an object that is no code object is hidden -/
def Nf (H : Hp) (p : Addr) : Prop := ∃ o, H p = some o ∧ ¬ Fx o
theorem Nf.some {H : Hp} {p : Addr} (h : Nf H p) : H p ≠ none := by
  obtain ⟨o, e, _⟩ := h
  rw [e]
  exact fun q => nomatch q
theorem TabG.hide {O : List Addr} {H : Hp} {p : Addr} (h : TabG O H) (n : Nf H p) : TabG (p :: O) H := fun q hq => by
  obtain ⟨ps, e, ok, k⟩ := h q hq
  refine ⟨ps, e, ok, fun pos cv hc => ?_⟩
  obtain ⟨c, rfl, hh⟩ := k pos cv hc
  rw [hid_some] at hh
  refine ⟨c, rfl, hid_some.mpr ⟨fun z => ?_, hh.2⟩⟩
  rcases List.mem_cons.mp z with z | z
  · obtain ⟨o, e2, f⟩ := n
    rw [z, e2] at hh
    cases hh.2
    exact f trivial
  · exact hh.1 z
/-- the streams, what is hidden, what this frame may write -/
structure Fr where
  S : List Addr
  O : List Addr
  N : List Addr
structure Good (F : Fr) (H : Hp) : Prop where
  so : ∀ a ∈ F.S, a ∈ F.O
  no : ∀ a ∈ F.N, a ∈ F.O
  ns : ∀ a ∈ F.N, a ∉ F.S
  st : ∀ a ∈ F.S, a ∉ tabs → StOk H a
  ex : ∀ a ∈ F.O, H a ≠ none
  tS : ∀ a ∈ tabs, a ∈ F.S
  tb : TabG F.O H
theorem _root_.Kb.StOk.some {H : Hp} {a : Addr} (h : StOk H a) : H a ≠ none := by
  obtain ⟨x, y, z, e⟩ := h
  rw [e]
  exact fun q => nomatch q
theorem _root_.Kb.StOk.same {H H' : Hp} {a : Addr} (h : StOk H a) (e : H' a = H a) : StOk H' a := by
  obtain ⟨x, y, z, q⟩ := h
  exact ⟨x, y, z, by rw [e]; exact q⟩
theorem TabG.some {O : List Addr} {H : Hp} (h : TabG O H) {a : Addr} (t : a ∈ tabs) : H a ≠ none := by
  obtain ⟨p, hp, rfl⟩ := List.mem_map.mp t
  obtain ⟨ps, e, _⟩ := h p hp
  rw [e]
  exact fun q => nomatch q
theorem Good.some {F : Fr} {H : Hp} (g : Good F H) {a : Addr} (h : a ∈ F.S) : H a ≠ none := by
  by_cases t : a ∈ tabs
  · exact g.tb.some t
  · exact (g.st a h t).some
def RZ (K : PySem.W.Frag) (F : Fr) (H : Hp) : Z → V → Prop
  | .dat d, v => Dz K (hid F.O H) v d
  | .strm, v => ∃ a, a ∈ F.S ∧ a ∉ tabs ∧ v = .ref a
  | .own ds, v => ∃ l xs, v = .ref l ∧ l ∈ F.N ∧ H l = some (.lst xs) ∧ DzAll K (hid F.O H) xs ds
  | .ownD kvs, v => ∃ l xs, v = .ref l ∧ l ∈ F.N ∧ H l = some (.dK xs) ∧ DzKvs K (hid F.O H) xs kvs
  | .scr ns, v => ∃ a, v = .ref a ∧ SqL K (hid F.O H) a (ns.map V.int)
  | .exc a _, v => v = .ref a
  | .exf a _ dd f pd, v => v = .ref a ∧ ∃ u, hid F.O H dd = some (.xd [(f, u)]) ∧ Dz K (hid F.O H) u pd
  | .clo t, v => v = .ref t.f ∧ t.ρ.length = t.σ.length ∧ (∀ (i : Nat) d, t.ρ[i]? = some (some d) → ∃ u, t.σ[i]? = some (some u) ∧ Dz K (hid F.O H) u d) ∧ hid F.O H t.c = some (LamX.CodeO t.c t.q)
theorem RZ.le_exf {K : PySem.W.Frag} {F F' : Fr} {H H' : Hp} {a dd : Addr} {x f : Str} {pd : PyData} {v : V} (l : Le (hid F.O H) (hid F'.O H')) (h : RZ K F H (.exf a x dd f pd) v) : RZ K F' H' (.exf a x dd f pd) v := by
  obtain ⟨e, u, h1, h2⟩ := h
  exact ⟨e, u, l.fx _ _ trivial h1, Dz.mono l _ h2⟩
theorem RZ.le_clo {K : PySem.W.Frag} {F F' : Fr} {H H' : Hp} {t : Tag} {v : V} (l : Le (hid F.O H) (hid F'.O H')) (h : RZ K F H (.clo t) v) : RZ K F' H' (.clo t) v := by
  obtain ⟨e, n, h1, h2⟩ := h
  refine ⟨e, n, fun i d hd => ?_, l.fx _ _ trivial h2⟩
  obtain ⟨u, q1, q2⟩ := h1 i d hd
  exact ⟨u, q1, Dz.mono l _ q2⟩
inductive RZs (K : PySem.W.Frag) (F : Fr) (H : Hp) : List Z → List V → Prop where
  | nil : RZs K F H [] []
  | cons {z : Z} {v : V} {zs : List Z} {vs : List V} (h : RZ K F H z v) (t : RZs K F H zs vs) : RZs K F H (z :: zs) (v :: vs)
structure En (K : PySem.W.Frag) (F : Fr) (H : Hp) (ρ : Rho) (σ : L2.St) : Prop where
  at_ : ∀ (i : Nat) z, ρ[i]? = some (some z) → ∃ v, σ[i]? = some (some v) ∧ RZ K F H z v
  df : ∀ (i j : Nat) z1 z2 v, i ≠ j → ρ[i]? = some (some z1) → ρ[j]? = some (some z2) → σ[i]? = some (some v) → σ[j]? = some (some v) → z1.mine → z2.mine → False
  len : ρ.length = σ.length
def RX (K : PySem.W.Frag) (F : Fr) (H : Hp) (x : Xc) (C : Value) (d : Option Addr) : Prop :=
  C = .ref (clsAt K x.n) ∧ match x.pay with
    | none => d = none
    | some (f, pd) => ∃ dd v, d = some dd ∧ hid F.O H dd = some (.xd [(f, v)]) ∧ Dz K (hid F.O H) v pd
/-- what a call may do: all but the streams stands -/
structure Rel (S O : List Addr) (H H' : Hp) : Prop where
  kp : ∀ b o, b ∉ S → H b = some o → H' b = some o
  st : ∀ a ∈ S, a ∉ tabs → StOk H a → StOk H' a
  tb : TabG O H → TabG O H'
theorem Rel.refl (S O : List Addr) (H : Hp) : Rel S O H H := ⟨fun _ _ _ e => e, fun _ _ _ h => h, id⟩
theorem Rel.trans {S O : List Addr} {A B C : Hp} (x : Rel S O A B) (y : Rel S O B C) : Rel S O A C := ⟨fun b o n e => y.kp b o n (x.kp b o n e), fun a h t e => y.st a h t (x.st a h t e), fun h => y.tb (x.tb h)⟩
theorem Rel.new {S O : List Addr} {H : Hp} {p : Addr} {o : HO} (n : H p = none) : Rel S O H (upd H p o) :=
  ⟨fun b u _ e => by rw [upd_ne (ne_of_none e n)]; exact e, fun a _ _ e => e.new n, fun h => h.new n⟩
/-- an object that was hidden is shown -/
theorem Rel.unhide {S O : List Addr} {H H' : Hp} {D : Addr} (r : Rel S (D :: O) H H') (n : Nf H D) : Rel S O H H' := ⟨r.kp, r.st, fun h => (r.tb (h.hide n)).sub fun _ hb => List.mem_cons_of_mem _ hb⟩
theorem TabG.hideN {O : List Addr} {H : Hp} {p : Addr} (h : TabG O H) (n : H p = none) : TabG (p :: O) H := h.mono (fun _ _ _ e => e) fun c o e => by
  rw [hid_some] at e ⊢
  refine ⟨fun z => ?_, e.2⟩
  rcases List.mem_cons.mp z with z | z
  · rw [z, n] at e
    cases e.2
  · exact e.1 z
theorem Rel.unhideN {S O : List Addr} {H H' : Hp} {D : Addr} (r : Rel S (D :: O) H H') (n : H D = none) : Rel S O H H' := ⟨r.kp, r.st, fun h => (r.tb (h.hideN n)).sub fun _ hb => List.mem_cons_of_mem _ hb⟩
/-- nothing is lost -/
theorem Rel.keep {S O : List Addr} {H H' : Hp} (k : ∀ b o, H b = some o → H' b = some o) : Rel S O H H' := ⟨fun b o _ e => k b o e, fun a _ _ ⟨x, y, z, e⟩ => ⟨x, y, z, k _ _ e⟩, fun h => h.keep k⟩
/-- all but the streams stands, and the frame is good -/
theorem Rel.good {S O : List Addr} {F : Fr} {H H' : Hp} (kp : ∀ b o, b ∉ S → H b = some o → H' b = some o) (g : Good F H') (s : ∀ a ∈ S, a ∈ F.S) (o : ∀ a ∈ O, a ∈ F.O) : Rel S O H H' := ⟨kp, fun a h t _ => g.st a (s a h) t, fun _ => g.tb.sub o⟩
theorem Good.rel {F : Fr} {H H' : Hp} (g : Good F H) (r : Rel F.S F.O H H') : Good F H' :=
  ⟨g.so, g.no, g.ns, fun a h t => r.st a h t (g.st a h t), fun a h => by
    by_cases n : a ∈ F.S
    · by_cases t : a ∈ tabs
      · exact (r.tb g.tb).some t
      · exact (r.st a n t (g.st a n t)).some
    · cases e : H a with
      | none => exact absurd e (g.ex a h)
      | some o =>
        rw [r.kp a o n e]
        exact (fun q => (nomatch q)), g.tS, r.tb g.tb⟩
theorem Good.le {F : Fr} {H H' : Hp} (g : Good F H) (r : Rel F.S F.O H H') : Le (hid F.O H) (hid F.O H') := Le.hid fun b o n e => r.kp b o (fun z => n (g.so b z)) e
theorem RZ.rel {K : PySem.W.Frag} {F : Fr} {H H' : Hp} (g : Good F H) (r : Rel F.S F.O H H') : ∀ {z : Z} {v : V}, RZ K F H z v → RZ K F H' z v
  | .dat d, _, h => Dz.mono (g.le r) d h
  | .strm, _, h => h
  | .own ds, _, ⟨l, xs, e1, e2, e3, e4⟩ => ⟨l, xs, e1, e2, r.kp l _ (g.ns l e2) e3, Dz.monos (g.le r) ds e4⟩
  | .ownD ds, _, ⟨l, xs, e1, e2, e3, e4⟩ => ⟨l, xs, e1, e2, r.kp l _ (g.ns l e2) e3, Dz.monoK (g.le r) ds e4⟩
  | .scr ns, _, ⟨a, e1, e2⟩ => ⟨a, e1, (g.le r).seqL e2⟩
  | .exc _ _, _, h => h
  | .exf _ _ _ _ _, _, h => RZ.le_exf (g.le r) h
  | .clo _, _, h => RZ.le_clo (g.le r) h
theorem RZs.rel {K : PySem.W.Frag} {F : Fr} {H H' : Hp} (g : Good F H) (r : Rel F.S F.O H H') : ∀ {zs : List Z} {vs : List V}, RZs K F H zs vs → RZs K F H' zs vs
  | _, _, .nil => .nil
  | _, _, .cons h t => .cons (h.rel g r) (t.rel g r)
theorem En.rel {K : PySem.W.Frag} {F : Fr} {H H' : Hp} {ρ : Rho} {σ : L2.St} (g : Good F H) (r : Rel F.S F.O H H') (e : En K F H ρ σ) : En K F H' ρ σ :=
  ⟨fun i z h => by
    obtain ⟨v, h1, h2⟩ := e.at_ i z h
    exact ⟨v, h1, h2.rel g r⟩, e.df, e.len⟩
theorem RZs.len {K : PySem.W.Frag} {F : Fr} {H : Hp} : ∀ {zs : List Z} {vs : List V}, RZs K F H zs vs → zs.length = vs.length
  | _, _, .nil => rfl
  | _, _, .cons _ t => congrArg (· + 1) t.len
/-! ### readings in words of data -/
abbrev ZE := Rho → (Z → Prop) → (Xc → Prop) → Prop
abbrev ZT := Rho → (Bool → Prop) → (Xc → Prop) → Prop
abbrev ZA := Rho → (List Z → Prop) → (Xc → Prop) → Prop
def Tr (K : PySem.W.Frag) (W : WX) (te : TE) (z : ZE) : Prop := ∀ (F : Fr) (ρ : Rho) (σ : L2.St) (H : Hp) (Qz : Z → Prop) (Ez : Xc → Prop) (Q : VK), Good F H → En K F H ρ σ → z ρ Qz Ez →
  (∀ r v H', Rel F.S F.O H H' → RZ K F H' r v → Qz r → Q v H') → (∀ x C d H', Rel F.S F.O H H' → RX K F H' x C d → Ez x → W C d σ H') → te σ H Q
def TrT (K : PySem.W.Frag) (W : WX) (te : TT) (z : ZT) : Prop := ∀ (F : Fr) (ρ : Rho) (σ : L2.St) (H : Hp) (Qz : Bool → Prop) (Ez : Xc → Prop) (Q : Bool → Hp → Prop), Good F H → En K F H ρ σ → z ρ Qz Ez →
  (∀ r H', Rel F.S F.O H H' → Qz r → Q r H') → (∀ x C d H', Rel F.S F.O H H' → RX K F H' x C d → Ez x → W C d σ H') → te σ H Q
def TrA (K : PySem.W.Frag) (W : WX) (te : TA) (z : ZA) : Prop := ∀ (F : Fr) (ρ : Rho) (σ : L2.St) (H : Hp) (Qz : List Z → Prop) (Ez : Xc → Prop) (Q : List V → Hp → Prop), Good F H → En K F H ρ σ → z ρ Qz Ez →
  (∀ r v H', Rel F.S F.O H H' → RZs K F H' r v → Qz r → Q v H') → (∀ x C d H', Rel F.S F.O H H' → RX K F H' x C d → Ez x → W C d σ H') → te σ H Q
/-! ### names, constants -/
def zVar (i : Nat) : ZE := fun ρ Q _ => ∃ z, ρ[i]? = some (some z) ∧ Q z
def zC (d : PyData) : ZE := fun _ Q _ => Q (.dat d)
variable {K : PySem.W.Frag} {W : WX}
theorem tr_var {i : Nat} : Tr K W (tVar i) (zVar i) := fun F ρ σ H Qz Ez Q g e h q x => by
  obtain ⟨z, h1, h2⟩ := h
  obtain ⟨v, e1, e2⟩ := e.at_ i z h1
  exact ⟨v, e1, q z v H (.refl _ _ _) e2 h2⟩
theorem tr_int {i : Int} : Tr K W (tC (.int i)) (zC (.int i)) := fun F ρ σ H Qz Ez Q g e h q x => q (.dat (.int i)) _ H (.refl _ _ _) (Dz.int i) h
theorem tr_bl {b : Bool} : Tr K W (tC (.bl b)) (zC (.bool b)) := fun F ρ σ H Qz Ez Q g e h q x => q (.dat (.bool b)) _ H (.refl _ _ _) (Dz.bl b) h
theorem tr_non : Tr K W (tC .non) (zC .none) := fun F ρ σ H Qz Ez Q g e h q x => q (.dat .none) _ H (.refl _ _ _) Dz.non h
theorem tr_str {x : Str} : Tr K W (tC (.str x)) (zC (.str x)) := fun F ρ σ H Qz Ez Q g e h q _ => q (.dat (.str x)) _ H (.refl _ _ _) (Dz.str x) h
/-! ### one after another -/
def zNil : ZA := fun _ Q _ => Q []
def zCons (a : ZE) (b : ZA) : ZA := fun ρ Q E => a ρ (fun x => b ρ (fun xs => Q (x :: xs)) E) E
theorem tr_nil : TrA K W tNil zNil := fun F ρ σ H Qz Ez Q g e h q x => q [] [] H (.refl _ _ _) .nil h
theorem tr_cons {ta : TE} {tr : TA} {za : ZE} {zr : ZA} (ha : Tr K W ta za) (hr : TrA K W tr zr) : TrA K W (tCons ta tr) (zCons za zr) := fun F ρ σ H Qz Ez Q g e h q x => by
  refine ha F ρ σ H _ Ez _ g e h (fun r v H1 r1 d1 h1 => ?_) x
  refine hr F ρ σ H1 _ Ez _ (g.rel r1) (e.rel g r1) h1 (fun rs vs H2 r2 d2 h2 => ?_) fun x' C d H2 r2 hx => x x' C d H2 (r1.trans r2) hx
  exact q _ _ H2 (r1.trans r2) (.cons (d1.rel (g.rel r1) r2) d2) h2
/-- two values -/
def zTwo (k : Z → Z → (Z → Prop) → Prop) (a b : ZE) : ZE := fun ρ Q E => a ρ (fun x => b ρ (fun y => k x y Q) E) E
/-- an operation's reading in words of data: no exception, nothing written -/
def OpZ (K : PySem.W.Frag) (r : R2) (k : Z → Z → (Z → Prop) → Prop) : Prop := ∀ (F : Fr) (H : Hp) (x y : V) (a b : Z) (Qz : Z → Prop) (Q : VK), Good F H → RZ K F H a x → RZ K F H b y → k a b Qz →
  (∀ c v H', Rel F.S F.O H H' → RZ K F H' c v → Qz c → Q v H') → r x y H Q
theorem tr_op {r : R2} {k : Z → Z → (Z → Prop) → Prop} {ta tb : TE} {za zb : ZE} (ho : OpZ K r k) (ha : Tr K W ta za) (hb : Tr K W tb zb) : Tr K W (tOp r ta tb) (zTwo k za zb) := fun F ρ σ H Qz Ez Q g e h q x => by
  refine ha F ρ σ H _ Ez _ g e h (fun r v H1 r1 d1 h1 => ?_) x
  refine hb F ρ σ H1 _ Ez _ (g.rel r1) (e.rel g r1) h1 (fun rs vs H2 r2 d2 h2 => ?_) fun x' C d H2 r2 hx => x x' C d H2 (r1.trans r2) hx
  have r12 := r1.trans r2
  exact ho F H2 v vs r rs Qz Q (g.rel r12) (d1.rel (g.rel r1) r2) d2 h2 fun c u H3 r3 d3 h3 => q c u H3 (r12.trans r3) d3 h3
/-- one value -/
def zOne (k : Z → (Z → Prop) → Prop) (a : ZE) : ZE := fun ρ Q E => a ρ (fun x => k x Q) E
def UnZ (K : PySem.W.Frag) (r : V → Hp → VK → Prop) (k : Z → (Z → Prop) → Prop) : Prop := ∀ (F : Fr) (H : Hp) (x : V) (a : Z) (Qz : Z → Prop) (Q : VK), Good F H → RZ K F H a x → k a Qz →
  (∀ c v H', Rel F.S F.O H H' → RZ K F H' c v → Qz c → Q v H') → r x H Q
theorem tr_un {r : V → Hp → VK → Prop} {k : Z → (Z → Prop) → Prop} {ta : TE} {za : ZE} (ho : UnZ K r k) (ha : Tr K W ta za) : Tr K W (tUn r ta) (zOne k za) := fun F ρ σ H Qz Ez Q g e h q x => by
  refine ha F ρ σ H _ Ez _ g e h (fun r v H1 r1 d1 h1 => ?_) x
  exact ho F H1 v r Qz Q (g.rel r1) d1 h1 fun c u H3 r3 d3 h3 => q c u H3 (r1.trans r3) d3 h3
/-- a call of a built-in with values -/
def CaZ (K : PySem.W.Frag) (r : List V → Hp → VK → Prop) (k : List Z → (Z → Prop) → Prop) : Prop := ∀ (F : Fr) (H : Hp) (xs : List V) (as : List Z) (Qz : Z → Prop) (Q : VK), Good F H → RZs K F H as xs → k as Qz →
  (∀ c v H', Rel F.S F.O H H' → RZ K F H' c v → Qz c → Q v H') → r xs H Q
def zCB (k : List Z → (Z → Prop) → Prop) (a : ZA) : ZE := fun ρ Q E => a ρ (fun xs => k xs Q) E
theorem tr_cb {r : List V → Hp → VK → Prop} {k : List Z → (Z → Prop) → Prop} {ta : TA} {za : ZA} (ho : CaZ K r k) (ha : TrA K W ta za) : Tr K W (tCB r ta) (zCB k za) := fun F ρ σ H Qz Ez Q g e h q x => by
  refine ha F ρ σ H _ Ez _ g e h (fun r v H1 r1 d1 h1 => ?_) x
  exact ho F H1 v r Qz Q (g.rel r1) d1 h1 fun c u H3 r3 d3 h3 => q c u H3 (r1.trans r3) d3 h3
/-! ### tests -/
def zB (a : ZE) : ZT := fun ρ Q E => a ρ (fun z => ∃ b, z = .dat (.bool b) ∧ Q b) E
theorem tr_b {te : TE} {z : ZE} (h : Tr K W te z) : TrT K W (tB te) (zB z) := fun F ρ σ H Qz Ez Q g e hz q x => by
  refine h F ρ σ H _ Ez _ g e hz (fun r v H1 r1 d1 h1 => ?_) x
  obtain ⟨b, rfl, h1⟩ := h1
  cases (show Dz K _ v (.bool b) from d1)
  exact ⟨b, rfl, q b H1 r1 h1⟩
def zAnd (a b : ZT) : ZT := fun ρ Q E => a ρ (fun c => if c = true then b ρ Q E else Q false) E
def zOr (a b : ZT) : ZT := fun ρ Q E => a ρ (fun c => if c = true then Q true else b ρ Q E) E
def zNot (a : ZT) : ZT := fun ρ Q E => a ρ (fun c => Q (!c)) E
theorem tr_and {ta tb : TT} {za zb : ZT} (ha : TrT K W ta za) (hb : TrT K W tb zb) : TrT K W (tAnd ta tb) (zAnd za zb) := fun F ρ σ H Qz Ez Q g e hz q x => by
  refine ha F ρ σ H _ Ez _ g e hz (fun r H1 r1 h1 => ?_) x
  cases r with
  | true => exact hb F ρ σ H1 _ Ez _ (g.rel r1) (e.rel g r1) h1 (fun r2 H2 s2 h2 => q r2 H2 (r1.trans s2) h2) fun x' C d H2 r2 hx => x x' C d H2 (r1.trans r2) hx
  | false => exact q false H1 r1 h1
theorem tr_or {ta tb : TT} {za zb : ZT} (ha : TrT K W ta za) (hb : TrT K W tb zb) : TrT K W (tOr ta tb) (zOr za zb) := fun F ρ σ H Qz Ez Q g e hz q x => by
  refine ha F ρ σ H _ Ez _ g e hz (fun r H1 r1 h1 => ?_) x
  cases r with
  | false => exact hb F ρ σ H1 _ Ez _ (g.rel r1) (e.rel g r1) h1 (fun r2 H2 s2 h2 => q r2 H2 (r1.trans s2) h2) fun x' C d H2 r2 hx => x x' C d H2 (r1.trans r2) hx
  | true => exact q true H1 r1 h1
theorem tr_not {ta : TT} {za : ZT} (ha : TrT K W ta za) : TrT K W (tNot ta) (zNot za) := fun F ρ σ H Qz Ez Q g e hz q x =>
  ha F ρ σ H _ Ez _ g e hz (fun r H1 r1 h1 => q (!r) H1 r1 h1) x
def zYes : ZT := fun _ Q _ => Q true
theorem tr_yes : TrT K W tYes zYes := fun F ρ σ H Qz Ez Q g e hz q x => q true H (.refl _ _ _) hz
/-- and, or, not as values -/
def zAndV (a b : ZE) : ZE := fun ρ Q E => a ρ (fun z => ∃ c, z = .dat (.bool c) ∧ if c = true then b ρ Q E else Q (.dat (.bool false))) E
def zOrV (a b : ZE) : ZE := fun ρ Q E => a ρ (fun z => ∃ c, z = .dat (.bool c) ∧ if c = true then Q (.dat (.bool true)) else b ρ Q E) E
def zNotV (a : ZE) : ZE := fun ρ Q E => a ρ (fun z => ∃ c, z = .dat (.bool c) ∧ Q (.dat (.bool (!c)))) E
theorem tr_andV {ta tb : TE} {za zb : ZE} (ha : Tr K W ta za) (hb : Tr K W tb zb) : Tr K W (tAndV ta tb) (zAndV za zb) := fun F ρ σ H Qz Ez Q g e hz q x => by
  refine ha F ρ σ H _ Ez _ g e hz (fun r v H1 r1 d1 h1 => ?_) x
  obtain ⟨c, rfl, h1⟩ := h1
  cases (show Dz K _ v (.bool c) from d1)
  refine ⟨c, rfl, ?_⟩
  cases c with
  | true => exact hb F ρ σ H1 _ Ez _ (g.rel r1) (e.rel g r1) h1 (fun r2 v2 H2 s2 d2 h2 => q r2 v2 H2 (r1.trans s2) d2 h2) fun x' C d H2 r2 hx => x x' C d H2 (r1.trans r2) hx
  | false => exact q (.dat (.bool false)) _ H1 r1 (Dz.bl false) h1
theorem tr_orV {ta tb : TE} {za zb : ZE} (ha : Tr K W ta za) (hb : Tr K W tb zb) : Tr K W (tOrV ta tb) (zOrV za zb) := fun F ρ σ H Qz Ez Q g e hz q x => by
  refine ha F ρ σ H _ Ez _ g e hz (fun r v H1 r1 d1 h1 => ?_) x
  obtain ⟨c, rfl, h1⟩ := h1
  cases (show Dz K _ v (.bool c) from d1)
  refine ⟨c, rfl, ?_⟩
  cases c with
  | false => exact hb F ρ σ H1 _ Ez _ (g.rel r1) (e.rel g r1) h1 (fun r2 v2 H2 s2 d2 h2 => q r2 v2 H2 (r1.trans s2) d2 h2) fun x' C d H2 r2 hx => x x' C d H2 (r1.trans r2) hx
  | true => exact q (.dat (.bool true)) _ H1 r1 (Dz.bl true) h1
theorem tr_notV {ta : TE} {za : ZE} (ha : Tr K W ta za) : Tr K W (tNotV ta) (zNotV za) := fun F ρ σ H Qz Ez Q g e hz q x => by
  refine ha F ρ σ H _ Ez _ g e hz (fun r v H1 r1 d1 h1 => ?_) x
  obtain ⟨c, rfl, h1⟩ := h1
  cases (show Dz K _ v (.bool c) from d1)
  exact ⟨c, rfl, q (.dat (.bool _)) _ H1 r1 (Dz.bl _) h1⟩
def zIf (c : ZT) (a b : ZE) : ZE := fun ρ Q E => c ρ (fun k => if k = true then a ρ Q E else b ρ Q E) E
theorem tr_if {tc : TT} {ta tb : TE} {zc : ZT} {za zb : ZE} (hc : TrT K W tc zc) (ha : Tr K W ta za) (hb : Tr K W tb zb) : Tr K W (tIf tc ta tb) (zIf zc za zb) := fun F ρ σ H Qz Ez Q g e hz q x => by
  refine hc F ρ σ H _ Ez _ g e hz (fun r H1 r1 h1 => ?_) x
  cases r with
  | true => exact ha F ρ σ H1 _ Ez _ (g.rel r1) (e.rel g r1) h1 (fun r2 v2 H2 s2 d2 h2 => q r2 v2 H2 (r1.trans s2) d2 h2) fun x' C d H2 r2 hx => x x' C d H2 (r1.trans r2) hx
  | false => exact hb F ρ σ H1 _ Ez _ (g.rel r1) (e.rel g r1) h1 (fun r2 v2 H2 s2 d2 h2 => q r2 v2 H2 (r1.trans s2) d2 h2) fun x' C d H2 r2 hx => x x' C d H2 (r1.trans r2) hx
/-! ### displays -/
/-- only data -/
def dats : List Z → Option (List PyData)
  | [] => some []
  | .dat d :: r => (dats r).map (d :: ·)
  | _ :: _ => none
theorem RZs.dats {F : Fr} {H : Hp} : ∀ {zs : List Z} {vs : List V} {ds : List PyData}, RZs K F H zs vs → Zl.dats zs = some ds → DzAll K (hid F.O H) vs ds
  | _, _, _, .nil, e => by cases e; exact .nil
  | .dat d :: zs, _, ds, .cons h t, e => by
    have e' : (Zl.dats zs).map (d :: ·) = some ds := e
    cases q : Zl.dats zs with
    | none => rw [q] at e'; cases e'
    | some es => rw [q] at e'; cases e'; exact .cons h (t.dats q)
  | .strm :: _, _, _, .cons h t, e => nomatch e
  | .own _ :: _, _, _, .cons h t, e => nomatch e
  | .ownD _ :: _, _, _, .cons h t, e => nomatch e
  | .scr _ :: _, _, _, .cons h t, e => nomatch e
  | .exc _ _ :: _, _, _, .cons h t, e => nomatch e
  | .exf _ _ _ _ _ :: _, _, _, .cons h t, e => nomatch e
  | .clo _ :: _, _, _, .cons h t, e => nomatch e
def zTup (a : ZA) : ZE := fun ρ Q E => a ρ (fun zs => ∃ ds, dats zs = some ds ∧ ds.length ≤ line ∧ Q (.dat (.tuple ds))) E
def zLst (a : ZA) : ZE := fun ρ Q E => a ρ (fun zs => ∃ ds, dats zs = some ds ∧ ds.length ≤ line ∧ Q (.dat (.list ds))) E
theorem line_le {n : Nat} (h : n ≤ line) : n ≤ sizeLine := Nat.le_trans h (by decide)
theorem dz_newT {F : Fr} {H : Hp} {p : Addr} {vs : List V} {ds : List PyData} (g : Good F H) (n : H p = none) (h : DzAll K (hid F.O H) vs ds) : Dz K (hid F.O (upd H p (.tup vs))) (.ref p) (.tuple ds) :=
  .tup (.inl (.inl (hid_some.mpr ⟨fun z => g.ex p z n, upd_same⟩))) (Dz.monos (Le.new n) ds h)
theorem dz_newL {F : Fr} {H : Hp} {p : Addr} {vs : List V} {ds : List PyData} (g : Good F H) (n : H p = none) (h : DzAll K (hid F.O H) vs ds) : Dz K (hid F.O (upd H p (.lst vs))) (.ref p) (.list ds) :=
  .lst (hid_some.mpr ⟨fun z => g.ex p z n, upd_same⟩) (Dz.monos (Le.new n) ds h)
theorem tr_tup {ta : TA} {za : ZA} (ha : TrA K W ta za) : Tr K W (tTup ta) (zTup za) := fun F ρ σ H Qz Ez Q g e hz q x => by
  refine ha F ρ σ H _ Ez _ g e hz (fun r v H1 r1 d1 h1 => ?_) x
  obtain ⟨ds, h1, h2, h3⟩ := h1
  have hd := d1.dats h1
  refine ⟨line_le (by rw [hd.len]; exact h2), fun p np => ?_⟩
  exact q (.dat (.tuple ds)) _ _ (r1.trans (.new np)) (dz_newT (g.rel r1) np hd) h3
theorem tr_lst {ta : TA} {za : ZA} (ha : TrA K W ta za) : Tr K W (tLst ta) (zLst za) := fun F ρ σ H Qz Ez Q g e hz q x => by
  refine ha F ρ σ H _ Ez _ g e hz (fun r v H1 r1 d1 h1 => ?_) x
  obtain ⟨ds, h1, h2, h3⟩ := h1
  have hd := d1.dats h1
  refine ⟨line_le (by rw [hd.len]; exact h2), fun p np => ?_⟩
  exact q (.dat (.list ds)) _ _ (r1.trans (.new np)) (dz_newL (g.rel r1) np hd) h3
/-! ### calls -/
abbrev ZF := List Z → (Z → Prop) → (Xc → Prop) → Prop
/-- the promise of a def in words of data -/
def spZ (K : PySem.W.Frag) (n : Nat) (f : ZF) : Sp := fun vs H Q E => ∃ (F : Fr) (zs : List Z) (Qz : Z → Prop) (Ez : Xc → Prop), zs.length = n ∧ F.N = [] ∧ Good F H ∧ RZs K F H zs vs ∧ f zs Qz Ez ∧
  (∀ r v H', Rel F.S F.O H H' → RZ K F H' r v → Qz r → Q v H') ∧ (∀ x C d H', Rel F.S F.O H H' → RX K F H' x C d → Ez x → E C d H')
theorem spZ_len {n : Nat} {f : ZF} {ps : List Str} (h : ps.length = n) : ∀ vs H Q E, spZ K n f vs H Q E → vs.length = ps.length := fun vs H Q E ⟨F, zs, _, _, hn, _, _, hr, _⟩ => by
  rw [← hr.len, hn, h]
def zCall (n : Nat) (f : ZF) (a : ZA) : ZE := fun ρ Q E => a ρ (fun zs => zs.length = n ∧ (∀ z ∈ zs, z.free) ∧ f zs Q E) E
theorem RZs.noN {F : Fr} {H : Hp} : ∀ {zs : List Z} {vs : List V}, RZs K F H zs vs → (∀ z ∈ zs, z.free) → RZs K { F with N := [] } H zs vs
  | _, _, .nil, _ => .nil
  | z :: zs, _, .cons h t, a => .cons (by
      have f := a z List.mem_cons_self
      cases z with
      | dat d => exact h
      | strm => exact h
      | own ds => exact f.elim
      | ownD ds => exact f.elim
      | scr ns => exact h
      | exc _ _ => exact h
      | exf _ _ _ _ _ => exact h
      | clo _ => exact h) (t.noN fun y hy => a y (List.mem_cons_of_mem _ hy))
theorem RZ.anyN {F : Fr} {H : Hp} {z : Z} {v : V} (h : RZ K { F with N := [] } H z v) : RZ K F H z v := by
  cases z with
  | dat d => exact h
  | strm => exact h
  | own ds =>
    obtain ⟨l, xs, _, z, _⟩ := h
    exact nomatch z
  | ownD ds =>
    obtain ⟨l, xs, _, z, _⟩ := h
    exact nomatch z
  | scr ns => exact h
  | exc _ _ => exact h
  | exf _ _ _ _ _ => exact h
  | clo _ => exact h
theorem tr_callS {n : Nat} {f : ZF} {ta : TA} {za : ZA} (ha : TrA K W ta za) : Tr K W (tCallS (spZ K n f) (WE W) ta) (zCall n f za) := fun F ρ σ H Qz Ez Q g e hz q x => by
  refine ha F ρ σ H _ Ez _ g e hz (fun r v H1 r1 d1 h1 => ?_) x
  obtain ⟨hn, hf, h1⟩ := h1
  have g1 := g.rel r1
  refine ⟨{ F with N := [] }, r, Qz, Ez, hn, rfl, ⟨g1.so, fun _ z => (nomatch z), fun _ z => (nomatch z), g1.st, g1.ex, g1.tS, g1.tb⟩, d1.noN hf, h1, fun c u H2 r2 d2 h2 => ?_, fun y C d H2 r2 d2 h2 => ?_⟩
  · exact q c u H2 (r1.trans r2) d2.anyN h2
  · exact x y C d H2 (r1.trans r2) d2 h2
end Zl
end
section
/-! Z1: statements, a def's body, loops -/
namespace Zl
open PySem PySem.Spec PyProof.Rows L2 Kb
variable [Tabd]
/-- what is wanted behind a statement, in words of data -/
structure Kz where
  nx : Rho → Prop
  rt : Z → Prop
  bk : Rho → Prop
  ct : Rho → Prop
  ex : Rho → Xc → Prop
abbrev ZS := Rho → Kz → Prop
/-- the frame since the entry -/
structure Si (F0 : Fr) (H0 : Hp) (F : Fr) (H : Hp) : Prop where
  sub : ∀ a ∈ F0.O, a ∈ F.O
  subS : ∀ a ∈ F0.S, a ∈ F.S
  newS : ∀ a ∈ F.S, a ∈ F0.S ∨ H0 a = none
  newN : ∀ a ∈ F.N, H0 a = none
  newO : ∀ a ∈ F.O, a ∈ F0.O ∨ H0 a = none
  kp : ∀ b o, b ∉ F0.S → H0 b = some o → H b = some o
  ex0 : ∀ a ∈ F0.O, H0 a ≠ Option.none
theorem Si.gone {F0 F : Fr} {H0 H : Hp} {p : Addr} (s : Si F0 H0 F H) (g0 : ∀ a ∈ F0.S, H a ≠ none) (n : H p = none) : H0 p = none := by
  cases e : H0 p with
  | none => rfl
  | some o =>
    by_cases h : p ∈ F0.S
    · exact absurd n (g0 p h)
    · rw [s.kp p o h e] at n
      cases n
theorem Si.rel {F0 F : Fr} {H0 H H' : Hp} (s : Si F0 H0 F H) (r : Rel F.S F.O H H') : Si F0 H0 F H' := by
  refine ⟨s.sub, s.subS, s.newS, s.newN, s.newO, fun b o n e => r.kp b o (fun z => ?_) (s.kp b o n e), s.ex0⟩
  rcases s.newS b z with h | h
  · exact n h
  · rw [h] at e
    cases e
theorem Si.refl {F : Fr} {H : Hp} (g : Good F H) (n : F.N = []) : Si F H F H := ⟨fun _ h => h, fun _ h => h, fun _ h => .inl h, fun a h => (by rw [n] at h; cases h), fun _ h => .inl h, fun _ _ _ e => e, g.ex⟩
/-- all that is wanted is given -/
structure Ans (K : PySem.W.Frag) (W : WX) (F0 : Fr) (H0 : Hp) (F : Fr) (H : Hp) (k : Kz) (D : Ends) : Prop where
  nx : ∀ ρ F' σ H', Good F' H' → Si F0 H0 F' H' → Le (hid F.O H) (hid F'.O H') → En K F' H' ρ σ → k.nx ρ → D.nx σ H'
  bk : ∀ ρ F' σ H', Good F' H' → Si F0 H0 F' H' → Le (hid F.O H) (hid F'.O H') → En K F' H' ρ σ → k.bk ρ → D.bk σ H'
  ct : ∀ ρ F' σ H', Good F' H' → Si F0 H0 F' H' → Le (hid F.O H) (hid F'.O H') → En K F' H' ρ σ → k.ct ρ → D.ct σ H'
  rt : ∀ r v F' H', Good F' H' → Si F0 H0 F' H' → RZ K F' H' r v → k.rt r → D.rt v H'
  ex : ∀ x C d ρ σ F' H', Good F' H' → Si F0 H0 F' H' → Le (hid F.O H) (hid F'.O H') → En K F' H' ρ σ → RX K F' H' x C d → k.ex ρ x → W C d σ H'
def TrS (K : PySem.W.Frag) (W : WX) (ts : TS) (z : ZS) : Prop := ∀ (F0 : Fr) (H0 : Hp) (F : Fr) (ρ : Rho) (σ : L2.St) (H : Hp) (k : Kz) (D : Ends), Good F H → Si F0 H0 F H → En K F H ρ σ → z ρ k → Ans K W F0 H0 F H k D → ts D σ H
variable {K : PySem.W.Frag} {W : WX}
theorem Ans.move {F0 F F' : Fr} {H0 H H' : Hp} {k : Kz} {D : Ends} (l : Le (hid F.O H) (hid F'.O H')) (a : Ans K W F0 H0 F H k D) : Ans K W F0 H0 F' H' k D :=
  ⟨fun ρ G σ J g s m e q => a.nx ρ G σ J g s (l.trans m) e q, fun ρ G σ J g s m e q => a.bk ρ G σ J g s (l.trans m) e q, fun ρ G σ J g s m e q => a.ct ρ G σ J g s (l.trans m) e q, a.rt, fun x C d ρ σ G J g s m e r q => a.ex x C d ρ σ G J g s (l.trans m) e r q⟩
def zNext : ZS := fun ρ k => k.nx ρ
theorem tr_next : TrS K W tNext zNext := fun F0 H0 F ρ σ H k D g s e h a => a.nx ρ F σ H g s (.refl _) e h
def zSeq (a b : ZS) : ZS := fun ρ k => a ρ { k with nx := fun ρ' => b ρ' k }
theorem tr_seq {ta tb : TS} {za zb : ZS} (ha : TrS K W ta za) (hb : TrS K W tb zb) : TrS K W (tSeq ta tb) (zSeq za zb) := fun F0 H0 F ρ σ H k D g s e h a =>
  ha F0 H0 F ρ σ H _ _ g s e h ⟨fun ρ' F' σ' H' g' s' m e' q => hb F0 H0 F' ρ' σ' H' k D g' s' e' q (a.move m), a.bk, a.ct, a.rt, a.ex⟩
def zBreak : ZS := fun ρ k => k.bk ρ
theorem tr_break : TrS K W tBreak zBreak := fun F0 H0 F ρ σ H k D g s e h a => a.bk ρ F σ H g s (.refl _) e h
def zCont : ZS := fun ρ k => k.ct ρ
theorem tr_cont : TrS K W tCont zCont := fun F0 H0 F ρ σ H k D g s e h a => a.ct ρ F σ H g s (.refl _) e h
def zDrop (a : ZE) : ZS := fun ρ k => a ρ (fun _ => k.nx ρ) (k.ex ρ)
theorem tr_drop {te : TE} {za : ZE} (h : Tr K W te za) : TrS K W (tDrop te) (zDrop za) := fun F0 H0 F ρ σ H k D g s e hz a => by
  refine h F ρ σ H _ _ _ g e hz (fun r v H1 r1 d1 h1 => ?_) fun x C d H1 r1 d1 h1 => a.ex x C d ρ σ F H1 (g.rel r1) (s.rel r1) (g.le r1) (e.rel g r1) d1 h1
  exact a.nx ρ F σ H1 (g.rel r1) (s.rel r1) (g.le r1) (e.rel g r1) h1
def zRet (a : ZE) : ZS := fun ρ k => a ρ k.rt (k.ex ρ)
theorem tr_ret {te : TE} {za : ZE} (h : Tr K W te za) : TrS K W (tRet te) (zRet za) := fun F0 H0 F ρ σ H k D g s e hz a => by
  refine h F ρ σ H _ _ _ g e hz (fun r v H1 r1 d1 h1 => ?_) fun x C d H1 r1 d1 h1 => a.ex x C d ρ σ F H1 (g.rel r1) (s.rel r1) (g.le r1) (e.rel g r1) d1 h1
  exact a.rt r v F H1 (g.rel r1) (s.rel r1) d1 h1
def zRetN : ZS := fun ρ k => k.rt (.dat .none)
theorem tr_retN : TrS K W tRetN zRetN := fun F0 H0 F ρ σ H k D g s e hz a => a.rt (.dat .none) _ F H g s Dz.non hz
def zIfS (c : ZT) (a b : ZS) : ZS := fun ρ k => c ρ (fun t => if t = true then a ρ k else b ρ k) (k.ex ρ)
theorem tr_ifS {tc : TT} {ta tb : TS} {zc : ZT} {za zb : ZS} (hc : TrT K W tc zc) (ha : TrS K W ta za) (hb : TrS K W tb zb) : TrS K W (tIfS tc ta tb) (zIfS zc za zb) := fun F0 H0 F ρ σ H k D g s e hz a => by
  refine hc F ρ σ H _ _ _ g e hz (fun r H1 r1 h1 => ?_) fun x C d H1 r1 d1 h1 => a.ex x C d ρ σ F H1 (g.rel r1) (s.rel r1) (g.le r1) (e.rel g r1) d1 h1
  cases r with
  | true => exact ha F0 H0 F ρ σ H1 k D (g.rel r1) (s.rel r1) (e.rel g r1) h1 (a.move (g.le r1))
  | false => exact hb F0 H0 F ρ σ H1 k D (g.rel r1) (s.rel r1) (e.rel g r1) h1 (a.move (g.le r1))
/-! ### targets -/
abbrev ZG := Z → Rho → (Rho → Prop) → Prop
/-- a target's reading: the frame and the heap stay -/
def TrG (K : PySem.W.Frag) (sl : List Nat) (tg : TG) (z : ZG) : Prop := ∀ (F : Fr) (ρ : Rho) (σ : L2.St) (H : Hp) (c : Z) (v : V) (Qz : Rho → Prop) (Q : L2.St → Hp → Prop), Good F H → En K F H ρ σ → RZ K F H c v → c.free → z c ρ Qz →
  (∀ ρ' σ', En K F H ρ' σ' → (∀ us, (∀ i ∈ sl, i ∈ us) → wipe σ' us = wipe σ us) → Qz ρ' → Q σ' H) → tg v σ H Q
theorem wipe_set {σ : L2.St} {i : Nat} {x : Option V} : ∀ {us : List Nat}, i ∈ us → wipe (σ.set i x) us = wipe σ us
  | u :: us, h => by
    unfold wipe
    by_cases n : i ∈ us
    · rw [wipe_set n]
    · have e : u = i := by
        rcases List.mem_cons.mp h with h | h
        · exact h.symm
        · exact absurd h n
      subst e
      have key : ∀ us : List Nat, u ∉ us → (wipe (σ.set u x) us) = (wipe σ us).set u x := by
        intro us
        induction us with
        | nil => intro _; rfl
        | cons w us ih =>
          intro hn
          have h1 : u ≠ w := fun e => hn (by rw [e]; exact List.mem_cons_self)
          unfold wipe
          rw [ih fun z => hn (List.mem_cons_of_mem _ z), List.set_comm _ _ h1]
      rw [key us n, List.set_set]
theorem En.set {F : Fr} {H : Hp} {ρ : Rho} {σ : L2.St} {i : Nat} {c : Z} {v : V} (e : En K F H ρ σ) (h : RZ K F H c v) (f : c.free) (hi : i < ρ.length) : En K F H (ρ.set i (some c)) (σ.set i (some v)) := by
  have key : ∀ (j : Nat) z, z.mine → (ρ.set i (some c))[j]? = some (some z) → i ≠ j ∧ ρ[j]? = some (some z) := fun j z m h1 => by
    by_cases n : i = j
    · subst n
      rw [List.getElem?_set_self hi] at h1
      cases h1
      exact (Z.free_mine f m).elim
    · rw [List.getElem?_set_ne n] at h1
      exact ⟨n, h1⟩
  refine ⟨fun j z h1 => ?_, fun j1 j2 ds es u n h1 h2 h3 h4 m1 m2 => ?_, by rw [List.length_set, List.length_set, e.len]⟩
  · by_cases n : i = j
    · subst n
      rw [List.getElem?_set_self hi] at h1
      cases h1
      exact ⟨v, List.getElem?_set_self (by rw [← e.len]; exact hi), h⟩
    · rw [List.getElem?_set_ne n] at h1 ⊢
      exact e.at_ j z h1
  · obtain ⟨n1, k1⟩ := key j1 ds m1 h1
    obtain ⟨n2, k2⟩ := key j2 es m2 h2
    rw [List.getElem?_set_ne n1] at h3
    rw [List.getElem?_set_ne n2] at h4
    exact e.df j1 j2 ds es u n k1 k2 h3 h4 m1 m2
def zName (i : Nat) : ZG := fun c ρ Q => i < ρ.length ∧ Q (ρ.set i (some c))
theorem tr_name {i : Nat} : TrG K [i] (gName i) (zName i) := fun F ρ σ H c v Qz Q g e h f hz q => q _ _ (e.set h f hz.1) (fun us hu => wipe_set (hu i List.mem_cons_self)) hz.2
abbrev ZGs := List PyData → Rho → (Rho → Prop) → Prop
def TrGs (K : PySem.W.Frag) (sl : List Nat) (tg : TGs) (z : ZGs) : Prop := ∀ (F : Fr) (ρ : Rho) (σ : L2.St) (H : Hp) (ds : List PyData) (vs : List V) (Qz : Rho → Prop) (Q : L2.St → Hp → Prop), Good F H → En K F H ρ σ → DzAll K (hid F.O H) vs ds → z ds ρ Qz →
  (∀ ρ' σ', En K F H ρ' σ' → (∀ us, (∀ i ∈ sl, i ∈ us) → wipe σ' us = wipe σ us) → Qz ρ' → Q σ' H) → tg vs σ H Q
def zgNil : ZGs := fun ds ρ Q => ds = [] ∧ Q ρ
def zgCons (a : ZG) (b : ZGs) : ZGs := fun ds ρ Q => ∃ d r, ds = d :: r ∧ a (.dat d) ρ fun ρ' => b r ρ' Q
theorem tr_gnil : TrGs K [] gNil zgNil := fun F ρ σ H ds vs Qz Q g e h hz q => by
  obtain ⟨rfl, hz⟩ := hz
  cases h
  exact ⟨rfl, q ρ σ e (fun _ _ => rfl) hz⟩
theorem tr_gcons {s1 s2 : List Nat} {t : TG} {u : TGs} {a : ZG} {b : ZGs} (ha : TrG K s1 t a) (hb : TrGs K s2 u b) : TrGs K (s1 ++ s2) (gCons t u) (zgCons a b) := fun F ρ σ H ds vs Qz Q g e h hz q => by
  obtain ⟨d, r, rfl, hz⟩ := hz
  cases h with
  | cons h1 h2 =>
    refine ⟨_, _, rfl, ?_⟩
    exact ha F ρ σ H (.dat d) _ _ _ g e h1 trivial hz fun ρ' σ' e' w1 hz' => hb F ρ' σ' H r _ Qz Q g e' h2 hz' fun ρ2 σ2 e2 w2 hz2 => q ρ2 σ2 e2 (fun us hu => (w2 us fun i hi => hu i (List.mem_append_right _ hi)).trans (w1 us fun i hi => hu i (List.mem_append_left _ hi))) hz2
def zTupG (n : Nat) (b : ZGs) : ZG := fun c ρ Q => ∃ ds, c = .dat (.tuple ds) ∧ ds.length = n ∧ b ds ρ Q
theorem tr_tupG {sl : List Nat} {n : Nat} {u : TGs} {b : ZGs} (hb : TrGs K sl u b) : TrG K sl (gTup K n u) (zTupG n b) := fun F ρ σ H c v Qz Q g e h f hz q => by
  obtain ⟨ds, rfl, hn, hz⟩ := hz
  cases (show Dz K _ v (.tuple ds) from h) with
  | tup hs ha => exact ⟨_, _, rfl, Le.hid_self.seqT hs, by rw [ha.len]; exact hn, hb F ρ σ H ds _ Qz Q g e ha hz q⟩
def zAsg (a : ZE) (b : ZG) : ZS := fun ρ k => a ρ (fun c => c.free ∧ b c ρ k.nx) (k.ex ρ)
theorem tr_asg {sl : List Nat} {te : TE} {tg : TG} {za : ZE} {zb : ZG} (h : Tr K W te za) (hg : TrG K sl tg zb) : TrS K W (tAsg te tg) (zAsg za zb) := fun F0 H0 F ρ σ H k D g s e hz a => by
  refine h F ρ σ H _ _ _ g e hz (fun r v H1 r1 d1 h1 => ?_) fun x C d H1 r1 d1 h1 => a.ex x C d ρ σ F H1 (g.rel r1) (s.rel r1) (g.le r1) (e.rel g r1) d1 h1
  exact hg F ρ σ H1 r v _ _ (g.rel r1) (e.rel g r1) d1 h1.1 h1.2 fun ρ' σ' e' _ q' => a.nx ρ' F σ' H1 (g.rel r1) (s.rel r1) (g.le r1) e' q'
/-- two names at once -/
def zPar (i j : Nat) (b : ZA) : ZS := fun ρ k => b ρ (fun zs => ∃ x y, zs = [x, y] ∧ x.free ∧ y.free ∧ i < ρ.length ∧ j < ρ.length ∧ k.nx ((ρ.set i (some x)).set j (some y))) (k.ex ρ)
theorem tr_par {i j : Nat} {ta : TA} {za : ZA} (h : TrA K W ta za) : TrS K W (tPar i j ta) (zPar i j za) := fun F0 H0 F ρ σ H k D g s e hz a => by
  refine h F ρ σ H _ _ _ g e hz (fun r v H1 r1 d1 h1 => ?_) fun x C d H1 r1 d1 h1 => a.ex x C d ρ σ F H1 (g.rel r1) (s.rel r1) (g.le r1) (e.rel g r1) d1 h1
  obtain ⟨x, y, rfl, fx, fy, hi, hj, h1⟩ := h1
  cases d1 with
  | cons q1 t =>
    cases t with
    | cons q2 t =>
      cases t
      refine ⟨_, _, rfl, ?_⟩
      have e1 := ((e.rel g r1).set q1 fx hi).set (i := j) q2 fy (by rw [List.length_set]; exact hj)
      exact a.nx _ F _ H1 (g.rel r1) (s.rel r1) (g.le r1) e1 h1
/-- name op= value -/
def zAug (i : Nat) (a : ZE) (k' : Z → Z → (Z → Prop) → Prop) : ZS := fun ρ k => ∃ z, ρ[i]? = some (some z) ∧ a ρ (fun y => k' z y fun c => c.free ∧ k.nx (ρ.set i (some c))) (k.ex ρ)
theorem tr_aug {i : Nat} {te : TE} {ti : TIp} {za : ZE} {k' : Z → Z → (Z → Prop) → Prop} (h : Tr K W te za) (ho : OpZ K ti k') : TrS K W (tAug i te ti) (zAug i za k') := fun F0 H0 F ρ σ H k D g s e hz a => by
  obtain ⟨z, hz1, hz⟩ := hz
  obtain ⟨v, e1, e2⟩ := e.at_ i z hz1
  refine ⟨v, e1, ?_⟩
  refine h F ρ σ H _ _ _ g e hz (fun r u H1 r1 d1 h1 => ?_) fun x C d H1 r1 d1 h1 => a.ex x C d ρ σ F H1 (g.rel r1) (s.rel r1) (g.le r1) (e.rel g r1) d1 h1
  refine ho F H1 v u z r _ _ (g.rel r1) (e2.rel g r1) d1 h1 fun c w H2 r2 d2 h2 => ?_
  have r12 := r1.trans r2
  have hi : i < ρ.length := (List.getElem?_eq_some_iff.mp hz1).1
  exact a.nx _ F _ H2 (g.rel r12) (s.rel r12) (g.le r12) ((e.rel g r12).set d2 h2.1 hi) h2.2
/-! ### a def -/
def startZ (n : Nat) (zs : List Z) : Rho := zs.map some ++ List.replicate (n - zs.length) none
/-- a body, as a function of data -/
def zFn (n : Nat) (b : ZS) : ZF := fun zs Q E => b (startZ n zs) ⟨fun _ => Q (.dat .none), fun r => Q r.out, fun _ => False, fun _ => False, fun _ => E⟩
theorem start_get {N : List Str} {vs : List V} {i : Nat} {v : V} (h : vs[i]? = some v) : (L2.start N vs)[i]? = some (some v) := by
  unfold L2.start
  have hl : i < vs.length := (List.getElem?_eq_some_iff.mp h).1
  rw [List.getElem?_append_left (by rw [List.length_map]; exact hl), List.getElem?_map, h]
  rfl
theorem RZs.get {F : Fr} {H : Hp} : ∀ {zs : List Z} {vs : List V} {i : Nat} {z : Z}, RZs K F H zs vs → zs[i]? = some z → ∃ v, vs[i]? = some v ∧ RZ K F H z v
  | _, _, _, _, .nil, e => by simp at e
  | _, _, 0, _, .cons h t, e => by simp at e; subst e; exact ⟨_, rfl, h⟩
  | _, _, i + 1, _, .cons h t, e => by
    obtain ⟨d, h1, h2⟩ := t.get (i := i) (by simpa using e)
    exact ⟨d, by simpa using h1, h2⟩
theorem startZ_get {n : Nat} {zs : List Z} {i : Nat} {z : Z} (h : (startZ n zs)[i]? = some (some z)) : zs[i]? = some z := by
  unfold startZ at h
  by_cases hl : i < zs.length
  · rw [List.getElem?_append_left (by rw [List.length_map]; exact hl), List.getElem?_map] at h
    cases e : zs[i]? with
    | none => rw [e] at h; cases h
    | some y => rw [e] at h; cases h; rfl
  · rw [List.getElem?_append_right (by rw [List.length_map]; omega), List.getElem?_replicate] at h
    split at h <;> cases h
theorem en_start {F : Fr} {H : Hp} {N : List Str} {zs : List Z} {vs : List V} (n : F.N = []) (h : RZs K F H zs vs) : En K F H (startZ N.length zs) (L2.start N vs) := by
  have hl := h.len
  refine ⟨fun i z e => ?_, fun i j ds es v _ e1 _ _ _ m1 _ => ?_, ?_⟩
  · obtain ⟨v, e1, e2⟩ := h.get (startZ_get e)
    exact ⟨v, start_get e1, e2⟩
  · obtain ⟨u, _, hr⟩ := h.get (startZ_get e1)
    cases ds with
    | own _ =>
      obtain ⟨l, xs, _, hm, _⟩ := hr
      rw [n] at hm
      cases hm
    | ownD _ =>
      obtain ⟨l, xs, _, hm, _⟩ := hr
      rw [n] at hm
      cases hm
    | _ => exact m1
  · unfold startZ L2.start
    rw [List.length_append, List.length_append, List.length_map, List.length_map, List.length_replicate, List.length_replicate, hl]
theorem RZ.leave {F0 F : Fr} {H0 H : Hp} {r : Z} {v : V} (s : Si F0 H0 F H) (g : Good F H) (g0 : Good F0 H0) (h : RZ K F H r v) (hs : r.out = .strm → v ∈ F0.S.map V.ref) : RZ K F0 H r.out v := by
  have l : Le (hid F.O H) (hid F0.O H) := Le.sub s.sub
  cases r with
  | dat d => exact Dz.mono l d h
  | strm =>
    obtain ⟨a, ha, ht, rfl⟩ := h
    have := hs rfl
    obtain ⟨b, hb, e⟩ := List.mem_map.mp this
    cases e
    exact ⟨_, hb, ht, rfl⟩
  | own ds =>
    obtain ⟨p, xs, rfl, h1, h2, h3⟩ := h
    refine Dz.lst (hid_some.mpr ⟨fun z => ?_, h2⟩) (Dz.monos l ds h3)
    exact absurd (s.newN p h1) (g0.ex p z)
  | ownD ds =>
    obtain ⟨p, xs, rfl, h1, h2, h3⟩ := h
    refine Dz.dic (.inl (hid_some.mpr ⟨fun z => ?_, h2⟩)) (Dz.monoK l ds h3)
    exact absurd (s.newN p h1) (g0.ex p z)
  | exc _ _ => exact h
  | exf _ _ _ _ _ => exact RZ.le_exf l h
  | clo _ => exact RZ.le_clo l h
  | scr ns =>
    obtain ⟨a, e1, e2⟩ := h
    exact ⟨a, e1, l.seqL e2⟩
/-- a def's answer may be any but a stream -/
def zFnOk (n : Nat) (b : ZS) : ZF := fun zs Q E => b (startZ n zs) ⟨fun _ => Q (.dat .none), fun r => r ≠ .strm ∧ Q r.out, fun _ => False, fun _ => False, fun _ => E⟩
variable {P : Program} {w : World} {mg : Str → Option Value} {base : Heap}
/-- a def by its body; it may show values, it may raise -/
theorem fnZ {x qual : Str} {st : Stmt} {f : Addr} {fd : FuncData} {N ps : List Str} {k : Nat} {zb : ZS} (F : L2.Fun K x qual st f fd) (S : FnScope N ps (defScope st))
    (hbody : ∀ (cdv : Value) (A : Around) (outer : List Env) (s : Shared) (H : Hp) (E : XK), (A.deeper (envOfC qual (defScope st) s.heap.objs.size f cdv)).guards = some [] → Room k (A.deeper (envOfC qual (defScope st) s.heap.objs.size f cdv)) →
      Takes (cxOf (L2.CX P w) P w K mg base N qual (defScope st) f cdv A outer s H E) (fun cls d _ H => E cls d H) → PassesOwn (model P w) (A.deeper (envOfC qual (defScope st) s.heap.objs.size f cdv)) (envOfC qual (defScope st) s.heap.objs.size f cdv) (cxOf (L2.CX P w) P w K mg base N qual (defScope st) f cdv A outer s H E).xe →
      ∃ t, PSs (cxOf (L2.CX P w) P w K mg base N qual (defScope st) f cdv A outer s H E) (defBody st) t ∧ TrS K (fun cls d _ H => E cls d H) t zb) : FnG P w K mg base (L2.CX P w) (k + 1) f fd ps (spZ K ps.length (zFnOk N.length zb)) := by
  refine F.okG S (spZ_len rfl) (fun cdv A outer s H vs Q E gA hr h => ?_)
  obtain ⟨F0, zs, Qz, Ez, hn, hN, g, hrz, hf, q, qx⟩ := h
  obtain ⟨t, ht, hz⟩ := hbody cdv A outer s H E (guards_deeper gA) hr (takes_of rfl rfl rfl rfl) .leaving
  refine ⟨t, ht, hz F0 H F0 _ _ H _ _ g (.refl g hN) (en_start hN hrz) hf ⟨fun ρ F' σ' H' g' s' m e' h' => ?_, fun ρ F' σ' H' g' s' m e' h' => h'.elim, fun ρ F' σ' H' g' s' m e' h' => h'.elim, fun r v F' H' g' s' rz h' => ?_, fun x C d ρ' σ' F' H' g' s' l' e' rx h' => ?_⟩⟩
  · exact q (.dat .none) .non H' (.good s'.kp g' s'.subS s'.sub) Dz.non h'
  · refine q r.out v H' (.good s'.kp g' s'.subS s'.sub) (rz.leave s' g' g fun e => ?_) h'.2
    cases r with
    | strm => exact absurd rfl h'.1
    | dat d => cases e
    | own ds => cases e
    | ownD ds => cases e
    | exc _ _ => cases e
    | exf _ _ _ _ _ => cases e
    | clo _ => cases e
    | scr ns => cases e
  · refine qx x C d H' (.good s'.kp g' s'.subS s'.sub) ⟨rx.1, ?_⟩ h'
    have r2 := rx.2
    cases hp : x.pay with
    | none => rw [hp] at r2; exact r2
    | some y =>
      rw [hp] at r2
      obtain ⟨dd, v, h1, h2, h3⟩ := r2
      exact ⟨dd, v, h1, (Le.sub s'.sub).fx _ _ trivial h2, Dz.mono (Le.sub s'.sub) _ h3⟩
/-- a def that may be called -/
structure Fz (P : Program) (w : World) (K : PySem.W.Frag) (mg : Str → Option Value) (base : Heap) (k : Nat) (x : Str) (n : Nat) (f : ZF) : Prop where
  ex : ∃ (fa : Addr) (fd : FuncData) (ps : List Str), FnG P w K mg base (L2.CX P w) k fa fd ps (spZ K n f) ∧ mg x = some (.ref fa) ∧ PySem.W.keepIn K (.ref fa) = true ∧ Binds K fd ps []
section
variable {X : Cx} {k j : Nat} {x : Str} {n : Nat} {f : ZF} {p pos : Pos} {e : Expr} {es : List Expr} {t : TA}
theorem run_fnG {fa : Addr} {fd : FuncData} {ps : List Str} {sp : Sp} {pins : List (Addr × Obj)} {σ : L2.St} {H : Hp} {s : Shared} {Q : VK} {us : List Value} {vs : List V} (F : FnG X.prog X.w X.K X.mg X.base (L2.CX X.prog X.w) k fa fd ps sp) (gA : X.A.guards = some []) (hr : Room k X.A) (hb : Binds X.K fd ps []) (tk : Takes X W)
    (I : Inv X pins σ H s) (r : Vals vs us) (h : sp vs H Q (WE W σ)) : wpAny (model X.prog X.w) X.A (call (.ref fa) us) (EP X pins σ Q) X.xe s := by
  have hl : us.length = ps.length := by rw [← r.length]; exact F.len _ _ _ _ h
  have b := hb s us I.kIn (by rw [List.append_nil]; exact hl)
  rw [List.append_nil] at b
  refine wpAny_call (codeAny_mono (F.run X.A X.stack s H ⟨us, []⟩ us vs Q (WE W σ) gA hr I.env0 b r h) fun r s' hq => ?_)
  cases r with
  | error e => exact passAt tk σ pins H s e s' I hq
  | ok fl =>
    cases fl with
    | ret u => exact I.after hq
    | next => exact False.elim hq
    | brk => exact False.elim hq
    | cont => exact False.elim hq
theorem pe_callZ (c : Fz X.prog X.w X.K X.mg X.base k x n f) (gA : X.A.guards = some []) (hr : Room j X.A) (tk : Takes X W) (ha : PA X (e :: es) t) (hk : k ≤ j := by decide) (hg : Gl X x := by rfl)
    (hdb : (x == ("__debug__" : Str)) = false := by decide) (he : starEach (e :: es) X.env = (false, eval e X.env) :: starEach es X.env := by rfl) (hpl : (backTo pos (starEach es X.env)).any (·.1) = false := by rfl) :
    PE X (.Call (.Name x p) (e :: es) [] pos) (tCallS (spZ X.K n f) (WE W) t) := by
  obtain ⟨fa, fd, ps, F, hm, hkp, hb⟩ := c.ex
  refine ⟨fun pins s σ H Q I h => ?_⟩
  refine wpAny_Call_Name_kw (ld_glob I hg hm ?_ hdb)
  refine PySem.W.callWith_K (h₀ := X.base) I.ok.mod.kin hkp (thn (ha.run pos pins s σ H _ I h) fun us s1 ⟨vs, H1, I1, r, q⟩ => ⟨I1.kIn, ?_⟩) he hpl
  exact run_fnG F gA (hr.mono hk) hb tk I1 r q
/-- without arguments -/
theorem pe_callZ0 (c : Fz X.prog X.w X.K X.mg X.base k x n f) (gA : X.A.guards = some []) (hr : Room j X.A) (tk : Takes X W) (hk : k ≤ j := by decide) (hg : Gl X x := by rfl)
    (hdb : (x == ("__debug__" : Str)) = false := by decide) : PE X (.Call (.Name x p) [] [] pos) (tCallS (spZ X.K n f) (WE W) tNil) := by
  obtain ⟨fa, fd, ps, F, hm, hkp, hb⟩ := c.ex
  refine ⟨fun pins s σ H Q I h => ?_⟩
  refine wpAny_Call_Name_kw (ld_glob I hg hm ?_ hdb)
  exact PySem.W.callWith_K0 I.kIn hkp (run_fnG (us := []) F gA (hr.mono hk) hb tk I .nil h)
end
end Zl
end
section
/-! Z2: lists of one's own, loops, comprehensions -/
namespace Zl
open PySem PySem.Spec PyProof.Rows L2 Kb
variable [Tabd]
variable {K : PySem.W.Frag} {W : WX}
/-! ### a new list -/
abbrev ZN := Rho → (List PyData → Prop) → (Xc → Prop) → Prop
def TrN (K : PySem.W.Frag) (W : WX) (te : TE) (z : ZN) : Prop := ∀ (F : Fr) (ρ : Rho) (σ : L2.St) (H : Hp) (Qz : List PyData → Prop) (Ez : Xc → Prop) (Q : VK), Good F H → En K F H ρ σ → z ρ Qz Ez →
  (∀ ds p xs H', Rel F.S F.O H H' → H p = none → H' p = some (.lst xs) → DzAll K (hid (p :: F.O) H') xs ds → Qz ds → Q (.ref p) H') → (∀ x C d H', Rel F.S F.O H H' → RX K F H' x C d → Ez x → W C d σ H') → te σ H Q
theorem Rel.none_back {F : Fr} {H H' : Hp} {p : Addr} (g : Good F H) (r : Rel F.S F.O H H') (n : H' p = none) : H p = none := by
  cases e : H p with
  | none => rfl
  | some o =>
    by_cases h : p ∈ F.S
    · exact absurd n ((g.rel r).some h)
    · rw [r.kp p o h e] at n
      cases n
def zOfN (z : ZN) : ZE := fun ρ Q E => z ρ (fun ds => Q (.dat (.list ds))) E
theorem tr_ofN {te : TE} {z : ZN} (h : TrN K W te z) : Tr K W te (zOfN z) := fun F ρ σ H Qz Ez Q g e hz q x =>
  h F ρ σ H _ Ez _ g e hz (fun ds p xs H1 r1 n1 h1 d1 q1 => q (.dat (.list ds)) _ H1 r1 (Dz.lst (hid_some.mpr ⟨fun z => g.ex p z n1, h1⟩) (Dz.monos (Le.sub fun b hb => List.mem_cons_of_mem _ hb) ds d1)) q1) x
def zLstN (a : ZA) : ZN := fun ρ Q E => a ρ (fun zs => ∃ ds, dats zs = some ds ∧ ds.length ≤ line ∧ Q ds) E
theorem tr_lstN {ta : TA} {za : ZA} (ha : TrA K W ta za) : TrN K W (tLst ta) (zLstN za) := fun F ρ σ H Qz Ez Q g e hz q x => by
  refine ha F ρ σ H _ Ez _ g e hz (fun r v H1 r1 d1 h1 => ?_) x
  obtain ⟨ds, h1, h2, h3⟩ := h1
  have hd := d1.dats h1
  refine ⟨line_le (by rw [hd.len]; exact h2), fun p np => ?_⟩
  exact q ds p v _ (r1.trans (.new np)) (r1.none_back g np) upd_same (Dz.monos (Le.newO np) ds hd) h3
theorem RZ.grow {F : Fr} {H H' : Hp} {p : Addr} (g : Good F H) (r : Rel F.S F.O H H') (n : H p = none) : ∀ {z : Z} {v : V}, RZ K F H z v → RZ K ⟨F.S, p :: F.O, p :: F.N⟩ H' z v := by
  have l : Le (hid F.O H) (hid (p :: F.O) H') := Le.of_same fun b o e => by
    rw [hid_some] at e ⊢
    refine ⟨fun z => ?_, r.kp b o (fun z => e.1 (g.so b z)) e.2⟩
    rcases List.mem_cons.mp z with z | z
    · rw [z, n] at e
      cases e.2
    · exact e.1 z
  intro z v h
  cases z with
  | dat d => exact Dz.mono l d h
  | strm => exact h
  | own ds =>
    obtain ⟨q, xs, e1, e2, e3, e4⟩ := h
    exact ⟨q, xs, e1, List.mem_cons_of_mem _ e2, r.kp q _ (g.ns q e2) e3, Dz.monos l ds e4⟩
  | ownD ds =>
    obtain ⟨q, xs, e1, e2, e3, e4⟩ := h
    exact ⟨q, xs, e1, List.mem_cons_of_mem _ e2, r.kp q _ (g.ns q e2) e3, Dz.monoK l ds e4⟩
  | exc _ _ => exact h
  | exf _ _ _ _ _ => exact RZ.le_exf l h
  | clo _ => exact RZ.le_clo l h
  | scr ns =>
    obtain ⟨a, e1, e2⟩ := h
    exact ⟨a, e1, l.seqL e2⟩
theorem Good.grow {F : Fr} {H H' : Hp} {p : Addr} (g : Good F H) (r : Rel F.S F.O H H') (n : H p = none) (h : Nf H' p) : Good ⟨F.S, p :: F.O, p :: F.N⟩ H' := by
  have g1 := g.rel r
  refine ⟨fun a h => List.mem_cons_of_mem _ (g.so a h), fun a h => ?_, fun a h => ?_, g1.st, fun a h' => ?_, g1.tS, g1.tb.hide h⟩
  · rcases List.mem_cons.mp h with h | h
    · rw [h]; exact List.mem_cons_self
    · exact List.mem_cons_of_mem _ (g.no a h)
  · rcases List.mem_cons.mp h with h | h
    · intro z
      rw [h] at z
      exact g.some z n
    · exact g.ns a h
  · rcases List.mem_cons.mp h' with h' | h'
    · rw [h']; exact h.some
    · exact g1.ex a h'
theorem Si.grow {F0 F : Fr} {H0 H H' : Hp} {p : Addr} (s : Si F0 H0 F H) (g : Good F H) (r : Rel F.S F.O H H') (n : H p = none) : Si F0 H0 ⟨F.S, p :: F.O, p :: F.N⟩ H' := by
  have n0 : H0 p = none := s.gone (fun a h => g.some (s.subS a h)) n
  have s1 := s.rel r
  refine ⟨fun a h => List.mem_cons_of_mem _ (s.sub a h), s.subS, s.newS, fun a h => ?_, fun a h => ?_, s1.kp, s.ex0⟩
  · rcases List.mem_cons.mp h with h | h
    · rw [h]; exact n0
    · exact s.newN a h
  · rcases List.mem_cons.mp h with h | h
    · rw [h]; exact .inr n0
    · exact s.newO a h
theorem Le.grow {F : Fr} {H H' : Hp} {p : Addr} (g : Good F H) (r : Rel F.S F.O H H') (n : H p = none) : Le (Zl.hid F.O H) (Zl.hid (p :: F.O) H') := Le.of_same fun b o e => by
  rw [hid_some] at e ⊢
  refine ⟨fun z => ?_, r.kp b o (fun z => e.1 (g.so b z)) e.2⟩
  rcases List.mem_cons.mp z with z | z
  · rw [z, n] at e
    cases e.2
  · exact e.1 z
/-- name = a new list, one's own from now on -/
def zNew (i : Nat) (a : ZN) : ZS := fun ρ k => a ρ (fun ds => i < ρ.length ∧ k.nx (ρ.set i (some (.own ds)))) (k.ex ρ)
theorem tr_new {i : Nat} {te : TE} {za : ZN} (h : TrN K W te za) : TrS K W (tAsg te (gName i)) (zNew i za) := fun F0 H0 F ρ σ H k D g s e hz a => by
  refine h F ρ σ H _ _ _ g e hz (fun ds p xs H1 r1 n1 h1 d1 q1 => ?_) fun x C d H1 r1 d1 h1 => a.ex x C d ρ σ F H1 (g.rel r1) (s.rel r1) (g.le r1) (e.rel g r1) d1 h1
  have hp : Nf H1 p := ⟨_, h1, id⟩
  refine a.nx _ ⟨F.S, p :: F.O, p :: F.N⟩ _ H1 (g.grow r1 n1 hp) (s.grow g r1 n1) (Le.grow g r1 n1) ⟨fun j z hj => ?_, fun j1 j2 es1 es2 u n k1 k2 k3 k4 m1 m2 => ?_, by rw [List.length_set, List.length_set, e.len]⟩ q1.2
  · by_cases c : i = j
    · subst c
      rw [List.getElem?_set_self q1.1] at hj
      cases hj
      exact ⟨.ref p, List.getElem?_set_self (by rw [← e.len]; exact q1.1), p, xs, rfl, List.mem_cons_self, h1, d1⟩
    · rw [List.getElem?_set_ne c] at hj ⊢
      obtain ⟨v, e1, e2⟩ := e.at_ j z hj
      exact ⟨v, e1, e2.grow g r1 n1⟩
  · have old : ∀ (j : Nat) es, i ≠ j → es.mine → (ρ.set i (some (Z.own ds)))[j]? = some (some es) → (σ.set i (some (V.ref p)))[j]? = some (some u) → u ≠ .ref p := fun j es c m hj hs => by
      rw [List.getElem?_set_ne c] at hj hs
      obtain ⟨v, e1, er⟩ := e.at_ j _ hj
      rw [hs] at e1
      cases e1
      intro q
      subst q
      cases es with
      | own es =>
        obtain ⟨l, ys, e2, e3, e4, e5⟩ := er
        cases e2
        rw [n1] at e4
        cases e4
      | ownD es =>
        obtain ⟨l, ys, e2, e3, e4, e5⟩ := er
        cases e2
        rw [n1] at e4
        cases e4
      | _ => exact m
    have self : ∀ (j : Nat), i = j → (σ.set i (some (V.ref p)))[j]? = some (some u) → u = .ref p := fun j c hs => by
      subst c
      rw [List.getElem?_set_self (by rw [← e.len]; exact q1.1)] at hs
      cases hs
      rfl
    by_cases c1 : i = j1
    · have u1 := self j1 c1 k3
      have c2 : i ≠ j2 := fun z => n (c1.symm.trans z)
      exact old j2 es2 c2 m2 k2 k4 u1
    · by_cases c2 : i = j2
      · exact old j1 es1 c1 m1 k1 k3 (self j2 c2 k4)
      · rw [List.getElem?_set_ne c1] at k1 k3
        rw [List.getElem?_set_ne c2] at k2 k4
        exact e.df j1 j2 es1 es2 u n k1 k2 k3 k4 m1 m2
/-- a list of one's own is written -/
theorem En.put {F : Fr} {H : Hp} {ρ : Rho} {σ : L2.St} {i : Nat} {l : Addr} {ds es : List PyData} {ys : List V} (g : Good F H) (e : En K F H ρ σ) (h1 : ρ[i]? = some (some (.own ds))) (h2 : σ[i]? = some (some (.ref l))) (hl : l ∈ F.N) (h3 : DzAll K (hid F.O H) ys es) :
    En K F (upd H l (.lst ys)) (ρ.set i (some (.own es))) σ := by
  have lo := g.no l hl
  refine ⟨fun j z hj => ?_, fun j1 j2 e1 e2 u n k1 k2 k3 k4 m1 m2 => ?_, by rw [List.length_set, e.len]⟩
  · by_cases c : i = j
    · subst c
      rw [List.getElem?_set_self (List.getElem?_eq_some_iff.mp h1).1] at hj
      cases hj
      exact ⟨.ref l, h2, l, ys, rfl, hl, upd_same, Dz.monos (Le.own lo) es h3⟩
    · rw [List.getElem?_set_ne c] at hj
      obtain ⟨v, e1, e2⟩ := e.at_ j z hj
      refine ⟨v, e1, ?_⟩
      cases z with
      | dat d => exact Dz.mono (Le.own lo) d e2
      | strm => exact e2
      | own fs =>
        obtain ⟨q, xs, rfl, e3, e4, e5⟩ := e2
        have nq : q ≠ l := fun z => by
          subst z
          exact e.df i j (.own ds) (.own fs) (.ref q) c h1 hj h2 e1 trivial trivial
        exact ⟨q, xs, rfl, e3, by rw [upd_ne nq]; exact e4, Dz.monos (Le.own lo) fs e5⟩
      | ownD fs =>
        obtain ⟨q, xs, rfl, e3, e4, e5⟩ := e2
        have nq : q ≠ l := fun z => by
          subst z
          exact e.df i j (.own ds) (.ownD fs) (.ref q) c h1 hj h2 e1 trivial trivial
        exact ⟨q, xs, rfl, e3, by rw [upd_ne nq]; exact e4, Dz.monoK (Le.own lo) fs e5⟩
      | exc _ _ => exact e2
      | exf _ _ _ _ _ => exact RZ.le_exf (Le.own lo) e2
      | clo _ => exact RZ.le_clo (Le.own lo) e2
      | scr ns =>
        obtain ⟨a, e3, e4⟩ := e2
        exact ⟨a, e3, (Le.own lo).seqL e4⟩
  · have back : ∀ (j : Nat) (z : Z), z.mine → (ρ.set i (some (Z.own es)))[j]? = some (some z) → ∃ z' : Z, z'.mine ∧ ρ[j]? = some (some z') := fun j z m hj => by
      by_cases c : i = j
      · subst c
        exact ⟨.own ds, trivial, h1⟩
      · rw [List.getElem?_set_ne c] at hj
        exact ⟨z, m, hj⟩
    obtain ⟨f1, p1, q1⟩ := back j1 e1 m1 k1
    obtain ⟨f2, p2, q2⟩ := back j2 e2 m2 k2
    exact e.df j1 j2 f1 f2 u n q1 q2 k3 k4 p1 p2
theorem Good.put {F : Fr} {H : Hp} {l : Addr} {o : HO} (g : Good F H) (hl : l ∈ F.N) : Good F (upd H l o) := by
  refine ⟨g.so, g.no, g.ns, fun a h t => ?_, fun a h => ?_, g.tS, g.tb.own (g.no l hl) fun t => g.ns l hl (g.tS l t)⟩
  · exact (g.st a h t).same (upd_ne (fun q => g.ns l hl (by rw [← q]; exact h)))
  · by_cases c : a = l
    · subst c
      rw [upd_same]
      exact fun q => nomatch q
    · rw [upd_ne c]
      exact g.ex a h
theorem Si.put {F0 F : Fr} {H0 H : Hp} {l : Addr} {o : HO} (s : Si F0 H0 F H) (hl : l ∈ F.N) : Si F0 H0 F (upd H l o) := by
  refine ⟨s.sub, s.subS, s.newS, s.newN, s.newO, fun b u n e => ?_, s.ex0⟩
  rw [upd_ne (fun z => by subst z; rw [s.newN _ hl] at e; cases e)]
  exact s.kp b u n e
/-- name.append(e) -/
def zAppend (i : Nat) (a : ZE) : ZS := fun ρ k => ∃ ds, ρ[i]? = some (some (.own ds)) ∧ a ρ (fun y => ∃ d, y = .dat d ∧ ds.length < line ∧ k.nx (ρ.set i (some (.own (ds ++ [d]))))) (k.ex ρ)
theorem tr_append {i : Nat} {te : TE} {za : ZE} (h : Tr K W te za) : TrS K W (tDrop (tBM K "list" rAppend (tVar i) (tCons te tNil))) (zAppend i za) := fun F0 H0 F ρ σ H k D g s e hz a => by
  obtain ⟨ds, h1, hz⟩ := hz
  obtain ⟨v, h2, l, xs, rfl, hl, h3, h4⟩ := e.at_ i _ h1
  refine ⟨_, h2, .inl ⟨rfl, _, SqL.of h3⟩, ?_⟩
  refine h F ρ σ H _ _ _ g e hz (fun r v H1 r1 d1 q1 => ?_) fun x C d H1 r1 d1 h1 => a.ex x C d ρ σ F H1 (g.rel r1) (s.rel r1) (g.le r1) (e.rel g r1) d1 h1
  obtain ⟨d, rfl, hn, q1⟩ := q1
  have g1 := g.rel r1
  have h3' := r1.kp l _ (g.ns l hl) h3
  have h4' := Dz.monos (g.le r1) ds h4
  refine ⟨l, xs, v, rfl, rfl, h3', Nat.lt_of_lt_of_le (by rw [h4.len]; exact hn) (by decide), ?_⟩
  exact a.nx _ F σ _ (g1.put hl) ((s.rel r1).put hl) ((g.le r1).trans (Le.own (g.no l hl))) ((e.rel g r1).put g1 h1 h2 hl (h4'.app (.cons d1 .nil))) q1
/-- the list is finished: from here on it is read only -/
def zFreeze (i : Nat) (z : ZS) : ZS := fun ρ k => ∃ ds, ρ[i]? = some (some (.own ds)) ∧ z (ρ.set i (some (.dat (.list ds)))) k
theorem tr_freeze (i : Nat) {ts : TS} {z : ZS} (h : TrS K W ts z) : TrS K W ts (zFreeze i z) := fun F0 H0 F ρ σ H k D g s e hz a => by
  obtain ⟨ds, h1, hz⟩ := hz
  obtain ⟨v, h2, l, xs, rfl, hl, h3, h4⟩ := e.at_ i _ h1
  have hi := (List.getElem?_eq_some_iff.mp h1).1
  have l0 : ∀ a ∈ F0.O, a ≠ l := fun a ha q => s.ex0 a ha (by rw [q]; exact s.newN l hl)
  have lS : ∀ a ∈ F.S, a ≠ l := fun a ha q => g.ns l hl (by rw [← q]; exact ha)
  have mO : ∀ a, a ∈ F.O.filter (fun b => decide (b ≠ l)) ↔ a ∈ F.O ∧ a ≠ l := fun a => by simp
  have mN : ∀ a, a ∈ F.N.filter (fun b => decide (b ≠ l)) ↔ a ∈ F.N ∧ a ≠ l := fun a => by simp
  have le : Le (hid F.O H) (hid (F.O.filter (fun b => decide (b ≠ l))) H) := Le.sub fun b hb => ((mO b).mp hb).1
  refine h F0 H0 ⟨F.S, F.O.filter (fun b => decide (b ≠ l)), F.N.filter (fun b => decide (b ≠ l))⟩ _ σ H k D ⟨fun a ha => (mO a).mpr ⟨g.so a ha, lS a ha⟩, fun a ha => ?_, fun a ha => g.ns a ((mN a).mp ha).1, g.st, (fun a ha => g.ex a ((mO a).mp ha).1), g.tS, g.tb.sub fun b hb => ((mO b).mp hb).1⟩
    ⟨fun a ha => (mO a).mpr ⟨s.sub a ha, l0 a ha⟩, s.subS, s.newS, fun a ha => s.newN a ((mN a).mp ha).1, fun a ha => s.newO a ((mO a).mp ha).1, s.kp, s.ex0⟩ ⟨fun j z hj => ?_, fun j1 j2 e1 e2 u n k1 k2 k3 k4 m1 m2 => ?_, by rw [List.length_set, e.len]⟩ hz (a.move le)
  · exact (mO a).mpr ⟨g.no a ((mN a).mp ha).1, ((mN a).mp ha).2⟩
  · by_cases c : i = j
    · subst c
      rw [List.getElem?_set_self hi] at hj
      cases hj
      exact ⟨.ref l, h2, Dz.lst (hid_some.mpr ⟨fun z => ((mO l).mp z).2 rfl, h3⟩) (Dz.monos le ds h4)⟩
    · rw [List.getElem?_set_ne c] at hj
      obtain ⟨v, e1, e2⟩ := e.at_ j z hj
      refine ⟨v, e1, ?_⟩
      cases z with
      | dat d => exact Dz.mono le d e2
      | strm => exact e2
      | own fs =>
        obtain ⟨q, ys, rfl, e3, e4, e5⟩ := e2
        have nq : q ≠ l := fun z => by
          subst z
          exact e.df i j (.own ds) (.own fs) (.ref q) c h1 hj h2 e1 trivial trivial
        exact ⟨q, ys, rfl, (mN q).mpr ⟨e3, nq⟩, e4, Dz.monos le fs e5⟩
      | ownD fs =>
        obtain ⟨q, ys, rfl, e3, e4, e5⟩ := e2
        have nq : q ≠ l := fun z => by
          subst z
          exact e.df i j (.own ds) (.ownD fs) (.ref q) c h1 hj h2 e1 trivial trivial
        exact ⟨q, ys, rfl, (mN q).mpr ⟨e3, nq⟩, e4, Dz.monoK le fs e5⟩
      | exc _ _ => exact e2
      | exf _ _ _ _ _ => exact RZ.le_exf le e2
      | clo _ => exact RZ.le_clo le e2
      | scr ns =>
        obtain ⟨a, e3, e4⟩ := e2
        exact ⟨a, e3, le.seqL e4⟩
  · have back : ∀ (j : Nat) (z : Z), z.mine → (ρ.set i (some (Z.dat (.list ds))))[j]? = some (some z) → ρ[j]? = some (some z) := fun j z m hj => by
      by_cases c : i = j
      · subst c
        rw [List.getElem?_set_self hi] at hj
        cases hj
        exact m.elim
      · rw [List.getElem?_set_ne c] at hj
        exact hj
    exact e.df j1 j2 e1 e2 u n (back j1 e1 m1 k1) (back j2 e2 m2 k2) k3 k4 m1 m2
/-! ### what is walked -/
def Walk (K : PySem.W.Frag) (F : Fr) (H : Hp) (J : It) (ds : List PyData) : Prop := ∀ (G : Fr) (H' : Hp), Le (hid F.O H) (hid G.O H') → Good G H' →
  (∀ (i : Nat) d, ds[i]? = some d → J.go i H' ∧ ∀ x H3, J.yld i H' x H3 → Rel G.S G.O H' H3 ∧ RZ K G H3 (.dat d) x) ∧ J.stop ds.length H'
abbrev ZI := Rho → (List PyData → Prop) → (Xc → Prop) → Prop
def TrI (K : PySem.W.Frag) (W : WX) (wi : TI) (z : ZI) : Prop := ∀ (F : Fr) (ρ : Rho) (σ : L2.St) (H : Hp) (Qz : List PyData → Prop) (Ez : Xc → Prop) (R : It → Hp → Prop), Good F H → En K F H ρ σ → z ρ Qz Ez →
  (∀ ds J H', Rel F.S F.O H H' → Walk K F H' J ds → Qz ds → R J H') → (∀ x C d H', Rel F.S F.O H H' → RX K F H' x C d → Ez x → W C d σ H') → wi σ H R
/-- the items of a list, a tuple, a text -/
def sign (c : Nat) : PyData := .str ⟨#[c]⟩
def items : Z → Option (List PyData)
  | .dat (.list ds) => some ds
  | .dat (.tuple ds) => some ds
  | .dat (.str x) => some (x.cps.toList.map sign)
  | _ => none
def zItems (a : ZE) : ZI := fun ρ Q E => a ρ (fun z => ∃ ds, items z = some ds ∧ Q ds) E
theorem walk_l {F : Fr} {H : Hp} {a : Addr} {xs : List V} {ds : List PyData} (h : SqL K (hid F.O H) a xs) (hd : DzAll K (hid F.O H) xs ds) : Walk K F H (Itl K a) ds := fun G H' l g => by
  have h' := l.seqL h
  have h2 := Le.hid_self.seqL h'
  refine ⟨fun i d hi => ?_, xs, h2, by rw [hd.len]; exact Nat.le_refl _⟩
  obtain ⟨v, hv, hz⟩ := hd.get' hi
  refine ⟨⟨xs, v, h2, hv⟩, fun x H3 hy => ?_⟩
  obtain ⟨rfl, hy⟩ := hy
  have := hy xs h2
  rw [hv] at this
  cases this
  exact ⟨.refl _ _ _, Dz.mono l d hz⟩
theorem walk_t {F : Fr} {H : Hp} {a : Addr} {xs : List V} {ds : List PyData} (h : SqT K (hid F.O H) a xs) (hd : DzAll K (hid F.O H) xs ds) : Walk K F H (Itt K a) ds := fun G H' l g => by
  have h' := l.seqT h
  have h2 := Le.hid_self.seqT h'
  refine ⟨fun i d hi => ?_, xs, h2, by rw [hd.len]; exact Nat.le_refl _⟩
  obtain ⟨v, hv, hz⟩ := hd.get' hi
  refine ⟨⟨xs, v, h2, hv⟩, fun x H3 hy => ?_⟩
  obtain ⟨rfl, hy⟩ := hy
  have := hy xs h2
  rw [hv] at this
  cases this
  exact ⟨.refl _ _ _, Dz.mono l d hz⟩
theorem dz_sign {H : Hp} {c : Nat} : Dz K H (.str ⟨#[c]⟩) (sign c) := .str _
theorem walk_s {F : Fr} {H : Hp} {x : Str} : Walk K F H (Its x) (x.cps.toList.map sign) := fun G H' l g => by
  refine ⟨fun i d hi => ?_, by show x.cps.size ≤ (x.cps.toList.map sign).length; simp⟩
  rw [List.getElem?_map] at hi
  cases e : x.cps.toList[i]? with
  | none => rw [e] at hi; cases hi
  | some c =>
    rw [e] at hi
    cases hi
    have lt : i < x.cps.size := by
      have := (List.getElem?_eq_some_iff.mp e).1
      simpa using this
    refine ⟨lt, fun v H3 hy => ?_⟩
    obtain ⟨rfl, c2, hc, rfl⟩ := hy
    have e2 : x.cps[i]? = some c := by rw [← e]; simp
    rw [hc] at e2
    cases e2
    exact ⟨.refl _ _ _, dz_sign⟩
/-- a list, a tuple, a text -/
def iSeq (K : PySem.W.Frag) (te : TE) : TI := fun σ H R => te σ H fun x H1 => (∃ a, x = .ref a ∧ (((∃ xs, SqL K H1 a xs) ∧ R (Itl K a) H1) ∨ ((∃ xs, SqT K H1 a xs) ∧ R (Itt K a) H1))) ∨ ∃ y, x = .str y ∧ R (Its y) H1
theorem tr_seqI {te : TE} {za : ZE} (h : Tr K W te za) : TrI K W (iSeq K te) (zItems za) := fun F ρ σ H Qz Ez R g e hz q x => by
  refine h F ρ σ H _ Ez _ g e hz (fun r v H1 r1 d1 q1 => ?_) x
  obtain ⟨ds, h1, q1⟩ := q1
  cases r with
  | strm => cases h1
  | own es => cases h1
  | ownD es => cases h1
  | exc _ _ => cases h1
  | exf _ _ _ _ _ => cases h1
  | clo _ => cases h1
  | scr ns => cases h1
  | dat d =>
    cases d with
    | list es =>
      cases h1
      cases (show Dz K _ v (.list ds) from d1) with
      | lst hs ha => exact .inl ⟨_, rfl, .inl ⟨⟨_, Le.hid_self.seqL (SqL.of hs)⟩, q ds _ H1 r1 (walk_l (SqL.of hs) ha) q1⟩⟩
    | tuple es =>
      cases h1
      cases (show Dz K _ v (.tuple ds) from d1) with
      | tup hs ha => exact .inl ⟨_, rfl, .inr ⟨⟨_, Le.hid_self.seqT hs⟩, q ds _ H1 r1 (walk_t hs ha) q1⟩⟩
    | str y =>
      cases h1
      cases (show Dz K _ v (.str y) from d1) with
      | str _ => exact .inr ⟨_, rfl, q _ _ H1 r1 walk_s q1⟩
    | none => cases h1
    | bool _ => cases h1
    | int _ => cases h1
    | dict _ => cases h1
theorem pi_seq {X : Cx} {tg l : Expr} {tl : TE} (hl : PE X l tl) : PI X tg l (iSeq X.K tl) := by
  refine ⟨fun pins s σ H R I h => ?_⟩
  refine thn (hl.run pins s σ H _ I h) fun v s1 ⟨x, H1, I1, r1, q1⟩ => ?_
  have fr : ∀ b ∈ [s1.heap.objs.size], FpOk X pins H1 b := fun b hb => by
    have e : b = s1.heap.objs.size := by simpa using hb
    subst e
    exact I1.fpOk (Nat.le_refl _) (I1.hok.fresh (Nat.le_refl _))
  rcases q1 with ⟨a, rfl, ⟨⟨xs, hq⟩, q⟩ | ⟨⟨xs, hq⟩, q⟩⟩ | ⟨y, rfl, q⟩
  · cases r1
    obtain ⟨its, rv, p, hz⟩ := I1.list hq
    refine wpAny_pyIter_list p.isList ?_
    exact ⟨s1.heap.objs.size, [s1.heap.objs.size], _, _, H1, rfl, I1.kept (t' := s1.toks) fun b o e => Heap.get?_push_of_some _ e, turn_list a _, ⟨_, Heap.get?_push_size _ rfl, rfl, rfl⟩, fr, q⟩
  · cases r1
    obtain ⟨its, rv, p, hz⟩ := I1.tuple hq
    refine wpAny_pyIter_tuple (show s1.heap.IsTuple a its.toArray from p) ?_
    exact ⟨s1.heap.objs.size, [s1.heap.objs.size], _, _, H1, rfl, I1.kept (t' := s1.toks) fun b o e => Heap.get?_push_of_some _ e, turn_tuple a _, ⟨_, Heap.get?_push_size _ rfl, rfl, rfl⟩, fr, q⟩
  · obtain ⟨t, rfl⟩ := r1
    cases ha : y.cps.all (· < 128)
    · exact wpAny_pyIter_wide ha (pi_one (tk := s1.toks) I1 _ (turn_str _ y t "str_iterator" (.inr rfl)) ⟨_, Heap.get?_push_size _ rfl, rfl, rfl⟩ q)
    · exact wpAny_pyIter_ascii ha (pi_one (tk := s1.toks) I1 _ (turn_str _ y t "str_ascii_iterator" (.inl rfl)) ⟨_, Heap.get?_push_size _ rfl, rfl, rfl⟩ q)
/-! ### ranges, enumerate, zip -/
def runI (lo : Int) (n : Nat) : List PyData := (List.range n).map fun i : Nat => PyData.int (lo + (i : Int))
theorem walk_r {F : Fr} {H : Hp} {lo : Int} {n : Nat} : Walk K F H (Itr lo n) (runI lo n) := fun G H' l g => by
  refine ⟨fun i d hi => ?_, by show n ≤ (runI lo n).length; simp [runI]⟩
  unfold runI at hi
  rw [List.getElem?_map] at hi
  cases e : (List.range n)[i]? with
  | none => rw [e] at hi; cases hi
  | some c =>
    rw [e] at hi
    cases hi
    have lt := (List.getElem?_eq_some_iff.mp e).1
    rw [List.length_range] at lt
    have ec : c = i := by
      rw [List.getElem?_range lt] at e
      cases e
      rfl
    subst ec
    refine ⟨lt, fun v H3 hy => ?_⟩
    obtain ⟨rfl, rfl⟩ := hy
    exact ⟨.refl _ _ _, Dz.int _⟩
def big : Int := 2 ^ 62
def zRng1 (a : ZA) : ZI := fun ρ Q E => a ρ (fun zs => ∃ j : Int, zs = [.dat (.int j)] ∧ -big ≤ j ∧ j < big ∧ Q (runI 0 j.toNat)) E
def zRng2 (a : ZA) : ZI := fun ρ Q E => a ρ (fun zs => ∃ i j : Int, zs = [.dat (.int i), .dat (.int j)] ∧ (-big ≤ i ∧ i < big ∧ -big ≤ j ∧ j < big) ∧ Q (runI i (j - i).toNat)) E
theorem RZs.one {F : Fr} {H : Hp} {z : Z} {vs : List V} (h : RZs K F H [z] vs) : ∃ v, vs = [v] ∧ RZ K F H z v := by
  cases h with
  | cons h t => cases t; exact ⟨_, rfl, h⟩
theorem RZs.two {F : Fr} {H : Hp} {y z : Z} {vs : List V} (h : RZs K F H [y, z] vs) : ∃ u v, vs = [u, v] ∧ RZ K F H y u ∧ RZ K F H z v := by
  cases h with
  | cons h t =>
    obtain ⟨v, rfl, q⟩ := t.one
    exact ⟨_, v, rfl, h, q⟩
theorem rz_int {F : Fr} {H : Hp} {i : Int} {v : V} (h : RZ K F H (.dat (.int i)) v) : v = .int i := by
  cases (show Dz K _ v (.int i) from h)
  rfl
theorem rz_str {F : Fr} {H : Hp} {x : Str} {v : V} (h : RZ K F H (.dat (.str x)) v) : v = .str x := by
  cases (show Dz K _ v (.str x) from h)
  rfl
theorem rz_bool {F : Fr} {H : Hp} {i : Bool} {v : V} (h : RZ K F H (.dat (.bool i)) v) : v = .bl i := by
  cases (show Dz K _ v (.bool i) from h)
  rfl
theorem rz_none {F : Fr} {H : Hp} {v : V} (h : RZ K F H (.dat .none) v) : v = .non := by
  cases (show Dz K _ v .none from h)
  rfl
theorem rz_list {F : Fr} {H : Hp} {ds : List PyData} {v : V} (h : RZ K F H (.dat (.list ds)) v) : ∃ p xs, v = .ref p ∧ SqL K (hid F.O H) p xs ∧ DzAll K (hid F.O H) xs ds := by
  cases (show Dz K _ v (.list ds) from h) with
  | lst a b => exact ⟨_, _, rfl, SqL.of a, b⟩
theorem rz_lst {F : Fr} {H : Hp} {ds : List PyData} {v : V} (h : RZ K F H (.dat (.list ds)) v) : ∃ p xs, v = .ref p ∧ H p = some (.lst xs) ∧ DzAll K (hid F.O H) xs ds := by
  cases (show Dz K _ v (.list ds) from h) with
  | lst a b => exact ⟨_, _, rfl, (hid_some.mp a).2, b⟩
theorem rz_tuple {F : Fr} {H : Hp} {ds : List PyData} {v : V} (h : RZ K F H (.dat (.tuple ds)) v) : ∃ p xs, v = .ref p ∧ SqT K (hid F.O H) p xs ∧ DzAll K (hid F.O H) xs ds := by
  cases (show Dz K _ v (.tuple ds) from h) with
  | tup a b => exact ⟨_, _, rfl, a, b⟩
theorem tr_rng1 {ta : TA} {za : ZA} (h : TrA K W ta za) : TrI K W (iRng1 ta) (zRng1 za) := fun F ρ σ H Qz Ez R g e hz q x => by
  refine h F ρ σ H _ Ez _ g e hz (fun r v H1 r1 d1 q1 => ?_) x
  obtain ⟨j, rfl, h1, h2, q1⟩ := q1
  obtain ⟨u, rfl, d⟩ := d1.one
  exact ⟨j, by rw [rz_int d], h1, h2, q _ _ H1 r1 walk_r q1⟩
theorem tr_rng2 {ta : TA} {za : ZA} (h : TrA K W ta za) : TrI K W (iRng2 ta) (zRng2 za) := fun F ρ σ H Qz Ez R g e hz q x => by
  refine h F ρ σ H _ Ez _ g e hz (fun r v H1 r1 d1 q1 => ?_) x
  obtain ⟨i, j, rfl, h1, q1⟩ := q1
  obtain ⟨u, w, rfl, d, d'⟩ := d1.two
  exact ⟨i, j, by rw [rz_int d, rz_int d'], h1, q _ _ H1 r1 walk_r q1⟩
/-- numbered pairs, pairs -/
def numb : Nat → List PyData → List PyData
  | _, [] => []
  | i, d :: r => .tuple [.int i, d] :: numb (i + 1) r
theorem numb_get : ∀ {ds : List PyData} {n i : Nat} {d : PyData}, (numb n ds)[i]? = some d → ∃ x, ds[i]? = some x ∧ d = .tuple [.int ((n + i : Nat) : Int), x]
  | [], _, _, _, h => by simp [numb] at h
  | x :: r, n, 0, d, h => by
    simp [numb] at h
    exact ⟨x, rfl, by rw [← h]; simp⟩
  | x :: r, n, i + 1, d, h => by
    have h' : (numb (n + 1) r)[i]? = some d := by simpa [numb] using h
    obtain ⟨y, h1, h2⟩ := numb_get h'
    exact ⟨y, by simpa using h1, by rw [h2, show n + 1 + i = n + (i + 1) by omega]⟩
theorem numb_len : ∀ (ds : List PyData) (n : Nat), (numb n ds).length = ds.length
  | [], _ => rfl
  | _ :: r, n => congrArg (· + 1) (numb_len r (n + 1))
def pairs : List PyData → List PyData → List PyData
  | a :: r, b :: t => .tuple [a, b] :: pairs r t
  | _, _ => []
theorem pairs_get : ∀ {ds es : List PyData} {i : Nat} {d : PyData}, (pairs ds es)[i]? = some d → ∃ x y, ds[i]? = some x ∧ es[i]? = some y ∧ d = .tuple [x, y]
  | [], _, _, _, h => by simp [pairs] at h
  | _ :: _, [], _, _, h => by simp [pairs] at h
  | x :: r, y :: t, 0, d, h => by
    simp [pairs] at h
    exact ⟨x, y, rfl, rfl, h.symm⟩
  | x :: r, y :: t, i + 1, d, h => by
    have h' : (pairs r t)[i]? = some d := by simpa [pairs] using h
    obtain ⟨a, b, h1, h2, h3⟩ := pairs_get h'
    exact ⟨a, b, by simpa using h1, by simpa using h2, h3⟩
theorem pairs_len : ∀ (ds es : List PyData), (pairs ds es).length = min ds.length es.length
  | [], _ => by simp [pairs]
  | _ :: _, [] => by simp [pairs]
  | _ :: r, _ :: t => by
    simp only [pairs, List.length_cons, pairs_len r t]
    omega
theorem dz_two {G : Fr} {H : Hp} {T : Addr} {u v : V} {a b : PyData} (g : Good G H) (n : H T = none) (ha : Dz K (hid G.O H) u a) (hb : Dz K (hid G.O H) v b) : Dz K (hid G.O (upd H T (.tup [u, v]))) (.ref T) (.tuple [a, b]) :=
  dz_newT g n (.cons ha (.cons hb .nil))
theorem walk_e {F : Fr} {H : Hp} {a : Addr} {xs : List V} {ds : List PyData} (h : SqL K (hid F.O H) a xs) (hd : DzAll K (hid F.O H) xs ds) : Walk K F H (Ite K a) (numb 0 ds) := fun G H' l g => by
  have h2 := Le.hid_self.seqL (l.seqL h)
  refine ⟨fun i d hi => ?_, xs, h2, by rw [numb_len, hd.len]; exact Nat.le_refl _⟩
  obtain ⟨y, h3, rfl⟩ := numb_get hi
  obtain ⟨v, hv, hz⟩ := hd.get' h3
  refine ⟨⟨xs, v, h2, hv⟩, fun x H3 hy => ?_⟩
  obtain ⟨T, w, rfl, nT, rfl, hy⟩ := hy
  have := hy xs h2
  rw [hv] at this
  cases this
  rw [Nat.zero_add]
  exact ⟨.new nT, dz_two g nT (.int _) (Dz.mono l y hz)⟩
theorem walk_z {F : Fr} {H : Hp} {a b : Addr} {xs ys : List V} {ds es : List PyData} (h : SqL K (hid F.O H) a xs) (hd : DzAll K (hid F.O H) xs ds) (h' : SqL K (hid F.O H) b ys) (hd' : DzAll K (hid F.O H) ys es) : Walk K F H (Itz K a b) (pairs ds es) := fun G H' l g => by
  have h2 := Le.hid_self.seqL (l.seqL h)
  have h2' := Le.hid_self.seqL (l.seqL h')
  refine ⟨fun i d hi => ?_, xs, ys, h2, h2', by rw [pairs_len, hd.len, hd'.len]; omega⟩
  obtain ⟨y, y', h3, h3', rfl⟩ := pairs_get hi
  obtain ⟨v, hv, hz⟩ := hd.get' h3
  obtain ⟨v', hv', hz'⟩ := hd'.get' h3'
  refine ⟨⟨xs, ys, v, v', h2, h2', hv, hv'⟩, fun x H3 hy => ?_⟩
  obtain ⟨T, w, w', rfl, nT, rfl, hy, hy'⟩ := hy
  have e1 := hy xs h2
  rw [hv] at e1
  cases e1
  have e2 := hy' ys h2'
  rw [hv'] at e2
  cases e2
  exact ⟨.new nT, dz_two g nT (Dz.mono l y hz) (Dz.mono l y' hz')⟩
theorem walk_zT {F : Fr} {H : Hp} {a b : Addr} {xs ys : List V} {ds es : List PyData} (h : SqT K (hid F.O H) a xs) (hd : DzAll K (hid F.O H) xs ds) (h' : SqT K (hid F.O H) b ys) (hd' : DzAll K (hid F.O H) ys es) : Walk K F H (RZ.ItzT K a b) (pairs ds es) := fun G H' l g => by
  have h2 := Le.hid_self.seqT (l.seqT h)
  have h2' := Le.hid_self.seqT (l.seqT h')
  refine ⟨fun i d hi => ?_, xs, ys, h2, h2', by rw [pairs_len, hd.len, hd'.len]; omega⟩
  obtain ⟨y, y', h3, h3', rfl⟩ := pairs_get hi
  obtain ⟨v, hv, hz⟩ := hd.get' h3
  obtain ⟨v', hv', hz'⟩ := hd'.get' h3'
  refine ⟨⟨xs, ys, v, v', h2, h2', hv, hv'⟩, fun x H3 hy => ?_⟩
  obtain ⟨T, w, w', rfl, nT, rfl, hy, hy'⟩ := hy
  have e1 := hy xs h2
  rw [hv] at e1
  cases e1
  have e2 := hy' ys h2'
  rw [hv'] at e2
  cases e2
  exact ⟨.new nT, dz_two g nT (Dz.mono l y hz) (Dz.mono l y' hz')⟩
def zEnum (a : ZA) : ZI := fun ρ Q E => a ρ (fun zs => ∃ ds, zs = [.dat (.list ds)] ∧ Q (numb 0 ds)) E
theorem tr_enum {ta : TA} {za : ZA} (h : TrA K W ta za) : TrI K W (iEnum K ta) (zEnum za) := fun F ρ σ H Qz Ez R g e hz q x => by
  refine h F ρ σ H _ Ez _ g e hz (fun r v H1 r1 d1 q1 => ?_) x
  obtain ⟨ds, rfl, q1⟩ := q1
  obtain ⟨u, rfl, d⟩ := d1.one
  obtain ⟨p, xs, rfl, hs, ha⟩ := rz_list d
  exact ⟨p, xs, rfl, Le.hid_self.seqL hs, q _ _ H1 r1 (walk_e hs ha) q1⟩
/-- two lists, or two tuples -/
def zZip (a : ZA) : ZI := fun ρ Q E => a ρ (fun zs => ∃ ds es, (zs = [.dat (.list ds), .dat (.list es)] ∨ zs = [.dat (.tuple ds), .dat (.tuple es)]) ∧ Q (pairs ds es)) E
theorem tr_zip {ta : TA} {za : ZA} (h : TrA K W ta za) : TrI K W (RZ.iZipA K ta) (zZip za) := fun F ρ σ H Qz Ez R g e hz q x => by
  refine h F ρ σ H _ Ez _ g e hz (fun r v H1 r1 d1 q1 => ?_) x
  obtain ⟨ds, es, hh, q1⟩ := q1
  rcases hh with rfl | rfl
  · obtain ⟨u, w, rfl, d, d'⟩ := d1.two
    obtain ⟨p, xs, rfl, hs, ha⟩ := rz_list d
    obtain ⟨p', xs', rfl, hs', ha'⟩ := rz_list d'
    exact ⟨p, p', xs, xs', rfl, .inl ⟨Le.hid_self.seqL hs, Le.hid_self.seqL hs', q _ _ H1 r1 (walk_z hs ha hs' ha') q1⟩⟩
  · obtain ⟨u, w, rfl, d, d'⟩ := d1.two
    obtain ⟨p, xs, rfl, hs, ha⟩ := rz_tuple d
    obtain ⟨p', xs', rfl, hs', ha'⟩ := rz_tuple d'
    exact ⟨p, p', xs, xs', rfl, .inr ⟨Le.hid_self.seqT hs, Le.hid_self.seqT hs', q _ _ H1 r1 (walk_zT hs ha hs' ha') q1⟩⟩
/-! ### for -/
def zForGo (g : ZG) (b : ZS) : List PyData → Rho → Kz → Prop
  | [], ρ, k => k.nx ρ
  | d :: r, ρ, k => g (.dat d) ρ fun ρ' => b ρ' { k with nx := fun ρ2 => zForGo g b r ρ2 k, ct := fun ρ2 => zForGo g b r ρ2 k, bk := k.nx }
def zFor (a : ZI) (g : ZG) (b : ZS) : ZS := fun ρ k => a ρ (fun ds => zForGo g b ds ρ k) (k.ex ρ)
theorem tr_for {sl : List Nat} {wi : TI} {tg : TG} {tb : TS} {za : ZI} {zg : ZG} {zb : ZS} (h : TrI K W wi za) (hg : TrG K sl tg zg) (hb : TrS K W tb zb) : TrS K W (tFor wi tg tb) (zFor za zg zb) := fun F0 H0 F ρ σ H k D g s e hz a => by
  refine h F ρ σ H _ _ _ g e hz (fun ds J H1 r1 wk q1 => ?_) fun x C d H1 r1 d1 h1 => a.ex x C d ρ σ F H1 (g.rel r1) (s.rel r1) (g.le r1) (e.rel g r1) d1 h1
  refine ⟨fun i m σ' H' => m + i = ds.length ∧ ∃ F' ρ', Good F' H' ∧ Si F0 H0 F' H' ∧ Le (hid F.O H1) (hid F'.O H') ∧ En K F' H' ρ' σ' ∧ zForGo zg zb (ds.drop i) ρ' k, ⟨ds.length, rfl, F, ρ, g.rel r1, s.rel r1, .refl _, e.rel g r1, q1⟩, fun i m σ' H' hw => ?_⟩
  obtain ⟨hm, F', ρ', g', s', l', e', q'⟩ := hw
  obtain ⟨w1, w2⟩ := wk F' H' l' g'
  have a1 := a.move (g.le r1)
  by_cases hi : i < ds.length
  · have hd : ds[i]? = some ds[i] := List.getElem?_eq_getElem hi
    rw [List.drop_eq_getElem_cons hi] at q'
    obtain ⟨go, yl⟩ := w1 i _ hd
    refine .inr ⟨go, fun σ' H' => m - 1 + (i + 1) = ds.length ∧ ∃ F' ρ', Good F' H' ∧ Si F0 H0 F' H' ∧ Le (hid F.O H1) (hid F'.O H') ∧ En K F' H' ρ' σ' ∧ zForGo zg zb (ds.drop (i + 1)) ρ' k, fun σ2 H2 h2 => ⟨m - 1, by omega, h2⟩, fun x H3 y3 => ?_⟩
    obtain ⟨r3, d3⟩ := yl x H3 y3
    refine hg F' ρ' σ' H3 _ x _ _ (g'.rel r3) (e'.rel g' r3) d3 trivial q' fun ρ4 σ4 e4 _ q4 => ?_
    refine hb F0 H0 F' ρ4 σ4 H3 _ _ (g'.rel r3) (s'.rel r3) e4 q4 ?_
    have l3 := l'.trans (g'.le r3)
    have again : ∀ ρ5 F5 σ5 H5, Good F5 H5 → Si F0 H0 F5 H5 → Le (hid F'.O H3) (hid F5.O H5) → En K F5 H5 ρ5 σ5 → zForGo zg zb (ds.drop (i + 1)) ρ5 k →
        m - 1 + (i + 1) = ds.length ∧ ∃ F' ρ', Good F' H5 ∧ Si F0 H0 F' H5 ∧ Le (hid F.O H1) (hid F'.O H5) ∧ En K F' H5 ρ' σ5 ∧ zForGo zg zb (ds.drop (i + 1)) ρ' k :=
      fun ρ5 F5 σ5 H5 g5 s5 l5 e5 q5 => ⟨by omega, F5, ρ5, g5, s5, l3.trans l5, e5, q5⟩
    exact ⟨again, fun ρ5 F5 σ5 H5 g5 s5 l5 e5 q5 => a1.nx ρ5 F5 σ5 H5 g5 s5 (l3.trans l5) e5 q5, again, a.rt, fun x C d ρ5 σ5 F5 H5 g5 s5 l5 e5 r5 q5 => a1.ex x C d ρ5 σ5 F5 H5 g5 s5 (l3.trans l5) e5 r5 q5⟩
  · have e0 : i = ds.length := by omega
    subst e0
    rw [List.drop_length] at q'
    exact .inl ⟨w2, a1.nx ρ' F' σ' H' g' s' l' e' q'⟩
end Zl
end
section
/-! Z3: comprehensions, while -/
namespace Zl
open PySem PySem.Spec PyProof.Rows L2 Kb
variable [Tabd]
variable {K : PySem.W.Frag} {W : WX}
def wipeZ (ρ : Rho) : List Nat → Rho
  | [] => ρ
  | v :: vs => (wipeZ ρ vs).set v none
theorem En.unset {F : Fr} {H : Hp} {ρ : Rho} {σ : L2.St} {i : Nat} (e : En K F H ρ σ) : En K F H (ρ.set i none) (σ.set i none) := by
  have key : ∀ (j : Nat) z, (ρ.set i none)[j]? = some (some z) → i ≠ j ∧ ρ[j]? = some (some z) := fun j z h1 => by
    by_cases n : i = j
    · subst n
      by_cases hi : i < ρ.length
      · rw [List.getElem?_set_self hi] at h1
        cases h1
      · rw [List.getElem?_eq_none (by rw [List.length_set]; omega)] at h1
        cases h1
    · rw [List.getElem?_set_ne n] at h1
      exact ⟨n, h1⟩
  refine ⟨fun j z h1 => ?_, fun j1 j2 ds es u n h1 h2 h3 h4 m1 m2 => ?_, by rw [List.length_set, List.length_set, e.len]⟩
  · obtain ⟨n, h2⟩ := key j z h1
    rw [List.getElem?_set_ne n]
    exact e.at_ j z h2
  · obtain ⟨n1, k1⟩ := key j1 _ h1
    obtain ⟨n2, k2⟩ := key j2 _ h2
    rw [List.getElem?_set_ne n1] at h3
    rw [List.getElem?_set_ne n2] at h4
    exact e.df j1 j2 ds es u n k1 k2 h3 h4 m1 m2
theorem En.wipe {F : Fr} {H : Hp} {ρ : Rho} {σ : L2.St} (e : En K F H ρ σ) : ∀ vs : List Nat, En K F H (wipeZ ρ vs) (L2.wipe σ vs)
  | [] => e
  | v :: vs => (En.wipe e vs).unset
theorem wipe_wipe {σ : L2.St} : ∀ vs : List Nat, wipe (wipe σ vs) vs = wipe σ vs
  | [] => rfl
  | v :: vs => by
    have h : wipe ((wipe σ vs).set v none) (v :: vs) = wipe (wipe σ vs) (v :: vs) := wipe_set List.mem_cons_self
    have h2 : wipe (wipe σ vs) (v :: vs) = (wipe (wipe σ vs) vs).set v none := rfl
    show wipe ((wipe σ vs).set v none) (v :: vs) = (wipe σ vs).set v none
    rw [h, h2, wipe_wipe vs]
def zLcGo (g : ZG) (t : ZT) (e : ZE) (ρ : Rho) : List PyData → List PyData → (List PyData → Prop) → Prop
  | [], acc, Q => Q acc
  | d :: r, acc, Q => g (.dat d) ρ fun ρ' => t ρ' (fun b => if b = true then e ρ' (fun y => ∃ x, y = .dat x ∧ acc.length < line ∧ zLcGo g t e ρ r (acc ++ [x]) Q) (fun _ => False) else zLcGo g t e ρ r acc Q) (fun _ => False)
def zLc (vs : List Nat) (a : ZI) (g : ZG) (t : ZT) (e : ZE) : ZN := fun ρ Q E => a ρ (fun ds => zLcGo g t e (wipeZ ρ vs) ds [] Q) E
abbrev WF : WX := fun _ _ _ _ => False
theorem Good.hide {F : Fr} {H : Hp} {p : Addr} (g : Good F H) (h : Nf H p) : Good ⟨F.S, p :: F.O, F.N⟩ H :=
  ⟨fun a z => List.mem_cons_of_mem _ (g.so a z), fun a z => List.mem_cons_of_mem _ (g.no a z), g.ns, g.st, fun a z => by
    rcases List.mem_cons.mp z with z | z
    · rw [z]; exact h.some
    · exact g.ex a z, g.tS, g.tb.hide h⟩
theorem Good.hideR {F : Fr} {H H' : Hp} {p : Addr} (g : Good F H) (n : H p = none) (r : Rel F.S (p :: F.O) H H') (h : H' p ≠ none) : Good ⟨F.S, p :: F.O, F.N⟩ H' :=
  have g1 := g.rel (r.unhideN n)
  ⟨fun a z => List.mem_cons_of_mem _ (g.so a z), fun a z => List.mem_cons_of_mem _ (g.no a z), g.ns, g1.st, fun a z => by
    rcases List.mem_cons.mp z with z | z
    · rw [z]; exact h
    · exact g1.ex a z, g.tS, r.tb (g.tb.hideN n)⟩
theorem RZ.hide {F : Fr} {H H' : Hp} {p : Addr} (g : Good F H) (r : Rel F.S F.O H H') (n : H p = none) {z : Z} {v : V} (h : RZ K F H z v) : RZ K ⟨F.S, p :: F.O, F.N⟩ H' z v := by
  have l := Le.grow g r n
  cases z with
  | dat d => exact Dz.mono l d h
  | strm => exact h
  | own ds =>
    obtain ⟨q, xs, e1, e2, e3, e4⟩ := h
    exact ⟨q, xs, e1, e2, r.kp q _ (g.ns q e2) e3, Dz.monos l ds e4⟩
  | ownD ds =>
    obtain ⟨q, xs, e1, e2, e3, e4⟩ := h
    exact ⟨q, xs, e1, e2, r.kp q _ (g.ns q e2) e3, Dz.monoK l ds e4⟩
  | exc _ _ => exact h
  | exf _ _ _ _ _ => exact RZ.le_exf l h
  | clo _ => exact RZ.le_clo l h
  | scr ns =>
    obtain ⟨a, e1, e2⟩ := h
    exact ⟨a, e1, l.seqL e2⟩
theorem En.hide {F : Fr} {H H' : Hp} {p : Addr} {ρ : Rho} {σ : L2.St} (g : Good F H) (r : Rel F.S F.O H H') (n : H p = none) (e : En K F H ρ σ) : En K ⟨F.S, p :: F.O, F.N⟩ H' ρ σ :=
  ⟨fun i z h => by
    obtain ⟨v, h1, h2⟩ := e.at_ i z h
    exact ⟨v, h1, h2.hide g r n⟩, e.df, e.len⟩
theorem tr_lc {sl vs : List Nat} {wi : TI} {tg : TG} {tt : TT} {te : TE} {za : ZI} {zg : ZG} {zt : ZT} {ze : ZE} (h : TrI K W wi za) (hg : TrG K sl tg zg) (hs : ∀ i ∈ sl, i ∈ vs) (ht : TrT K WF tt zt) (he : Tr K WF te ze) : TrN K W (tLc wi tg tt te vs) (zLc vs za zg zt ze) := fun F ρ σ H Qz Ez Q g e hz q x => by
  refine h F ρ σ H _ Ez _ g e hz (fun ds J H1 r1 wk q1 => ?_) x
  intro D nD
  have g1 := g.rel r1
  have e1 := e.rel g r1
  have nD0 := r1.none_back g nD
  refine ⟨fun i m H' => m + i = ds.length ∧ Rel F.S F.O H1 H' ∧ ∃ acc av, H' D = some (.lst av) ∧ DzAll K (hid (D :: F.O) H') av acc ∧ zLcGo zg zt ze (wipeZ ρ vs) (ds.drop i) acc Qz, ⟨ds.length, rfl, .new nD, [], [], upd_same, .nil, q1⟩, fun i m H' hw => ?_⟩
  obtain ⟨hm, r', acc, av, hD, hav, q'⟩ := hw
  have g' := (g1.rel r').hide (p := D) ⟨_, hD, id⟩
  have l' := Le.grow g1 r' nD
  obtain ⟨w1, w2⟩ := wk _ H' l' g'
  have e' : En K ⟨F.S, D :: F.O, F.N⟩ H' (wipeZ ρ vs) (wipe σ vs) := (e1.hide g1 r' nD).wipe vs
  by_cases hi : i < ds.length
  · have hd : ds[i]? = some ds[i] := List.getElem?_eq_getElem hi
    rw [List.drop_eq_getElem_cons hi] at q'
    obtain ⟨go, yl⟩ := w1 i _ hd
    refine .inr ⟨go, fun H' => m - 1 + (i + 1) = ds.length ∧ Rel F.S F.O H1 H' ∧ ∃ acc av, H' D = some (.lst av) ∧ DzAll K (hid (D :: F.O) H') av acc ∧ zLcGo zg zt ze (wipeZ ρ vs) (ds.drop (i + 1)) acc Qz, fun H2 h2 => ⟨m - 1, by omega, h2⟩, fun y H3 y3 => ?_⟩
    obtain ⟨r3, d3⟩ := yl y H3 y3
    have nF : Nf H' D := ⟨_, hD, id⟩
    have r3' : Rel F.S (D :: F.O) H' H3 := r3
    refine hg _ _ _ H3 _ y _ _ (g'.rel r3) (e'.rel g' r3) d3 trivial q' fun ρ4 σ4 e4 w4 q4 => ?_
    refine ⟨(w4 vs hs).trans (wipe_wipe vs), ?_⟩
    refine ht _ ρ4 σ4 H3 _ _ _ (g'.rel r3) e4 q4 (fun b H5 r5 q5 => ?_) fun _ _ _ _ _ _ z => z.elim
    have r35 : Rel F.S (D :: F.O) H' H5 := r3'.trans r5
    have nS : D ∉ F.S := fun z => g1.some z nD
    cases b with
    | false => exact ⟨by omega, r'.trans (r35.unhide nF), acc, av, r35.kp D _ nS hD, Dz.monos (g'.le r35) acc hav, q5⟩
    | true =>
      refine he _ ρ4 σ4 H5 _ _ _ (g'.rel r35) (e4.rel (g'.rel r3) r5) q5 (fun z v H6 r6 d6 q6 => ?_) fun _ _ _ _ _ _ z => z.elim
      obtain ⟨xd, rfl, hl, q6⟩ := q6
      have r36 : Rel F.S (D :: F.O) H' H6 := r35.trans r6
      have h6 := r36.kp D _ nS hD
      have hav6 := Dz.monos (g'.le r36) acc hav
      have own : D ∈ D :: F.O := List.mem_cons_self
      refine ⟨av, h6, Nat.lt_of_lt_of_le (by rw [hav.len]; exact hl) (by decide), by omega, ⟨fun b o nb eb => ?_, fun a ha ta sa => ?_, fun _ => ((g'.rel r36).tb.own own fun t => nS (g.tS D t)).sub fun _ hb => List.mem_cons_of_mem _ hb⟩, acc ++ [xd], av ++ [v], upd_same, Dz.monos (Le.own own) _ (hav6.app (.cons d6 .nil)), q6⟩
      · rw [upd_ne (ne_of_none eb nD)]
        exact r36.kp b o nb (r'.kp b o nb eb)
      · exact (r36.st a ha ta (r'.st a ha ta sa)).same (upd_ne (fun z => nS (by rw [← z]; exact ha)))
  · have e0 : i = ds.length := by omega
    subst e0
    rw [List.drop_length] at q'
    exact .inl ⟨w2, q acc D av H' (r1.trans r') nD0 hD hav q'⟩
/-! ### while -/
def zWhileGo (c : ZT) (b : ZS) : Nat → Rho → Kz → Prop
  | 0, _, _ => False
  | n + 1, ρ, k => c ρ (fun t => if t = true then b ρ { k with nx := fun ρ' => zWhileGo c b n ρ' k, ct := fun ρ' => zWhileGo c b n ρ' k, bk := k.nx } else k.nx ρ) (k.ex ρ)
def zWhile (c : ZT) (b : ZS) : ZS := fun ρ k => ∃ n, zWhileGo c b n ρ k
theorem tr_while {tc : TT} {tb : TS} {zc : ZT} {zb : ZS} (hc : TrT K W tc zc) (hb : TrS K W tb zb) : TrS K W (tWhile tc tb) (zWhile zc zb) := fun F0 H0 F ρ σ H k D g s e hz a => by
  obtain ⟨n, hz⟩ := hz
  refine ⟨fun m σ' H' => ∃ F' ρ', Good F' H' ∧ Si F0 H0 F' H' ∧ Le (hid F.O H) (hid F'.O H') ∧ En K F' H' ρ' σ' ∧ zWhileGo zc zb m ρ' k, ⟨n, F, ρ, g, s, .refl _, e, hz⟩, fun m σ' H' hw => ?_⟩
  obtain ⟨F', ρ', g', s', l', e', q'⟩ := hw
  cases m with
  | zero => exact q'.elim
  | succ m =>
    refine hc F' ρ' σ' H' _ _ _ g' e' q' (fun t H1 r1 h1 => ?_) fun x C d H1 r1 d1 h1 => a.ex x C d ρ' σ' F' H1 (g'.rel r1) (s'.rel r1) (l'.trans (g'.le r1)) (e'.rel g' r1) d1 h1
    have l1 := l'.trans (g'.le r1)
    cases t with
    | false => exact a.nx ρ' F' σ' H1 (g'.rel r1) (s'.rel r1) l1 (e'.rel g' r1) h1
    | true =>
      refine ⟨fun σ' H' => ∃ F' ρ', Good F' H' ∧ Si F0 H0 F' H' ∧ Le (hid F.O H) (hid F'.O H') ∧ En K F' H' ρ' σ' ∧ zWhileGo zc zb m ρ' k, fun σ2 H2 h2 => ⟨m, Nat.lt_succ_self _, h2⟩, ?_⟩
      refine hb F0 H0 F' ρ' σ' H1 _ _ (g'.rel r1) (s'.rel r1) (e'.rel g' r1) h1 ⟨fun ρ5 F5 σ5 H5 g5 s5 l5 e5 q5 => ⟨F5, ρ5, g5, s5, l1.trans l5, e5, q5⟩, fun ρ5 F5 σ5 H5 g5 s5 l5 e5 q5 => a.nx ρ5 F5 σ5 H5 g5 s5 (l1.trans l5) e5 q5, fun ρ5 F5 σ5 H5 g5 s5 l5 e5 q5 => ⟨F5, ρ5, g5, s5, l1.trans l5, e5, q5⟩, a.rt, fun x C d ρ5 σ5 F5 H5 g5 s5 l5 e5 r5 q5 => a.ex x C d ρ5 σ5 F5 H5 g5 s5 (l1.trans l5) e5 r5 q5⟩
end Zl
end
section
/-! ZQ: a dict is equal to no value of another kind -/
namespace PySem
namespace SeqAt
open Builtin
theorem d_eq_none (l : Addr) (es : Array DictEntry) (ep : Nat) (dd : Option Addr) (sl : Array (Option Value)) : Meets (Builtin.«dict.__eq__» ⟨[.ref l, .none], []⟩) (fun _ R s => s.heap.get? l = some { cls := .type "dict", dict := dd, data := .dict es ep, slots := sl } ∧ R (.ok (.ret .notImplemented)) s) :=
  .of_wp fun prog w A R s h => by
    obtain ⟨hp, g, d, tk, os⟩ := s
    obtain ⟨hl, h⟩ := h
    have f1 := F.sub_NoneType_dict
    wp_walk using wpAny_loadPart' hl, wpAny_load hl
    exact ⟨_, rfl, h⟩
theorem d_eq_bool (l : Addr) (es : Array DictEntry) (ep : Nat) (dd : Option Addr) (sl : Array (Option Value)) (b : Bool) : Meets (Builtin.«dict.__eq__» ⟨[.ref l, .bool b], []⟩) (fun _ R s => s.heap.get? l = some { cls := .type "dict", dict := dd, data := .dict es ep, slots := sl } ∧ R (.ok (.ret .notImplemented)) s) :=
  .of_wp fun prog w A R s h => by
    obtain ⟨hp, g, d, tk, os⟩ := s
    obtain ⟨hl, h⟩ := h
    have f1 := F.sub_bool_dict
    wp_walk using wpAny_loadPart' hl, wpAny_load hl
    exact ⟨_, rfl, h⟩
theorem bool_eq_d (l : Addr) (es : Array DictEntry) (ep : Nat) (dd : Option Addr) (sl : Array (Option Value)) (b : Bool) : Meets (Builtin.«int.__eq__» ⟨[.bool b, .ref l], []⟩) (fun _ R s => s.heap.get? l = some { cls := .type "dict", dict := dd, data := .dict es ep, slots := sl } ∧ R (.ok (.ret .notImplemented)) s) :=
  .of_wp fun prog w A R s h => by
    obtain ⟨hp, g, d, tk, os⟩ := s
    obtain ⟨hl, h⟩ := h
    have f1 := F.sub_dict_bool
    wp_walk using wpAny_loadPart' hl, wpAny_load hl
    exact ⟨_, rfl, h⟩
theorem d_eq_int (l : Addr) (es : Array DictEntry) (ep : Nat) (dd : Option Addr) (sl : Array (Option Value)) (b : Int) (u : Tok) : Meets (Builtin.«dict.__eq__» ⟨[.ref l, .int b u], []⟩) (fun _ R s => s.heap.get? l = some { cls := .type "dict", dict := dd, data := .dict es ep, slots := sl } ∧ R (.ok (.ret .notImplemented)) s) :=
  .of_wp fun prog w A R s h => by
    obtain ⟨hp, g, d, tk, os⟩ := s
    obtain ⟨hl, h⟩ := h
    have f1 := F.sub_int_dict
    wp_walk using wpAny_loadPart' hl, wpAny_load hl
    exact ⟨_, rfl, h⟩
theorem int_eq_d (l : Addr) (es : Array DictEntry) (ep : Nat) (dd : Option Addr) (sl : Array (Option Value)) (b : Int) (u : Tok) : Meets (Builtin.«int.__eq__» ⟨[.int b u, .ref l], []⟩) (fun _ R s => s.heap.get? l = some { cls := .type "dict", dict := dd, data := .dict es ep, slots := sl } ∧ R (.ok (.ret .notImplemented)) s) :=
  .of_wp fun prog w A R s h => by
    obtain ⟨hp, g, d, tk, os⟩ := s
    obtain ⟨hl, h⟩ := h
    have f1 := F.sub_dict_int
    wp_walk using wpAny_loadPart' hl, wpAny_load hl
    exact ⟨_, rfl, h⟩
theorem d_eq_str (l : Addr) (es : Array DictEntry) (ep : Nat) (dd : Option Addr) (sl : Array (Option Value)) (b : Str) (u : Tok) : Meets (Builtin.«dict.__eq__» ⟨[.ref l, .str b u], []⟩) (fun _ R s => s.heap.get? l = some { cls := .type "dict", dict := dd, data := .dict es ep, slots := sl } ∧ R (.ok (.ret .notImplemented)) s) :=
  .of_wp fun prog w A R s h => by
    obtain ⟨hp, g, d, tk, os⟩ := s
    obtain ⟨hl, h⟩ := h
    have f1 := F.sub_str_dict
    wp_walk using wpAny_loadPart' hl, wpAny_load hl
    exact ⟨_, rfl, h⟩
theorem str_eq_d (l : Addr) (es : Array DictEntry) (ep : Nat) (dd : Option Addr) (sl : Array (Option Value)) (b : Str) (u : Tok) : Meets (Builtin.«str.__eq__» ⟨[.str b u, .ref l], []⟩) (fun _ R s => s.heap.get? l = some { cls := .type "dict", dict := dd, data := .dict es ep, slots := sl } ∧ R (.ok (.ret .notImplemented)) s) :=
  .of_wp fun prog w A R s h => by
    obtain ⟨hp, g, d, tk, os⟩ := s
    obtain ⟨hl, h⟩ := h
    have f1 := F.sub_dict_str
    wp_walk using wpAny_loadPart' hl, wpAny_load hl
    exact ⟨_, rfl, h⟩
theorem d_eq_list (l : Addr) (es : Array DictEntry) (ep : Nat) (dd : Option Addr) (sl : Array (Option Value)) (m : Addr) (its : Array Value) (k : Nat) (dd2 : Option Addr) (sl2 : Array (Option Value)) : Meets (Builtin.«dict.__eq__» ⟨[.ref l, .ref m], []⟩) (fun _ R s => s.heap.get? l = some { cls := .type "dict", dict := dd, data := .dict es ep, slots := sl } ∧ s.heap.get? m = some { cls := .type "list", dict := dd2, data := .seq its k, slots := sl2 } ∧ R (.ok (.ret .notImplemented)) s) :=
  .of_wp fun prog w A R s h => by
    obtain ⟨hp, g, d, tk, os⟩ := s
    obtain ⟨hl, hm, h⟩ := h
    have f1 := F.sub_list_dict
    wp_walk using wpAny_loadPart' hl, wpAny_load hl, wpAny_loadPart' hm, wpAny_load hm
    exact ⟨_, rfl, h⟩
theorem list_eq_d (l : Addr) (es : Array DictEntry) (ep : Nat) (dd : Option Addr) (sl : Array (Option Value)) (m : Addr) (its : Array Value) (k : Nat) (dd2 : Option Addr) (sl2 : Array (Option Value)) : Meets (Builtin.«list.__eq__» ⟨[.ref m, .ref l], []⟩) (fun _ R s => s.heap.get? l = some { cls := .type "dict", dict := dd, data := .dict es ep, slots := sl } ∧ s.heap.get? m = some { cls := .type "list", dict := dd2, data := .seq its k, slots := sl2 } ∧ R (.ok (.ret .notImplemented)) s) :=
  .of_wp fun prog w A R s h => by
    obtain ⟨hp, g, d, tk, os⟩ := s
    obtain ⟨hl, hm, h⟩ := h
    have f1 := F.sub_dict_list
    wp_walk using wpAny_loadPart' hl, wpAny_load hl, wpAny_loadPart' hm, wpAny_load hm
    exact ⟨_, rfl, h⟩
theorem d_eq_tuple (l : Addr) (es : Array DictEntry) (ep : Nat) (dd : Option Addr) (sl : Array (Option Value)) (m : Addr) (its : Array Value) (k : Nat) (dd2 : Option Addr) (sl2 : Array (Option Value)) : Meets (Builtin.«dict.__eq__» ⟨[.ref l, .ref m], []⟩) (fun _ R s => s.heap.get? l = some { cls := .type "dict", dict := dd, data := .dict es ep, slots := sl } ∧ s.heap.get? m = some { cls := .type "tuple", dict := dd2, data := .seq its k, slots := sl2 } ∧ R (.ok (.ret .notImplemented)) s) :=
  .of_wp fun prog w A R s h => by
    obtain ⟨hp, g, d, tk, os⟩ := s
    obtain ⟨hl, hm, h⟩ := h
    have f1 := F.sub_tuple_dict
    wp_walk using wpAny_loadPart' hl, wpAny_load hl, wpAny_loadPart' hm, wpAny_load hm
    exact ⟨_, rfl, h⟩
theorem tuple_eq_d (l : Addr) (es : Array DictEntry) (ep : Nat) (dd : Option Addr) (sl : Array (Option Value)) (m : Addr) (its : Array Value) (k : Nat) (dd2 : Option Addr) (sl2 : Array (Option Value)) : Meets (Builtin.«tuple.__eq__» ⟨[.ref m, .ref l], []⟩) (fun _ R s => s.heap.get? l = some { cls := .type "dict", dict := dd, data := .dict es ep, slots := sl } ∧ s.heap.get? m = some { cls := .type "tuple", dict := dd2, data := .seq its k, slots := sl2 } ∧ R (.ok (.ret .notImplemented)) s) :=
  .of_wp fun prog w A R s h => by
    obtain ⟨hp, g, d, tk, os⟩ := s
    obtain ⟨hl, hm, h⟩ := h
    have f1 := F.sub_dict_tuple
    wp_walk using wpAny_loadPart' hl, wpAny_load hl, wpAny_loadPart' hm, wpAny_load hm
    exact ⟨_, rfl, h⟩
theorem RcAt.dict_none {A : Around} {s : Shared} {l : Addr} {es : Array DictEntry} {ep : Nat} {o : Obj} (ho : s.heap.get? l = some o) (hc : o.cls = .type "dict") (hd : o.data = .dict es ep) (hu : A.units < cLine) : RcAt A s (.ref l) (.none) false := fun prog w E Q h => by
  obtain ⟨oc, dd, da, sl⟩ := o
  simp only at hc hd
  subst hc hd
  exact rc_eq_decline_or (k := false) ⟨_, ho, rfl⟩ rfl (by decide) F.sub_NoneType_dict F.slot_dict_eq F.slot_NoneType_eq_refl (fun _ q => call_meets F.slot_dict_eq ⟨_, ho, rfl⟩ F.entry_dict_eq (F.args_dict_eq_2 _ _) (d_eq_none l es ep dd sl) ⟨ho, q⟩)
    (fun _ q => call_gives F.slot_NoneType_eq_refl rfl F.entry_NoneType_eq (F.args_NoneType_eq_2 _ _) (NoneType___eq___none_ref_0 l) q) (fun _ q => wpAny_of_eq (rfl : isSame (.ref l) (.none) = pure false) q) (.inr hu) h
theorem RcAt.none_dict {A : Around} {s : Shared} {l : Addr} {es : Array DictEntry} {ep : Nat} {o : Obj} (ho : s.heap.get? l = some o) (hc : o.cls = .type "dict") (hd : o.data = .dict es ep) (hu : A.units < cLine) : RcAt A s (.none) (.ref l) false := fun prog w E Q h => by
  obtain ⟨oc, dd, da, sl⟩ := o
  simp only at hc hd
  subst hc hd
  exact rc_eq_decline_or (k := false) rfl ⟨_, ho, rfl⟩ (by decide) F.sub_dict_NoneType F.slot_NoneType_eq F.slot_dict_eq_refl (fun _ q => call_gives F.slot_NoneType_eq rfl F.entry_NoneType_eq (F.args_NoneType_eq_2 _ _) (NoneType___eq___none_ref_0 l) q)
    (fun _ q => call_meets F.slot_dict_eq_refl ⟨_, ho, rfl⟩ F.entry_dict_eq (F.args_dict_eq_2 _ _) (d_eq_none l es ep dd sl) ⟨ho, q⟩) (fun _ q => wpAny_of_eq (rfl : isSame (.none) (.ref l) = pure false) q) (.inr hu) h
theorem RcAt.dict_bool {A : Around} {s : Shared} {l : Addr} (b : Bool) {es : Array DictEntry} {ep : Nat} {o : Obj} (ho : s.heap.get? l = some o) (hc : o.cls = .type "dict") (hd : o.data = .dict es ep) (hu : A.units < cLine) : RcAt A s (.ref l) (.bool b) false := fun prog w E Q h => by
  obtain ⟨oc, dd, da, sl⟩ := o
  simp only at hc hd
  subst hc hd
  exact rc_eq_decline_or (k := false) ⟨_, ho, rfl⟩ rfl (by decide) F.sub_bool_dict F.slot_dict_eq F.slot_bool_eq_refl (fun _ q => call_meets F.slot_dict_eq ⟨_, ho, rfl⟩ F.entry_dict_eq (F.args_dict_eq_2 _ _) (d_eq_bool l es ep dd sl b) ⟨ho, q⟩)
    (fun _ q => call_meets F.slot_bool_eq_refl rfl F.entry_int_eq (F.args_int_eq_2 _ _) (bool_eq_d l es ep dd sl b) ⟨ho, q⟩) (fun _ q => wpAny_of_eq (rfl : isSame (.ref l) (.bool b) = pure false) q) (.inr hu) h
theorem RcAt.bool_dict {A : Around} {s : Shared} {l : Addr} (b : Bool) {es : Array DictEntry} {ep : Nat} {o : Obj} (ho : s.heap.get? l = some o) (hc : o.cls = .type "dict") (hd : o.data = .dict es ep) (hu : A.units < cLine) : RcAt A s (.bool b) (.ref l) false := fun prog w E Q h => by
  obtain ⟨oc, dd, da, sl⟩ := o
  simp only at hc hd
  subst hc hd
  exact rc_eq_decline_or (k := false) rfl ⟨_, ho, rfl⟩ (by decide) F.sub_dict_bool F.slot_bool_eq F.slot_dict_eq_refl (fun _ q => call_meets F.slot_bool_eq rfl F.entry_int_eq (F.args_int_eq_2 _ _) (bool_eq_d l es ep dd sl b) ⟨ho, q⟩)
    (fun _ q => call_meets F.slot_dict_eq_refl ⟨_, ho, rfl⟩ F.entry_dict_eq (F.args_dict_eq_2 _ _) (d_eq_bool l es ep dd sl b) ⟨ho, q⟩) (fun _ q => wpAny_of_eq (rfl : isSame (.bool b) (.ref l) = pure false) q) (.inr hu) h
theorem RcAt.dict_int {A : Around} {s : Shared} {l : Addr} (b : Int) (u : Tok) {es : Array DictEntry} {ep : Nat} {o : Obj} (ho : s.heap.get? l = some o) (hc : o.cls = .type "dict") (hd : o.data = .dict es ep) (hu : A.units < cLine) : RcAt A s (.ref l) (.int b u) false := fun prog w E Q h => by
  obtain ⟨oc, dd, da, sl⟩ := o
  simp only at hc hd
  subst hc hd
  exact rc_eq_decline_or (k := false) ⟨_, ho, rfl⟩ (typeIs_int s b u) (by decide) F.sub_int_dict F.slot_dict_eq F.slot_int_eq_refl (fun _ q => call_meets F.slot_dict_eq ⟨_, ho, rfl⟩ F.entry_dict_eq (F.args_dict_eq_2 _ _) (d_eq_int l es ep dd sl b u) ⟨ho, q⟩)
    (fun _ q => call_meets F.slot_int_eq_refl (typeIs_int s b u) F.entry_int_eq (F.args_int_eq_2 _ _) (int_eq_d l es ep dd sl b u) ⟨ho, q⟩) (fun _ q => wpAny_of_eq (rfl : isSame (.ref l) (.int b u) = pure false) q) (.inr hu) h
theorem RcAt.int_dict {A : Around} {s : Shared} {l : Addr} (b : Int) (u : Tok) {es : Array DictEntry} {ep : Nat} {o : Obj} (ho : s.heap.get? l = some o) (hc : o.cls = .type "dict") (hd : o.data = .dict es ep) (hu : A.units < cLine) : RcAt A s (.int b u) (.ref l) false := fun prog w E Q h => by
  obtain ⟨oc, dd, da, sl⟩ := o
  simp only at hc hd
  subst hc hd
  exact rc_eq_decline_or (k := false) (typeIs_int s b u) ⟨_, ho, rfl⟩ (by decide) F.sub_dict_int F.slot_int_eq F.slot_dict_eq_refl (fun _ q => call_meets F.slot_int_eq (typeIs_int s b u) F.entry_int_eq (F.args_int_eq_2 _ _) (int_eq_d l es ep dd sl b u) ⟨ho, q⟩)
    (fun _ q => call_meets F.slot_dict_eq_refl ⟨_, ho, rfl⟩ F.entry_dict_eq (F.args_dict_eq_2 _ _) (d_eq_int l es ep dd sl b u) ⟨ho, q⟩) (fun _ q => wpAny_of_eq (rfl : isSame (.int b u) (.ref l) = pure false) q) (.inr hu) h
theorem RcAt.dict_str {A : Around} {s : Shared} {l : Addr} (b : Str) (u : Tok) {es : Array DictEntry} {ep : Nat} {o : Obj} (ho : s.heap.get? l = some o) (hc : o.cls = .type "dict") (hd : o.data = .dict es ep) (hu : A.units < cLine) : RcAt A s (.ref l) (.str b u) false := fun prog w E Q h => by
  obtain ⟨oc, dd, da, sl⟩ := o
  simp only at hc hd
  subst hc hd
  exact rc_eq_decline_or (k := false) ⟨_, ho, rfl⟩ (typeIs_str s b u) (by decide) F.sub_str_dict F.slot_dict_eq F.slot_str_eq_refl (fun _ q => call_meets F.slot_dict_eq ⟨_, ho, rfl⟩ F.entry_dict_eq (F.args_dict_eq_2 _ _) (d_eq_str l es ep dd sl b u) ⟨ho, q⟩)
    (fun _ q => call_meets F.slot_str_eq_refl (typeIs_str s b u) F.entry_str_eq (F.args_str_eq_2 _ _) (str_eq_d l es ep dd sl b u) ⟨ho, q⟩) (fun _ q => wpAny_of_eq (rfl : isSame (.ref l) (.str b u) = pure false) q) (.inr hu) h
theorem RcAt.dict_list {A : Around} {s : Shared} {l m : Addr} {its : Array Value} {es : Array DictEntry} {ep : Nat} {o : Obj} (ho : s.heap.get? l = some o) (hc : o.cls = .type "dict") (hd : o.data = .dict es ep) (hi : s.heap.IsList m its) (hu : A.units < cLine) : RcAt A s (.ref l) (.ref m) false := fun prog w E Q h => by
  obtain ⟨oc, dd, da, sl⟩ := o
  obtain ⟨⟨oc2, dd2, da2, sl2⟩, hm, hc2, k, hd2⟩ := hi
  simp only at hc hd hc2 hd2
  subst hc hd hc2 hd2
  have ne : l ≠ m := fun z => by
    subst z
    rw [ho] at hm
    exact absurd (congrArg Obj.cls (Option.some.inj hm)) (by simp)
  exact rc_eq_decline_or (k := false) ⟨_, ho, rfl⟩ ⟨_, hm, rfl⟩ (by decide) F.sub_list_dict F.slot_dict_eq F.slot_list_eq_refl (fun _ q => call_meets F.slot_dict_eq ⟨_, ho, rfl⟩ F.entry_dict_eq (F.args_dict_eq_2 _ _) (d_eq_list l es ep dd sl m its k dd2 sl2) ⟨ho, hm, q⟩)
    (fun _ q => call_meets F.slot_list_eq_refl ⟨_, hm, rfl⟩ F.entry_list_eq (F.args_list_eq_2 _ _) (list_eq_d l es ep dd sl m its k dd2 sl2) ⟨ho, hm, q⟩) (fun _ q => wpAny_isSame_ref_other ne ho hm (by simp) q) (.inr hu) h
theorem RcAt.list_dict {A : Around} {s : Shared} {l m : Addr} {its : Array Value} {es : Array DictEntry} {ep : Nat} {o : Obj} (ho : s.heap.get? l = some o) (hc : o.cls = .type "dict") (hd : o.data = .dict es ep) (hi : s.heap.IsList m its) (hu : A.units < cLine) : RcAt A s (.ref m) (.ref l) false := fun prog w E Q h => by
  obtain ⟨oc, dd, da, sl⟩ := o
  obtain ⟨⟨oc2, dd2, da2, sl2⟩, hm, hc2, k, hd2⟩ := hi
  simp only at hc hd hc2 hd2
  subst hc hd hc2 hd2
  have ne : l ≠ m := fun z => by
    subst z
    rw [ho] at hm
    exact absurd (congrArg Obj.cls (Option.some.inj hm)) (by simp)
  exact rc_eq_decline_or (k := false) ⟨_, hm, rfl⟩ ⟨_, ho, rfl⟩ (by decide) F.sub_dict_list F.slot_list_eq F.slot_dict_eq_refl (fun _ q => call_meets F.slot_list_eq ⟨_, hm, rfl⟩ F.entry_list_eq (F.args_list_eq_2 _ _) (list_eq_d l es ep dd sl m its k dd2 sl2) ⟨ho, hm, q⟩)
    (fun _ q => call_meets F.slot_dict_eq_refl ⟨_, ho, rfl⟩ F.entry_dict_eq (F.args_dict_eq_2 _ _) (d_eq_list l es ep dd sl m its k dd2 sl2) ⟨ho, hm, q⟩) (fun _ q => wpAny_isSame_ref_other' ne.symm hm ho (by simp) q) (.inr hu) h
theorem RcAt.dict_tuple {A : Around} {s : Shared} {l m : Addr} {its : Array Value} {es : Array DictEntry} {ep : Nat} {o : Obj} (ho : s.heap.get? l = some o) (hc : o.cls = .type "dict") (hd : o.data = .dict es ep) (hi : s.heap.IsTuple m its) (hu : A.units < cLine) : RcAt A s (.ref l) (.ref m) false := fun prog w E Q h => by
  obtain ⟨oc, dd, da, sl⟩ := o
  obtain ⟨⟨oc2, dd2, da2, sl2⟩, hm, hc2, k, hd2⟩ := hi
  simp only at hc hd hc2 hd2
  subst hc hd hc2 hd2
  have ne : l ≠ m := fun z => by
    subst z
    rw [ho] at hm
    exact absurd (congrArg Obj.cls (Option.some.inj hm)) (by simp)
  exact rc_eq_decline_or (k := false) ⟨_, ho, rfl⟩ ⟨_, hm, rfl⟩ (by decide) F.sub_tuple_dict F.slot_dict_eq F.slot_tuple_eq_refl (fun _ q => call_meets F.slot_dict_eq ⟨_, ho, rfl⟩ F.entry_dict_eq (F.args_dict_eq_2 _ _) (d_eq_tuple l es ep dd sl m its k dd2 sl2) ⟨ho, hm, q⟩)
    (fun _ q => call_meets F.slot_tuple_eq_refl ⟨_, hm, rfl⟩ F.entry_tuple_eq (F.args_tuple_eq_2 _ _) (tuple_eq_d l es ep dd sl m its k dd2 sl2) ⟨ho, hm, q⟩) (fun _ q => wpAny_isSame_ref_other ne ho hm (by simp) q) (.inr hu) h
theorem RcAt.tuple_dict {A : Around} {s : Shared} {l m : Addr} {its : Array Value} {es : Array DictEntry} {ep : Nat} {o : Obj} (ho : s.heap.get? l = some o) (hc : o.cls = .type "dict") (hd : o.data = .dict es ep) (hi : s.heap.IsTuple m its) (hu : A.units < cLine) : RcAt A s (.ref m) (.ref l) false := fun prog w E Q h => by
  obtain ⟨oc, dd, da, sl⟩ := o
  obtain ⟨⟨oc2, dd2, da2, sl2⟩, hm, hc2, k, hd2⟩ := hi
  simp only at hc hd hc2 hd2
  subst hc hd hc2 hd2
  have ne : l ≠ m := fun z => by
    subst z
    rw [ho] at hm
    exact absurd (congrArg Obj.cls (Option.some.inj hm)) (by simp)
  exact rc_eq_decline_or (k := false) ⟨_, hm, rfl⟩ ⟨_, ho, rfl⟩ (by decide) F.sub_dict_tuple F.slot_tuple_eq F.slot_dict_eq_refl (fun _ q => call_meets F.slot_tuple_eq ⟨_, hm, rfl⟩ F.entry_tuple_eq (F.args_tuple_eq_2 _ _) (tuple_eq_d l es ep dd sl m its k dd2 sl2) ⟨ho, hm, q⟩)
    (fun _ q => call_meets F.slot_dict_eq_refl ⟨_, ho, rfl⟩ F.entry_dict_eq (F.args_dict_eq_2 _ _) (d_eq_tuple l es ep dd sl m its k dd2 sl2) ⟨ho, hm, q⟩) (fun _ q => wpAny_isSame_ref_other' ne.symm hm ho (by simp) q) (.inr hu) h
theorem EqAt.dict_none {A : Around} {s : Shared} {l : Addr} {es : Array DictEntry} {ep : Nat} {o : Obj} (ho : s.heap.get? l = some o) (hc : o.cls = .type "dict") (hd : o.data = .dict es ep) (hu : A.units < cLine) : EqAt A s (.ref l) (.none) false := fun prog w E Q h => by
  unfold eqBool
  refine wpAny_holding (wpAny_ite_split (fun z => absurd (eq_of_beq z) nofun) fun _ => ?_)
  exact wpAny_bind (RcAt.dict_none ho hc hd hu prog w E _ (wpAny_truthy_bool h))
theorem EqAt.none_dict {A : Around} {s : Shared} {l : Addr} {es : Array DictEntry} {ep : Nat} {o : Obj} (ho : s.heap.get? l = some o) (hc : o.cls = .type "dict") (hd : o.data = .dict es ep) (hu : A.units < cLine) : EqAt A s (.none) (.ref l) false := fun prog w E Q h => by
  unfold eqBool
  refine wpAny_holding (wpAny_ite_split (fun z => absurd (eq_of_beq z) nofun) fun _ => ?_)
  exact wpAny_bind (RcAt.none_dict ho hc hd hu prog w E _ (wpAny_truthy_bool h))
theorem EqAt.dict_bool {A : Around} {s : Shared} {l : Addr} (b : Bool) {es : Array DictEntry} {ep : Nat} {o : Obj} (ho : s.heap.get? l = some o) (hc : o.cls = .type "dict") (hd : o.data = .dict es ep) (hu : A.units < cLine) : EqAt A s (.ref l) (.bool b) false := fun prog w E Q h => by
  unfold eqBool
  refine wpAny_holding (wpAny_ite_split (fun z => absurd (eq_of_beq z) nofun) fun _ => ?_)
  exact wpAny_bind (RcAt.dict_bool b ho hc hd hu prog w E _ (wpAny_truthy_bool h))
theorem EqAt.bool_dict {A : Around} {s : Shared} {l : Addr} (b : Bool) {es : Array DictEntry} {ep : Nat} {o : Obj} (ho : s.heap.get? l = some o) (hc : o.cls = .type "dict") (hd : o.data = .dict es ep) (hu : A.units < cLine) : EqAt A s (.bool b) (.ref l) false := fun prog w E Q h => by
  unfold eqBool
  refine wpAny_holding (wpAny_ite_split (fun z => absurd (eq_of_beq z) nofun) fun _ => ?_)
  exact wpAny_bind (RcAt.bool_dict b ho hc hd hu prog w E _ (wpAny_truthy_bool h))
theorem EqAt.dict_int {A : Around} {s : Shared} {l : Addr} (b : Int) (u : Tok) {es : Array DictEntry} {ep : Nat} {o : Obj} (ho : s.heap.get? l = some o) (hc : o.cls = .type "dict") (hd : o.data = .dict es ep) (hu : A.units < cLine) : EqAt A s (.ref l) (.int b u) false := fun prog w E Q h => by
  unfold eqBool
  refine wpAny_holding (wpAny_ite_split (fun z => absurd (eq_of_beq z) nofun) fun _ => ?_)
  exact wpAny_bind (RcAt.dict_int b u ho hc hd hu prog w E _ (wpAny_truthy_bool h))
theorem EqAt.int_dict {A : Around} {s : Shared} {l : Addr} (b : Int) (u : Tok) {es : Array DictEntry} {ep : Nat} {o : Obj} (ho : s.heap.get? l = some o) (hc : o.cls = .type "dict") (hd : o.data = .dict es ep) (hu : A.units < cLine) : EqAt A s (.int b u) (.ref l) false := fun prog w E Q h => by
  unfold eqBool
  refine wpAny_holding (wpAny_ite_split (fun z => absurd (eq_of_beq z) nofun) fun _ => ?_)
  exact wpAny_bind (RcAt.int_dict b u ho hc hd hu prog w E _ (wpAny_truthy_bool h))
theorem EqAt.dict_str {A : Around} {s : Shared} {l : Addr} (b : Str) (u : Tok) {es : Array DictEntry} {ep : Nat} {o : Obj} (ho : s.heap.get? l = some o) (hc : o.cls = .type "dict") (hd : o.data = .dict es ep) (hu : A.units < cLine) : EqAt A s (.ref l) (.str b u) false := fun prog w E Q h => by
  unfold eqBool
  refine wpAny_holding (wpAny_ite_split (fun z => absurd (eq_of_beq z) nofun) fun _ => ?_)
  exact wpAny_bind (RcAt.dict_str b u ho hc hd hu prog w E _ (wpAny_truthy_bool h))
theorem EqAt.dict_list {A : Around} {s : Shared} {l m : Addr} {its : Array Value} {es : Array DictEntry} {ep : Nat} {o : Obj} (ho : s.heap.get? l = some o) (hc : o.cls = .type "dict") (hd : o.data = .dict es ep) (hi : s.heap.IsList m its) (hu : A.units < cLine) : EqAt A s (.ref l) (.ref m) false := EqAt.of_refs (fun z => by subst z; obtain ⟨o2, hm, hc2, _⟩ := hi; rw [ho] at hm; cases hm; rw [hc] at hc2; exact absurd hc2 (by decide)) (RcAt.dict_list ho hc hd hi hu)
theorem EqAt.list_dict {A : Around} {s : Shared} {l m : Addr} {its : Array Value} {es : Array DictEntry} {ep : Nat} {o : Obj} (ho : s.heap.get? l = some o) (hc : o.cls = .type "dict") (hd : o.data = .dict es ep) (hi : s.heap.IsList m its) (hu : A.units < cLine) : EqAt A s (.ref m) (.ref l) false := EqAt.of_refs (fun z => by subst z; obtain ⟨o2, hm, hc2, _⟩ := hi; rw [ho] at hm; cases hm; rw [hc] at hc2; exact absurd hc2 (by decide)) (RcAt.list_dict ho hc hd hi hu)
theorem EqAt.dict_tuple {A : Around} {s : Shared} {l m : Addr} {its : Array Value} {es : Array DictEntry} {ep : Nat} {o : Obj} (ho : s.heap.get? l = some o) (hc : o.cls = .type "dict") (hd : o.data = .dict es ep) (hi : s.heap.IsTuple m its) (hu : A.units < cLine) : EqAt A s (.ref l) (.ref m) false := EqAt.of_refs (fun z => by subst z; obtain ⟨o2, hm, hc2, _⟩ := hi; rw [ho] at hm; cases hm; rw [hc] at hc2; exact absurd hc2 (by decide)) (RcAt.dict_tuple ho hc hd hi hu)
theorem EqAt.tuple_dict {A : Around} {s : Shared} {l m : Addr} {its : Array Value} {es : Array DictEntry} {ep : Nat} {o : Obj} (ho : s.heap.get? l = some o) (hc : o.cls = .type "dict") (hd : o.data = .dict es ep) (hi : s.heap.IsTuple m its) (hu : A.units < cLine) : EqAt A s (.ref m) (.ref l) false := EqAt.of_refs (fun z => by subst z; obtain ⟨o2, hm, hc2, _⟩ := hi; rw [ho] at hm; cases hm; rw [hc] at hc2; exact absurd hc2 (by decide)) (RcAt.tuple_dict ho hc hd hi hu)
theorem d_ne_none (l : Addr) (es : Array DictEntry) (ep : Nat) (dd : Option Addr) (sl : Array (Option Value)) : Meets (Builtin.«dict.__ne__» ⟨[.ref l, .none], []⟩) (fun _ R s => s.heap.get? l = some { cls := .type "dict", dict := dd, data := .dict es ep, slots := sl } ∧ R (.ok (.ret .notImplemented)) s) :=
  .of_wp fun prog w A R s h => by
    obtain ⟨hp, g, d, tk, os⟩ := s
    obtain ⟨hl, h⟩ := h
    have f1 := F.sub_NoneType_dict
    wp_walk using wpAny_loadPart' hl, wpAny_load hl
    exact ⟨_, rfl, h⟩
theorem d_ne_bool (l : Addr) (es : Array DictEntry) (ep : Nat) (dd : Option Addr) (sl : Array (Option Value)) (b : Bool) : Meets (Builtin.«dict.__ne__» ⟨[.ref l, .bool b], []⟩) (fun _ R s => s.heap.get? l = some { cls := .type "dict", dict := dd, data := .dict es ep, slots := sl } ∧ R (.ok (.ret .notImplemented)) s) :=
  .of_wp fun prog w A R s h => by
    obtain ⟨hp, g, d, tk, os⟩ := s
    obtain ⟨hl, h⟩ := h
    have f1 := F.sub_bool_dict
    wp_walk using wpAny_loadPart' hl, wpAny_load hl
    exact ⟨_, rfl, h⟩
theorem bool_ne_d (l : Addr) (es : Array DictEntry) (ep : Nat) (dd : Option Addr) (sl : Array (Option Value)) (b : Bool) : Meets (Builtin.«int.__ne__» ⟨[.bool b, .ref l], []⟩) (fun _ R s => s.heap.get? l = some { cls := .type "dict", dict := dd, data := .dict es ep, slots := sl } ∧ R (.ok (.ret .notImplemented)) s) :=
  .of_wp fun prog w A R s h => by
    obtain ⟨hp, g, d, tk, os⟩ := s
    obtain ⟨hl, h⟩ := h
    have f1 := F.sub_dict_bool
    wp_walk using wpAny_loadPart' hl, wpAny_load hl
    exact ⟨_, rfl, h⟩
theorem d_ne_int (l : Addr) (es : Array DictEntry) (ep : Nat) (dd : Option Addr) (sl : Array (Option Value)) (b : Int) (u : Tok) : Meets (Builtin.«dict.__ne__» ⟨[.ref l, .int b u], []⟩) (fun _ R s => s.heap.get? l = some { cls := .type "dict", dict := dd, data := .dict es ep, slots := sl } ∧ R (.ok (.ret .notImplemented)) s) :=
  .of_wp fun prog w A R s h => by
    obtain ⟨hp, g, d, tk, os⟩ := s
    obtain ⟨hl, h⟩ := h
    have f1 := F.sub_int_dict
    wp_walk using wpAny_loadPart' hl, wpAny_load hl
    exact ⟨_, rfl, h⟩
theorem int_ne_d (l : Addr) (es : Array DictEntry) (ep : Nat) (dd : Option Addr) (sl : Array (Option Value)) (b : Int) (u : Tok) : Meets (Builtin.«int.__ne__» ⟨[.int b u, .ref l], []⟩) (fun _ R s => s.heap.get? l = some { cls := .type "dict", dict := dd, data := .dict es ep, slots := sl } ∧ R (.ok (.ret .notImplemented)) s) :=
  .of_wp fun prog w A R s h => by
    obtain ⟨hp, g, d, tk, os⟩ := s
    obtain ⟨hl, h⟩ := h
    have f1 := F.sub_dict_int
    wp_walk using wpAny_loadPart' hl, wpAny_load hl
    exact ⟨_, rfl, h⟩
theorem d_ne_str (l : Addr) (es : Array DictEntry) (ep : Nat) (dd : Option Addr) (sl : Array (Option Value)) (b : Str) (u : Tok) : Meets (Builtin.«dict.__ne__» ⟨[.ref l, .str b u], []⟩) (fun _ R s => s.heap.get? l = some { cls := .type "dict", dict := dd, data := .dict es ep, slots := sl } ∧ R (.ok (.ret .notImplemented)) s) :=
  .of_wp fun prog w A R s h => by
    obtain ⟨hp, g, d, tk, os⟩ := s
    obtain ⟨hl, h⟩ := h
    have f1 := F.sub_str_dict
    wp_walk using wpAny_loadPart' hl, wpAny_load hl
    exact ⟨_, rfl, h⟩
theorem str_ne_d (l : Addr) (es : Array DictEntry) (ep : Nat) (dd : Option Addr) (sl : Array (Option Value)) (b : Str) (u : Tok) : Meets (Builtin.«str.__ne__» ⟨[.str b u, .ref l], []⟩) (fun _ R s => s.heap.get? l = some { cls := .type "dict", dict := dd, data := .dict es ep, slots := sl } ∧ R (.ok (.ret .notImplemented)) s) :=
  .of_wp fun prog w A R s h => by
    obtain ⟨hp, g, d, tk, os⟩ := s
    obtain ⟨hl, h⟩ := h
    have f1 := F.sub_dict_str
    wp_walk using wpAny_loadPart' hl, wpAny_load hl
    exact ⟨_, rfl, h⟩
theorem d_ne_list (l : Addr) (es : Array DictEntry) (ep : Nat) (dd : Option Addr) (sl : Array (Option Value)) (m : Addr) (its : Array Value) (k : Nat) (dd2 : Option Addr) (sl2 : Array (Option Value)) : Meets (Builtin.«dict.__ne__» ⟨[.ref l, .ref m], []⟩) (fun _ R s => s.heap.get? l = some { cls := .type "dict", dict := dd, data := .dict es ep, slots := sl } ∧ s.heap.get? m = some { cls := .type "list", dict := dd2, data := .seq its k, slots := sl2 } ∧ R (.ok (.ret .notImplemented)) s) :=
  .of_wp fun prog w A R s h => by
    obtain ⟨hp, g, d, tk, os⟩ := s
    obtain ⟨hl, hm, h⟩ := h
    have f1 := F.sub_list_dict
    wp_walk using wpAny_loadPart' hl, wpAny_load hl, wpAny_loadPart' hm, wpAny_load hm
    exact ⟨_, rfl, h⟩
theorem list_ne_d (l : Addr) (es : Array DictEntry) (ep : Nat) (dd : Option Addr) (sl : Array (Option Value)) (m : Addr) (its : Array Value) (k : Nat) (dd2 : Option Addr) (sl2 : Array (Option Value)) : Meets (Builtin.«list.__ne__» ⟨[.ref m, .ref l], []⟩) (fun _ R s => s.heap.get? l = some { cls := .type "dict", dict := dd, data := .dict es ep, slots := sl } ∧ s.heap.get? m = some { cls := .type "list", dict := dd2, data := .seq its k, slots := sl2 } ∧ R (.ok (.ret .notImplemented)) s) :=
  .of_wp fun prog w A R s h => by
    obtain ⟨hp, g, d, tk, os⟩ := s
    obtain ⟨hl, hm, h⟩ := h
    have f1 := F.sub_dict_list
    wp_walk using wpAny_loadPart' hl, wpAny_load hl, wpAny_loadPart' hm, wpAny_load hm
    exact ⟨_, rfl, h⟩
theorem d_ne_tuple (l : Addr) (es : Array DictEntry) (ep : Nat) (dd : Option Addr) (sl : Array (Option Value)) (m : Addr) (its : Array Value) (k : Nat) (dd2 : Option Addr) (sl2 : Array (Option Value)) : Meets (Builtin.«dict.__ne__» ⟨[.ref l, .ref m], []⟩) (fun _ R s => s.heap.get? l = some { cls := .type "dict", dict := dd, data := .dict es ep, slots := sl } ∧ s.heap.get? m = some { cls := .type "tuple", dict := dd2, data := .seq its k, slots := sl2 } ∧ R (.ok (.ret .notImplemented)) s) :=
  .of_wp fun prog w A R s h => by
    obtain ⟨hp, g, d, tk, os⟩ := s
    obtain ⟨hl, hm, h⟩ := h
    have f1 := F.sub_tuple_dict
    wp_walk using wpAny_loadPart' hl, wpAny_load hl, wpAny_loadPart' hm, wpAny_load hm
    exact ⟨_, rfl, h⟩
theorem tuple_ne_d (l : Addr) (es : Array DictEntry) (ep : Nat) (dd : Option Addr) (sl : Array (Option Value)) (m : Addr) (its : Array Value) (k : Nat) (dd2 : Option Addr) (sl2 : Array (Option Value)) : Meets (Builtin.«tuple.__ne__» ⟨[.ref m, .ref l], []⟩) (fun _ R s => s.heap.get? l = some { cls := .type "dict", dict := dd, data := .dict es ep, slots := sl } ∧ s.heap.get? m = some { cls := .type "tuple", dict := dd2, data := .seq its k, slots := sl2 } ∧ R (.ok (.ret .notImplemented)) s) :=
  .of_wp fun prog w A R s h => by
    obtain ⟨hp, g, d, tk, os⟩ := s
    obtain ⟨hl, hm, h⟩ := h
    have f1 := F.sub_dict_tuple
    wp_walk using wpAny_loadPart' hl, wpAny_load hl, wpAny_loadPart' hm, wpAny_load hm
    exact ⟨_, rfl, h⟩
theorem RcNeAt.dict_none {A : Around} {s : Shared} {l : Addr} {es : Array DictEntry} {ep : Nat} {o : Obj} (ho : s.heap.get? l = some o) (hc : o.cls = .type "dict") (hd : o.data = .dict es ep) (hu : A.units < cLine) : RcNeAt A s (.ref l) (.none) true := fun prog w E Q h => by
  obtain ⟨oc, dd, da, sl⟩ := o
  simp only at hc hd
  subst hc hd
  exact rc_ne_decline_or (k := false) ⟨_, ho, rfl⟩ rfl (by decide) F.sub_NoneType_dict F.slot_dict_ne F.slot_NoneType_ne_refl (fun _ q => call_meets F.slot_dict_ne ⟨_, ho, rfl⟩ F.entry_dict_ne (F.args_dict_ne_2 _ _) (d_ne_none l es ep dd sl) ⟨ho, q⟩)
    (fun _ q => call_gives F.slot_NoneType_ne_refl rfl F.entry_NoneType_ne (F.args_NoneType_ne_2 _ _) (NoneType___ne___none_ref_0 l) q) (fun _ q => wpAny_of_eq (rfl : isSame (.ref l) (.none) = pure false) q) (.inr hu) h
theorem RcNeAt.none_dict {A : Around} {s : Shared} {l : Addr} {es : Array DictEntry} {ep : Nat} {o : Obj} (ho : s.heap.get? l = some o) (hc : o.cls = .type "dict") (hd : o.data = .dict es ep) (hu : A.units < cLine) : RcNeAt A s (.none) (.ref l) true := fun prog w E Q h => by
  obtain ⟨oc, dd, da, sl⟩ := o
  simp only at hc hd
  subst hc hd
  exact rc_ne_decline_or (k := false) rfl ⟨_, ho, rfl⟩ (by decide) F.sub_dict_NoneType F.slot_NoneType_ne F.slot_dict_ne_refl (fun _ q => call_gives F.slot_NoneType_ne rfl F.entry_NoneType_ne (F.args_NoneType_ne_2 _ _) (NoneType___ne___none_ref_0 l) q)
    (fun _ q => call_meets F.slot_dict_ne_refl ⟨_, ho, rfl⟩ F.entry_dict_ne (F.args_dict_ne_2 _ _) (d_ne_none l es ep dd sl) ⟨ho, q⟩) (fun _ q => wpAny_of_eq (rfl : isSame (.none) (.ref l) = pure false) q) (.inr hu) h
theorem RcNeAt.dict_bool {A : Around} {s : Shared} {l : Addr} (b : Bool) {es : Array DictEntry} {ep : Nat} {o : Obj} (ho : s.heap.get? l = some o) (hc : o.cls = .type "dict") (hd : o.data = .dict es ep) (hu : A.units < cLine) : RcNeAt A s (.ref l) (.bool b) true := fun prog w E Q h => by
  obtain ⟨oc, dd, da, sl⟩ := o
  simp only at hc hd
  subst hc hd
  exact rc_ne_decline_or (k := false) ⟨_, ho, rfl⟩ rfl (by decide) F.sub_bool_dict F.slot_dict_ne F.slot_bool_ne_refl (fun _ q => call_meets F.slot_dict_ne ⟨_, ho, rfl⟩ F.entry_dict_ne (F.args_dict_ne_2 _ _) (d_ne_bool l es ep dd sl b) ⟨ho, q⟩)
    (fun _ q => call_meets F.slot_bool_ne_refl rfl F.entry_int_ne (F.args_int_ne_2 _ _) (bool_ne_d l es ep dd sl b) ⟨ho, q⟩) (fun _ q => wpAny_of_eq (rfl : isSame (.ref l) (.bool b) = pure false) q) (.inr hu) h
theorem RcNeAt.bool_dict {A : Around} {s : Shared} {l : Addr} (b : Bool) {es : Array DictEntry} {ep : Nat} {o : Obj} (ho : s.heap.get? l = some o) (hc : o.cls = .type "dict") (hd : o.data = .dict es ep) (hu : A.units < cLine) : RcNeAt A s (.bool b) (.ref l) true := fun prog w E Q h => by
  obtain ⟨oc, dd, da, sl⟩ := o
  simp only at hc hd
  subst hc hd
  exact rc_ne_decline_or (k := false) rfl ⟨_, ho, rfl⟩ (by decide) F.sub_dict_bool F.slot_bool_ne F.slot_dict_ne_refl (fun _ q => call_meets F.slot_bool_ne rfl F.entry_int_ne (F.args_int_ne_2 _ _) (bool_ne_d l es ep dd sl b) ⟨ho, q⟩)
    (fun _ q => call_meets F.slot_dict_ne_refl ⟨_, ho, rfl⟩ F.entry_dict_ne (F.args_dict_ne_2 _ _) (d_ne_bool l es ep dd sl b) ⟨ho, q⟩) (fun _ q => wpAny_of_eq (rfl : isSame (.bool b) (.ref l) = pure false) q) (.inr hu) h
theorem RcNeAt.dict_int {A : Around} {s : Shared} {l : Addr} (b : Int) (u : Tok) {es : Array DictEntry} {ep : Nat} {o : Obj} (ho : s.heap.get? l = some o) (hc : o.cls = .type "dict") (hd : o.data = .dict es ep) (hu : A.units < cLine) : RcNeAt A s (.ref l) (.int b u) true := fun prog w E Q h => by
  obtain ⟨oc, dd, da, sl⟩ := o
  simp only at hc hd
  subst hc hd
  exact rc_ne_decline_or (k := false) ⟨_, ho, rfl⟩ (typeIs_int s b u) (by decide) F.sub_int_dict F.slot_dict_ne F.slot_int_ne_refl (fun _ q => call_meets F.slot_dict_ne ⟨_, ho, rfl⟩ F.entry_dict_ne (F.args_dict_ne_2 _ _) (d_ne_int l es ep dd sl b u) ⟨ho, q⟩)
    (fun _ q => call_meets F.slot_int_ne_refl (typeIs_int s b u) F.entry_int_ne (F.args_int_ne_2 _ _) (int_ne_d l es ep dd sl b u) ⟨ho, q⟩) (fun _ q => wpAny_of_eq (rfl : isSame (.ref l) (.int b u) = pure false) q) (.inr hu) h
theorem RcNeAt.int_dict {A : Around} {s : Shared} {l : Addr} (b : Int) (u : Tok) {es : Array DictEntry} {ep : Nat} {o : Obj} (ho : s.heap.get? l = some o) (hc : o.cls = .type "dict") (hd : o.data = .dict es ep) (hu : A.units < cLine) : RcNeAt A s (.int b u) (.ref l) true := fun prog w E Q h => by
  obtain ⟨oc, dd, da, sl⟩ := o
  simp only at hc hd
  subst hc hd
  exact rc_ne_decline_or (k := false) (typeIs_int s b u) ⟨_, ho, rfl⟩ (by decide) F.sub_dict_int F.slot_int_ne F.slot_dict_ne_refl (fun _ q => call_meets F.slot_int_ne (typeIs_int s b u) F.entry_int_ne (F.args_int_ne_2 _ _) (int_ne_d l es ep dd sl b u) ⟨ho, q⟩)
    (fun _ q => call_meets F.slot_dict_ne_refl ⟨_, ho, rfl⟩ F.entry_dict_ne (F.args_dict_ne_2 _ _) (d_ne_int l es ep dd sl b u) ⟨ho, q⟩) (fun _ q => wpAny_of_eq (rfl : isSame (.int b u) (.ref l) = pure false) q) (.inr hu) h
theorem RcNeAt.dict_str {A : Around} {s : Shared} {l : Addr} (b : Str) (u : Tok) {es : Array DictEntry} {ep : Nat} {o : Obj} (ho : s.heap.get? l = some o) (hc : o.cls = .type "dict") (hd : o.data = .dict es ep) (hu : A.units < cLine) : RcNeAt A s (.ref l) (.str b u) true := fun prog w E Q h => by
  obtain ⟨oc, dd, da, sl⟩ := o
  simp only at hc hd
  subst hc hd
  exact rc_ne_decline_or (k := false) ⟨_, ho, rfl⟩ (typeIs_str s b u) (by decide) F.sub_str_dict F.slot_dict_ne F.slot_str_ne_refl (fun _ q => call_meets F.slot_dict_ne ⟨_, ho, rfl⟩ F.entry_dict_ne (F.args_dict_ne_2 _ _) (d_ne_str l es ep dd sl b u) ⟨ho, q⟩)
    (fun _ q => call_meets F.slot_str_ne_refl (typeIs_str s b u) F.entry_str_ne (F.args_str_ne_2 _ _) (str_ne_d l es ep dd sl b u) ⟨ho, q⟩) (fun _ q => wpAny_of_eq (rfl : isSame (.ref l) (.str b u) = pure false) q) (.inr hu) h
theorem RcNeAt.str_dict {A : Around} {s : Shared} {l : Addr} (b : Str) (u : Tok) {es : Array DictEntry} {ep : Nat} {o : Obj} (ho : s.heap.get? l = some o) (hc : o.cls = .type "dict") (hd : o.data = .dict es ep) (hu : A.units < cLine) : RcNeAt A s (.str b u) (.ref l) true := fun prog w E Q h => by
  obtain ⟨oc, dd, da, sl⟩ := o
  simp only at hc hd
  subst hc hd
  exact rc_ne_decline_or (k := false) (typeIs_str s b u) ⟨_, ho, rfl⟩ (by decide) F.sub_dict_str F.slot_str_ne F.slot_dict_ne_refl (fun _ q => call_meets F.slot_str_ne (typeIs_str s b u) F.entry_str_ne (F.args_str_ne_2 _ _) (str_ne_d l es ep dd sl b u) ⟨ho, q⟩)
    (fun _ q => call_meets F.slot_dict_ne_refl ⟨_, ho, rfl⟩ F.entry_dict_ne (F.args_dict_ne_2 _ _) (d_ne_str l es ep dd sl b u) ⟨ho, q⟩) (fun _ q => wpAny_of_eq (rfl : isSame (.str b u) (.ref l) = pure false) q) (.inr hu) h
theorem RcNeAt.dict_list {A : Around} {s : Shared} {l m : Addr} {its : Array Value} {es : Array DictEntry} {ep : Nat} {o : Obj} (ho : s.heap.get? l = some o) (hc : o.cls = .type "dict") (hd : o.data = .dict es ep) (hi : s.heap.IsList m its) (hu : A.units < cLine) : RcNeAt A s (.ref l) (.ref m) true := fun prog w E Q h => by
  obtain ⟨oc, dd, da, sl⟩ := o
  obtain ⟨⟨oc2, dd2, da2, sl2⟩, hm, hc2, k, hd2⟩ := hi
  simp only at hc hd hc2 hd2
  subst hc hd hc2 hd2
  have ne : l ≠ m := fun z => by
    subst z
    rw [ho] at hm
    exact absurd (congrArg Obj.cls (Option.some.inj hm)) (by simp)
  exact rc_ne_decline_or (k := false) ⟨_, ho, rfl⟩ ⟨_, hm, rfl⟩ (by decide) F.sub_list_dict F.slot_dict_ne F.slot_list_ne_refl (fun _ q => call_meets F.slot_dict_ne ⟨_, ho, rfl⟩ F.entry_dict_ne (F.args_dict_ne_2 _ _) (d_ne_list l es ep dd sl m its k dd2 sl2) ⟨ho, hm, q⟩)
    (fun _ q => call_meets F.slot_list_ne_refl ⟨_, hm, rfl⟩ F.entry_list_ne (F.args_list_ne_2 _ _) (list_ne_d l es ep dd sl m its k dd2 sl2) ⟨ho, hm, q⟩) (fun _ q => wpAny_isSame_ref_other ne ho hm (by simp) q) (.inr hu) h
theorem RcNeAt.list_dict {A : Around} {s : Shared} {l m : Addr} {its : Array Value} {es : Array DictEntry} {ep : Nat} {o : Obj} (ho : s.heap.get? l = some o) (hc : o.cls = .type "dict") (hd : o.data = .dict es ep) (hi : s.heap.IsList m its) (hu : A.units < cLine) : RcNeAt A s (.ref m) (.ref l) true := fun prog w E Q h => by
  obtain ⟨oc, dd, da, sl⟩ := o
  obtain ⟨⟨oc2, dd2, da2, sl2⟩, hm, hc2, k, hd2⟩ := hi
  simp only at hc hd hc2 hd2
  subst hc hd hc2 hd2
  have ne : l ≠ m := fun z => by
    subst z
    rw [ho] at hm
    exact absurd (congrArg Obj.cls (Option.some.inj hm)) (by simp)
  exact rc_ne_decline_or (k := false) ⟨_, hm, rfl⟩ ⟨_, ho, rfl⟩ (by decide) F.sub_dict_list F.slot_list_ne F.slot_dict_ne_refl (fun _ q => call_meets F.slot_list_ne ⟨_, hm, rfl⟩ F.entry_list_ne (F.args_list_ne_2 _ _) (list_ne_d l es ep dd sl m its k dd2 sl2) ⟨ho, hm, q⟩)
    (fun _ q => call_meets F.slot_dict_ne_refl ⟨_, ho, rfl⟩ F.entry_dict_ne (F.args_dict_ne_2 _ _) (d_ne_list l es ep dd sl m its k dd2 sl2) ⟨ho, hm, q⟩) (fun _ q => wpAny_isSame_ref_other' ne.symm hm ho (by simp) q) (.inr hu) h
theorem RcNeAt.dict_tuple {A : Around} {s : Shared} {l m : Addr} {its : Array Value} {es : Array DictEntry} {ep : Nat} {o : Obj} (ho : s.heap.get? l = some o) (hc : o.cls = .type "dict") (hd : o.data = .dict es ep) (hi : s.heap.IsTuple m its) (hu : A.units < cLine) : RcNeAt A s (.ref l) (.ref m) true := fun prog w E Q h => by
  obtain ⟨oc, dd, da, sl⟩ := o
  obtain ⟨⟨oc2, dd2, da2, sl2⟩, hm, hc2, k, hd2⟩ := hi
  simp only at hc hd hc2 hd2
  subst hc hd hc2 hd2
  have ne : l ≠ m := fun z => by
    subst z
    rw [ho] at hm
    exact absurd (congrArg Obj.cls (Option.some.inj hm)) (by simp)
  exact rc_ne_decline_or (k := false) ⟨_, ho, rfl⟩ ⟨_, hm, rfl⟩ (by decide) F.sub_tuple_dict F.slot_dict_ne F.slot_tuple_ne_refl (fun _ q => call_meets F.slot_dict_ne ⟨_, ho, rfl⟩ F.entry_dict_ne (F.args_dict_ne_2 _ _) (d_ne_tuple l es ep dd sl m its k dd2 sl2) ⟨ho, hm, q⟩)
    (fun _ q => call_meets F.slot_tuple_ne_refl ⟨_, hm, rfl⟩ F.entry_tuple_ne (F.args_tuple_ne_2 _ _) (tuple_ne_d l es ep dd sl m its k dd2 sl2) ⟨ho, hm, q⟩) (fun _ q => wpAny_isSame_ref_other ne ho hm (by simp) q) (.inr hu) h
theorem RcNeAt.tuple_dict {A : Around} {s : Shared} {l m : Addr} {its : Array Value} {es : Array DictEntry} {ep : Nat} {o : Obj} (ho : s.heap.get? l = some o) (hc : o.cls = .type "dict") (hd : o.data = .dict es ep) (hi : s.heap.IsTuple m its) (hu : A.units < cLine) : RcNeAt A s (.ref m) (.ref l) true := fun prog w E Q h => by
  obtain ⟨oc, dd, da, sl⟩ := o
  obtain ⟨⟨oc2, dd2, da2, sl2⟩, hm, hc2, k, hd2⟩ := hi
  simp only at hc hd hc2 hd2
  subst hc hd hc2 hd2
  have ne : l ≠ m := fun z => by
    subst z
    rw [ho] at hm
    exact absurd (congrArg Obj.cls (Option.some.inj hm)) (by simp)
  exact rc_ne_decline_or (k := false) ⟨_, hm, rfl⟩ ⟨_, ho, rfl⟩ (by decide) F.sub_dict_tuple F.slot_tuple_ne F.slot_dict_ne_refl (fun _ q => call_meets F.slot_tuple_ne ⟨_, hm, rfl⟩ F.entry_tuple_ne (F.args_tuple_ne_2 _ _) (tuple_ne_d l es ep dd sl m its k dd2 sl2) ⟨ho, hm, q⟩)
    (fun _ q => call_meets F.slot_dict_ne_refl ⟨_, ho, rfl⟩ F.entry_dict_ne (F.args_dict_ne_2 _ _) (d_ne_tuple l es ep dd sl m its k dd2 sl2) ⟨ho, hm, q⟩) (fun _ q => wpAny_isSame_ref_other' ne.symm hm ho (by simp) q) (.inr hu) h
end SeqAt
end PySem
end
section
namespace PySem
namespace SeqAt
open Builtin
theorem str_declines_dict (b : Str) (u : Tok) (l : Addr) (es : Array DictEntry) (ep : Nat) (dd : Option Addr) (sl : Array (Option Value)) :
    Meets (Builtin.«str.__eq__» ⟨[.str b u, .ref l], []⟩) (fun _ R s => s.heap.get? l = some { cls := .type "dict", dict := dd, data := .dict es ep, slots := sl } ∧ R (.ok (.ret .notImplemented)) s) :=
  .of_wp fun prog w A R s h => by
    obtain ⟨hp, g, d, tk, os⟩ := s
    obtain ⟨hl, h⟩ := h
    wp_walk using wpAny_loadPart' hl, wpAny_load hl
    exact ⟨_, rfl, h⟩
theorem dict_declines_str (l : Addr) (es : Array DictEntry) (ep : Nat) (dd : Option Addr) (sl : Array (Option Value)) (b : Str) (u : Tok) :
    Meets (Builtin.«dict.__eq__» ⟨[.ref l, .str b u], []⟩) (fun _ R s => s.heap.get? l = some { cls := .type "dict", dict := dd, data := .dict es ep, slots := sl } ∧ R (.ok (.ret .notImplemented)) s) :=
  .of_wp fun prog w A R s h => by
    obtain ⟨hp, g, d, tk, os⟩ := s
    obtain ⟨hl, h⟩ := h
    have f1 := F.sub_str_dict
    wp_walk using wpAny_loadPart' hl, wpAny_load hl
    exact ⟨_, rfl, h⟩
theorem RcAt.str_dict {A : Around} {s : Shared} {l : Addr} (b : Str) (u : Tok) {es : Array DictEntry} {ep : Nat} {o : Obj} (ho : s.heap.get? l = some o) (hc : o.cls = .type "dict") (hd : o.data = .dict es ep) (hu : A.units < cLine) : RcAt A s (.str b u) (.ref l) false := fun prog w E Q h => by
  obtain ⟨cls, dd, data, sl⟩ := o
  simp only at hc hd
  subst hc hd
  exact rc_eq_decline_or (k := false) (typeIs_str s b u) ⟨_, ho, rfl⟩ (by decide) F.sub_dict_str F.slot_str_eq F.slot_dict_eq_refl
    (fun _ hq => call_meets F.slot_str_eq (typeIs_str s b u) F.entry_str_eq (F.args_str_eq_2 _ _) (str_declines_dict b u l es ep dd sl) ⟨ho, hq⟩)
    (fun _ hq => call_meets F.slot_dict_eq_refl ⟨_, ho, rfl⟩ F.entry_dict_eq (F.args_dict_eq_2 _ _) (dict_declines_str l es ep dd sl b u) ⟨ho, hq⟩)
    (fun _ hq => wpAny_of_eq (rfl : isSame (.str b u) (.ref l) = pure false) hq) (.inr hu) h
theorem EqAt.str_dict {A : Around} {s : Shared} {l : Addr} (b : Str) (u : Tok) {es : Array DictEntry} {ep : Nat} {o : Obj} (ho : s.heap.get? l = some o) (hc : o.cls = .type "dict") (hd : o.data = .dict es ep) (hu : A.units < cLine) : EqAt A s (.str b u) (.ref l) false := fun prog w E Q h => by
  unfold eqBool
  refine wpAny_holding ?_
  refine wpAny_ite_split (fun hab => absurd (eq_of_beq hab) nofun) (fun _ => ?_)
  refine wpAny_bind (RcAt.str_dict b u ho hc hd hu prog w E _ (wpAny_truthy_bool h))
end SeqAt
end PySem
/-! Z4: equality of data -/
namespace Zl
open PySem PySem.Spec PyProof.Rows L2 Kb
variable [Tabd]
mutual
def dep : PyData → Nat
  | .list ds => depAll ds + 1
  | .tuple ds => depAll ds + 1
  | _ => 1
def depAll : List PyData → Nat
  | [] => 0
  | d :: ds => max (dep d) (depAll ds)
end
mutual
/-- such a comparison is served: all but a dict with a dict -/
def eqOk : PyData → PyData → Bool
  | .dict _, .dict _ => false
  | .list xs, .list ys => eqOks xs ys
  | .tuple xs, .tuple ys => eqOks xs ys
  | _, _ => true
def eqOks : List PyData → List PyData → Bool
  | x :: xs, y :: ys => eqOk x y && eqOks xs ys
  | _, _ => true
end
section
variable {X : Cx} {pins : List (Addr × Obj)} {σ : L2.St} {H : Hp} {s : Shared}
theorem dict_obj (I : Inv X pins σ H s) {p : Addr} {kvs : List (Key × V)} (h : Rd H p (.dK kvs)) : ∃ o es ep, s.heap.get? p = some o ∧ o.cls = .type "dict" ∧ o.data = .dict es ep := by
  obtain ⟨_, _, vs, _, o, es, ep, h1, h2, h3⟩ := (show ObjOk X.prog X.w H s.heap p (.dK kvs) from h.ok I.hok)
  exact ⟨o, es, ep, h1, h2.1, h3.1⟩
theorem no_lt (I : Inv X pins σ H s) {p : Addr} {xs ys : List V} (h : H p = some (.lst xs)) (k : SqT X.K H p ys) : False := by
  obtain ⟨its, r, ⟨o, n, h3, h4, h5, h6⟩, _⟩ := I.list (SqL.of h)
  obtain ⟨its', r', ⟨o', h3', h4', _⟩, _⟩ := I.tuple k
  rw [h3] at h3'
  cases h3'
  rw [h4] at h4'
  exact absurd h4' (by simp)
theorem no_ld (I : Inv X pins σ H s) {p : Addr} {xs : List V} {kvs : List (Key × V)} (h : H p = some (.lst xs)) (k : Rd H p (.dK kvs)) : False := by
  rcases k with k | ⟨o, k⟩
  · rw [h] at k
    cases k
  · rw [h] at k
    cases k
theorem no_td (I : Inv X pins σ H s) {p : Addr} {xs : List V} {kvs : List (Key × V)} (h : SqT X.K H p xs) (k : Rd H p (.dK kvs)) : False := by
  obtain ⟨its', r', ⟨o', h3', h4', _⟩, _⟩ := I.tuple h
  obtain ⟨o, es, ep, h3, h4, _⟩ := dict_obj I k
  rw [h3] at h3'
  cases h3'
  rw [h4] at h4'
  exact absurd h4' (by simp)
theorem rd_one {H : Hp} {p : Addr} {kvs kvs' : List (Key × V)} (h : Rd H p (.dK kvs)) (k : Rd H p (.dK kvs')) : kvs = kvs' := by
  rcases h with h | ⟨o, h⟩ <;> rcases k with k | ⟨o', k⟩ <;> rw [h] at k <;> cases k <;> rfl
mutual
theorem dz_inj (I : Inv X pins σ H s) : ∀ (d : PyData) {e : PyData} {v : V}, Dz X.K H v d → Dz X.K H v e → d = e
  | .none, _, _, h, k => by cases h; cases k; rfl
  | .bool b, _, _, h, k => by cases h; cases k; rfl
  | .int i, _, _, h, k => by cases h; cases k; rfl
  | .str x, _, _, h, k => by cases h; cases k; rfl
  | .list ds, e, v, h, k => by
    cases h with
    | @lst p xs _ h1 h2 =>
      cases k with
      | @lst _ ys es k1 k2 =>
        rw [h1] at k1
        cases k1
        rw [dz_injs I ds h2 k2]
      | @tup _ ys es k1 k2 => exact (no_lt I h1 k1).elim
      | dic k1 k2 => exact (no_ld I h1 k1).elim
  | .tuple ds, e, v, h, k => by
    cases h with
    | @tup p xs _ h1 h2 =>
      cases k with
      | @tup _ ys es k1 k2 =>
        have e1 := I.tuple_inj h1 k1
        subst e1
        rw [dz_injs I ds h2 k2]
      | @lst _ ys es k1 k2 => exact (no_lt I k1 h1).elim
      | dic k1 k2 => exact (no_td I h1 k1).elim
  | .dict ds, e, v, h, k => by
    cases h with
    | @dic p kvs _ h1 h2 =>
      cases k with
      | @dic _ kvs' es k1 k2 =>
        have e1 := rd_one h1 k1
        subst e1
        rw [dz_injk I ds h2 k2]
      | lst k1 k2 => exact (no_ld I k1 h1).elim
      | tup k1 k2 => exact (no_td I k1 h1).elim
theorem dz_injs (I : Inv X pins σ H s) : ∀ (ds : List PyData) {es : List PyData} {vs : List V}, DzAll X.K H vs ds → DzAll X.K H vs es → ds = es
  | [], _, _, h, k => by cases h; cases k; rfl
  | d :: ds, _, _, h, k => by
    cases h with
    | cons h1 h2 =>
      cases k with
      | @cons _ e _ es k1 k2 => rw [dz_inj I d h1 k1, dz_injs I ds h2 k2]
theorem dz_injk (I : Inv X pins σ H s) : ∀ (ds : List (PyData × PyData)) {es : List (PyData × PyData)} {vs : List (Key × V)}, DzKvs X.K H vs ds → DzKvs X.K H vs es → ds = es
  | [], _, _, h, k => by cases h; cases k; rfl
  | (a, d) :: ds, _, _, h, k => by
    cases h with
    | cons h1 h2 =>
      cases k with
      | cons k1 k2 => rw [dz_inj I d h1 k1, dz_injk I ds h2 k2]
end
mutual
theorem eqv_self : ∀ (d : PyData), eqOk d d = true → PyData.eqv d d = true
  | .none, _ => by simp [PyData.eqv]
  | .bool b, _ => by simp [PyData.eqv]
  | .int i, _ => by simp [PyData.eqv]
  | .str x, _ => by simp [PyData.eqv]
  | .list ds, h => by
    simp only [PyData.eqv]
    exact eqv_selfs ds (by simpa [eqOk] using h)
  | .tuple ds, h => by
    simp only [PyData.eqv]
    exact eqv_selfs ds (by simpa [eqOk] using h)
  | .dict ds, h => by simp [eqOk] at h
theorem eqv_selfs : ∀ (ds : List PyData), eqOks ds ds = true → PyData.eqvAll ds ds = true
  | [], _ => by simp [PyData.eqvAll]
  | d :: ds, h => by
    have h' : eqOk d d = true ∧ eqOks ds ds = true := by simpa [eqOks] using h
    simp only [PyData.eqvAll, eqv_self d h'.1, eqv_selfs ds h'.2, Bool.and_self]
end
/-- pairwise, up to the shorter -/
def eqPre : List PyData → List PyData → Nat → Bool
  | x :: xs, y :: ys, 0 => PyData.eqv x y
  | x :: xs, y :: ys, n + 1 => eqPre xs ys n
  | _, _, _ => true
theorem eqvAll_range : ∀ (xs ys : List PyData), xs.length = ys.length → (List.range xs.length).all (eqPre xs ys) = PyData.eqvAll xs ys
  | [], [], _ => by simp [PyData.eqvAll]
  | [], _ :: _, h => by simp at h
  | _ :: _, [], h => by simp at h
  | x :: xs, y :: ys, h => by
    have ih := eqvAll_range xs ys (by simpa using h)
    rw [List.length_cons, List.range_succ_eq_map, List.all_cons, List.all_map]
    simp only [PyData.eqvAll, ← ih]
    rfl
theorem eqvAll_ne : ∀ (xs ys : List PyData), xs.length ≠ ys.length → PyData.eqvAll xs ys = false
  | [], [], h => absurd rfl h
  | [], _ :: _, _ => by simp [PyData.eqvAll]
  | _ :: _, [], _ => by simp [PyData.eqvAll]
  | x :: xs, y :: ys, h => by
    simp only [PyData.eqvAll, eqvAll_ne xs ys (by simpa using h), Bool.and_false]
theorem eqPre_get : ∀ {xs ys : List PyData} {j : Nat} {x y : PyData}, xs[j]? = some x → ys[j]? = some y → eqPre xs ys j = PyData.eqv x y
  | [], _, _, _, _, h, _ => by simp at h
  | _ :: _, [], _, _, _, _, h => by simp at h
  | a :: xs, b :: ys, 0, x, y, h, k => by
    simp at h k
    subst h k
    rfl
  | a :: xs, b :: ys, j + 1, x, y, h, k => eqPre_get (xs := xs) (ys := ys) (j := j) (by simpa using h) (by simpa using k)
theorem eqOks_get : ∀ {xs ys : List PyData} {j : Nat} {x y : PyData}, eqOks xs ys = true → xs[j]? = some x → ys[j]? = some y → eqOk x y = true
  | [], _, _, _, _, _, h, _ => by simp at h
  | _ :: _, [], _, _, _, _, _, h => by simp at h
  | a :: xs, b :: ys, 0, x, y, q, h, k => by
    simp at h k
    subst h k
    have q' : eqOk a b = true ∧ eqOks xs ys = true := by simpa [eqOks] using q
    exact q'.1
  | a :: xs, b :: ys, j + 1, x, y, q, h, k => by
    have q' : eqOk a b = true ∧ eqOks xs ys = true := by simpa [eqOks] using q
    exact eqOks_get (xs := xs) (ys := ys) (j := j) q'.2 (by simpa using h) (by simpa using k)
theorem dep_get : ∀ {xs : List PyData} {j : Nat} {x : PyData}, xs[j]? = some x → dep x ≤ depAll xs
  | [], _, _, h => by simp at h
  | a :: xs, 0, x, h => by
    simp at h
    subst h
    simp only [depAll]
    omega
  | a :: xs, j + 1, x, h => by
    have := dep_get (xs := xs) (j := j) (x := x) (by simpa using h)
    simp only [depAll]
    omega
theorem vals_at {vs : List V} {us : List Value} (r : Vals vs us) {j : Nat} (h : j < us.toArray.size) : ∃ v, vs[j]? = some v ∧ RelV v us.toArray[j] := by
  have h' : j < us.length := by simpa using h
  have hl := r.length
  have hv : vs[j]? = some vs[j] := List.getElem?_eq_getElem (by omega)
  obtain ⟨u, hu, ru⟩ := r.get hv
  refine ⟨_, hv, ?_⟩
  have e : us.toArray[j] = u := by
    rw [List.getElem?_eq_getElem h'] at hu
    cases hu
    simp
  rw [e]
  exact ru
theorem in1_units {A : Around} : A.in1.units ≤ A.units + 1 := Nat.le_refl _
theorem dz_eq (I : Inv X pins σ H s) : ∀ (n : Nat) (d e : PyData) {A : Around} {v y : V} {u z : Value}, dep d ≤ n → Dz X.K H v d → Dz X.K H y e → RelV v u → RelV y z → eqOk d e = true → A.units + n < cLine → SeqAt.RcAt A s u z (PyData.eqv d e) ∧ SeqAt.EqAt A s u z (PyData.eqv d e) := by
  intro n
  induction n with
  | zero =>
    intro d e A v y u z hn
    exact absurd hn (by cases d <;> simp [dep])
  | succ n ih =>
    intro d e A v y u z hn hd he ru rz ok hu
    have hu1 : A.units < cLine := by omega
    cases hd with
    | non =>
      cases (show u = Value.none from ru)
      cases he with
      | non =>
        cases (show z = Value.none from rz)
        simp only [PyData.eqv]; exact ⟨SeqAt.RcAt.none_none, SeqAt.EqAt.same _⟩
      | bl b2 =>
        cases (show z = Value.bool b2 from rz)
        simp only [PyData.eqv]; exact ⟨SeqAt.RcAt.none_bool b2, SeqAt.EqAt.none_bool b2⟩
      | int i2 =>
        obtain ⟨t2, rfl⟩ := (show ∃ t, z = Value.int i2 t from rz)
        simp only [PyData.eqv]; exact ⟨SeqAt.RcAt.none_int i2 t2, SeqAt.EqAt.none_int i2 t2⟩
      | str x2 =>
        obtain ⟨t2, rfl⟩ := (show ∃ t, z = Value.str x2 t from rz)
        simp only [PyData.eqv]; exact ⟨SeqAt.RcAt.none_str x2 t2, SeqAt.EqAt.none_str x2 t2⟩
      | @lst p2 xs2 ds2 hs2 ha2 =>
        cases (show z = Value.ref p2 from rz)
        obtain ⟨its2, r2, pl2, hz2⟩ := I.list (SqL.of hs2)
        simp only [PyData.eqv]; exact ⟨SeqAt.RcAt.none_list pl2.isList hu1, SeqAt.EqAt.none_list pl2.isList hu1⟩
      | @tup p2 xs2 ds2 hs2 ha2 =>
        cases (show z = Value.ref p2 from rz)
        obtain ⟨its2, r2, pl2, hz2⟩ := I.tuple hs2
        simp only [PyData.eqv]; exact ⟨SeqAt.RcAt.none_tuple pl2 hu1, SeqAt.EqAt.none_tuple pl2 hu1⟩
      | @dic p2 kvs2 ds2 hs2 ha2 =>
        cases (show z = Value.ref p2 from rz)
        obtain ⟨o, es, ep, h1, h2, h3⟩ := dict_obj I hs2
        simp only [PyData.eqv]; exact ⟨SeqAt.RcAt.none_dict h1 h2 h3 hu1, SeqAt.EqAt.none_dict h1 h2 h3 hu1⟩
    | bl b1 =>
      cases (show u = Value.bool b1 from ru)
      cases he with
      | non =>
        cases (show z = Value.none from rz)
        simp only [PyData.eqv]; exact ⟨SeqAt.RcAt.bool_none b1, SeqAt.EqAt.bool_none b1⟩
      | bl b2 =>
        cases (show z = Value.bool b2 from rz)
        simp only [PyData.eqv]; exact ⟨SeqAt.RcAt.bool_bool b1 b2, SeqAt.EqAt.bool_bool b1 b2⟩
      | int i2 =>
        obtain ⟨t2, rfl⟩ := (show ∃ t, z = Value.int i2 t from rz)
        simp only [PyData.eqv]; exact ⟨SeqAt.RcAt.bool_int b1 i2 t2, SeqAt.EqAt.bool_int b1 i2 t2⟩
      | str x2 =>
        obtain ⟨t2, rfl⟩ := (show ∃ t, z = Value.str x2 t from rz)
        simp only [PyData.eqv]; exact ⟨SeqAt.RcAt.bool_str b1 x2 t2, SeqAt.EqAt.bool_str b1 x2 t2⟩
      | @lst p2 xs2 ds2 hs2 ha2 =>
        cases (show z = Value.ref p2 from rz)
        obtain ⟨its2, r2, pl2, hz2⟩ := I.list (SqL.of hs2)
        simp only [PyData.eqv]; exact ⟨SeqAt.RcAt.bool_list b1 pl2.isList hu1, SeqAt.EqAt.bool_list b1 pl2.isList hu1⟩
      | @tup p2 xs2 ds2 hs2 ha2 =>
        cases (show z = Value.ref p2 from rz)
        obtain ⟨its2, r2, pl2, hz2⟩ := I.tuple hs2
        simp only [PyData.eqv]; exact ⟨SeqAt.RcAt.bool_tuple b1 pl2 hu1, SeqAt.EqAt.bool_tuple b1 pl2 hu1⟩
      | @dic p2 kvs2 ds2 hs2 ha2 =>
        cases (show z = Value.ref p2 from rz)
        obtain ⟨o, es, ep, h1, h2, h3⟩ := dict_obj I hs2
        simp only [PyData.eqv]; exact ⟨SeqAt.RcAt.bool_dict b1 h1 h2 h3 hu1, SeqAt.EqAt.bool_dict b1 h1 h2 h3 hu1⟩
    | int i1 =>
      obtain ⟨t1, rfl⟩ := (show ∃ t, u = Value.int i1 t from ru)
      cases he with
      | non =>
        cases (show z = Value.none from rz)
        simp only [PyData.eqv]; exact ⟨SeqAt.RcAt.int_none i1 t1, SeqAt.EqAt.int_none i1 t1⟩
      | bl b2 =>
        cases (show z = Value.bool b2 from rz)
        simp only [PyData.eqv]; exact ⟨SeqAt.RcAt.int_bool i1 t1 b2, SeqAt.EqAt.int_bool i1 t1 b2⟩
      | int i2 =>
        obtain ⟨t2, rfl⟩ := (show ∃ t, z = Value.int i2 t from rz)
        simp only [PyData.eqv]; exact ⟨SeqAt.RcAt.int_int i1 t1 i2 t2, SeqAt.EqAt.int_int i1 t1 i2 t2⟩
      | str x2 =>
        obtain ⟨t2, rfl⟩ := (show ∃ t, z = Value.str x2 t from rz)
        simp only [PyData.eqv]; exact ⟨SeqAt.RcAt.int_str i1 t1 x2 t2, SeqAt.EqAt.int_str i1 t1 x2 t2⟩
      | @lst p2 xs2 ds2 hs2 ha2 =>
        cases (show z = Value.ref p2 from rz)
        obtain ⟨its2, r2, pl2, hz2⟩ := I.list (SqL.of hs2)
        simp only [PyData.eqv]; exact ⟨SeqAt.RcAt.int_list i1 t1 pl2.isList hu1, SeqAt.EqAt.int_list i1 t1 pl2.isList hu1⟩
      | @tup p2 xs2 ds2 hs2 ha2 =>
        cases (show z = Value.ref p2 from rz)
        obtain ⟨its2, r2, pl2, hz2⟩ := I.tuple hs2
        simp only [PyData.eqv]; exact ⟨SeqAt.RcAt.int_tuple i1 t1 pl2 hu1, SeqAt.EqAt.int_tuple i1 t1 pl2 hu1⟩
      | @dic p2 kvs2 ds2 hs2 ha2 =>
        cases (show z = Value.ref p2 from rz)
        obtain ⟨o, es, ep, h1, h2, h3⟩ := dict_obj I hs2
        simp only [PyData.eqv]; exact ⟨SeqAt.RcAt.int_dict i1 t1 h1 h2 h3 hu1, SeqAt.EqAt.int_dict i1 t1 h1 h2 h3 hu1⟩
    | str x1 =>
      obtain ⟨t1, rfl⟩ := (show ∃ t, u = Value.str x1 t from ru)
      cases he with
      | non =>
        cases (show z = Value.none from rz)
        simp only [PyData.eqv]; exact ⟨SeqAt.RcAt.str_none x1 t1, SeqAt.EqAt.str_none x1 t1⟩
      | bl b2 =>
        cases (show z = Value.bool b2 from rz)
        simp only [PyData.eqv]; exact ⟨SeqAt.RcAt.str_bool x1 t1 b2, SeqAt.EqAt.str_bool x1 t1 b2⟩
      | int i2 =>
        obtain ⟨t2, rfl⟩ := (show ∃ t, z = Value.int i2 t from rz)
        simp only [PyData.eqv]; exact ⟨SeqAt.RcAt.str_int x1 t1 i2 t2, SeqAt.EqAt.str_int x1 t1 i2 t2⟩
      | str x2 =>
        obtain ⟨t2, rfl⟩ := (show ∃ t, z = Value.str x2 t from rz)
        simp only [PyData.eqv]; exact ⟨SeqAt.RcAt.str_str x1 t1 x2 t2, SeqAt.EqAt.str_str x1 t1 x2 t2⟩
      | @lst p2 xs2 ds2 hs2 ha2 =>
        cases (show z = Value.ref p2 from rz)
        obtain ⟨its2, r2, pl2, hz2⟩ := I.list (SqL.of hs2)
        simp only [PyData.eqv]; exact ⟨SeqAt.RcAt.str_list x1 t1 pl2.isList hu1, SeqAt.EqAt.str_list x1 t1 pl2.isList hu1⟩
      | @tup p2 xs2 ds2 hs2 ha2 =>
        cases (show z = Value.ref p2 from rz)
        obtain ⟨its2, r2, pl2, hz2⟩ := I.tuple hs2
        simp only [PyData.eqv]; exact ⟨SeqAt.RcAt.str_tuple x1 t1 pl2 hu1, SeqAt.EqAt.str_tuple x1 t1 pl2 hu1⟩
      | @dic p2 kvs2 ds2 hs2 ha2 =>
        cases (show z = Value.ref p2 from rz)
        obtain ⟨o, es, ep, h1, h2, h3⟩ := dict_obj I hs2
        simp only [PyData.eqv]; exact ⟨SeqAt.RcAt.str_dict x1 t1 h1 h2 h3 hu1, SeqAt.EqAt.str_dict x1 t1 h1 h2 h3 hu1⟩
    | @lst p1 xs1 ds1 hs1 ha1 =>
      cases (show u = Value.ref p1 from ru)
      obtain ⟨its1, r1, pl1, hz1⟩ := I.list (SqL.of hs1)
      cases he with
      | non =>
        cases (show z = Value.none from rz)
        simp only [PyData.eqv]; exact ⟨SeqAt.RcAt.list_none pl1.isList hu1, SeqAt.EqAt.list_none pl1.isList hu1⟩
      | bl b2 =>
        cases (show z = Value.bool b2 from rz)
        simp only [PyData.eqv]; exact ⟨SeqAt.RcAt.list_bool b2 pl1.isList hu1, SeqAt.EqAt.list_bool b2 pl1.isList hu1⟩
      | int i2 =>
        obtain ⟨t2, rfl⟩ := (show ∃ t, z = Value.int i2 t from rz)
        simp only [PyData.eqv]; exact ⟨SeqAt.RcAt.list_int i2 t2 pl1.isList hu1, SeqAt.EqAt.list_int i2 t2 pl1.isList hu1⟩
      | str x2 =>
        obtain ⟨t2, rfl⟩ := (show ∃ t, z = Value.str x2 t from rz)
        simp only [PyData.eqv]; exact ⟨SeqAt.RcAt.list_str x2 t2 pl1.isList hu1, SeqAt.EqAt.list_str x2 t2 pl1.isList hu1⟩
      | @lst p2 xs2 ds2 hs2 ha2 =>
        cases (show z = Value.ref p2 from rz)
        obtain ⟨its2, r2, pl2, hz2⟩ := I.list (SqL.of hs2)
        have okL : eqOks ds1 ds2 = true := by simpa [eqOk] using ok
        have hnL : depAll ds1 ≤ n := by simpa [dep] using hn
        have l1 : its1.length = ds1.length := by rw [← r1.length, ha1.len]
        have l2 : its2.length = ds2.length := by rw [← r2.length, ha2.len]
        have items : ∀ j (h1 : j < its1.toArray.size) (h2 : j < its2.toArray.size), SeqAt.EqAt A.in1 s its1.toArray[j] its2.toArray[j] (eqPre ds1 ds2 j) := fun j h1 h2 => by
          obtain ⟨w1, e1, q1⟩ := vals_at r1 h1
          obtain ⟨w2, e2, q2⟩ := vals_at r2 h2
          obtain ⟨d1, f1, k1⟩ := ha1.get e1
          obtain ⟨d2, f2, k2⟩ := ha2.get e2
          rw [eqPre_get f1 f2]
          exact (ih d1 d2 (Nat.le_trans (dep_get f1) hnL) k1 k2 q1 q2 (eqOks_get okL f1 f2) (by have := in1_units (A := A); omega)).2
        have rc : SeqAt.RcAt A s (.ref p1) (.ref p2) (PyData.eqv (.list ds1) (.list ds2)) := by
          simp only [PyData.eqv]
          by_cases hl : ds1.length = ds2.length
          · have h := SeqAt.RcAt.lists pl1.isList pl2.isList (by simp; omega) hu1 items
            rw [show its1.toArray.size = ds1.length by simp [l1], eqvAll_range ds1 ds2 hl] at h
            exact h
          · rw [eqvAll_ne ds1 ds2 hl]
            exact SeqAt.RcAt.lists_lengths pl1.isList pl2.isList (by simp; omega) hu1
        refine ⟨rc, ?_⟩
        by_cases c : p1 = p2
        · subst c
          have e := dz_inj I _ (Dz.lst hs1 ha1) (Dz.lst hs2 ha2)
          rw [← e, eqv_self _ (by rw [← e] at ok; exact ok)]
          exact SeqAt.EqAt.same _
        · exact SeqAt.EqAt.of_refs c rc
      | @tup p2 xs2 ds2 hs2 ha2 =>
        cases (show z = Value.ref p2 from rz)
        obtain ⟨its2, r2, pl2, hz2⟩ := I.tuple hs2
        simp only [PyData.eqv]; exact ⟨SeqAt.RcAt.list_tuple pl1.isList pl2 hu1, SeqAt.EqAt.list_tuple pl1.isList pl2 hu1⟩
      | @dic p2 kvs2 ds2 hs2 ha2 =>
        cases (show z = Value.ref p2 from rz)
        obtain ⟨o, es, ep, h1, h2, h3⟩ := dict_obj I hs2
        simp only [PyData.eqv]; exact ⟨SeqAt.RcAt.list_dict h1 h2 h3 pl1.isList hu1, SeqAt.EqAt.list_dict h1 h2 h3 pl1.isList hu1⟩
    | @tup p1 xs1 ds1 hs1 ha1 =>
      cases (show u = Value.ref p1 from ru)
      obtain ⟨its1, r1, pl1, hz1⟩ := I.tuple hs1
      cases he with
      | non =>
        cases (show z = Value.none from rz)
        simp only [PyData.eqv]; exact ⟨SeqAt.RcAt.tuple_none pl1 hu1, SeqAt.EqAt.tuple_none pl1 hu1⟩
      | bl b2 =>
        cases (show z = Value.bool b2 from rz)
        simp only [PyData.eqv]; exact ⟨SeqAt.RcAt.tuple_bool b2 pl1 hu1, SeqAt.EqAt.tuple_bool b2 pl1 hu1⟩
      | int i2 =>
        obtain ⟨t2, rfl⟩ := (show ∃ t, z = Value.int i2 t from rz)
        simp only [PyData.eqv]; exact ⟨SeqAt.RcAt.tuple_int i2 t2 pl1 hu1, SeqAt.EqAt.tuple_int i2 t2 pl1 hu1⟩
      | str x2 =>
        obtain ⟨t2, rfl⟩ := (show ∃ t, z = Value.str x2 t from rz)
        simp only [PyData.eqv]; exact ⟨SeqAt.RcAt.tuple_str x2 t2 pl1 hu1, SeqAt.EqAt.tuple_str x2 t2 pl1 hu1⟩
      | @lst p2 xs2 ds2 hs2 ha2 =>
        cases (show z = Value.ref p2 from rz)
        obtain ⟨its2, r2, pl2, hz2⟩ := I.list (SqL.of hs2)
        simp only [PyData.eqv]; exact ⟨SeqAt.RcAt.tuple_list pl1 pl2.isList hu1, SeqAt.EqAt.tuple_list pl1 pl2.isList hu1⟩
      | @tup p2 xs2 ds2 hs2 ha2 =>
        cases (show z = Value.ref p2 from rz)
        obtain ⟨its2, r2, pl2, hz2⟩ := I.tuple hs2
        have okL : eqOks ds1 ds2 = true := by simpa [eqOk] using ok
        have hnL : depAll ds1 ≤ n := by simpa [dep] using hn
        have l1 : its1.length = ds1.length := by rw [← r1.length, ha1.len]
        have l2 : its2.length = ds2.length := by rw [← r2.length, ha2.len]
        have items : ∀ j (h1 : j < its1.toArray.size) (h2 : j < its2.toArray.size), SeqAt.EqAt A.in1 s its1.toArray[j] its2.toArray[j] (eqPre ds1 ds2 j) := fun j h1 h2 => by
          obtain ⟨w1, e1, q1⟩ := vals_at r1 h1
          obtain ⟨w2, e2, q2⟩ := vals_at r2 h2
          obtain ⟨d1, f1, k1⟩ := ha1.get e1
          obtain ⟨d2, f2, k2⟩ := ha2.get e2
          rw [eqPre_get f1 f2]
          exact (ih d1 d2 (Nat.le_trans (dep_get f1) hnL) k1 k2 q1 q2 (eqOks_get okL f1 f2) (by have := in1_units (A := A); omega)).2
        have rc : SeqAt.RcAt A s (.ref p1) (.ref p2) (PyData.eqv (.tuple ds1) (.tuple ds2)) := by
          simp only [PyData.eqv]
          have h := SeqAt.RcAt.tuples (show s.heap.IsTuple p1 its1.toArray from pl1) (show s.heap.IsTuple p2 its2.toArray from pl2) hu1 items
          by_cases hl : ds1.length = ds2.length
          · have e1 : its1.toArray.size = ds1.length := by simp [l1]
            have e2 : its2.toArray.size = ds1.length := by simp [l2, hl]
            rw [e1, e2, Nat.min_self, eqvAll_range ds1 ds2 hl, beq_self_eq_true, Bool.and_true] at h
            exact h
          · rw [eqvAll_ne ds1 ds2 hl]
            have e : (its1.toArray.size == its2.toArray.size) = false := by
              rw [beq_eq_false_iff_ne]
              simp only [List.size_toArray]
              omega
            rw [e, Bool.and_false] at h
            exact h
        refine ⟨rc, ?_⟩
        by_cases c : p1 = p2
        · subst c
          have e := dz_inj I _ (Dz.tup hs1 ha1) (Dz.tup hs2 ha2)
          rw [← e, eqv_self _ (by rw [← e] at ok; exact ok)]
          exact SeqAt.EqAt.same _
        · exact SeqAt.EqAt.of_refs c rc
      | @dic p2 kvs2 ds2 hs2 ha2 =>
        cases (show z = Value.ref p2 from rz)
        obtain ⟨o, es, ep, h1, h2, h3⟩ := dict_obj I hs2
        simp only [PyData.eqv]; exact ⟨SeqAt.RcAt.tuple_dict h1 h2 h3 pl1 hu1, SeqAt.EqAt.tuple_dict h1 h2 h3 pl1 hu1⟩
    | @dic p1 kvs1 ds1 hs1 ha1 =>
      cases (show u = Value.ref p1 from ru)
      obtain ⟨o, es, ep, h1, h2, h3⟩ := dict_obj I hs1
      cases he with
      | non =>
        cases (show z = Value.none from rz)
        simp only [PyData.eqv]; exact ⟨SeqAt.RcAt.dict_none h1 h2 h3 hu1, SeqAt.EqAt.dict_none h1 h2 h3 hu1⟩
      | bl b2 =>
        cases (show z = Value.bool b2 from rz)
        simp only [PyData.eqv]; exact ⟨SeqAt.RcAt.dict_bool b2 h1 h2 h3 hu1, SeqAt.EqAt.dict_bool b2 h1 h2 h3 hu1⟩
      | int i2 =>
        obtain ⟨t2, rfl⟩ := (show ∃ t, z = Value.int i2 t from rz)
        simp only [PyData.eqv]; exact ⟨SeqAt.RcAt.dict_int i2 t2 h1 h2 h3 hu1, SeqAt.EqAt.dict_int i2 t2 h1 h2 h3 hu1⟩
      | str x2 =>
        obtain ⟨t2, rfl⟩ := (show ∃ t, z = Value.str x2 t from rz)
        simp only [PyData.eqv]; exact ⟨SeqAt.RcAt.dict_str x2 t2 h1 h2 h3 hu1, SeqAt.EqAt.dict_str x2 t2 h1 h2 h3 hu1⟩
      | @lst p2 xs2 ds2 hs2 ha2 =>
        cases (show z = Value.ref p2 from rz)
        obtain ⟨its2, r2, pl2, hz2⟩ := I.list (SqL.of hs2)
        simp only [PyData.eqv]; exact ⟨SeqAt.RcAt.dict_list h1 h2 h3 pl2.isList hu1, SeqAt.EqAt.dict_list h1 h2 h3 pl2.isList hu1⟩
      | @tup p2 xs2 ds2 hs2 ha2 =>
        cases (show z = Value.ref p2 from rz)
        obtain ⟨its2, r2, pl2, hz2⟩ := I.tuple hs2
        simp only [PyData.eqv]; exact ⟨SeqAt.RcAt.dict_tuple h1 h2 h3 pl2 hu1, SeqAt.EqAt.dict_tuple h1 h2 h3 pl2 hu1⟩
      | dic _ _ => exact absurd ok (by simp [eqOk])
end
def isDict : PyData → Bool
  | .dict _ => true
  | _ => false
section
variable {X : Cx} {pins : List (Addr × Obj)} {σ : L2.St} {H : Hp} {s : Shared}
theorem dz_ne (I : Inv X pins σ H s) (n : Nat) (d e : PyData) {A : Around} {v y : V} {u z : Value} (hn : dep d ≤ n) (hd : Dz X.K H v d) (he : Dz X.K H y e) (ru : RelV v u) (rz : RelV y z) (ok : eqOk d e = true) (ok2 : isDict e = false) (hu : A.units + n < cLine) : SeqAt.RcNeAt A s u z (!PyData.eqv d e) := by
    have h1 : 1 ≤ n := Nat.le_trans (by cases d <;> simp [dep]) hn
    have hu1 : A.units < cLine := by omega
    cases hd with
    | non =>
      cases (show u = Value.none from ru)
      cases he with
      | non =>
        cases (show z = Value.none from rz)
        simp only [PyData.eqv]; exact SeqAt.RcNeAt.none_none
      | bl b2 =>
        cases (show z = Value.bool b2 from rz)
        simp only [PyData.eqv]; exact SeqAt.RcNeAt.none_bool b2
      | int i2 =>
        obtain ⟨t2, rfl⟩ := (show ∃ t, z = Value.int i2 t from rz)
        simp only [PyData.eqv]; exact SeqAt.RcNeAt.none_int i2 t2
      | str x2 =>
        obtain ⟨t2, rfl⟩ := (show ∃ t, z = Value.str x2 t from rz)
        simp only [PyData.eqv]; exact SeqAt.RcNeAt.none_str x2 t2
      | @lst p2 xs2 ds2 hs2 ha2 =>
        cases (show z = Value.ref p2 from rz)
        obtain ⟨its2, r2, pl2, hz2⟩ := I.list (SqL.of hs2)
        simp only [PyData.eqv]; exact SeqAt.RcNeAt.none_list pl2.isList hu1
      | @tup p2 xs2 ds2 hs2 ha2 =>
        cases (show z = Value.ref p2 from rz)
        obtain ⟨its2, r2, pl2, hz2⟩ := I.tuple hs2
        simp only [PyData.eqv]; exact SeqAt.RcNeAt.none_tuple pl2 hu1
      | dic _ _ => exact absurd ok2 (by simp [isDict])
    | bl b1 =>
      cases (show u = Value.bool b1 from ru)
      cases he with
      | non =>
        cases (show z = Value.none from rz)
        simp only [PyData.eqv]; exact SeqAt.RcNeAt.bool_none b1
      | bl b2 =>
        cases (show z = Value.bool b2 from rz)
        simp only [PyData.eqv]; exact SeqAt.RcNeAt.bool_bool b1 b2
      | int i2 =>
        obtain ⟨t2, rfl⟩ := (show ∃ t, z = Value.int i2 t from rz)
        simp only [PyData.eqv]; exact SeqAt.RcNeAt.bool_int b1 i2 t2
      | str x2 =>
        obtain ⟨t2, rfl⟩ := (show ∃ t, z = Value.str x2 t from rz)
        simp only [PyData.eqv]; exact SeqAt.RcNeAt.bool_str b1 x2 t2
      | @lst p2 xs2 ds2 hs2 ha2 =>
        cases (show z = Value.ref p2 from rz)
        obtain ⟨its2, r2, pl2, hz2⟩ := I.list (SqL.of hs2)
        simp only [PyData.eqv]; exact SeqAt.RcNeAt.bool_list b1 pl2.isList hu1
      | @tup p2 xs2 ds2 hs2 ha2 =>
        cases (show z = Value.ref p2 from rz)
        obtain ⟨its2, r2, pl2, hz2⟩ := I.tuple hs2
        simp only [PyData.eqv]; exact SeqAt.RcNeAt.bool_tuple b1 pl2 hu1
      | dic _ _ => exact absurd ok2 (by simp [isDict])
    | int i1 =>
      obtain ⟨t1, rfl⟩ := (show ∃ t, u = Value.int i1 t from ru)
      cases he with
      | non =>
        cases (show z = Value.none from rz)
        simp only [PyData.eqv]; exact SeqAt.RcNeAt.int_none i1 t1
      | bl b2 =>
        cases (show z = Value.bool b2 from rz)
        simp only [PyData.eqv]; exact SeqAt.RcNeAt.int_bool i1 t1 b2
      | int i2 =>
        obtain ⟨t2, rfl⟩ := (show ∃ t, z = Value.int i2 t from rz)
        simp only [PyData.eqv]; exact SeqAt.RcNeAt.int_int i1 t1 i2 t2
      | str x2 =>
        obtain ⟨t2, rfl⟩ := (show ∃ t, z = Value.str x2 t from rz)
        simp only [PyData.eqv]; exact SeqAt.RcNeAt.int_str i1 t1 x2 t2
      | @lst p2 xs2 ds2 hs2 ha2 =>
        cases (show z = Value.ref p2 from rz)
        obtain ⟨its2, r2, pl2, hz2⟩ := I.list (SqL.of hs2)
        simp only [PyData.eqv]; exact SeqAt.RcNeAt.int_list i1 t1 pl2.isList hu1
      | @tup p2 xs2 ds2 hs2 ha2 =>
        cases (show z = Value.ref p2 from rz)
        obtain ⟨its2, r2, pl2, hz2⟩ := I.tuple hs2
        simp only [PyData.eqv]; exact SeqAt.RcNeAt.int_tuple i1 t1 pl2 hu1
      | dic _ _ => exact absurd ok2 (by simp [isDict])
    | str x1 =>
      obtain ⟨t1, rfl⟩ := (show ∃ t, u = Value.str x1 t from ru)
      cases he with
      | non =>
        cases (show z = Value.none from rz)
        simp only [PyData.eqv]; exact SeqAt.RcNeAt.str_none x1 t1
      | bl b2 =>
        cases (show z = Value.bool b2 from rz)
        simp only [PyData.eqv]; exact SeqAt.RcNeAt.str_bool x1 t1 b2
      | int i2 =>
        obtain ⟨t2, rfl⟩ := (show ∃ t, z = Value.int i2 t from rz)
        simp only [PyData.eqv]; exact SeqAt.RcNeAt.str_int x1 t1 i2 t2
      | str x2 =>
        obtain ⟨t2, rfl⟩ := (show ∃ t, z = Value.str x2 t from rz)
        simp only [PyData.eqv]; exact SeqAt.RcNeAt.str_str x1 t1 x2 t2
      | @lst p2 xs2 ds2 hs2 ha2 =>
        cases (show z = Value.ref p2 from rz)
        obtain ⟨its2, r2, pl2, hz2⟩ := I.list (SqL.of hs2)
        simp only [PyData.eqv]; exact SeqAt.RcNeAt.str_list x1 t1 pl2.isList hu1
      | @tup p2 xs2 ds2 hs2 ha2 =>
        cases (show z = Value.ref p2 from rz)
        obtain ⟨its2, r2, pl2, hz2⟩ := I.tuple hs2
        simp only [PyData.eqv]; exact SeqAt.RcNeAt.str_tuple x1 t1 pl2 hu1
      | dic _ _ => exact absurd ok2 (by simp [isDict])
    | @lst p1 xs1 ds1 hs1 ha1 =>
      cases (show u = Value.ref p1 from ru)
      obtain ⟨its1, r1, pl1, hz1⟩ := I.list (SqL.of hs1)
      cases he with
      | non =>
        cases (show z = Value.none from rz)
        simp only [PyData.eqv]; exact SeqAt.RcNeAt.list_none pl1.isList hu1
      | bl b2 =>
        cases (show z = Value.bool b2 from rz)
        simp only [PyData.eqv]; exact SeqAt.RcNeAt.list_bool b2 pl1.isList hu1
      | int i2 =>
        obtain ⟨t2, rfl⟩ := (show ∃ t, z = Value.int i2 t from rz)
        simp only [PyData.eqv]; exact SeqAt.RcNeAt.list_int i2 t2 pl1.isList hu1
      | str x2 =>
        obtain ⟨t2, rfl⟩ := (show ∃ t, z = Value.str x2 t from rz)
        simp only [PyData.eqv]; exact SeqAt.RcNeAt.list_str x2 t2 pl1.isList hu1
      | @lst p2 xs2 ds2 hs2 ha2 =>
        cases (show z = Value.ref p2 from rz)
        obtain ⟨its2, r2, pl2, hz2⟩ := I.list (SqL.of hs2)
        have okL : eqOks ds1 ds2 = true := by simpa [eqOk] using ok
        have hnL : depAll ds1 ≤ n - 1 := by
          have : depAll ds1 + 1 ≤ n := by simpa [dep] using hn
          omega
        have l1 : its1.length = ds1.length := by rw [← r1.length, ha1.len]
        have l2 : its2.length = ds2.length := by rw [← r2.length, ha2.len]
        have items : ∀ j (h1 : j < its1.toArray.size) (h2 : j < its2.toArray.size), SeqAt.EqAt A.in1 s its1.toArray[j] its2.toArray[j] (eqPre ds1 ds2 j) := fun j h1 h2 => by
          obtain ⟨w1, e1, q1⟩ := vals_at r1 h1
          obtain ⟨w2, e2, q2⟩ := vals_at r2 h2
          obtain ⟨d1, f1, k1⟩ := ha1.get e1
          obtain ⟨d2, f2, k2⟩ := ha2.get e2
          rw [eqPre_get f1 f2]
          exact (dz_eq I (n - 1) d1 d2 (Nat.le_trans (dep_get f1) hnL) k1 k2 q1 q2 (eqOks_get okL f1 f2) (by have := in1_units (A := A); omega)).2
        simp only [PyData.eqv]
        by_cases hl : ds1.length = ds2.length
        · have h := SeqAt.RcNeAt.lists pl1.isList pl2.isList (by simp; omega) hu1 items
          rw [show its1.toArray.size = ds1.length by simp [l1], eqvAll_range ds1 ds2 hl] at h
          exact h
        · rw [eqvAll_ne ds1 ds2 hl]
          exact SeqAt.RcNeAt.lists_lengths pl1.isList pl2.isList (by simp; omega) hu1
      | @tup p2 xs2 ds2 hs2 ha2 =>
        cases (show z = Value.ref p2 from rz)
        obtain ⟨its2, r2, pl2, hz2⟩ := I.tuple hs2
        simp only [PyData.eqv]; exact SeqAt.RcNeAt.list_tuple pl1.isList pl2 hu1
      | dic _ _ => exact absurd ok2 (by simp [isDict])
    | @tup p1 xs1 ds1 hs1 ha1 =>
      cases (show u = Value.ref p1 from ru)
      obtain ⟨its1, r1, pl1, hz1⟩ := I.tuple hs1
      cases he with
      | non =>
        cases (show z = Value.none from rz)
        simp only [PyData.eqv]; exact SeqAt.RcNeAt.tuple_none pl1 hu1
      | bl b2 =>
        cases (show z = Value.bool b2 from rz)
        simp only [PyData.eqv]; exact SeqAt.RcNeAt.tuple_bool b2 pl1 hu1
      | int i2 =>
        obtain ⟨t2, rfl⟩ := (show ∃ t, z = Value.int i2 t from rz)
        simp only [PyData.eqv]; exact SeqAt.RcNeAt.tuple_int i2 t2 pl1 hu1
      | str x2 =>
        obtain ⟨t2, rfl⟩ := (show ∃ t, z = Value.str x2 t from rz)
        simp only [PyData.eqv]; exact SeqAt.RcNeAt.tuple_str x2 t2 pl1 hu1
      | @lst p2 xs2 ds2 hs2 ha2 =>
        cases (show z = Value.ref p2 from rz)
        obtain ⟨its2, r2, pl2, hz2⟩ := I.list (SqL.of hs2)
        simp only [PyData.eqv]; exact SeqAt.RcNeAt.tuple_list pl1 pl2.isList hu1
      | @tup p2 xs2 ds2 hs2 ha2 =>
        cases (show z = Value.ref p2 from rz)
        obtain ⟨its2, r2, pl2, hz2⟩ := I.tuple hs2
        have okL : eqOks ds1 ds2 = true := by simpa [eqOk] using ok
        have hnL : depAll ds1 ≤ n - 1 := by
          have : depAll ds1 + 1 ≤ n := by simpa [dep] using hn
          omega
        have l1 : its1.length = ds1.length := by rw [← r1.length, ha1.len]
        have l2 : its2.length = ds2.length := by rw [← r2.length, ha2.len]
        have items : ∀ j (h1 : j < its1.toArray.size) (h2 : j < its2.toArray.size), SeqAt.EqAt A.in1 s its1.toArray[j] its2.toArray[j] (eqPre ds1 ds2 j) := fun j h1 h2 => by
          obtain ⟨w1, e1, q1⟩ := vals_at r1 h1
          obtain ⟨w2, e2, q2⟩ := vals_at r2 h2
          obtain ⟨d1, f1, k1⟩ := ha1.get e1
          obtain ⟨d2, f2, k2⟩ := ha2.get e2
          rw [eqPre_get f1 f2]
          exact (dz_eq I (n - 1) d1 d2 (Nat.le_trans (dep_get f1) hnL) k1 k2 q1 q2 (eqOks_get okL f1 f2) (by have := in1_units (A := A); omega)).2
        simp only [PyData.eqv]
        have h := SeqAt.RcNeAt.tuples (show s.heap.IsTuple p1 its1.toArray from pl1) (show s.heap.IsTuple p2 its2.toArray from pl2) hu1 items
        by_cases hl : ds1.length = ds2.length
        · have e1 : its1.toArray.size = ds1.length := by simp [l1]
          have e2 : its2.toArray.size = ds1.length := by simp [l2, hl]
          rw [e1, e2, Nat.min_self, eqvAll_range ds1 ds2 hl, beq_self_eq_true, Bool.and_true] at h
          exact h
        · rw [eqvAll_ne ds1 ds2 hl]
          have e : (its1.toArray.size == its2.toArray.size) = false := by
            rw [beq_eq_false_iff_ne]
            simp only [List.size_toArray]
            omega
          rw [e, Bool.and_false] at h
          exact h
      | dic _ _ => exact absurd ok2 (by simp [isDict])
    | @dic p1 kvs1 ds1 hs1 ha1 =>
      cases (show u = Value.ref p1 from ru)
      obtain ⟨o, es, ep, h1, h2, h3⟩ := dict_obj I hs1
      cases he with
      | non =>
        cases (show z = Value.none from rz)
        simp only [PyData.eqv]; exact SeqAt.RcNeAt.dict_none h1 h2 h3 hu1
      | bl b2 =>
        cases (show z = Value.bool b2 from rz)
        simp only [PyData.eqv]; exact SeqAt.RcNeAt.dict_bool b2 h1 h2 h3 hu1
      | int i2 =>
        obtain ⟨t2, rfl⟩ := (show ∃ t, z = Value.int i2 t from rz)
        simp only [PyData.eqv]; exact SeqAt.RcNeAt.dict_int i2 t2 h1 h2 h3 hu1
      | str x2 =>
        obtain ⟨t2, rfl⟩ := (show ∃ t, z = Value.str x2 t from rz)
        simp only [PyData.eqv]; exact SeqAt.RcNeAt.dict_str x2 t2 h1 h2 h3 hu1
      | @lst p2 xs2 ds2 hs2 ha2 =>
        cases (show z = Value.ref p2 from rz)
        obtain ⟨its2, r2, pl2, hz2⟩ := I.list (SqL.of hs2)
        simp only [PyData.eqv]; exact SeqAt.RcNeAt.dict_list h1 h2 h3 pl2.isList hu1
      | @tup p2 xs2 ds2 hs2 ha2 =>
        cases (show z = Value.ref p2 from rz)
        obtain ⟨its2, r2, pl2, hz2⟩ := I.tuple hs2
        simp only [PyData.eqv]; exact SeqAt.RcNeAt.dict_tuple h1 h2 h3 pl2 hu1
      | dic _ _ => exact absurd ok (by simp [eqOk])
end
end Zl
end
section
/-! Z5: operators, subscripts, slices, built-ins, in words of data -/
namespace Zl
open PySem PySem.Spec PyProof.Rows L2 Kb
variable [Tabd]
variable {K : PySem.W.Frag} {W : WX}
/-- a slot's content as data -/
def view : Z → Option PyData
  | .dat d => some d
  | .own ds => some (.list ds)
  | .ownD kvs => some (.dict kvs)
  | _ => none
theorem RZ.full {F : Fr} {H : Hp} {z : Z} {v : V} {d : PyData} (h : RZ K F H z v) (e : view z = some d) : Dz K H v d := by
  cases z with
  | dat d' => cases e; exact Dz.mono Le.hid_self _ h
  | strm => cases e
  | exc _ _ => cases e
  | exf _ _ _ _ _ => cases e
  | clo _ => cases e
  | scr ns => cases e
  | own ds =>
    cases e
    obtain ⟨l, xs, rfl, _, h3, h4⟩ := h
    exact .lst h3 (Dz.monos Le.hid_self ds h4)
  | ownD ds =>
    cases e
    obtain ⟨l, xs, rfl, _, h3, h4⟩ := h
    exact .dic (.inl h3) (Dz.monoK Le.hid_self ds h4)
theorem RZ.list {F : Fr} {H : Hp} {z : Z} {v : V} {ds : List PyData} (h : RZ K F H z v) (e : view z = some (.list ds)) : ∃ p xs, v = .ref p ∧ H p = some (.lst xs) ∧ DzAll K (hid F.O H) xs ds := by
  cases z with
  | dat d' =>
    cases e
    exact rz_lst h
  | strm => cases e
  | exc _ _ => cases e
  | exf _ _ _ _ _ => cases e
  | clo _ => cases e
  | scr ns => cases e
  | ownD ds' => cases e
  | own ds' =>
    cases e
    obtain ⟨l, xs, rfl, _, h3, h4⟩ := h
    exact ⟨l, xs, rfl, h3, h4⟩
theorem RZ.tuple {F : Fr} {H : Hp} {z : Z} {v : V} {ds : List PyData} (h : RZ K F H z v) (e : view z = some (.tuple ds)) : ∃ p xs, v = .ref p ∧ SqT K H p xs ∧ DzAll K (hid F.O H) xs ds := by
  cases z with
  | dat d' =>
    cases e
    obtain ⟨p, xs, rfl, h1, h2⟩ := rz_tuple h
    exact ⟨p, xs, rfl, Le.hid_self.seqT h1, h2⟩
  | strm => cases e
  | exc _ _ => cases e
  | exf _ _ _ _ _ => cases e
  | clo _ => cases e
  | scr ns => cases e
  | own ds' => cases e
  | ownD ds' => cases e
theorem RZ.int {F : Fr} {H : Hp} {z : Z} {v : V} {i : Int} (h : RZ K F H z v) (e : view z = some (.int i)) : v = .int i := by
  cases h.full e
  rfl
theorem RZ.bool {F : Fr} {H : Hp} {z : Z} {v : V} {i : Bool} (h : RZ K F H z v) (e : view z = some (.bool i)) : v = .bl i := by
  cases h.full e
  rfl
theorem RZ.none {F : Fr} {H : Hp} {z : Z} {v : V} (h : RZ K F H z v) (e : view z = some .none) : v = .non := by
  cases h.full e
  rfl
theorem RZ.str {F : Fr} {H : Hp} {z : Z} {v : V} {x : Str} (h : RZ K F H z v) (e : view z = some (.str x)) : v = .str x := by
  cases h.full e
  rfl
/-- two data in -/
def k2 (f : PyData → PyData → (Z → Prop) → Prop) : Z → Z → (Z → Prop) → Prop := fun a b Q => ∃ d e, view a = some d ∧ view b = some e ∧ f d e Q
def k1 (f : PyData → (Z → Prop) → Prop) : Z → (Z → Prop) → Prop := fun a Q => ∃ d, view a = some d ∧ f d Q
def kL1 (f : PyData → (Z → Prop) → Prop) : List Z → (Z → Prop) → Prop := fun as Q => ∃ a d, as = [a] ∧ view a = some d ∧ f d Q
def kL2 (f : PyData → PyData → (Z → Prop) → Prop) : List Z → (Z → Prop) → Prop := fun as Q => ∃ a b d e, as = [a, b] ∧ view a = some d ∧ view b = some e ∧ f d e Q
abbrev rOr (r q : R2) : R2 := fun x y H Q => r x y H Q ∨ q x y H Q
theorem OpR.or {X : Cx} {f : Value → Value → Sem Value} {r q : R2} (a : OpR X f r) (b : OpR X f q) : OpR X f (rOr r q) := fun pins s σ H x y v u Q I rx ry h => by
  rcases h with h | h
  · exact a pins s σ H x y v u Q I rx ry h
  · exact b pins s σ H x y v u Q I rx ry h
section
variable {F : Fr} {H : Hp}
theorem out_int {i : Int} : RZ K F H (.dat (.int i)) (.int i) := Dz.int i
theorem out_bl {i : Bool} : RZ K F H (.dat (.bool i)) (.bl i) := Dz.bl i
end
/-! ### + -/
def strCat (x y : Str) : Str := x ++ y
def dAdd : PyData → PyData → (Z → Prop) → Prop
  | .int i, .int j, Q => Q (.dat (.int (i + j)))
  | .str x, .str y, Q => x.length + y.length ≤ line ∧ Q (.dat (.str (x ++ y)))
  | .list xs, .list ys, Q => xs.length + ys.length ≤ line ∧ Q (.dat (.list (xs ++ ys)))
  | .tuple xs, .tuple ys, Q => xs.length + ys.length ≤ line ∧ Q (.dat (.tuple (xs ++ ys)))
  | _, _, _ => False
abbrev rAdd (K : PySem.W.Frag) : R2 := rOr (rI0 fun i j => .int (i + j)) (rOr (fun x y H Q => ∃ i j, x = .str i ∧ y = .str j ∧ i.length + j.length ≤ sizeLine ∧ Q (.str (i ++ j)) H) (rOr (rCatA K) rCat))
theorem op_addZ {X : Cx} : OpR X (binaryOp .Add) (rAdd X.K) := op_add.or (op_add_str.or (op_catA.or op_cat))
theorem oz_add : OpZ K (rAdd K) (k2 dAdd) := fun F H x y a b Qz Q g ha hb hk q => by
  obtain ⟨d, e, hd, he, hk⟩ := hk
  cases d with
  | int i =>
    cases e with
    | int j =>
      refine .inl ⟨i, j, ha.int hd, hb.int he, q _ _ H (.refl _ _ _) out_int hk⟩
    | _ => exact hk.elim
  | str s =>
    cases e with
    | str t =>
      exact .inr (.inl ⟨s, t, ha.str hd, hb.str he, line_le hk.1, q (.dat (.str (s ++ t))) _ H (.refl _ _ _) (Dz.str _) hk.2⟩)
    | _ => exact hk.elim
  | list xs =>
    cases e with
    | list ys =>
      obtain ⟨p, us, rfl, h1, h2⟩ := ha.list hd
      obtain ⟨p', us', rfl, h1', h2'⟩ := hb.list he
      refine .inr (.inr (.inr ⟨p, p', us, us', rfl, rfl, h1, h1', line_le (by rw [h2.len, h2'.len]; exact hk.1), fun r nr => ?_⟩))
      exact q (.dat (.list (xs ++ ys))) _ _ (.new nr) (dz_newL g nr (h2.app h2')) hk.2
    | _ => exact hk.elim
  | tuple xs =>
    cases e with
    | tuple ys =>
      obtain ⟨p, us, rfl, h1, h2⟩ := ha.tuple hd
      obtain ⟨p', us', rfl, h1', h2'⟩ := hb.tuple he
      have hx : us = [] → xs = [] := fun z => by subst z; cases h2; rfl
      have hy : us' = [] → ys = [] := fun z => by subst z; cases h2'; rfl
      have va : RZ K F H (.dat (.tuple xs)) (.ref p) := by
        cases a with
        | dat d => cases hd; exact ha
        | strm => cases hd
        | own _ => cases hd
        | ownD _ => cases hd
        | exc _ _ => cases hd
        | exf _ _ _ _ _ => cases hd
        | clo _ => cases hd
        | scr _ => cases hd
      have vb : RZ K F H (.dat (.tuple ys)) (.ref p') := by
        cases b with
        | dat d => cases he; exact hb
        | strm => cases he
        | own _ => cases he
        | ownD _ => cases he
        | exc _ _ => cases he
        | exf _ _ _ _ _ => cases he
        | clo _ => cases he
        | scr _ => cases he
      refine .inr (.inr (.inl ⟨p, p', us, us', rfl, rfl, h1, h1', line_le (by rw [h2.len, h2'.len]; exact hk.1), fun z => ?_, fun _ z => ?_, fun _ _ r nr => ?_⟩))
      · have k := hk.2
        rw [hx z, List.nil_append] at k
        exact q (.dat (.tuple ys)) _ H (.refl _ _ _) vb k
      · have k := hk.2
        rw [hy z, List.append_nil] at k
        exact q (.dat (.tuple xs)) _ H (.refl _ _ _) va k
      · exact q (.dat (.tuple (xs ++ ys))) _ _ (.new nr) (dz_newT g nr (h2.app h2')) hk.2
    | _ => exact hk.elim
  | none => cases e <;> exact hk.elim
  | bool _ => cases e <;> exact hk.elim
  | dict _ => cases e <;> exact hk.elim
/-! ### other arithmetic -/
def dInt (f : Int → Int → (Z → Prop) → Prop) : PyData → PyData → (Z → Prop) → Prop
  | .int i, .int j, Q => f i j Q
  | _, _, _ => False
theorem oz_int {r : R2} {f : Int → Int → (Z → Prop) → Prop} (h : ∀ i j H Qz (Q : VK), f i j Qz → (∀ c : PyData, ∀ v, (∀ F : Fr, RZ K F H (.dat c) v) → Qz (.dat c) → Q v H) → r (.int i) (.int j) H Q) : OpZ K r (k2 (dInt f)) := fun F H x y a b Qz Q g ha hb hk q => by
  obtain ⟨d, e, hd, he, hk⟩ := hk
  cases d with
  | int i =>
    cases e with
    | int j =>
      obtain rfl := ha.int hd
      obtain rfl := hb.int he
      exact h i j H Qz Q hk fun c v hv hc => q (.dat c) v H (.refl _ _ _) (hv F) hc
    | _ => exact hk.elim
  | _ => cases e <;> exact hk.elim
def dSub := dInt fun i j Q => Q (.dat (.int (i - j)))
def dMul := dInt fun i j Q => i.natAbs.log2 + j.natAbs.log2 < 1000000 ∧ Q (.dat (.int (i * j)))
def dDiv := dInt fun i j Q => 0 < j ∧ j.natAbs.log2 < 9000 ∧ Q (.dat (.int (i / j)))
def dMod := dInt fun i j Q => 0 < j ∧ Q (.dat (.int (i % j)))
def dPow := dInt fun i j Q => 0 ≤ j ∧ (Builtin.Int.intBits i : Int) * j ≤ 2 ^ 27 ∧ Q (.dat (.int (i ^ j.toNat)))
theorem oz_sub : OpZ K (rI0 fun i j => .int (i - j)) (k2 dSub) := oz_int fun i j H Qz Q hk q => ⟨i, j, rfl, rfl, q _ _ (fun _ => out_int) hk⟩
theorem oz_mul : OpZ K (rI CMulW fun i j => .int (i * j)) (k2 dMul) := oz_int fun i j H Qz Q hk q => ⟨i, j, rfl, rfl, hk.1, q _ _ (fun _ => out_int) hk.2⟩
theorem oz_div : OpZ K (rI CDivW fun i j => .int (i / j)) (k2 dDiv) := oz_int fun i j H Qz Q hk q => ⟨i, j, rfl, rfl, ⟨hk.1, hk.2.1⟩, q _ _ (fun _ => out_int) hk.2.2⟩
theorem oz_mod : OpZ K (rI (fun _ j => 0 < j) fun i j => .int (i % j)) (k2 dMod) := oz_int fun i j H Qz Q hk q => ⟨i, j, rfl, rfl, hk.1, q _ _ (fun _ => out_int) hk.2⟩
theorem oz_pow : OpZ K (rI CPowW fun i j => .int (i ^ j.toNat)) (k2 dPow) := oz_int fun i j H Qz Q hk q => ⟨i, j, rfl, rfl, ⟨hk.1, hk.2.1⟩, q _ _ (fun _ => out_int) hk.2.2⟩
def dNeg : PyData → (Z → Prop) → Prop
  | .int i, Q => Q (.dat (.int (-i)))
  | _, _ => False
theorem oz_neg : UnZ K (rU fun i => .int (-i)) (k1 dNeg) := fun F H x a Qz Q g ha hk q => by
  obtain ⟨d, hd, hk⟩ := hk
  cases d with
  | int i => exact ⟨i, ha.int hd, q _ _ H (.refl _ _ _) out_int hk⟩
  | _ => exact hk.elim
/-! ### == and in -/
def dEq (neg : Bool) : PyData → PyData → (Z → Prop) → Prop := fun d e Q => eqOk d e = true ∧ (neg = true → isDict e = false) ∧ dep d ≤ 60 ∧ Q (.dat (.bool (if neg then !PyData.eqv d e else PyData.eqv d e)))
def rEqZ (K : PySem.W.Frag) (neg : Bool) : R2 := fun x y H Q => ∃ d e, Dz K H x d ∧ Dz K H y e ∧ eqOk d e = true ∧ (neg = true → isDict e = false) ∧ dep d ≤ 60 ∧ Q (.bl (if neg then !PyData.eqv d e else PyData.eqv d e)) H
theorem op_eqZ {X : Cx} (hu : X.A.units + 64 < cLine) : OpR X (compareOp .Eq) (rEqZ X.K false) := by
  intro pins s σ H x y v u Q I rx ry h
  obtain ⟨d, e, hd, he, ok, _, hn, q⟩ := h
  exact (dz_eq I 60 d e (A := X.A) hn hd he rx ry ok (by omega)).1 _ _ _ _ ⟨.bl _, H, I, rfl, q⟩
theorem op_neZ {X : Cx} (hu : X.A.units + 64 < cLine) : OpR X (compareOp .NotEq) (rEqZ X.K true) := by
  intro pins s σ H x y v u Q I rx ry h
  obtain ⟨d, e, hd, he, ok, ok2, hn, q⟩ := h
  exact dz_ne I 60 d e (A := X.A) hn hd he rx ry ok (ok2 rfl) (by omega) _ _ _ _ ⟨.bl _, H, I, rfl, q⟩
theorem oz_eq {neg : Bool} : OpZ K (rEqZ K neg) (k2 (dEq neg)) := fun F H x y a b Qz Q g ha hb hk q => by
  obtain ⟨d, e, hd, he, ok, ok2, hn, hk⟩ := hk
  exact ⟨d, e, ha.full hd, hb.full he, ok, ok2, hn, q _ _ H (.refl _ _ _) out_bl hk⟩
end Zl
end
section
/-! Z6: comparisons, in, is, subscripts, slices, truth, built-ins -/
namespace Zl
open PySem PySem.Spec PyProof.Rows L2 Kb
variable [Tabd]
variable {K : PySem.W.Frag} {W : WX}
/-! ### order: whole numbers, texts -/
def lessL (x y : Str) : Bool := decide (x.cps.toList < y.cps.toList)
def dOrd (fi : Int → Int → Bool) (fs : Str → Str → Bool) : PyData → PyData → (Z → Prop) → Prop
  | .int i, .int j, Q => Q (.dat (.bool (fi i j)))
  | .str x, .str y, Q => Q (.dat (.bool (fs x y)))
  | _, _, _ => False
def dLt := dOrd (fun i j => decide (i < j)) (fun x y => lessL x y)
def dLe := dOrd (fun i j => decide (i ≤ j)) (fun x y => !lessL y x)
def dGt := dOrd (fun i j => decide (j < i)) (fun x y => lessL y x)
def dGe := dOrd (fun i j => decide (j ≤ i)) (fun x y => !lessL x y)
abbrev rOrd (fi : Int → Int → Bool) (fs : Str → Str → Bool) : R2 := rOr (rI0 fun i j => .bl (fi i j)) (fun x y H Q => ∃ i j, x = .str i ∧ y = .str j ∧ Q (.bl (fs i j)) H)
theorem oz_ord {fi : Int → Int → Bool} {fs : Str → Str → Bool} : OpZ K (rOrd fi fs) (k2 (dOrd fi fs)) := fun F H x y a b Qz Q g ha hb hk q => by
  obtain ⟨d, e, hd, he, hk⟩ := hk
  cases d with
  | int i =>
    cases e with
    | int j => exact .inl ⟨i, j, ha.int hd, hb.int he, q _ _ H (.refl _ _ _) out_bl hk⟩
    | _ => exact hk.elim
  | str s =>
    cases e with
    | str t => exact .inr ⟨s, t, ha.str hd, hb.str he, q _ _ H (.refl _ _ _) out_bl hk⟩
    | _ => exact hk.elim
  | _ => cases e <;> exact hk.elim
section
variable {X : Cx}
theorem op_ltZ : OpR X (compareOp .Lt) (rOrd (fun i j => decide (i < j)) (fun x y => lessL x y)) := op_lt.or op_lt_str
theorem op_leZ : OpR X (compareOp .LtE) (rOrd (fun i j => decide (i ≤ j)) (fun x y => !lessL y x)) := op_le.or op_le_str
theorem op_gtZ : OpR X (compareOp .Gt) (rOrd (fun i j => decide (j < i)) (fun x y => lessL y x)) := op_gt.or op_gt_str
theorem op_geZ : OpR X (compareOp .GtE) (rOrd (fun i j => decide (j ≤ i)) (fun x y => !lessL x y)) := op_ge.or op_ge_str
end
/-! ### is -/
def isNone : PyData → Bool
  | .none => true
  | _ => false
def dIsN (neg : Bool) : PyData → PyData → (Z → Prop) → Prop := fun d e Q => e = .none ∧ Q (.dat (.bool (if neg then !isNone d else isNone d)))
def rIsNZ (neg : Bool) : R2 := fun x y H Q => y = .non ∧ Q (.bl (if neg then !decide (x = .non) else decide (x = .non))) H
theorem op_isNZ {X : Cx} : OpR X (compareOp .Is) (rIsNZ false) := op_isN
theorem op_notNZ {X : Cx} : OpR X (compareOp .IsNot) (rIsNZ true) := op_notN
theorem dz_non {H : Hp} {v : V} {d : PyData} (h : Dz K H v d) : decide (v = .non) = isNone d := by
  cases h <;> simp [isNone]
theorem oz_isN {neg : Bool} : OpZ K (rIsNZ neg) (k2 (dIsN neg)) := fun F H x y a b Qz Q g ha hb hk q => by
  obtain ⟨d, e, hd, he, rfl, hk⟩ := hk
  obtain rfl := hb.none he
  refine ⟨rfl, ?_⟩
  rw [dz_non (ha.full hd)]
  exact q _ _ H (.refl _ _ _) out_bl hk
def dIsB (neg : Bool) : PyData → PyData → (Z → Prop) → Prop
  | .bool a, .bool b, Q => Q (.dat (.bool (if neg then !decide (a = b) else decide (a = b))))
  | _, _, _ => False
def rIsBZ (neg : Bool) : R2 := fun x y H Q => ∃ a b : Bool, x = .bl a ∧ y = .bl b ∧ Q (.bl (if neg then !decide (a = b) else decide (a = b))) H
theorem op_isBZ {X : Cx} : OpR X (compareOp .Is) (rIsBZ false) := op_isBl
theorem op_notBZ {X : Cx} : OpR X (compareOp .IsNot) (rIsBZ true) := op_notBl
theorem oz_isB {neg : Bool} : OpZ K (rIsBZ neg) (k2 (dIsB neg)) := fun F H x y a b Qz Q g ha hb hk q => by
  obtain ⟨d, e, hd, he, hk⟩ := hk
  cases d with
  | bool i =>
    cases e with
    | bool j => exact ⟨i, j, ha.bool hd, hb.bool he, q _ _ H (.refl _ _ _) out_bl hk⟩
    | _ => exact hk.elim
  | _ => cases e <;> exact hk.elim
/-! ### in -/
def anyEq (ds : List PyData) (d : PyData) : Bool := ds.any fun e => PyData.eqv e d
def okIn (ds : List PyData) (d : PyData) : Prop := ∀ e ∈ ds, eqOk e d = true ∧ dep e ≤ 60
def hasStr (x t : Str) : Bool := match x.cps.toList with
  | [c] => decide (c ∈ t.cps.toList)
  | _ => !(Builtin.Str.occurrences t x 0 t.length 1).isEmpty
def dIn (neg : Bool) : PyData → PyData → (Z → Prop) → Prop
  | d, .list ds, Q => okIn ds d ∧ Q (.dat (.bool (if neg then !anyEq ds d else anyEq ds d)))
  | d, .tuple ds, Q => okIn ds d ∧ Q (.dat (.bool (if neg then !anyEq ds d else anyEq ds d)))
  | .str x, .str t, Q => Q (.dat (.bool (if neg then !hasStr x t else hasStr x t)))
  | _, _, _ => False
def rInZ (K : PySem.W.Frag) (neg : Bool) : R2 := fun x y H Q => (∃ d ds, Dz K H x d ∧ (Dz K H y (.list ds) ∨ Dz K H y (.tuple ds)) ∧ okIn ds d ∧ Q (.bl (if neg then !anyEq ds d else anyEq ds d)) H) ∨
  ∃ s t, x = .str s ∧ y = .str t ∧ Q (.bl (if neg then !hasStr s t else hasStr s t)) H
theorem in_core {X : Cx} {pins : List (Addr × Obj)} {σ : L2.St} {H : Hp} {s : Shared} (I : Inv X pins σ H s) {A : Around} (hu : A.units + 61 < cLine) {d : PyData} {x : V} {v : Value} (hd : Dz X.K H x d) (rx : RelV x v)
    {ds : List PyData} {vs : List V} {us : List Value} (ha : DzAll X.K H vs ds) (r : Vals vs us) (ok : okIn ds d) : ∃ f : Value → Bool, (∀ y, y ∈ us → SeqAt.EqAt A s y v (f y)) ∧ us.any f = anyEq ds d := by
  classical
  have key : ∀ {ds' : List PyData} {vs' : List V} {us' : List Value}, DzAll X.K H vs' ds' → Vals vs' us' →
      (∀ y, y ∈ us' → ∃ e w, e ∈ ds' ∧ Dz X.K H w e ∧ RelV w y) ∧ ∀ e, e ∈ ds' → ∃ y w, y ∈ us' ∧ Dz X.K H w e ∧ RelV w y := by
    intro ds' vs' us' ha' r'
    induction r' generalizing ds' with
    | nil => cases ha'; exact ⟨fun y hy => (nomatch hy), fun e he => (nomatch he)⟩
    | @cons w u ws us2 r1 r2 ih =>
      cases ha' with
      | cons h1 h2 =>
        obtain ⟨i1, i2⟩ := ih h2
        refine ⟨fun y hy => ?_, fun e he => ?_⟩
        · rcases List.mem_cons.mp hy with rfl | hy
          · exact ⟨_, w, List.mem_cons_self, h1, r1⟩
          · obtain ⟨e, w', a, b, c⟩ := i1 y hy
            exact ⟨e, w', List.mem_cons_of_mem _ a, b, c⟩
        · rcases List.mem_cons.mp he with rfl | he
          · exact ⟨u, w, List.mem_cons_self, h1, r1⟩
          · obtain ⟨y, w', a, b, c⟩ := i2 e he
            exact ⟨y, w', List.mem_cons_of_mem _ a, b, c⟩
  obtain ⟨k1, k2⟩ := key ha r
  have fe : ∀ y e w, e ∈ ds → Dz X.K H w e → RelV w y → (ds.any fun e' => decide (∃ w', Dz X.K H w' e' ∧ RelV w' y) && PyData.eqv e' d) = PyData.eqv e d := fun y e w he h1 r1 => by
    rw [Bool.eq_iff_iff, List.any_eq_true]
    constructor
    · rintro ⟨e', _, hc⟩
      rw [Bool.and_eq_true, decide_eq_true_eq] at hc
      obtain ⟨⟨w', h2, r2⟩, hq⟩ := hc
      have ew := r2.inj r1
      subst ew
      rw [← dz_inj I _ h2 h1]
      exact hq
    · intro hq
      exact ⟨e, he, by rw [Bool.and_eq_true, decide_eq_true_eq]; exact ⟨⟨w, h1, r1⟩, hq⟩⟩
  refine ⟨fun y => ds.any fun e' => decide (∃ w', Dz X.K H w' e' ∧ RelV w' y) && PyData.eqv e' d, fun y hy => ?_, ?_⟩
  · obtain ⟨e, w, he, h1, r1⟩ := k1 y hy
    show SeqAt.EqAt A s y v (ds.any fun e' => decide (∃ w', Dz X.K H w' e' ∧ RelV w' y) && PyData.eqv e' d)
    rw [fe y e w he h1 r1]
    exact (dz_eq I 60 e d (A := A) (ok e he).2 h1 hd r1 rx (ok e he).1 (by omega)).2
  · unfold anyEq
    rw [Bool.eq_iff_iff, List.any_eq_true, List.any_eq_true]
    constructor
    · rintro ⟨y, hy, hq⟩
      obtain ⟨e, w, he, h1, r1⟩ := k1 y hy
      have hq' : (ds.any fun e' => decide (∃ w', Dz X.K H w' e' ∧ RelV w' y) && PyData.eqv e' d) = true := hq
      rw [fe y e w he h1 r1] at hq'
      exact ⟨e, he, hq'⟩
    · rintro ⟨e, he, hq⟩
      obtain ⟨y, w, hy, h1, r1⟩ := k2 e he
      refine ⟨y, hy, ?_⟩
      show (ds.any fun e' => decide (∃ w', Dz X.K H w' e' ∧ RelV w' y) && PyData.eqv e' d) = true
      rw [fe y e w he h1 r1]
      exact hq
section
variable {X : Cx}
theorem str_one {x : Str} {c : Nat} (h : x.cps.toList = [c]) : x = ⟨#[c]⟩ := str_ext (by rw [h])
theorem op_inZ (hu : X.A.units + 64 < cLine) : OpR X (compareOp .In) (rInZ X.K false) := by
  intro pins s σ H x y v u Q I rx ry h
  rcases h with ⟨d, ds, hd, hy, ok, q⟩ | ⟨a, b, rfl, rfl, q⟩
  · have hu1 : X.A.in1.units + 61 < cLine := by have := in1_units (A := X.A); omega
    rcases hy with hy | hy
    · cases hy with
      | @lst p xs _ h1 h2 =>
        cases (show u = Value.ref p from ry)
        obtain ⟨its, r, pl, hz⟩ := I.list (SqL.of h1)
        obtain ⟨f, f1, f2⟩ := in_core I hu1 hd rx h2 r ok
        refine SeqAt.in_listAt f pl.isList (fun w hw => f1 w (by simpa using hw)) ⟨.bl _, H, I, rfl, ?_⟩
        rw [show its.toArray.any f = its.any f by simp, f2]
        exact q
    · cases hy with
      | @tup p xs _ h1 h2 =>
        cases (show u = Value.ref p from ry)
        obtain ⟨its, r, pl, hz⟩ := I.tuple h1
        obtain ⟨f, f1, f2⟩ := in_core I hu1 hd rx h2 r ok
        refine SeqAt.in_tupleAt f pl (fun w hw => f1 w (by simpa using hw)) ⟨.bl _, H, I, rfl, ?_⟩
        rw [show its.toArray.any f = its.any f by simp, f2]
        exact q
  · by_cases e : ∃ c, a.cps.toList = [c]
    · obtain ⟨c, e⟩ := e
      have ea := str_one e
      subst ea
      exact op_in_sign pins s σ H _ _ v u Q I rx ry ⟨c, b, rfl, rfl, by simpa [hasStr] using q⟩
    · have e2 : hasStr a b = !(Builtin.Str.occurrences b a 0 b.length 1).isEmpty := by
        unfold hasStr
        split
        · rename_i c hc
          exact absurd ⟨c, hc⟩ e
        · rfl
      rw [e2] at q
      exact op_in_str pins s σ H _ _ v u Q I rx ry ⟨a, b, rfl, rfl, q⟩
theorem op_notInZ (hu : X.A.units + 64 < cLine) : OpR X (compareOp .NotIn) (rInZ X.K true) := by
  intro pins s σ H x y v u Q I rx ry h
  rcases h with ⟨d, ds, hd, hy, ok, q⟩ | ⟨a, b, rfl, rfl, q⟩
  · have hu1 : X.A.in1.units + 61 < cLine := by have := in1_units (A := X.A); omega
    rcases hy with hy | hy
    · cases hy with
      | @lst p xs _ h1 h2 =>
        cases (show u = Value.ref p from ry)
        obtain ⟨its, r, pl, hz⟩ := I.list (SqL.of h1)
        obtain ⟨f, f1, f2⟩ := in_core I hu1 hd rx h2 r ok
        refine SeqAt.notIn_listAt f pl.isList (fun w hw => f1 w (by simpa using hw)) ⟨.bl _, H, I, rfl, ?_⟩
        rw [show its.toArray.any f = its.any f by simp, f2]
        exact q
    · cases hy with
      | @tup p xs _ h1 h2 =>
        cases (show u = Value.ref p from ry)
        obtain ⟨its, r, pl, hz⟩ := I.tuple h1
        obtain ⟨f, f1, f2⟩ := in_core I hu1 hd rx h2 r ok
        refine SeqAt.notIn_tupleAt f pl (fun w hw => f1 w (by simpa using hw)) ⟨.bl _, H, I, rfl, ?_⟩
        rw [show its.toArray.any f = its.any f by simp, f2]
        exact q
  · by_cases e : ∃ c, a.cps.toList = [c]
    · obtain ⟨c, e⟩ := e
      have ea := str_one e
      subst ea
      exact op_notIn_sign pins s σ H _ _ v u Q I rx ry ⟨c, b, rfl, rfl, by simpa [hasStr] using q⟩
    · have e2 : hasStr a b = !(Builtin.Str.occurrences b a 0 b.length 1).isEmpty := by
        unfold hasStr
        split
        · rename_i c hc
          exact absurd ⟨c, hc⟩ e
        · rfl
      rw [e2] at q
      exact op_notin_str pins s σ H _ _ v u Q I rx ry ⟨a, b, rfl, rfl, by simpa using q⟩
end
theorem oz_in {neg : Bool} : OpZ K (rInZ K neg) (k2 (dIn neg)) := fun F H x y a b Qz Q g ha hb hk q => by
  obtain ⟨d, e, hd, he, hk⟩ := hk
  have fd := ha.full hd
  have fe := hb.full he
  cases e with
  | list ds =>
    have hk' : okIn ds d ∧ Qz (.dat (.bool (if neg then !anyEq ds d else anyEq ds d))) := by cases d <;> exact hk
    exact .inl ⟨d, ds, fd, .inl fe, hk'.1, q _ _ H (.refl _ _ _) out_bl hk'.2⟩
  | tuple ds =>
    have hk' : okIn ds d ∧ Qz (.dat (.bool (if neg then !anyEq ds d else anyEq ds d))) := by cases d <;> exact hk
    exact .inl ⟨d, ds, fd, .inr fe, hk'.1, q _ _ H (.refl _ _ _) out_bl hk'.2⟩
  | str t =>
    cases d with
    | str s => exact .inr ⟨s, t, ha.str hd, hb.str he, q _ _ H (.refl _ _ _) out_bl hk⟩
    | _ => exact hk.elim
  | _ => cases d <;> exact hk.elim
/-! ### subscripts by numbers -/
def dIx : PyData → PyData → (Z → Prop) → Prop
  | .list ds, .int i, Q => ∃ d, atI ds i = some d ∧ Q (.dat d)
  | .tuple ds, .int i, Q => ∃ d, atI ds i = some d ∧ Q (.dat d)
  | .str x, .int i, Q => x.length ≤ line ∧ ∃ c, atI x.cps.toList i = some c ∧ Q (.dat (sign c))
  | _, _, _ => False
theorem atI_dz {H : Hp} {vs : List V} {ds : List PyData} (h : DzAll K H vs ds) {i : Int} {d : PyData} (e : atI ds i = some d) : ∃ v, atI vs i = some v ∧ Dz K H v d := by
  unfold atI at e ⊢
  rw [h.len]
  cases q : ixN ds.length i with
  | none => rw [q] at e; cases e
  | some j =>
    rw [q] at e
    exact h.get' (by simpa using e)
theorem atI_mem {α : Type} {xs : List α} {i : Int} {x : α} (e : atI xs i = some x) : x ∈ xs := by
  unfold atI at e
  cases q : ixN xs.length i with
  | none => rw [q] at e; cases e
  | some j =>
    rw [q] at e
    exact List.mem_of_getElem? (by simpa using e)
theorem oz_ix : OpZ K (rIx K) (k2 dIx) := fun F H x y a b Qz Q g ha hb hk q => by
  obtain ⟨d, e, hd, he, hk⟩ := hk
  cases e with
  | int i =>
    obtain rfl := hb.int he
    cases d with
    | list ds =>
      obtain ⟨r, hr, hk⟩ := hk
      obtain ⟨p, xs, rfl, h1, h2⟩ := ha.list hd
      obtain ⟨v, hv, hz⟩ := atI_dz h2 hr
      exact .inl ⟨p, xs, i, v, rfl, rfl, SqL.of h1, hv, q (.dat r) _ H (.refl _ _ _) hz hk⟩
    | tuple ds =>
      obtain ⟨r, hr, hk⟩ := hk
      obtain ⟨p, xs, rfl, h1, h2⟩ := ha.tuple hd
      obtain ⟨v, hv, hz⟩ := atI_dz h2 hr
      exact .inr (.inl ⟨p, xs, i, v, rfl, rfl, h1, hv, q (.dat r) _ H (.refl _ _ _) hz hk⟩)
    | str t =>
      obtain ⟨h1, c, hr, hk⟩ := hk
      obtain rfl := ha.str hd
      exact .inr (.inr ⟨t, i, c, rfl, rfl, line_le h1, hr, q (.dat (sign c)) _ H (.refl _ _ _) dz_sign hk⟩)
    | _ => exact hk.elim
  | _ => cases d <;> exact hk.elim
/-! ### slices without a step -/
abbrev ZO := Rho → (Option Int → Prop) → (Xc → Prop) → Prop
def TrO (K : PySem.W.Frag) (W : WX) (te : TO) (z : ZO) : Prop := ∀ (F : Fr) (ρ : Rho) (σ : L2.St) (H : Hp) (Qz : Option Int → Prop) (Ez : Xc → Prop) (Q : Option Int → Hp → Prop), Good F H → En K F H ρ σ → z ρ Qz Ez →
  (∀ r H', Rel F.S F.O H H' → Qz r → Q r H') → (∀ x C d H', Rel F.S F.O H H' → RX K F H' x C d → Ez x → W C d σ H') → te σ H Q
def zNoPart : ZO := fun _ Q _ => Q none
def zPart (a : ZE) : ZO := fun ρ Q E => a ρ (fun z => ∃ i, view z = some (.int i) ∧ Q (some i)) E
theorem tr_noPart : TrO K W tNoPart zNoPart := fun F ρ σ H Qz Ez Q g e h q x => q none H (.refl _ _ _) h
theorem tr_part {te : TE} {z : ZE} (h : Tr K W te z) : TrO K W (tPart te) (zPart z) := fun F ρ σ H Qz Ez Q g e hz q x => by
  refine h F ρ σ H _ Ez _ g e hz (fun r v H1 r1 d1 h1 => ?_) x
  obtain ⟨i, h2, h1⟩ := h1
  exact ⟨i, d1.int h2, q (some i) H1 r1 h1⟩
def cutL {α : Type} (xs : List α) (lo hi : Option Int) : List α := (xs.drop (HT.sIx xs.length 0 lo)).take (HT.sIx xs.length xs.length hi - HT.sIx xs.length 0 lo)
def dSl : PyData → Option Int → Option Int → (Z → Prop) → Prop
  | .list ds, lo, hi, Q => Q (.dat (.list (cutL ds lo hi)))
  | .tuple ds, lo, hi, Q => Q (.dat (.tuple (cutL ds lo hi)))
  | .str x, lo, hi, Q => x.length ≤ line ∧ Q (.dat (.str ⟨(cutL x.cps.toList lo hi).toArray⟩))
  | _, _, _, _ => False
abbrev rSl3 (K : PySem.W.Frag) : V → Option Int → Option Int → Hp → VK → Prop := fun x lo hi H Q => rSlL K x lo hi H Q ∨ (rSlA K x lo hi H Q ∨ rSlS x lo hi H Q)
theorem sl_any {X : Cx} : SlR X (rSl3 X.K) := sl_list.or (sl_tupA.or sl_str)
def zSl (a : ZE) (b c : ZO) : ZE := fun ρ Q E => a ρ (fun z => b ρ (fun lo => c ρ (fun hi => ∃ d, view z = some d ∧ dSl d lo hi Q) E) E) E
theorem cut_dz {H : Hp} {vs : List V} {ds : List PyData} (h : DzAll K H vs ds) (lo hi : Option Int) : DzAll K H (cutV vs lo hi) (cutL ds lo hi) := by
  unfold cutV cutL
  rw [h.len]
  exact (h.drop _).take _
theorem cutL_sub {α : Type} {xs : List α} {lo hi : Option Int} {x : α} (h : x ∈ cutL xs lo hi) : x ∈ xs := List.mem_of_mem_drop (List.mem_of_mem_take h)
theorem cutL_len {α : Type} (xs : List α) (lo hi : Option Int) : (cutL xs lo hi).length ≤ xs.length := by
  unfold cutL
  rw [List.length_take, List.length_drop]
  omega
theorem tr_sl {te : TE} {tl th : TO} {za : ZE} {zl zh : ZO} (ha : Tr K W te za) (hl : TrO K W tl zl) (hh : TrO K W th zh) : Tr K W (tSl (rSl3 K) te tl th) (zSl za zl zh) := fun F ρ σ H Qz Ez Q g e hz q x => by
  refine ha F ρ σ H _ Ez _ g e hz (fun r v H1 r1 d1 h1 => ?_) x
  have g1 := g.rel r1
  have e1 := e.rel g r1
  refine hl F ρ σ H1 _ Ez _ g1 e1 h1 (fun lo H2 r2 h2 => ?_) fun x' C d H2 r2 hx => x x' C d H2 (r1.trans r2) hx
  refine hh F ρ σ H2 _ Ez _ (g1.rel r2) (e1.rel g1 r2) h2 (fun hi H3 r3 h3 => ?_) fun x' C d H2 r2' hx => x x' C d H2 ((r1.trans r2).trans r2') hx
  have r23 := r2.trans r3
  have d3 := d1.rel g1 r23
  have r13 := r1.trans r23
  have g3 := g.rel r13
  obtain ⟨d, hd, hk⟩ := h3
  cases d with
  | list ds =>
    obtain ⟨p, xs, rfl, k1, k2⟩ := d3.list hd
    refine .inl ⟨p, xs, rfl, SqL.of k1, fun n nn => ?_⟩
    exact q (.dat (.list (cutL ds lo hi))) _ _ (r13.trans (.new nn)) (dz_newL g3 nn (cut_dz k2 lo hi)) hk
  | tuple ds =>
    obtain ⟨p, xs, rfl, k1, k2⟩ := d3.tuple hd
    refine .inr (.inl ⟨p, xs, rfl, k1, fun z => ?_, fun _ n nn => ?_⟩)
    · have hk' : Qz (.dat (.tuple (cutL ds lo hi))) := hk
      have ec : cutL ds lo hi = ds := by
        unfold cutL
        rw [← k2.len, z.1, z.2, List.drop_zero, Nat.sub_zero, k2.len, List.take_length]
      rw [ec] at hk'
      have vd : RZ K F H3 (.dat (.tuple ds)) (.ref p) := by
        cases r with
        | dat d => cases hd; exact d3
        | strm => cases hd
        | own _ => cases hd
        | ownD _ => cases hd
        | exc _ _ => cases hd
        | exf _ _ _ _ _ => cases hd
        | clo _ => cases hd
        | scr _ => cases hd
      exact q (.dat (.tuple ds)) _ H3 r13 vd hk'
    · exact q (.dat (.tuple (cutL ds lo hi))) _ _ (r13.trans (.new nn)) (dz_newT g3 nn (cut_dz k2 lo hi)) hk
  | str t =>
    obtain rfl := d3.str hd
    refine .inr (.inr ⟨t, rfl, line_le hk.1, ?_⟩)
    have ec : cutS t lo hi = ⟨(cutL t.cps.toList lo hi).toArray⟩ := by
      unfold cutS cutL
      rw [str_len t]
    rw [ec]
    exact q (.dat (.str ⟨(cutL t.cps.toList lo hi).toArray⟩)) _ H3 r13 (Dz.str _) hk.2
  | _ => exact hk.elim
/-! ### truth -/
def dTru : PyData → Option Bool
  | .none => some false
  | .bool b => some b
  | .int i => some (i != 0)
  | .str x => if x.length ≤ line then some ((x.length : Int) != 0) else none
  | .list ds => some (!ds.isEmpty)
  | .tuple ds => some (!ds.isEmpty)
  | .dict _ => none
def tTruth (K : PySem.W.Frag) (ta : TE) : TT := fun σ H Q => ta σ H fun x H' => ∃ k, TruV K x H' k ∧ Q k H'
def zTru (a : ZE) : ZT := fun ρ Q E => a ρ (fun z => ∃ d b, view z = some d ∧ dTru d = some b ∧ Q b) E
theorem empty_dz {H : Hp} {vs : List V} {ds : List PyData} (h : DzAll K H vs ds) : vs.isEmpty = ds.isEmpty := by
  cases h <;> rfl
theorem tr_tru {te : TE} {z : ZE} (h : Tr K W te z) : TrT K W (tTruth K te) (zTru z) := fun F ρ σ H Qz Ez Q g e hz q x => by
  refine h F ρ σ H _ Ez _ g e hz (fun r v H1 r1 d1 h1 => ?_) x
  obtain ⟨d, b, h2, h3, h1⟩ := h1
  refine ⟨b, ?_, q b H1 r1 h1⟩
  cases d with
  | none => cases h3; rw [d1.none h2]; exact rfl
  | bool c => cases h3; rw [d1.bool h2]; exact rfl
  | int i => cases h3; rw [d1.int h2]; exact rfl
  | str y =>
    have h3' : (if y.length ≤ line then some ((y.length : Int) != 0) else none) = some b := h3
    obtain rfl := d1.str h2
    by_cases k1 : y.length ≤ line
    · rw [if_pos k1] at h3'
      cases h3'
      exact ⟨line_le k1, rfl⟩
    · rw [if_neg k1] at h3'
      cases h3'
  | list ds =>
    cases h3
    obtain ⟨p, xs, rfl, k1, k2⟩ := d1.list h2
    exact .inl ⟨xs, SqL.of k1, by rw [empty_dz k2]⟩
  | tuple ds =>
    cases h3
    obtain ⟨p, xs, rfl, k1, k2⟩ := d1.tuple h2
    exact .inr (.inl ⟨xs, k1, by rw [empty_dz k2]⟩)
  | dict _ => cases h3
theorem pt_tru {X : Cx} {a : Expr} {ta : TE} (ha : PE X a ta) (he : ∀ whole, isTrue a X.env whole = (do let v ← whole; standAt a.pos; holding [v] (truthy v)) := by intro _; rfl) : PT X a (tTruth X.K ta) := pt_truth ha he
/-- the test of a comparison -/
theorem tr_test {te : TE} {z : ZE} (h : Tr K W te z) : TrT K W (tTest te) (zB z) := tr_b h
/-! ### chains -/
def zChain (k l : Z → Z → (Z → Prop) → Prop) (a b c : ZE) : ZE := fun ρ Q E => a ρ (fun x => b ρ (fun y => k x y fun z => ∃ t, z = .dat (.bool t) ∧ if t = true then c ρ (fun w => l y w Q) E else Q (.dat (.bool false))) E) E
theorem tr_chain {r r' : R2} {k l : Z → Z → (Z → Prop) → Prop} {ta tb tc : TE} {za zb zc : ZE} (ho : OpZ K r k) (ho' : OpZ K r' l) (ha : Tr K W ta za) (hb : Tr K W tb zb) (hc : Tr K W tc zc) : Tr K W (tChain r r' ta tb tc) (zChain k l za zb zc) := fun F ρ σ H Qz Ez Q g e hz q x => by
  refine ha F ρ σ H _ Ez _ g e hz (fun r v H1 r1 d1 h1 => ?_) x
  have g1 := g.rel r1
  have e1 := e.rel g r1
  refine hb F ρ σ H1 _ Ez _ g1 e1 h1 (fun s u H2 r2 d2 h2 => ?_) fun x' C d H2 r2 hx => x x' C d H2 (r1.trans r2) hx
  have g2 := g1.rel r2
  refine ho F H2 v u r s _ _ g2 (d1.rel g1 r2) d2 h2 fun c w H3 r3 d3 h3 => ?_
  obtain ⟨t, rfl, h3⟩ := h3
  obtain rfl := rz_bool d3
  refine ⟨t, rfl, ?_⟩
  have r13 := (r1.trans r2).trans r3
  cases t with
  | false => exact q (.dat (.bool false)) _ H3 r13 (Dz.bl false) h3
  | true =>
    have g3 := g.rel r13
    refine hc F ρ σ H3 _ Ez _ g3 (e.rel g r13) h3 (fun y w H4 r4 d4 h4 => ?_) fun x' C d H2 r2 hx => x x' C d H2 (r13.trans r2) hx
    have r34 := r3.trans r4
    exact ho' F H4 u w s y Qz Q (g3.rel r4) (d2.rel g2 r34) d4 h4 fun c w5 H5 r5 d5 h5 => q c w5 H5 ((r13.trans r4).trans r5) d5 h5
end Zl
end
section
/-! Z7: built-ins and methods -/
namespace Zl
open PySem PySem.Spec PyProof.Rows L2 Kb
variable [Tabd]
variable {K : PySem.W.Frag} {W : WX}
theorem RZs.one' {F : Fr} {H : Hp} {z : Z} {vs : List V} (h : RZs K F H [z] vs) : ∃ v, vs = [v] ∧ RZ K F H z v := h.one
/-- one argument, read as data -/
theorem cz1 {r : List V → Hp → VK → Prop} {f : PyData → (Z → Prop) → Prop} (h : ∀ (F : Fr) (H : Hp) (x : V) (a : Z) (d : PyData) (Qz : Z → Prop) (Q : VK), Good F H → RZ K F H a x → view a = some d → f d Qz → (∀ c v H', Rel F.S F.O H H' → RZ K F H' c v → Qz c → Q v H') → r [x] H Q) : CaZ K r (kL1 f) := fun F H xs as Qz Q g hr hk q => by
  obtain ⟨a, d, rfl, hd, hk⟩ := hk
  obtain ⟨v, rfl, hv⟩ := hr.one
  exact h F H v a d Qz Q g hv hd hk q
theorem cz2 {r : List V → Hp → VK → Prop} {f : PyData → PyData → (Z → Prop) → Prop} (h : ∀ (F : Fr) (H : Hp) (x y : V) (a b : Z) (d e : PyData) (Qz : Z → Prop) (Q : VK), Good F H → RZ K F H a x → RZ K F H b y → view a = some d → view b = some e → f d e Qz → (∀ c v H', Rel F.S F.O H H' → RZ K F H' c v → Qz c → Q v H') → r [x, y] H Q) : CaZ K r (kL2 f) := fun F H xs as Qz Q g hr hk q => by
  obtain ⟨a, b, d, e, rfl, hd, he, hk⟩ := hk
  obtain ⟨u, v, rfl, hu, hv⟩ := hr.two
  exact h F H u v a b d e Qz Q g hu hv hd he hk q
abbrev cOr (r q : List V → Hp → VK → Prop) : List V → Hp → VK → Prop := fun xs H Q => r xs H Q ∨ q xs H Q
theorem CallR.or {X : Cx} {f : Value} {r q : List V → Hp → VK → Prop} (a : CallR X f r) (b : CallR X f q) : CallR X f (cOr r q) := fun pins s σ H xs us Q I r h => by
  rcases h with h | h
  · exact a pins s σ H xs us Q I r h
  · exact b pins s σ H xs us Q I r h
/-! ### len -/
def dLen : PyData → (Z → Prop) → Prop
  | .list ds, Q => Q (.dat (.int ds.length))
  | .tuple ds, Q => Q (.dat (.int ds.length))
  | .str x, Q => x.length ≤ line ∧ Q (.dat (.int x.length))
  | _, _ => False
abbrev rLenZ (K : PySem.W.Frag) : List V → Hp → VK → Prop := cOr (fun xs H Q => ∃ p ys, xs = [.ref p] ∧ (SqL K H p ys ∨ SqT K H p ys) ∧ Q (.int ys.length) H) (fun xs H Q => ∃ z, xs = [.str z] ∧ z.length ≤ sizeLine ∧ Q (.int z.length) H)
theorem cr_lenZ {X : Cx} : CallR X (.builtin "len") (rLenZ X.K) := call_len_seq.or call_len_str
theorem cz_len : CaZ K (rLenZ K) (kL1 dLen) := cz1 fun F H x a d Qz Q g ha hd hk q => by
  cases d with
  | list ds =>
    obtain ⟨p, xs, rfl, h1, h2⟩ := ha.list hd
    exact .inl ⟨p, xs, rfl, .inl (SqL.of h1), by rw [h2.len]; exact q _ _ H (.refl _ _ _) out_int hk⟩
  | tuple ds =>
    obtain ⟨p, xs, rfl, h1, h2⟩ := ha.tuple hd
    exact .inl ⟨p, xs, rfl, .inr h1, by rw [h2.len]; exact q _ _ H (.refl _ _ _) out_int hk⟩
  | str t =>
    obtain rfl := ha.str hd
    exact .inr ⟨t, rfl, line_le hk.1, q _ _ H (.refl _ _ _) out_int hk.2⟩
  | _ => exact hk.elim
/-- the script's length -/
def zLenScr (i : Nat) : ZE := fun ρ Q _ => ∃ ns, ρ[i]? = some (some (.scr ns)) ∧ Q (.dat (.int ns.length))
theorem tr_lenScr {i : Nat} : Tr K W (tCB (rLenZ K) (tCons (tVar i) tNil)) (zLenScr i) := fun F ρ σ H Qz Ez Q g e hz q x => by
  obtain ⟨ns, h1, hz⟩ := hz
  obtain ⟨v, e1, a, rfl, hs⟩ := e.at_ i _ h1
  refine ⟨_, e1, .inl ⟨a, ns.map V.int, rfl, .inl (Le.hid_self.seqL hs), ?_⟩⟩
  rw [List.length_map]
  exact q (.dat (.int ns.length)) _ H (.refl _ _ _) out_int hz
/-! ### list(x), tuple(x) -/
def dList : PyData → (Z → Prop) → Prop
  | .list ds, Q => Q (.dat (.list ds))
  | .tuple ds, Q => Q (.dat (.list ds))
  | _, _ => False
def dTuple : PyData → (Z → Prop) → Prop
  | .list ds, Q => Q (.dat (.tuple ds))
  | .tuple ds, Q => Q (.dat (.tuple ds))
  | _, _ => False
theorem cz_list : CaZ K (fun xs H Q => ∃ p ys, xs = [.ref p] ∧ (SqL K H p ys ∨ SqT K H p ys) ∧ ∀ l, H l = none → Q (.ref l) (upd H l (.lst ys))) (kL1 dList) := cz1 fun F H x a d Qz Q g ha hd hk q => by
  cases d with
  | list ds =>
    obtain ⟨p, xs, rfl, h1, h2⟩ := ha.list hd
    exact ⟨p, xs, rfl, .inl (SqL.of h1), fun l nl => q (.dat (.list ds)) _ _ (.new nl) (dz_newL g nl h2) hk⟩
  | tuple ds =>
    obtain ⟨p, xs, rfl, h1, h2⟩ := ha.tuple hd
    exact ⟨p, xs, rfl, .inr h1, fun l nl => q (.dat (.list ds)) _ _ (.new nl) (dz_newL g nl h2) hk⟩
  | _ => exact hk.elim
theorem cz_tuple : CaZ K (fun xs H Q => ∃ p ys, xs = [.ref p] ∧ ((SqL K H p ys ∧ ∀ l, H l = none → Q (.ref l) (upd H l (.tup ys))) ∨ (SqT K H p ys ∧ Q (.ref p) H))) (kL1 dTuple) := cz1 fun F H x a d Qz Q g ha hd hk q => by
  cases d with
  | list ds =>
    obtain ⟨p, xs, rfl, h1, h2⟩ := ha.list hd
    exact ⟨p, xs, rfl, .inl ⟨SqL.of h1, fun l nl => q (.dat (.tuple ds)) _ _ (.new nl) (dz_newT g nl h2) hk⟩⟩
  | tuple ds =>
    obtain ⟨p, xs, rfl, h1, h2⟩ := ha.tuple hd
    have vd : RZ K F H (.dat (.tuple ds)) (.ref p) := by
      cases a with
      | dat d => cases hd; exact ha
      | strm => cases hd
      | own _ => cases hd
      | ownD _ => cases hd
      | exc _ _ => cases hd
      | exf _ _ _ _ _ => cases hd
      | clo _ => cases hd
      | scr _ => cases hd
    exact ⟨p, xs, rfl, .inr ⟨h1, q (.dat (.tuple ds)) _ H (.refl _ _ _) vd hk⟩⟩
  | _ => exact hk.elim
/-! ### types -/
def tyZ : PyData → String
  | .none => "NoneType" | .bool _ => "bool" | .int _ => "int" | .str _ => "str" | .list _ => "list" | .tuple _ => "tuple" | .dict _ => "dict"
def isaT (T t : String) : Bool := decide (t = T) || (decide (T = "int") && decide (t = "bool"))
def isa (T : String) (d : PyData) : Bool := isaT T (tyZ d)
abbrev tys : List String := ["NoneType", "bool", "int", "str", "list", "tuple", "dict"]
theorem tyZ_mem (d : PyData) : tyZ d ∈ tys := by
  cases d <;> simp [tyZ, tys]
theorem isa_of {T : String} (h : (tys.all fun t => decide (kitB t T = some (isaT T t))) = true) (d : PyData) : PySem.W.kitOne K (.type (tyZ d)) (.type T) = some (isa T d) := kit_ty (of_decide_eq_true (List.all_eq_true.mp h _ (tyZ_mem d)))
theorem dz_tyx {H : Hp} {v : V} {d : PyData} (h : Dz K H v d) : TyX K H v (.type (tyZ d)) := by
  cases h with
  | non => exact .base .non
  | bl b => exact .base (.bl b)
  | int i => exact .base (.int i)
  | str x => exact .base (.str x)
  | lst h a => exact .base (.lst h)
  | tup h a =>
    rcases h with (h | ⟨o, h⟩) | ⟨o, its, n, h1, h2, _⟩
    · exact .base (.tup h)
    · exact .fTuple h
    · exact .kTuple h1 h2
  | dic h a =>
    rcases h with h | ⟨o, h⟩
    · exact .base (.dK h)
    · exact .fDict h
def dIsa (T : String) : PyData → (Z → Prop) → Prop := fun d Q => Q (.dat (.bool (isa T d)))
/-- isinstance(x, T), T a built-in class -/
theorem tr_isi {T : String} {ta : TE} {za : ZE} (ht : (tys.all fun t => decide (kitB t T = some (isaT T t))) = true) (h : Tr K W ta za) : Tr K W (tCB (rIsi K) (tCons ta (tCons (tC (.ty T)) tNil))) (zOne (k1 (dIsa T)) za) := fun F ρ σ H Qz Ez Q g e hz q x => by
  refine h F ρ σ H _ Ez _ g e hz (fun r v H1 r1 d1 h1 => ?_) x
  obtain ⟨d, h2, h1⟩ := h1
  exact ⟨v, .ty T, .type (tyZ d), .type T, isa T d, rfl, .ty T, dz_tyx (d1.full h2), isa_of ht d, q (.dat (.bool (isa T d))) _ H1 r1 out_bl h1⟩
theorem dz_tyb {X : Cx} {pins : List (Addr × Obj)} {σ : L2.St} {H : Hp} {v : V} {d : PyData} (h : Dz K H v d) : (∃ p kvs, v = .ref p ∧ Rd H p (.dK kvs) ∧ tyZ d = "dict") ∨ TyB K H v (tyZ d) := by
  cases h with
  | non => exact .inr .non
  | bl b => exact .inr (.bl b)
  | int i => exact .inr (.int i)
  | str x => exact .inr (.str x)
  | lst h a => exact .inr (.lst (SqL.of h))
  | tup h a => exact .inr (.tup h)
  | dic h a => exact .inl ⟨_, _, rfl, h, rfl⟩
/-- type(x), the dict frozen or not -/
def rTyZ (K : PySem.W.Frag) : List V → Hp → VK → Prop := fun xs H Q => ∃ x d, xs = [x] ∧ Dz K H x d ∧ Q (.ty (tyZ d)) H
theorem cr_tyZ {X : Cx} : CallR X (.type "type") (rTyZ X.K) := by
  intro pins s σ H xs us Q I r h
  obtain ⟨x, d, rfl, hd, q⟩ := h
  cases hd with
  | non => exact call_type1 pins s σ H _ us Q I r ⟨_, _, rfl, .non, q⟩
  | bl b => exact call_type1 pins s σ H _ us Q I r ⟨_, _, rfl, .bl b, q⟩
  | int i => exact call_type1 pins s σ H _ us Q I r ⟨_, _, rfl, .int i, q⟩
  | str y => exact call_type1 pins s σ H _ us Q I r ⟨_, _, rfl, .str y, q⟩
  | lst h a => exact call_type1 pins s σ H _ us Q I r ⟨_, _, rfl, .lst (SqL.of h), q⟩
  | tup h a => exact call_type1 pins s σ H _ us Q I r ⟨_, _, rfl, .tup h, q⟩
  | @dic p kvs _ h a =>
    obtain ⟨u, rfl, rx⟩ := vals1 r
    cases (show u = Value.ref p from rx)
    obtain ⟨o, es, ep, h1, h2, h3⟩ := dict_obj I h
    exact call_type_of (Tx := "dict") (show s.TypeIs (.ref p) "dict" from ⟨o, h1, h2⟩) (by decide +kernel) ⟨.ty "dict", H, I, rfl, q⟩
def dTy (T : String) (neg : Bool) : PyData → (Z → Prop) → Prop := fun d Q => Q (.dat (.bool (if neg then !decide (tyZ d = T) else decide (tyZ d = T))))
def rTyIs (neg : Bool) : R2 := fun x y H Q => ∃ a b, x = .ty a ∧ y = .ty b ∧ Q (.bl (if neg then !decide (a = b) else decide (a = b))) H
theorem op_isTyZ {X : Cx} : OpR X (compareOp .Is) (rTyIs false) := op_isTyB
theorem op_notTyZ {X : Cx} : OpR X (compareOp .IsNot) (rTyIs true) := op_notTyB
/-- type(x) is T, is not T -/
theorem tr_tyIs {T : String} {neg : Bool} {ta : TE} {za : ZE} (h : Tr K W ta za) : Tr K W (tOp (rTyIs neg) (tCB (rTyZ K) (tCons ta tNil)) (tC (.ty T))) (zOne (k1 (dTy T neg)) za) := fun F ρ σ H Qz Ez Q g e hz q x => by
  refine h F ρ σ H _ Ez _ g e hz (fun r v H1 r1 d1 h1 => ?_) x
  obtain ⟨d, h2, h1⟩ := h1
  exact ⟨v, d, rfl, d1.full h2, tyZ d, T, rfl, rfl, q (.dat (.bool _)) _ H1 r1 out_bl h1⟩
/-! ### numbers -/
def dMin2 := dInt fun i j Q => Q (.dat (.int (if j < i then j else i)))
def dMax2 := dInt fun i j Q => Q (.dat (.int (if j > i then j else i)))
theorem cz_int2 {r : List V → Hp → VK → Prop} {f : Int → Int → (Z → Prop) → Prop} (h : ∀ i j H Qz (Q : VK), f i j Qz → (∀ c : PyData, ∀ v, (∀ F : Fr, RZ K F H (.dat c) v) → Qz (.dat c) → Q v H) → r [.int i, .int j] H Q) : CaZ K r (kL2 (dInt f)) := cz2 fun F H x y a b d e Qz Q g ha hb hd he hk q => by
  cases d with
  | int i =>
    cases e with
    | int j =>
      obtain rfl := ha.int hd
      obtain rfl := hb.int he
      exact h i j H Qz Q hk fun c v hv hc => q (.dat c) v H (.refl _ _ _) (hv F) hc
    | _ => exact hk.elim
  | _ => cases e <;> exact hk.elim
theorem cz_min2 : CaZ K (fun xs H Q => ∃ i j, xs = [.int i, .int j] ∧ Q (.int (if j < i then j else i)) H) (kL2 dMin2) := cz_int2 fun i j H Qz Q hk q => ⟨i, j, rfl, q _ _ (fun _ => out_int) hk⟩
theorem cz_max2 : CaZ K (fun xs H Q => ∃ i j, xs = [.int i, .int j] ∧ Q (.int (if j > i then j else i)) H) (kL2 dMax2) := cz_int2 fun i j H Qz Q hk q => ⟨i, j, rfl, q _ _ (fun _ => out_int) hk⟩
def dAbs : PyData → (Z → Prop) → Prop
  | .int i, Q => Q (.dat (.int (if i < 0 then -i else i)))
  | _, _ => False
theorem cz_abs : CaZ K (fun xs H Q => ∃ i, xs = [.int i] ∧ Q (.int (if i < 0 then -i else i)) H) (kL1 dAbs) := cz1 fun F H x a d Qz Q g ha hd hk q => by
  cases d with
  | int i => obtain rfl := ha.int hd; exact ⟨i, rfl, q (.dat (.int _)) _ H (.refl _ _ _) out_int hk⟩
  | _ => exact hk.elim
def dToInt : PyData → (Z → Prop) → Prop
  | .int i, Q => Q (.dat (.int i))
  | .bool b, Q => Q (.dat (.int (if b then 1 else 0)))
  | _, _ => False
theorem cz_int1 : CaZ K (fun xs H Q => (∃ i, xs = [.int i] ∧ Q (.int i) H) ∨ ∃ k, xs = [.bl k] ∧ Q (.int (if k then 1 else 0)) H) (kL1 dToInt) := cz1 fun F H x a d Qz Q g ha hd hk q => by
  cases d with
  | int i => obtain rfl := ha.int hd; exact .inl ⟨i, rfl, q (.dat (.int _)) _ H (.refl _ _ _) out_int hk⟩
  | bool b => obtain rfl := ha.bool hd; exact .inr ⟨b, rfl, q (.dat (.int _)) _ H (.refl _ _ _) out_int hk⟩
  | _ => exact hk.elim
/-! ### all, any -/
def bools : List PyData → Option (List Bool)
  | [] => some []
  | .bool b :: r => (bools r).map (b :: ·)
  | _ :: _ => none
theorem bools_dz {H : Hp} : ∀ {vs : List V} {ds : List PyData} {bs : List Bool}, DzAll K H vs ds → bools ds = some bs → vs = bs.map V.bl
  | _, _, _, .nil, e => by cases e; rfl
  | v :: vs, d :: ds, bs, .cons h t, e => by
    cases d with
    | bool b =>
      cases h
      have e' : (bools ds).map (b :: ·) = some bs := e
      cases q : bools ds with
      | none => rw [q] at e'; cases e'
      | some cs => rw [q] at e'; cases e'; rw [bools_dz t q]; rfl
    | _ => cases e
def dAll : PyData → (Z → Prop) → Prop
  | .list ds, Q => ∃ bs, bools ds = some bs ∧ Q (.dat (.bool (bs.all id)))
  | _, _ => False
def dAny : PyData → (Z → Prop) → Prop
  | .list ds, Q => ∃ bs, bools ds = some bs ∧ Q (.dat (.bool (bs.any id)))
  | _, _ => False
theorem cz_all : CaZ K (rAll K) (kL1 dAll) := cz1 fun F H x a d Qz Q g ha hd hk q => by
  cases d with
  | list ds =>
    obtain ⟨bs, hb, hk⟩ := hk
    obtain ⟨p, xs, rfl, h1, h2⟩ := ha.list hd
    obtain rfl := bools_dz h2 hb
    exact ⟨p, bs, rfl, SqL.of h1, q (.dat (.bool _)) _ H (.refl _ _ _) out_bl hk⟩
  | _ => exact hk.elim
theorem cz_any : CaZ K (rAny K) (kL1 dAny) := cz1 fun F H x a d Qz Q g ha hd hk q => by
  cases d with
  | list ds =>
    obtain ⟨bs, hb, hk⟩ := hk
    obtain ⟨p, xs, rfl, h1, h2⟩ := ha.list hd
    obtain rfl := bools_dz h2 hb
    exact ⟨p, bs, rfl, SqL.of h1, q (.dat (.bool _)) _ H (.refl _ _ _) out_bl hk⟩
  | _ => exact hk.elim
/-! ### texts of values -/
section
variable {X : Cx} {pins : List (Addr × Obj)} {σ : L2.St} {H : Hp} {s : Shared}
theorem reads_key {h : Heap} {P : Program} {w : World} {k : Key} {u : Value} (e : (mixKind P w).is k u = true) : Reads h u (kD k) [] := by
  rcases keyIs_shape (k := k) (v := u) e with ⟨i, t, rfl, rfl⟩ | ⟨x, t, rfl, rfl⟩
  · exact .int i t
  · exact .str x t
mutual
theorem dz_reads (I : Inv X pins σ H s) (hs : H sysModules = none) : ∀ (d : PyData) (v : V) (u : Value), Dz X.K H v d → RelV v u → ∃ as, Reads s.heap u d as ∧ sysModules ∉ as
  | .none, _, _, h, r => by
    cases h
    cases r
    exact ⟨_, .none, by simp⟩
  | .bool b, _, _, h, r => by
    cases h
    cases r
    exact ⟨_, .bool b, by simp⟩
  | .int i, _, _, h, r => by
    cases h
    obtain ⟨t, rfl⟩ := r
    exact ⟨_, .int i t, by simp⟩
  | .str x, _, _, h, r => by
    cases h
    obtain ⟨t, rfl⟩ := r
    exact ⟨_, .str x t, by simp⟩
  | .list ds, _, _, h, r => by
    cases h with
    | @lst p xs _ h1 h2 =>
      cases r
      obtain ⟨its, rv, ⟨o, n, ho, hc, _, hd⟩, _⟩ := I.list (SqL.of h1)
      obtain ⟨as, hr, hn⟩ := dz_readsA I hs ds _ its h2 rv
      exact ⟨_, .list ho hc hd hr, fun z => (List.mem_cons.mp z).elim (fun e => by rw [← e, hs] at h1; cases h1) hn⟩
  | .tuple ds, _, _, h, r => by
    cases h with
    | tup h1 h2 =>
      cases r
      obtain ⟨its, rv, ⟨o, ho, hc, n, hd⟩, _⟩ := I.tuple h1
      obtain ⟨as, hr, hn⟩ := dz_readsA I hs ds _ its h2 rv
      exact ⟨_, .tuple ho hc hd hr, hn⟩
  | .dict ds, _, _, h, r => by
    cases h with
    | @dic p kvs _ h1 h2 =>
      cases r
      obtain ⟨_, hne, vs, rel, o, es, ep, k1, k2, k3, _, k4, _⟩ := (show ObjOk X.prog X.w H s.heap p (.dK kvs) from h1.ok I.hok)
      obtain ⟨as, bs, r1, r2, n1, n2⟩ := dz_readsK I hs ds kvs vs es.toList h2 rel k4
      refine ⟨_, .dict k1 k2.1 k3 r1 r2, fun z => ?_⟩
      rcases List.mem_append.mp z with z | z
      · rcases List.mem_cons.mp z with z | z
        · rw [← z] at hne
          simp at hne
        · exact n1 z
      · exact n2 z
theorem dz_readsA (I : Inv X pins σ H s) (hs : H sysModules = none) : ∀ (ds : List PyData) (vs : List V) (us : List Value), DzAll X.K H vs ds → Vals vs us → ∃ as, ReadsAll s.heap us ds as ∧ sysModules ∉ as
  | [], _, _, h, r => by
    cases h
    cases r
    exact ⟨_, .nil, by simp⟩
  | d :: ds, _, _, h, r => by
    cases h with
    | cons h1 h2 =>
      cases r with
      | cons r1 r2 =>
        obtain ⟨as, q1, n1⟩ := dz_reads I hs d _ _ h1 r1
        obtain ⟨bs, q2, n2⟩ := dz_readsA I hs ds _ _ h2 r2
        exact ⟨_, .cons q1 q2, fun z => (List.mem_append.mp z).elim n1 n2⟩
theorem dz_readsK (I : Inv X pins σ H s) (hs : H sysModules = none) : ∀ (ds : List (PyData × PyData)) (kvs : List (Key × V)) (vs : List (Key × Value)) (es : List DictEntry), DzKvs X.K H kvs ds → KV kvs vs → Pairs (mixKind X.prog X.w) es vs →
    ∃ as bs, ReadsAll s.heap (es.map (·.key)) (ds.map (·.1)) as ∧ ReadsAll s.heap (es.map (·.val)) (ds.map (·.2)) bs ∧ sysModules ∉ as ∧ sysModules ∉ bs
  | [], _, _, _, h, r, p => by
    cases h
    cases r
    cases p
    exact ⟨_, _, .nil, .nil, by simp, by simp⟩
  | (a, d) :: ds, _, _, _, h, r, p => by
    cases h with
    | cons h1 h2 =>
      cases r with
      | cons r1 r2 =>
        cases p with
        | cons p1 p2 p3 =>
          obtain ⟨as, bs, q1, q2, n1, n2⟩ := dz_readsK I hs ds _ _ _ h2 r2 p3
          obtain ⟨cs, q3, n3⟩ := dz_reads I hs d _ _ h1 r1.2
          have ek := r1.1
          simp only at ek
          rw [← ek] at p1
          refine ⟨_, _, .cons (reads_key p1) q1, .cons (by show Reads s.heap (DictEntry.val _) d cs; rw [p2]; exact q3) q2, fun z => n1 (by simpa using z), fun z => (List.mem_append.mp z).elim n3 n2⟩
end
end
def dRepr : PyData → (Z → Prop) → Prop := fun d Q => d.showable = true ∧ d.depth ≤ 60 ∧ d.shown.length ≤ line ∧ Q (.dat (.str d.shown))
def rReprZ (K : PySem.W.Frag) : List V → Hp → VK → Prop := fun xs H Q => ∃ x d, xs = [x] ∧ Dz K H x d ∧ d.showable = true ∧ d.depth ≤ 60 ∧ d.shown.length ≤ line ∧ Q (.str d.shown) H
theorem cr_reprZ {X : Cx} (gA : X.A.guards = some []) (hr : X.A.units + 64 < cLine) (hb : ∃ o, X.base.get? sysModules = some o) : CallR X (.builtin "repr") (rReprZ X.K) := by
  intro pins s σ H xs us Q I r h
  obtain ⟨x, d, rfl, hd, hs, hdep, hz, q⟩ := h
  obtain ⟨u, rfl, rx⟩ := vals1 r
  obtain ⟨ob, ho⟩ := hb
  have hsys : H sysModules = none := (I.bs _ _ ho).2
  obtain ⟨as, rd, hn⟩ := dz_reads I hsys d x u hd rx
  have hz' := line_le hz
  cases hd with
  | non => cases rx; exact PySem.P.repr_of_none ⟨.str _, H, I.tok _, ⟨_, rfl⟩, q⟩
  | bl b => cases rx; exact PySem.P.repr_of_bool ⟨.str _, H, I.tok _, ⟨_, rfl⟩, by simpa only [PyData.shown] using q⟩
  | int i => obtain ⟨t, rfl⟩ := rx; exact PySem.P.repr_of_int (by simpa only [PyData.showable, decide_eq_true_eq] using hs) ⟨.str _, H, I.tok _, ⟨_, rfl⟩, by simpa only [PyData.shown] using q⟩
  | str y => obtain ⟨t, rfl⟩ := rx; exact PySem.P.repr_of_str ⟨.str _, H, I.tok _, ⟨_, rfl⟩, by simpa only [PyData.shown] using q⟩ (by simpa only [PyData.shown] using hz')
  | lst a b => cases rx; exact repr_of_reads' rd hs (fun _ => hn) gA (by omega) (fun _ _ e => e) (fun h' u tk hk => ⟨.str _, H, I.kept (t' := tk) hk, ⟨_, rfl⟩, q⟩) hz'
  | tup a b => cases rx; exact repr_of_reads' rd hs (fun _ => hn) gA (by omega) (fun _ _ e => e) (fun h' u tk hk => ⟨.str _, H, I.kept (t' := tk) hk, ⟨_, rfl⟩, q⟩) hz'
  | dic a b => cases rx; exact repr_of_reads' rd hs (fun _ => hn) gA (by omega) (fun _ _ e => e) (fun h' u tk hk => ⟨.str _, H, I.kept (t' := tk) hk, ⟨_, rfl⟩, q⟩) hz'
theorem cz_repr : CaZ K (rReprZ K) (kL1 dRepr) := cz1 fun F H x a d Qz Q g ha hd hk q => ⟨x, d, rfl, ha.full hd, hk.1, hk.2.1, hk.2.2.1, q (.dat (.str d.shown)) _ H (.refl _ _ _) (Dz.str _) hk.2.2.2⟩
/-- str of a number -/
def dStr : PyData → (Z → Prop) → Prop
  | .int i, Q => i.natAbs.log2 < 1920 ∧ Q (.dat (.str (toString i : String)))
  | _, _ => False
theorem cz_str : CaZ K (fun xs H Q => ∃ i : Int, xs = [.int i] ∧ i.natAbs.log2 < 1920 ∧ Q (.str (toString i : String)) H) (kL1 dStr) := cz1 fun F H x a d Qz Q g ha hd hk q => by
  cases d with
  | int i => obtain rfl := ha.int hd; exact ⟨i, rfl, hk.1, q (.dat (.str _)) _ H (.refl _ _ _) (Dz.str _) hk.2⟩
  | _ => exact hk.elim
/-! ### sorted, of data that go together -/
open PySem.W in
def sortD (ds : List PyData) : List PyData := ds.mergeSort (dataLe false id)
open PySem.W in
def okSort (ds : List PyData) : Prop := AllAlike ds ∧ Sortable ds ∧ (∀ d ∈ ds, d.depth ≤ 60) ∧ ds.length ≤ line
def dSorted : PyData → (Z → Prop) → Prop
  | .list ds, Q => okSort ds ∧ Q (.dat (.list (sortD ds)))
  | _, _ => False
def rSortedZ (K : PySem.W.Frag) : List V → Hp → VK → Prop := fun xs H Q => ∃ (G : Hp) (p : Addr) (vs : List V) (ds : List PyData), xs = [.ref p] ∧ Le G H ∧ H p = some (.lst vs) ∧ DzAll K G vs ds ∧ okSort ds ∧ ∀ ws l, H l = none → ws.length = vs.length → DzAll K G ws (sortD ds) → Q (.ref l) (upd H l (.lst ws))
theorem each_dz {G : Hp} : ∀ {ds : List PyData} {vs : List V} {us : List Value}, DzAll K G vs ds → Vals vs us → PySem.W.EachIs (fun u d => ∃ v, RelV v u ∧ Dz K G v d) us ds
  | _, _, _, .nil, .nil => .nil
  | _, _, _, .cons h t, .cons r q => .cons ⟨_, r, h⟩ (each_dz t q)
theorem dz_each {G : Hp} : ∀ {us : List Value} {ds : List PyData}, PySem.W.EachIs (fun u d => ∃ v, RelV v u ∧ Dz K G v d) us ds → ∃ ws, Vals ws us ∧ DzAll K G ws ds
  | _, _, .nil => ⟨[], .nil, .nil⟩
  | _, _, .cons ⟨v, r, h⟩ t => by
    obtain ⟨ws, r2, h2⟩ := dz_each t
    exact ⟨v :: ws, .cons r r2, .cons h h2⟩
theorem cr_sortedZ {X : Cx} (hu : X.A.units + 64 < cLine) (hb : ∃ o, X.base.get? sysModules = some o) : CallR X (.builtin "sorted") (rSortedZ X.K) := by
  intro pins s σ H xs us Q I r h
  obtain ⟨G, p, vs, ds, rfl, le, h1, h2, ⟨o1, o2, o3, o4⟩, q⟩ := h
  obtain ⟨u, rfl, rx⟩ := vals1 r
  cases (show u = Value.ref p from rx)
  obtain ⟨ob, ho⟩ := hb
  have hsys : H sysModules = none := (I.bs _ _ ho).2
  obtain ⟨its, rv, pl, hz⟩ := I.list (SqL.of h1)
  have e := each_dz h2 rv
  have er : PySem.W.EachIs (fun v b => ∃ as, Reads s.heap v (id b) as) its ds := e.mono fun a b ⟨v, r1, k1⟩ => by
    obtain ⟨as, hr, _⟩ := dz_reads I hsys b v a (Dz.mono le b k1) r1
    exact ⟨as, hr⟩
  refine PySem.W.sorted_data (enc := id) pl.isList e er (by rw [List.map_id]; exact o1) (by rw [List.map_id]; exact o2) (by rw [← h2.len]; exact hz) (fun b hb => by have := o3 b hb; show X.A.units + 2 + b.depth < cLine; omega) fun out ho1 ho2 => ?_
  obtain ⟨ws, w1, w2⟩ := dz_each ho2
  obtain ⟨ep, he'⟩ := PyProof.Rows.sortedAll_at s.heap its out.toArray
  have hwl : ws.length = vs.length := by rw [w1.length, ho1, h2.len]
  exact ⟨.ref _, upd H (s.heap.objs.size + 1) (.lst ws), I.laid (t' := s.toks) (fun _ _ => PyProof.Rows.sortedAll_old) (Nat.le_succ _) ⟨by rw [hwl]; exact hz, out, ep, w1, he'⟩, rfl, q ws _ (I.hok.fresh (Nat.le_succ _)) hwl w2⟩
theorem cz_sorted : CaZ K (rSortedZ K) (kL1 dSorted) := cz1 fun F H x a d Qz Q g ha hd hk q => by
  cases d with
  | list ds =>
    obtain ⟨p, xs, rfl, h1, h2⟩ := ha.list hd
    exact ⟨hid F.O H, p, xs, ds, rfl, Le.hid_self, h1, h2, hk.1, fun ws l nl _ hw => q (.dat (.list (sortD ds))) _ _ (.new nl) (dz_newL g nl hw) hk.2⟩
  | _ => exact hk.elim
/-! ### methods of texts -/
def dLower : PyData → (Z → Prop) → Prop
  | .str x, Q => x.length ≤ line ∧ Q (.dat (.str (Txt.lower x)))
  | _, _ => False
def dUpper : PyData → (Z → Prop) → Prop
  | .str x, Q => x.length ≤ line ∧ Q (.dat (.str (Txt.upper x)))
  | _, _ => False
theorem tr_m0 {f : PyData → (Z → Prop) → Prop} {r : V → List V → Hp → VK → Prop} {to : TE} {zo : ZE} (h : ∀ (x : Str) (Qz : Z → Prop) (Q : VK) (H : Hp), f (.str x) Qz → (∀ c v, (∀ F : Fr, RZ K F H (.dat c) v) → Qz (.dat c) → Q v H) → r (.str x) [] H Q) (hs : ∀ d Qz, f d Qz → ∃ x, d = .str x) (ho : Tr K W to zo) : Tr K W (tM0 r to) (zOne (k1 f) zo) := fun F ρ σ H Qz Ez Q g e hz q x => by
  refine ho F ρ σ H _ Ez _ g e hz (fun t v H1 r1 d1 h1 => ?_) x
  obtain ⟨d, h2, h1⟩ := h1
  obtain ⟨y, rfl⟩ := hs d _ h1
  obtain rfl := d1.str h2
  exact ⟨⟨y, rfl⟩, h y Qz Q H1 h1 fun c v hv hc => q (.dat c) v H1 r1 (hv F) hc⟩
theorem line_low {n : Nat} (h : n ≤ line) : n ≤ 5592405 := Nat.le_trans h (by decide)
theorem tr_lower {to : TE} {zo : ZE} (ho : Tr K W to zo) : Tr K W (tM0 (fun x xs H Q => ∃ a, x = .str a ∧ xs = [] ∧ a.length ≤ 5592405 ∧ Q (.str (Txt.lower a)) H) to) (zOne (k1 dLower) zo) :=
  tr_m0 (fun x Qz Q H hk q => ⟨x, rfl, rfl, line_low hk.1, q (.str _) _ (fun _ => Dz.str _) hk.2⟩) (fun d Qz hk => by cases d with | str x => exact ⟨x, rfl⟩ | _ => exact hk.elim) ho
theorem tr_upper {to : TE} {zo : ZE} (ho : Tr K W to zo) : Tr K W (tM0 (fun x xs H Q => ∃ a, x = .str a ∧ xs = [] ∧ a.length ≤ 5592405 ∧ Q (.str (Txt.upper a)) H) to) (zOne (k1 dUpper) zo) :=
  tr_m0 (fun x Qz Q H hk q => ⟨x, rfl, rfl, line_low hk.1, q (.str _) _ (fun _ => Dz.str _) hk.2⟩) (fun d Qz hk => by cases d with | str x => exact ⟨x, rfl⟩ | _ => exact hk.elim) ho
/-! ### lists of one's own, further -/
/-- name.extend(a list) -/
def zExtend (i : Nat) (a : ZE) : ZS := fun ρ k => ∃ ds, ρ[i]? = some (some (.own ds)) ∧ a ρ (fun y => ∃ es, y = .dat (.list es) ∧ ds.length + es.length ≤ line ∧ k.nx (ρ.set i (some (.own (ds ++ es))))) (k.ex ρ)
theorem tr_extend {i : Nat} {te : TE} {za : ZE} (h : Tr K W te za) : TrS K W (tDrop (tBM K "list" rExtend (tVar i) (tCons te tNil))) (zExtend i za) := fun F0 H0 F ρ σ H k D g s e hz a => by
  obtain ⟨ds, h1, hz⟩ := hz
  obtain ⟨v, h2, l, xs, rfl, hl, h3, h4⟩ := e.at_ i _ h1
  refine ⟨_, h2, .inl ⟨rfl, _, SqL.of h3⟩, ?_⟩
  refine h F ρ σ H _ _ _ g e hz (fun r v H1 r1 d1 q1 => ?_) fun x C d H1 r1 d1 h1 => a.ex x C d ρ σ F H1 (g.rel r1) (s.rel r1) (g.le r1) (e.rel g r1) d1 h1
  obtain ⟨es, rfl, hn, q1⟩ := q1
  have g1 := g.rel r1
  have h3' := r1.kp l _ (g.ns l hl) h3
  have h4' := Dz.monos (g.le r1) ds h4
  obtain ⟨p, ys, rfl, k1, k2⟩ := rz_lst d1
  refine ⟨l, p, xs, ys, rfl, rfl, h3', k1, line_le (by rw [h4.len, k2.len]; exact hn), ?_⟩
  exact a.nx _ F σ _ (g1.put hl) ((s.rel r1).put hl) ((g.le r1).trans (Le.own (g.no l hl))) ((e.rel g r1).put g1 h1 h2 hl (h4'.app k2)) q1
end Zl
end
section
/-! Z8: a piece of syntax with its meaning in words of data -/
namespace Zl
open PySem PySem.Spec PyProof.Rows L2 Kb
variable [Tabd]
structure PZ (K : PySem.W.Frag) (X : Cx) (W : WX) (e : Expr) (t : TE) (z : ZE) : Prop where
  pe : PE X e t
  tr : Tr K W t z
structure PZT (K : PySem.W.Frag) (X : Cx) (W : WX) (e : Expr) (t : TT) (z : ZT) : Prop where
  pe : PT X e t
  tr : TrT K W t z
structure PZW (K : PySem.W.Frag) (X : Cx) (W : WX) (e : Expr) (t : TT) (z : ZT) : Prop where
  pe : PW X e t
  tr : TrT K W t z
structure PZA (K : PySem.W.Frag) (X : Cx) (W : WX) (es : List Expr) (t : TA) (z : ZA) : Prop where
  pe : PA X es t
  tr : TrA K W t z
structure PZN (K : PySem.W.Frag) (X : Cx) (W : WX) (e : Expr) (t : TE) (z : ZN) : Prop where
  pe : PE X e t
  tr : TrN K W t z
structure PZO (K : PySem.W.Frag) (X : Cx) (W : WX) (e : Option Expr) (t : TO) (z : ZO) : Prop where
  pe : PO X e t
  tr : TrO K W t z
structure PZS (K : PySem.W.Frag) (X : Cx) (W : WX) (st : Stmt) (t : TS) (z : ZS) : Prop where
  pe : PS X st t
  tr : TrS K W t z
structure PZB (K : PySem.W.Frag) (X : Cx) (W : WX) (st : List Stmt) (t : TS) (z : ZS) : Prop where
  pe : PSs X st t
  tr : TrS K W t z
structure PZG (K : PySem.W.Frag) (X : Cx) (sl : List Nat) (e : Expr) (t : TG) (z : ZG) : Prop where
  pe : PG X e t
  tr : TrG K sl t z
structure PZGs (K : PySem.W.Frag) (X : Cx) (sl : List Nat) (e : List Expr) (t : TGs) (z : ZGs) : Prop where
  pe : PGs X e t
  tr : TrGs K sl t z
structure PZI (K : PySem.W.Frag) (X : Cx) (W : WX) (tg e : Expr) (t : TI) (z : ZI) : Prop where
  pe : PI X tg e t
  tr : TrI K W t z
section
variable {K : PySem.W.Frag} {X : Cx} {W : WX} {a b c e : Expr} {ta tb tc te : TE} {za zb zc ze : ZE} {pos p : Pos} {es : List Expr} {as : TA} {zs : ZA}
/-! ### leaves -/
theorem pz_var {i : Nat} {x : Str} (hN : X.N[i]? = some x) (hv : Vis X.env.scope x) (hd : (x == ("__debug__" : Str)) = false := by decide) (hcd : (x == ("__classdict__" : Str)) = false := by decide) (hK : X.K = K := by rfl) : PZ K X W (.Name x pos) (tVar i) (zVar i) := by
  subst hK
  exact ⟨pe_var hN hv hd hcd, tr_var⟩
theorem pz_int {i : Int} {j} (hK : X.K = K := by rfl) : PZ K X W (.Constant (.int i) j pos) (tC (.int i)) (zC (.int i)) := by
  subst hK
  exact ⟨pe_int, tr_int⟩
theorem pz_bl {i : Bool} {j} (hK : X.K = K := by rfl) : PZ K X W (.Constant (.bool i) j pos) (tC (.bl i)) (zC (.bool i)) := by
  subst hK
  exact ⟨pe_bl, tr_bl⟩
theorem pz_non {j} (hK : X.K = K := by rfl) : PZ K X W (.Constant .none j pos) (tC .non) (zC .none) := by
  subst hK
  exact ⟨pe_non, tr_non⟩
theorem pz_str {x : Str} {j} (hK : X.K = K := by rfl) : PZ K X W (.Constant (.str x) j pos) (tC (.str x)) (zC (.str x)) := by
  subst hK
  exact ⟨pe_str, tr_str⟩
/-- a module's constant: a number, a text -/
theorem pz_gint {x : Str} {i : Int} (hm : ∃ t, X.mg x = some (.int i t)) (hg : Gl X x := by rfl) (hd : (x == ("__debug__" : Str)) = false := by decide) (hK : X.K = K := by rfl) : PZ K X W (.Name x pos) (tC (.int i)) (zC (.int i)) := by
  subst hK
  obtain ⟨t, hm⟩ := hm
  exact ⟨pe_glob hg hm ⟨t, rfl⟩ hd, tr_int⟩
/-! ### arguments -/
theorem pz_nil (hK : X.K = K := by rfl) : PZA K X W [] tNil zNil := by
  subst hK
  exact ⟨pa_nil, tr_nil⟩
theorem pz_cons (h : PZ K X W e te ze) (t : PZA K X W es as zs) (he : starEach (e :: es) X.env = (false, eval e X.env) :: starEach es X.env := by rfl) (hK : X.K = K := by rfl) : PZA K X W (e :: es) (tCons te as) (zCons ze zs) := by
  subst hK
  exact ⟨by first | exact pa_cons h.pe t.pe he | exact pa_cons h.pe t.pe, tr_cons h.tr t.tr⟩
/-! ### operators -/
theorem pz_op {op : Operator} {r : R2} {k : Z → Z → (Z → Prop) → Prop} (ho : OpR X (binaryOp op) r) (hz : OpZ K r k) (ha : PZ K X W a ta za) (hb : PZ K X W b tb zb) (hK : X.K = K := by rfl) : PZ K X W (.BinOp a op b pos) (tOp r ta tb) (zTwo k za zb) := by
  subst hK
  exact ⟨pe_op ho ha.pe hb.pe, tr_op hz ha.tr hb.tr⟩
theorem pz_add (ha : PZ K X W a ta za) (hb : PZ K X W b tb zb) (hK : X.K = K := by rfl) : PZ K X W (.BinOp a .Add b pos) (tOp (rAdd K) ta tb) (zTwo (k2 dAdd) za zb) := by
  subst hK
  exact pz_op op_addZ oz_add ha hb
theorem pz_sub (ha : PZ K X W a ta za) (hb : PZ K X W b tb zb) (hK : X.K = K := by rfl) : PZ K X W (.BinOp a .Sub b pos) (tOp (rI0 fun i j => .int (i - j)) ta tb) (zTwo (k2 dSub) za zb) := by
  subst hK
  exact pz_op op_sub oz_sub ha hb
theorem pz_mul (ha : PZ K X W a ta za) (hb : PZ K X W b tb zb) (hK : X.K = K := by rfl) : PZ K X W (.BinOp a .Mult b pos) (tOp (rI CMulW fun i j => .int (i * j)) ta tb) (zTwo (k2 dMul) za zb) := by
  subst hK
  exact pz_op op_mulW oz_mul ha hb
theorem pz_div (ha : PZ K X W a ta za) (hb : PZ K X W b tb zb) (hK : X.K = K := by rfl) : PZ K X W (.BinOp a .FloorDiv b pos) (tOp (rI CDivW fun i j => .int (i / j)) ta tb) (zTwo (k2 dDiv) za zb) := by
  subst hK
  exact pz_op op_fdivW oz_div ha hb
theorem pz_mod (ha : PZ K X W a ta za) (hb : PZ K X W b tb zb) (hK : X.K = K := by rfl) : PZ K X W (.BinOp a .Mod b pos) (tOp (rI (fun _ j => 0 < j) fun i j => .int (i % j)) ta tb) (zTwo (k2 dMod) za zb) := by
  subst hK
  exact pz_op op_mod oz_mod ha hb
theorem pz_pow (ha : PZ K X W a ta za) (hb : PZ K X W b tb zb) (hK : X.K = K := by rfl) : PZ K X W (.BinOp a .Pow b pos) (tOp (rI CPowW fun i j => .int (i ^ j.toNat)) ta tb) (zTwo (k2 dPow) za zb) := by
  subst hK
  exact pz_op op_powW oz_pow ha hb
theorem pz_neg (ha : PZ K X W a ta za) (hK : X.K = K := by rfl) : PZ K X W (.UnaryOp .USub a pos) (tUn (rU fun i => .int (-i)) ta) (zOne (k1 dNeg) za) := by
  subst hK
  exact ⟨pe_un un_neg ha.pe, tr_un oz_neg ha.tr⟩
theorem pz_cmp {op : CmpOp} {r : R2} {k : Z → Z → (Z → Prop) → Prop} (ho : OpR X (compareOp op) r) (hz : OpZ K r k) (ha : PZ K X W a ta za) (hb : PZ K X W b tb zb) (hm : behindInMarks op b = false) (hK : X.K = K := by rfl) : PZ K X W (.Compare a [op] [b] pos) (tOp r ta tb) (zTwo k za zb) := by
  subst hK
  exact ⟨pe_cmpR ho ha.pe hb.pe hm, tr_op hz ha.tr hb.tr⟩
theorem pzt_cmp {op : CmpOp} {r : R2} {k : Z → Z → (Z → Prop) → Prop} (ho : OpR X (compareOp op) r) (hz : OpZ K r k) (ha : PZ K X W a ta za) (hb : PZ K X W b tb zb) (hm : behindInMarks op b = false) (hK : X.K = K := by rfl) : PZT K X W (.Compare a [op] [b] pos) (tTest (tOp r ta tb)) (zB (zTwo k za zb)) := by
  subst hK
  exact ⟨pt_cmpR ho ha.pe hb.pe hm, tr_test (tr_op hz ha.tr hb.tr)⟩
theorem pz_chain {op op' : CmpOp} {r r' : R2} {k l : Z → Z → (Z → Prop) → Prop} (ho : OpR X (compareOp op) r) (hz : OpZ K r k) (ho' : OpR X (compareOp op') r') (hz' : OpZ K r' l) (ha : PZ K X W a ta za) (hb : PZ K X W b tb zb) (hc : PZ K X W c tc zc)
    (hm : lastMarks [op, op'] [b, c] = false := by with_unfolding_all rfl) (hK : X.K = K := by rfl) : PZ K X W (.Compare a [op, op'] [b, c] pos) (tChain r r' ta tb tc) (zChain k l za zb zc) := by
  subst hK
  exact ⟨pe_chain ho ho' ha.pe hb.pe hc.pe hm, tr_chain hz hz' ha.tr hb.tr hc.tr⟩
theorem pzt_chain {op op' : CmpOp} {r r' : R2} {k l : Z → Z → (Z → Prop) → Prop} (ho : OpR X (compareOp op) r) (hz : OpZ K r k) (ho' : OpR X (compareOp op') r') (hz' : OpZ K r' l) (ha : PZ K X W a ta za) (hb : PZ K X W b tb zb) (hc : PZ K X W c tc zc)
    (hm : lastMarks [op, op'] [b, c] = false := by with_unfolding_all rfl) (hK : X.K = K := by rfl) : PZT K X W (.Compare a [op, op'] [b, c] pos) (tTest (tChain r r' ta tb tc)) (zB (zChain k l za zb zc)) := by
  subst hK
  exact ⟨pt_chain ho ho' ha.pe hb.pe hc.pe hm, tr_test (tr_chain hz hz' ha.tr hb.tr hc.tr)⟩
/-! ### tests -/
variable {tt tu tv : TT} {zt zu zv : ZT} {rest : List Expr}
theorem pzt_tru (ha : PZ K X W a ta za) (he : ∀ whole, isTrue a X.env whole = (do let v ← whole; standAt a.pos; holding [v] (truthy v)) := by intro _; rfl) (hK : X.K = K := by rfl) : PZT K X W a (tTruth K ta) (zTru za) := by
  subst hK
  exact ⟨pt_tru ha.pe he, tr_tru ha.tr⟩
theorem pzt_not (ha : PZT K X W a tt zt) (hK : X.K = K := by rfl) : PZT K X W (.UnaryOp .Not a pos) (tNot tt) (zNot zt) := by
  subst hK
  exact ⟨pt_not ha.pe, tr_not ha.tr⟩
theorem PZW.pt (h : PZW K X W a tt zt) : PZT K X W a tt zt := ⟨h.pe.pt, h.tr⟩
theorem pzw_and1 (ha : PZT K X W a tt zt) (hK : X.K = K := by rfl) : PZW K X W (.BoolOp .And [a] pos) tt zt := by
  subst hK
  exact ⟨pw_and1 ha.pe, ha.tr⟩
theorem pzw_or1 (ha : PZT K X W a tt zt) (hK : X.K = K := by rfl) : PZW K X W (.BoolOp .Or [a] pos) tt zt := by
  subst hK
  exact ⟨pw_or1 ha.pe, ha.tr⟩
theorem pzw_and (ha : PZT K X W a tt zt) (hb : PZW K X W (.BoolOp .And (b :: rest) pos) tu zu) (hK : X.K = K := by rfl) : PZW K X W (.BoolOp .And (a :: b :: rest) pos) (tAnd tt tu) (zAnd zt zu) := by
  subst hK
  exact ⟨pw_and ha.pe hb.pe, tr_and ha.tr hb.tr⟩
theorem pzw_or (ha : PZT K X W a tt zt) (hb : PZW K X W (.BoolOp .Or (b :: rest) pos) tu zu) (hK : X.K = K := by rfl) : PZW K X W (.BoolOp .Or (a :: b :: rest) pos) (tOr tt tu) (zOr zt zu) := by
  subst hK
  exact ⟨pw_or ha.pe hb.pe, tr_or ha.tr hb.tr⟩
theorem pz_one {op} (h : PZ K X W a ta za) (hK : X.K = K := by rfl) : PZ K X W (.BoolOp op [a] pos) ta za := by
  subst hK
  exact ⟨pe_one h.pe, h.tr⟩
theorem pz_and (ha : PZ K X W a ta za) (hb : PZ K X W (.BoolOp .And (b :: rest) pos) tb zb) (hK : X.K = K := by rfl) : PZ K X W (.BoolOp .And (a :: b :: rest) pos) (tAndV ta tb) (zAndV za zb) := by
  subst hK
  exact ⟨pe_and ha.pe hb.pe, tr_andV ha.tr hb.tr⟩
theorem pz_or (ha : PZ K X W a ta za) (hb : PZ K X W (.BoolOp .Or (b :: rest) pos) tb zb) (hK : X.K = K := by rfl) : PZ K X W (.BoolOp .Or (a :: b :: rest) pos) (tOrV ta tb) (zOrV za zb) := by
  subst hK
  exact ⟨pe_or ha.pe hb.pe, tr_orV ha.tr hb.tr⟩
theorem pz_not (ha : PZ K X W a ta za) (hK : X.K = K := by rfl) : PZ K X W (.UnaryOp .Not a pos) (tNotV ta) (zNotV za) := by
  subst hK
  exact ⟨pe_not ha.pe, tr_notV ha.tr⟩
theorem pz_if (hc : PZT K X W c tt zt) (ha : PZ K X W a ta za) (hb : PZ K X W b tb zb) (hK : X.K = K := by rfl) : PZ K X W (.IfExp c a b pos) (tIf tt ta tb) (zIf zt za zb) := by
  subst hK
  exact ⟨pe_ifExp hc.pe ha.pe hb.pe, tr_if hc.tr ha.tr hb.tr⟩
/-! ### displays, subscripts, slices -/
theorem pz_tup {k} (h : PZA K X W es as zs) (hK : X.K = K := by rfl) : PZ K X W (.Tuple es k pos) (tTup as) (zTup zs) := by
  subst hK
  exact ⟨pe_tup h.pe, tr_tup h.tr⟩
theorem pz_lst (h : PZA K X W es as zs) (hK : X.K = K := by rfl) : PZ K X W (.List es pos) (tLst as) (zLst zs) := by
  subst hK
  exact ⟨pe_lst h.pe, tr_lst h.tr⟩
theorem pzn_lst (h : PZA K X W es as zs) (hK : X.K = K := by rfl) : PZN K X W (.List es pos) (tLst as) (zLstN zs) := by
  subst hK
  exact ⟨pe_lst h.pe, tr_lstN h.tr⟩
theorem PZN.z {z : ZN} (h : PZN K X W e te z) (hK : X.K = K := by rfl) : PZ K X W e te (zOfN z) := by
  subst hK
  exact ⟨h.pe, tr_ofN h.tr⟩
theorem pz_ix (ha : PZ K X W a ta za) (hb : PZ K X W b tb zb) (hs : PlainIx b) (hK : X.K = K := by rfl) : PZ K X W (.Subscript a b pos) (tOp (rIx K) ta tb) (zTwo (k2 dIx) za zb) := by
  subst hK
  exact ⟨pe_ix ix_seq ha.pe hb.pe hs, tr_op oz_ix ha.tr hb.tr⟩
theorem pzo_none (hK : X.K = K := by rfl) : PZO K X W none tNoPart zNoPart := by
  subst hK
  exact ⟨po_none, tr_noPart⟩
theorem pzo_some (h : PZ K X W e te ze) (hK : X.K = K := by rfl) : PZO K X W (some e) (tPart te) (zPart ze) := by
  subst hK
  exact ⟨po_some h.pe, tr_part h.tr⟩
theorem pz_sl {lo hi : Option Expr} {tl th : TO} {zl zh : ZO} {p2 : Pos} (ha : PZ K X W a ta za) (hl : PZO K X W lo tl zl) (hh : PZO K X W hi th zh) (hK : X.K = K := by rfl) : PZ K X W (.Subscript a (.Slice lo hi none p2) pos) (tSl (rSl3 K) ta tl th) (zSl za zl zh) := by
  subst hK
  exact ⟨pe_slice sl_any ha.pe hl.pe hh.pe, tr_sl ha.tr hl.tr hh.tr⟩
/-! ### calls -/
theorem pz_call {k j n : Nat} {x : Str} {f : ZF} (c : Fz X.prog X.w K X.mg X.base k x n f) (gA : X.A.guards = some []) (hr : Room j X.A) (tk : Takes X W) (h : PZA K X W (e :: es) as zs) (hk : k ≤ j := by decide) (hg : Gl X x := by rfl)
    (hdb : (x == ("__debug__" : Str)) = false := by decide) (he : starEach (e :: es) X.env = (false, eval e X.env) :: starEach es X.env := by rfl) (hpl : (backTo pos (starEach es X.env)).any (·.1) = false := by rfl) (hK : X.K = K := by rfl) :
    PZ K X W (.Call (.Name x p) (e :: es) [] pos) (tCallS (spZ K n f) (WE W) as) (zCall n f zs) := by
  subst hK
  exact ⟨pe_callZ c gA hr tk h.pe hk hg hdb he hpl, tr_callS h.tr⟩
theorem pz_call0 {k j n : Nat} {x : Str} {f : ZF} (c : Fz X.prog X.w K X.mg X.base k x n f) (gA : X.A.guards = some []) (hr : Room j X.A) (tk : Takes X W) (hk : k ≤ j := by decide) (hg : Gl X x := by rfl)
    (hdb : (x == ("__debug__" : Str)) = false := by decide) (hK : X.K = K := by rfl) : PZ K X W (.Call (.Name x p) [] [] pos) (tCallS (spZ K n f) (WE W) tNil) (zCall n f zNil) := by
  subst hK
  exact ⟨pe_callZ0 c gA hr tk hk hg hdb, tr_callS tr_nil⟩
theorem pz_B {id : String} {x : Str} {r : List V → Hp → VK → Prop} {k : List Z → (Z → Prop) → Prop} (hc : CallR X (.builtin id) r) (hz : CaZ K r k) (hm : X.mg x = none) (h : PZA K X W (e :: es) as zs) (hv : bootBuiltins x = some (.builtin id)) (hg : Gl X x := by rfl) (hn : x ≠ "__name__" := by decide) (hdb : (x == ("__debug__" : Str)) = false := by decide)
    (he : starEach (e :: es) X.env = (false, eval e X.env) :: starEach es X.env := by rfl) (hpl : (backTo pos (starEach es X.env)).any (·.1) = false := by rfl) (hK : X.K = K := by rfl) : PZ K X W (.Call (.Name x p) (e :: es) [] pos) (tCB r as) (zCB k zs) := by
  subst hK
  exact ⟨by first | exact pe_callB hc hg hm hv h.pe hn hdb he hpl | exact pe_callB hc hg hm hv h.pe hn hdb, tr_cb hz h.tr⟩
theorem pz_BT {T : String} {x : Str} {r : List V → Hp → VK → Prop} {k : List Z → (Z → Prop) → Prop} (hc : CallR X (.type T) r) (hz : CaZ K r k) (hm : X.mg x = none) (h : PZA K X W (e :: es) as zs) (hv : bootBuiltins x = some (.type T)) (hg : Gl X x := by rfl) (hn : x ≠ "__name__" := by decide) (hdb : (x == ("__debug__" : Str)) = false := by decide)
    (he : starEach (e :: es) X.env = (false, eval e X.env) :: starEach es X.env := by rfl) (hpl : (backTo pos (starEach es X.env)).any (·.1) = false := by rfl) (hK : X.K = K := by rfl) : PZ K X W (.Call (.Name x p) (e :: es) [] pos) (tCB r as) (zCB k zs) := by
  subst hK
  exact ⟨by first | exact pe_callTy hc hg hm hv h.pe hn hdb he hpl | exact pe_callTy hc hg hm hv h.pe hn hdb, tr_cb hz h.tr⟩
/-! ### statements -/
variable {st : Stmt} {ss : List Stmt} {ts us : TS} {zs' zr : ZS}
theorem pzb_nil (hK : X.K = K := by rfl) : PZB K X W [] tNext zNext := by
  subst hK
  exact ⟨pss_nil, tr_next⟩
theorem pzb_one (h : PZS K X W st ts zs') (hK : X.K = K := by rfl) : PZB K X W [st] ts zs' := by
  subst hK
  exact ⟨pss_one h.pe, h.tr⟩
theorem pzb_cons (h : PZS K X W st ts zs') (t : PZB K X W ss us zr) (hK : X.K = K := by rfl) : PZB K X W (st :: ss) (tSeq ts us) (zSeq zs' zr) := by
  subst hK
  exact ⟨pss_cons h.pe t.pe, tr_seq h.tr t.tr⟩
theorem pzb_freeze (i : Nat) (t : PZB K X W ss us zr) (hK : X.K = K := by rfl) : PZB K X W ss us (zFreeze i zr) := by
  subst hK
  exact ⟨t.pe, tr_freeze i t.tr⟩
theorem pzs_pass (hK : X.K = K := by rfl) : PZS K X W (.Pass pos) tNext zNext := by
  subst hK
  exact ⟨ps_pass, tr_next⟩
theorem pzs_doc {x j} {pos' : Pos} (hK : X.K = K := by rfl) : PZS K X W (.Expr (.Constant (.str x) j pos) pos') tNext zNext := by
  subst hK
  exact ⟨ps_doc, tr_next⟩
theorem pzs_break (hK : X.K = K := by rfl) : PZS K X W (.Break pos) tBreak zBreak := by
  subst hK
  exact ⟨ps_break, tr_break⟩
theorem pzs_cont (hK : X.K = K := by rfl) : PZS K X W (.Continue pos) tCont zCont := by
  subst hK
  exact ⟨ps_continue, tr_cont⟩
theorem pzs_ret (h : PZ K X W e te ze) (hK : X.K = K := by rfl) : PZS K X W (.Return (some e) pos) (tRet te) (zRet ze) := by
  subst hK
  exact ⟨ps_ret h.pe, tr_ret h.tr⟩
theorem pzs_retN (hK : X.K = K := by rfl) : PZS K X W (.Return none pos) tRetN zRetN := by
  subst hK
  exact ⟨ps_retN, tr_retN⟩
theorem pzs_expr (h : PZ K X W e te ze) (hs : swapsWith e none pos.line X.env = pure false := by rfl) (hK : X.K = K := by rfl) : PZS K X W (.Expr e pos) (tDrop te) (zDrop ze) := by
  subst hK
  exact ⟨ps_expr h.pe hs, tr_drop h.tr⟩
theorem pzs_if {c : Expr} {a b : List Stmt} (hc : PZT K X W c tt zt) (ha : PZB K X W a ts zs') (hb : PZB K X W b us zr) (hK : X.K = K := by rfl) : PZS K X W (.If c a b pos) (tIfS tt ts us) (zIfS zt zs' zr) := by
  subst hK
  exact ⟨ps_if hc.pe ha.pe hb.pe, tr_ifS hc.tr ha.tr hb.tr⟩
theorem pzg_name {i : Nat} {x : Str} (hN : X.N.Nodup) (hi : X.N[i]? = some x) (hx : Loc X.env.scope x) (hf : X.fn x = true ∨ X.env.scope.names.lookup x = some .local := by first | exact .inl rfl | exact .inr rfl | assumption) (hK : X.K = K := by rfl) : PZG K X [i] (.Name x pos) (gName i) (zName i) := by
  subst hK
  exact ⟨pg_name hN hi hx hf, tr_name⟩
theorem pzg_nil (hK : X.K = K := by rfl) : PZGs K X [] [] gNil zgNil := by
  subst hK
  exact ⟨pgs_nil, tr_gnil⟩
theorem pzg_cons {s1 s2 : List Nat} {t : TG} {u : TGs} {a' : ZG} {b' : ZGs} (h : PZG K X s1 e t a') (hr : PZGs K X s2 es u b') (hs : (assignEach (e :: es) X.env).map (·.2) = assign e X.env :: (assignEach es X.env).map (·.2) := by rfl) (hK : X.K = K := by rfl) : PZGs K X (s1 ++ s2) (e :: es) (gCons t u) (zgCons a' b') := by
  subst hK
  exact ⟨pgs_cons h.pe hr.pe hs, tr_gcons h.tr hr.tr⟩
theorem pzg_tup {sl : List Nat} {k n : Nat} {u : TGs} {b' : ZGs} (hc : X.calm = true) (h : PZGs K X sl es u b') (hn : (assignEach es X.env).length = n := by rfl) (hst : (assignEach es X.env).findIdx? (·.1) = none := by rfl) (hK : X.K = K := by rfl) : PZG K X sl (.Tuple es k pos) (gTup K n u) (zTupG n b') := by
  subst hK
  exact ⟨pg_tup hc h.pe hn hst, tr_tupG h.tr⟩
theorem pzs_asg {sl : List Nat} {tg : Expr} {g : TG} {zg : ZG} (he : PZ K X W e te ze) (hg : PZG K X sl tg g zg) (hs : swapsWithSole [tg] e pos.line X.env = pure false := by rfl) (hw : swappedStores [tg] e X.env = pure none := by rfl)
    (h1 : (assignEach [tg] X.env).map (·.2) = [assign tg X.env] := by rfl) (hK : X.K = K := by rfl) : PZS K X W (.Assign [tg] e pos) (tAsg te g) (zAsg ze zg) := by
  subst hK
  exact ⟨ps_asg he.pe hg.pe hs hw h1, tr_asg he.tr hg.tr⟩
theorem pzs_set {i : Nat} {x : Str} {pos' : Pos} (hN : X.N.Nodup) (hi : X.N[i]? = some x) (hx : Loc X.env.scope x) (he : PZ K X W e te ze) (hs : swapsWith e (some (.Name x pos')) pos.line X.env = pure false := by rfl) (hf : X.fn x = true ∨ X.env.scope.names.lookup x = some .local := by first | exact .inl rfl | exact .inr rfl | assumption) (hK : X.K = K := by rfl) :
    PZS K X W (.Assign [.Name x pos'] e pos) (tAsg te (gName i)) (zAsg ze (zName i)) := by
  subst hK
  exact ⟨ps_set hN hi hx he.pe hs hf, tr_asg he.tr tr_name⟩
theorem pzs_new {i : Nat} {x : Str} {pos' : Pos} {zn : ZN} (hN : X.N.Nodup) (hi : X.N[i]? = some x) (hx : Loc X.env.scope x) (he : PZN K X W e te zn) (hs : swapsWith e (some (.Name x pos')) pos.line X.env = pure false := by rfl) (hf : X.fn x = true ∨ X.env.scope.names.lookup x = some .local := by first | exact .inl rfl | exact .inr rfl | assumption) (hK : X.K = K := by rfl) :
    PZS K X W (.Assign [.Name x pos'] e pos) (tAsg te (gName i)) (zNew i zn) := by
  subst hK
  exact ⟨ps_set hN hi hx he.pe hs hf, tr_new he.tr⟩
/-! ### loops, comprehensions -/
theorem pzi_seq {tg : Expr} (h : PZ K X W e te ze) (hK : X.K = K := by rfl) : PZI K X W tg e (iSeq K te) (zItems ze) := by
  subst hK
  exact ⟨pi_seq h.pe, tr_seqI h.tr⟩
theorem pzi_rng1 {tg : Expr} (hm : X.mg "range" = none) (h : PZA K X W [a] as zs) (hg : Gl X "range" := by rfl) (hs : starEach [a] X.env = [(false, eval a X.env)] := by rfl) (hK : X.K = K := by rfl) : PZI K X W tg (.Call (.Name "range" p) [a] [] pos) (iRng1 as) (zRng1 zs) := by
  subst hK
  exact ⟨pi_range1 hg hm h.pe hs, tr_rng1 h.tr⟩
theorem pzi_rng2 {tg : Expr} (hm : X.mg "range" = none) (h : PZA K X W [a, b] as zs) (hg : Gl X "range" := by rfl) (hs : starEach [a, b] X.env = [(false, eval a X.env), (false, eval b X.env)] := by rfl) (hs2 : starEach [b] X.env = [(false, eval b X.env)] := by rfl) (hK : X.K = K := by rfl) : PZI K X W tg (.Call (.Name "range" p) [a, b] [] pos) (iRng2 as) (zRng2 zs) := by
  subst hK
  exact ⟨pi_range2 hg hm h.pe hs hs2, tr_rng2 h.tr⟩
theorem pzi_enum {elts : List Expr} {kk : Nat} {tpos : Pos} (hm : X.mg "enumerate" = none) (h : PZA K X W [e] as zs) (hg : Gl X "enumerate" := by rfl) (hs : starEach [e] X.env = [(false, eval e X.env)] := by rfl) (hK : X.K = K := by rfl) : PZI K X W (.Tuple elts kk tpos) (.Call (.Name "enumerate" p) [e] [] pos) (iEnum K as) (zEnum zs) := by
  subst hK
  exact ⟨pi_enum hg hm h.pe hs, tr_enum h.tr⟩
theorem pzi_zip {elts : List Expr} {kk : Nat} {tpos : Pos} (hm : X.mg "zip" = none) (h : PZA K X W [a, b] as zs) (hg : Gl X "zip" := by rfl) (hs : starEach [a, b] X.env = (false, eval a X.env) :: starEach [b] X.env := by rfl) (hpl : (backTo pos (starEach [b] X.env)).any (·.1) = false := by rfl) (hK : X.K = K := by rfl) : PZI K X W (.Tuple elts kk tpos) (.Call (.Name "zip" p) [a, b] [] pos) (RZ.iZipA K as) (zZip zs) := by
  subst hK
  exact ⟨RZ.pi_zipA hg hm h.pe hs hpl, tr_zip h.tr⟩
theorem pzs_for {sl : List Nat} {tg : Expr} {wi : TI} {zi : ZI} {g : TG} {zg : ZG} (hp : PassesOwn (model X.prog X.w) X.A X.env X.xe) (hc : X.calm = true) (hi : PZI K X W tg e wi zi) (hg : PZG K X sl tg g zg) (hb : PZB K X W ss us zr)
    (hs : ∀ x, foldedSetIterable e X.env x = pure x := by intro _; rfl) (hK : X.K = K := by rfl) : PZS K X W (.For tg e ss [] pos) (tFor wi g us) (zFor zi zg zr) := by
  subst hK
  exact ⟨ps_for hp hc hi.pe hg.pe hb.pe hs, tr_for hi.tr hg.tr hb.tr⟩
theorem pzs_while (hp : PassesOwn (model X.prog X.w) X.A X.env X.xe) (hc : PZT K X W c tt zt) (hb : PZB K X W ss us zr) (hK : X.K = K := by rfl) : PZS K X W (.While c ss [] pos) (tWhile tt us) (zWhile zt zr) := by
  subst hK
  exact ⟨ps_while hp hc.pe hb.pe, tr_while hc.tr hb.tr⟩
structure PZTs (K : PySem.W.Frag) (X : Cx) (W : WX) (es : List Expr) (t : TT) (z : ZT) : Prop where
  pe : PTs X es t
  tr : TrT K W t z
theorem pzts_nil (hK : X.K = K := by rfl) : PZTs K X W [] tYes zYes := by
  subst hK
  exact ⟨pts_nil, tr_yes⟩
theorem pzts_one (h : PZT K X W c tt zt) (hK : X.K = K := by rfl) : PZTs K X W [c] tt zt := by
  subst hK
  exact ⟨pts_one h.pe, h.tr⟩
theorem pzn_lc {sl : List Nat} {elt tg iter : Expr} {ifs : List Expr} {scope : Scope} {own : List (Str × Nat)} {wi : TI} {zi : ZI} {g : TG} {zg : ZG} (hc : X.calm = true) (hN : X.N.Nodup) (hi : PZI K X W tg iter wi zi) (ok : BlkOk X.N X.env.scope scope own)
    (hg : ∀ (s : Shared) (H : Hp) (C : Addr) (cl : List (Str × Addr)) (fp : List Addr), PZG K (X.blk s H scope (compEnvC scope cl C X.env) fp) sl tg g zg) (ht : ∀ (s : Shared) (H : Hp) (C : Addr) (cl : List (Str × Addr)) (fp : List Addr), PZTs K (X.blk s H scope (compEnvC scope cl C X.env) fp) WF ifs tt zt)
    (he : ∀ (s : Shared) (H : Hp) (C : Addr) (cl : List (Str × Addr)) (fp : List Addr), PZ K (X.blk s H scope (compEnvC scope cl C X.env) fp) WF elt te ze) (hsl : (sl.all fun i => (own.map (·.2)).contains i) = true := by rfl) (hs : ∀ x, foldedSetIterable iter X.env x = pure x := by intro _; rfl) (hK : X.K = K := by rfl) :
    PZN K X W (.ListComp elt [⟨tg, iter, ifs, 0⟩] scope pos) (tLc wi g tt te (own.map (·.2))) (zLc (own.map (·.2)) zi zg zt ze) := by
  subst hK
  exact ⟨pe_lc hc hN hi.pe ok (fun s H C cl fp => (hg s H C cl fp).pe) (fun s H C cl fp => (ht s H C cl fp).pe) (fun s H C cl fp => (he s H C cl fp).pe) hs,
      tr_lc hi.tr (hg X.s_0 X.H_0 0 [] []).tr (fun i hi => by simpa using List.all_eq_true.mp hsl i hi) (ht X.s_0 X.H_0 0 [] []).tr (he X.s_0 X.H_0 0 [] []).tr⟩
/-- name = [.. for ..] -/
theorem pzs_setLc {i : Nat} {y : Str} {py spos : Pos} {sl : List Nat} {elt tg iter : Expr} {ifs : List Expr} {scope : Scope} {own : List (Str × Nat)} {wi : TI} {zi : ZI} {g : TG} {zg : ZG} (hc : X.calm = true) (hN : X.N.Nodup) (hy : X.N[i]? = some y) (hyl : X.env.scope.names.lookup y = some .local)
    (hsw : swapsWith (.ListComp elt [⟨tg, iter, ifs, 0⟩] scope pos) (some (.Name y py)) spos.line X.env = pure true) (hi : PZI K X W tg iter wi zi) (ok : BlkOk X.N X.env.scope scope own)
    (hg : ∀ (s : Shared) (H : Hp) (C : Addr) (cl : List (Str × Addr)) (fp : List Addr), PZG K (X.blk s H scope (compEnvC scope cl C X.env) fp) sl tg g zg) (ht : ∀ (s : Shared) (H : Hp) (C : Addr) (cl : List (Str × Addr)) (fp : List Addr), PZTs K (X.blk s H scope (compEnvC scope cl C X.env) fp) WF ifs tt zt)
    (he : ∀ (s : Shared) (H : Hp) (C : Addr) (cl : List (Str × Addr)) (fp : List Addr), PZ K (X.blk s H scope (compEnvC scope cl C X.env) fp) WF elt te ze) (hsl : (sl.all fun i => (own.map (·.2)).contains i) = true := by rfl) (hs : ∀ x, foldedSetIterable iter X.env x = pure x := by intro _; rfl) (hK : X.K = K := by rfl) :
    PZS K X W (.Assign [.Name y py] (.ListComp elt [⟨tg, iter, ifs, 0⟩] scope pos) spos) (tAsg (tLc wi g tt te (own.map (·.2))) (gName i)) (zAsg (zOfN (zLc (own.map (·.2)) zi zg zt ze)) (zName i)) := by
  subst hK
  exact ⟨ps_setLc hc hN hy hyl hsw hi.pe ok (fun s H C cl fp => (hg s H C cl fp).pe) (fun s H C cl fp => (ht s H C cl fp).pe) (fun s H C cl fp => (he s H C cl fp).pe) hs,
      tr_asg (tr_ofN (tr_lc hi.tr (hg X.s_0 X.H_0 0 [] []).tr (fun i hi => by simpa using List.all_eq_true.mp hsl i hi) (ht X.s_0 X.H_0 0 [] []).tr (he X.s_0 X.H_0 0 [] []).tr)) tr_name⟩
/-! ### raise -/
def zRaise0 (n : Str) : ZS := fun ρ k => k.ex ρ ⟨n, none⟩
def zRaise1 (n f : Str) (a : ZA) : ZS := fun ρ k => a ρ (fun zs => ∃ d, zs = [.dat d] ∧ k.ex ρ ⟨n, some (f, d)⟩) (k.ex ρ)
/-- a class over ValueError that adds nothing, for a raise -/
structure RaiseZ (K : PySem.W.Frag) (mg : Str → Option Value) (n : Str) : Prop where
  g : mg n = some (.ref (clsAt K n))
  x : PySem.W.excIn K (clsAt K n) veL "ValueError.__new__" = true
  k : PySem.W.keepIn K (.ref (clsAt K n)) = true
  b : PySem.W.subIn K (.ref (clsAt K n)) (.type "BaseException") = some true
  t : PySem.W.typeIn K (.ref (clsAt K n)) = some (.type "type")
theorem tr_raise0 {n : Str} {K : PySem.W.Frag} : TrS K W (fun _ σ H => W (.ref (clsAt K n)) none σ H) (zRaise0 n) := fun F0 H0 F ρ σ H k D g s e hz a => a.ex ⟨n, none⟩ _ _ ρ σ F H g s (.refl _) e ⟨rfl, rfl⟩ hz
theorem pzs_raise0 {n m : Str} {j : Nat} {p2 : Pos} {pos' : Pos} (R : RaiseZ K X.mg n) (hc : X.calm = true) (tk : Takes X W) (hg : Gl X n := by rfl) (hdb : (n == ("__debug__" : Str)) = false := by decide) (hK : X.K = K := by rfl) : PZS K X W (.Raise (some (.Call (.Name n p) [.Constant (.str m) j p2] [] pos)) none pos') (fun _ σ H => W (.ref (clsAt K n)) none σ H) (zRaise0 n) := by
  subst hK
  exact ⟨ps_raise hc tk (pmk_own PySem.F.excBase_ValueError R.x R.g R.k (raises_own R.b R.t) hg hdb), tr_raise0⟩
theorem tr_raise1 {n f : Str} {K : PySem.W.Frag} {as : TA} {zs : ZA} (h : TrA K W as zs) : TrS K W (fun _ σ H => tMkX f (clsAt K n) as σ H fun cls d H' => W cls d σ H') (zRaise1 n f zs) := fun F0 H0 F ρ σ H k D g s e hz a => by
  refine h F ρ σ H _ _ _ g e hz (fun r v H1 r1 d1 h1 => ?_) fun x C d H1 r1 d1 h1 => a.ex x C d ρ σ F H1 (g.rel r1) (s.rel r1) (g.le r1) (e.rel g r1) d1 h1
  obtain ⟨d, rfl, h1⟩ := h1
  obtain ⟨u, rfl, d2⟩ := d1.one
  refine ⟨u, rfl, fun dd nd => ?_⟩
  have r2 : Rel F.S F.O H1 (upd H1 dd (.xd [(f, u)])) := .new nd
  refine a.ex ⟨n, some (f, d)⟩ _ _ ρ σ F _ ((g.rel r1).rel r2) ((s.rel r1).rel r2) ((g.le r1).trans ((g.rel r1).le r2)) ((e.rel g r1).rel (g.rel r1) r2) ⟨rfl, dd, u, rfl, hid_some.mpr ⟨fun z => (g.rel r1).ex dd z nd, upd_same⟩, ?_⟩ h1
  exact Dz.mono (Le.new nd) d d2
theorem pzs_raise1 {n f qual : Str} {B B2 newId : String} {bmB : List Value} {fI : Addr} {k : Nat} {pos' : Pos} (T : PySem.Kx.OwnX K X.mg n f qual B B2 newId bmB (clsAt K n) fI) (hc : X.calm = true) (hr : Room k X.A) (tk : Takes X W) (h : PZA K X W [e] as zs) (hg : Gl X n := by rfl) (hdb : (n == ("__debug__" : Str)) = false := by decide)
    (hs : starEach [e] X.env = (false, eval e X.env) :: starEach [] X.env := by rfl) (hpl : (backTo pos (starEach [] X.env)).any (·.1) = false := by rfl) (hK : X.K = K := by rfl) : PZS K X W (.Raise (some (.Call (.Name n p) [e] [] pos)) none pos') (fun _ σ H => tMkX f (clsAt K n) as σ H fun cls d H' => W cls d σ H') (zRaise1 n f zs) := by
  subst hK
  exact ⟨ps_raise hc tk (pmk_ownX T hr h.pe hg hdb hs hpl), tr_raise1 h.tr⟩
/-! ### types, texts of values, other built-ins -/
theorem pz_isi {T : String} {x2 : Str} {p2 : Pos} (hm : X.mg "isinstance" = none) (hm2 : X.mg x2 = none) (h : PZ K X W a ta za) (hv2 : bootBuiltins x2 = some (.type T) := by decide +kernel) (ht : (tys.all fun t => decide (kitB t T = some (isaT T t))) = true := by decide +kernel) (hg : Gl X "isinstance" := by rfl) (hg2 : Gl X x2 := by rfl)
    (hn : x2 ≠ "__name__" := by decide) (hd : (x2 == ("__debug__" : Str)) = false := by decide) (he : starEach [a, .Name x2 p2] X.env = (false, eval a X.env) :: starEach [.Name x2 p2] X.env := by rfl) (he2 : starEach [.Name x2 p2] X.env = (false, eval (.Name x2 p2) X.env) :: starEach [] X.env := by rfl)
    (hpl : (backTo pos (starEach [.Name x2 p2] X.env)).any (·.1) = false := by rfl) (hK : X.K = K := by rfl) :
    PZ K X W (.Call (.Name "isinstance" p) [a, .Name x2 p2] [] pos) (tCB (rIsi K) (tCons ta (tCons (tC (.ty T)) tNil))) (zOne (k1 (dIsa T)) za) := by
  subst hK
  exact ⟨by
      have h2 : PE X (.Name x2 p2) (tC (.ty T)) := pe_bltn (v := .ty T) hg2 hm2 hv2 rfl hn hd
      have h3 : PA X [a, .Name x2 p2] (tCons ta (tCons (tC (.ty T)) tNil)) := by first | exact pa_cons h.pe (pa_cons h2 pa_nil he2) he | exact pa_cons h.pe (pa_cons h2 pa_nil)
      first | exact pe_callB call_isi hg hm (by decide +kernel) h3 (by decide) (by decide) he hpl | exact pe_callB call_isi hg hm (by decide +kernel) h3 (by decide) (by decide), tr_isi ht h.tr⟩
theorem pe_type {p2 : Pos} (hm : X.mg "type" = none) (h : PE X a ta) (hg : Gl X "type" := by rfl) (he : starEach [a] X.env = (false, eval a X.env) :: starEach [] X.env := by rfl) (hpl : (backTo pos (starEach [] X.env)).any (·.1) = false := by rfl) : PE X (.Call (.Name "type" p2) [a] [] pos) (tCB (rTyZ X.K) (tCons ta tNil)) := by
  have h3 : PA X [a] (tCons ta tNil) := by first | exact pa_cons h pa_nil he | exact pa_cons h pa_nil
  first | exact pe_callTy cr_tyZ hg hm (by decide +kernel) h3 (by decide) (by decide) he hpl | exact pe_callTy cr_tyZ hg hm (by decide +kernel) h3 (by decide) (by decide)
theorem pz_tyIs {T : String} {x2 : Str} {p2 p3 p4 : Pos} {neg : Bool} {op : CmpOp} (ho : OpR X (compareOp op) (rTyIs neg)) (hm : X.mg "type" = none) (hm2 : X.mg x2 = none) (h : PZ K X W a ta za) (hb : behindInMarks op (.Name x2 p4) = false) (hv2 : bootBuiltins x2 = some (.type T) := by decide +kernel) (hg : Gl X "type" := by rfl) (hg2 : Gl X x2 := by rfl)
    (hn : x2 ≠ "__name__" := by decide) (hd : (x2 == ("__debug__" : Str)) = false := by decide) (he : starEach [a] X.env = (false, eval a X.env) :: starEach [] X.env := by rfl) (hpl : (backTo p3 (starEach [] X.env)).any (·.1) = false := by rfl) (hK : X.K = K := by rfl) :
    PZ K X W (.Compare (.Call (.Name "type" p2) [a] [] p3) [op] [.Name x2 p4] pos) (tOp (rTyIs neg) (tCB (rTyZ K) (tCons ta tNil)) (tC (.ty T))) (zOne (k1 (dTy T neg)) za) := by
  subst hK
  exact ⟨pe_cmpR ho (pe_type hm h.pe hg he hpl) (pe_bltn (v := .ty T) hg2 hm2 hv2 rfl hn hd) hb, tr_tyIs h.tr⟩
theorem pzt_tyIs {T : String} {x2 : Str} {p2 p3 p4 : Pos} {neg : Bool} {op : CmpOp} (ho : OpR X (compareOp op) (rTyIs neg)) (hm : X.mg "type" = none) (hm2 : X.mg x2 = none) (h : PZ K X W a ta za) (hb : behindInMarks op (.Name x2 p4) = false) (hv2 : bootBuiltins x2 = some (.type T) := by decide +kernel) (hg : Gl X "type" := by rfl) (hg2 : Gl X x2 := by rfl)
    (hn : x2 ≠ "__name__" := by decide) (hd : (x2 == ("__debug__" : Str)) = false := by decide) (he : starEach [a] X.env = (false, eval a X.env) :: starEach [] X.env := by rfl) (hpl : (backTo p3 (starEach [] X.env)).any (·.1) = false := by rfl) (hK : X.K = K := by rfl) :
    PZT K X W (.Compare (.Call (.Name "type" p2) [a] [] p3) [op] [.Name x2 p4] pos) (tTest (tOp (rTyIs neg) (tCB (rTyZ K) (tCons ta tNil)) (tC (.ty T)))) (zB (zOne (k1 (dTy T neg)) za)) := by
  subst hK
  exact ⟨pt_cmpR ho (pe_type hm h.pe hg he hpl) (pe_bltn (v := .ty T) hg2 hm2 hv2 rfl hn hd) hb, tr_test (tr_tyIs h.tr)⟩
/-- a module's tuple of data -/
structure GTup (K : PySem.W.Frag) (mg : Str → Option Value) (x : Str) (ds : List PyData) : Prop where
  ex : ∃ p, mg x = some (.ref p) ∧ ∀ H, Dz K H (.ref p) (.tuple ds)
def tGl (K : PySem.W.Frag) (ds : List PyData) : TE := fun _ H Q => ∀ p, (∀ H', Dz K H' (.ref p) (.tuple ds)) → Q (.ref p) H
theorem pz_gtup {x : Str} {ds : List PyData} (G : GTup K X.mg x ds) (hg : Gl X x := by rfl) (hd : (x == ("__debug__" : Str)) = false := by decide) (hK : X.K = K := by rfl) : PZ K X W (.Name x pos) (tGl K ds) (zC (.tuple ds)) := by
  subst hK
  obtain ⟨p, hm, hz⟩ := G.ex
  refine ⟨⟨fun pins s σ H Q I h => ?_⟩, fun F ρ σ H Qz Ez Q g e h q x' p' hp' => ?_⟩
  · exact (pe_glob (v := .ref p) hg hm rfl hd).run pins s σ H Q I (h p hz)
  · exact q (.dat (.tuple ds)) _ H (.refl _ _ _) (hp' _) h
theorem pz_lower {apos : Pos} (ho : PZ K X W a ta za) (hbase : attributeBase a "lower" X.env (eval a X.env) = eval a X.env := by rfl) (hline : (apos.endLine == pos.line) = true := by rfl) (hK : X.K = K := by rfl) : PZ K X W (.Call (.Attribute a "lower" apos) [] [] pos) (tM0 (fun x xs H Q => ∃ a, x = .str a ∧ xs = [] ∧ a.length ≤ 5592405 ∧ Q (.str (Txt.lower a)) H) ta) (zOne (k1 dLower) za) := by
  subst hK
  exact ⟨pe_lower ho.pe hbase hline, tr_lower ho.tr⟩
theorem pz_upper {apos : Pos} (ho : PZ K X W a ta za) (hbase : attributeBase a "upper" X.env (eval a X.env) = eval a X.env := by rfl) (hline : (apos.endLine == pos.line) = true := by rfl) (hK : X.K = K := by rfl) : PZ K X W (.Call (.Attribute a "upper" apos) [] [] pos) (tM0 (fun x xs H Q => ∃ a, x = .str a ∧ xs = [] ∧ a.length ≤ 5592405 ∧ Q (.str (Txt.upper a)) H) ta) (zOne (k1 dUpper) za) := by
  subst hK
  exact ⟨pe_upper ho.pe hbase hline, tr_upper ho.tr⟩
theorem pz_lenScr {i : Nat} {x : Str} {p2 : Pos} (hm : X.mg "len" = none) (hN : X.N[i]? = some x) (hv : Vis X.env.scope x) (hd : (x == ("__debug__" : Str)) = false := by decide) (hcd : (x == ("__classdict__" : Str)) = false := by decide) (hg : Gl X "len" := by rfl) (he : starEach [.Name x p2] X.env = (false, eval (.Name x p2) X.env) :: starEach [] X.env := by rfl) (hpl : (backTo pos (starEach [] X.env)).any (·.1) = false := by rfl) (hK : X.K = K := by rfl) : PZ K X W (.Call (.Name "len" p) [.Name x p2] [] pos) (tCB (rLenZ K) (tCons (tVar i) tNil)) (zLenScr i) := by
  subst hK
  exact ⟨by
      have h3 : PA X [.Name x p2] (tCons (tVar i) tNil) := by first | exact pa_cons (pe_var hN hv hd hcd) pa_nil he | exact pa_cons (pe_var hN hv hd hcd) pa_nil
      first | exact pe_callB cr_lenZ hg hm (by decide +kernel) h3 (by decide) (by decide) he hpl | exact pe_callB cr_lenZ hg hm (by decide +kernel) h3 (by decide) (by decide), tr_lenScr⟩
theorem pzs_append {i : Nat} {x : Str} {p2 apos pos' : Pos} (hN : X.N[i]? = some x) (hv : Vis X.env.scope x) (h : PZ K X W e te ze) (hd : (x == ("__debug__" : Str)) = false := by decide) (hcd : (x == ("__classdict__" : Str)) = false := by decide) (hpe : PE X (.Name x p2) (tVar i) → PE X e te → PS X (.Expr (.Call (.Attribute (.Name x p2) "append" apos) [e] [] pos) pos') (tDrop (tBM K "list" rAppend (tVar i) (tCons te tNil)))) (hK : X.K = K := by rfl) :
    PZS K X W (.Expr (.Call (.Attribute (.Name x p2) "append" apos) [e] [] pos) pos') (tDrop (tBM K "list" rAppend (tVar i) (tCons te tNil))) (zAppend i ze) := by
  subst hK
  exact ⟨hpe (pe_var hN hv hd hcd) h.pe, tr_append h.tr⟩
theorem pzs_extend {i : Nat} {x : Str} {p2 apos pos' : Pos} (hN : X.N[i]? = some x) (hv : Vis X.env.scope x) (h : PZ K X W e te ze) (hd : (x == ("__debug__" : Str)) = false := by decide) (hcd : (x == ("__classdict__" : Str)) = false := by decide) (hpe : PE X (.Name x p2) (tVar i) → PE X e te → PS X (.Expr (.Call (.Attribute (.Name x p2) "extend" apos) [e] [] pos) pos') (tDrop (tBM K "list" rExtend (tVar i) (tCons te tNil)))) (hK : X.K = K := by rfl) :
    PZS K X W (.Expr (.Call (.Attribute (.Name x p2) "extend" apos) [e] [] pos) pos') (tDrop (tBM K "list" rExtend (tVar i) (tCons te tNil))) (zExtend i ze) := by
  subst hK
  exact ⟨hpe (pe_var hN hv hd hcd) h.pe, tr_extend h.tr⟩
end
section
variable {P : Program} {w : World} {K : PySem.W.Frag} {mg : Str → Option Value} {base : Heap}
/-- a def by the meaning of its body -/
theorem fnP {x : Str} {st : Stmt} {f : Addr} {fd : FuncData} {N ps : List Str} {k n : Nat} {zb : ZS} (F : L2.Fun K x x st f fd) (S : FnScope N ps (defScope st)) (g : mg x = some (.ref f)) (b : Binds K fd ps []) (hn : ps.length = n)
    (hbody : ∀ (cdv : Value) (A : Around) (outer : List Env) (s : Shared) (H : Hp) (E : XK), (A.deeper (envOfC x (defScope st) s.heap.objs.size f cdv)).guards = some [] → Room k (A.deeper (envOfC x (defScope st) s.heap.objs.size f cdv)) →
      Takes (cxOf (L2.CX P w) P w K mg base N x (defScope st) f cdv A outer s H E) (fun cls d _ H => E cls d H) → PassesOwn (model P w) (A.deeper (envOfC x (defScope st) s.heap.objs.size f cdv)) (envOfC x (defScope st) s.heap.objs.size f cdv) (cxOf (L2.CX P w) P w K mg base N x (defScope st) f cdv A outer s H E).xe →
      ∃ t, PZB K (cxOf (L2.CX P w) P w K mg base N x (defScope st) f cdv A outer s H E) (fun cls d _ H => E cls d H) (defBody st) t zb) : Fz P w K mg base (k + 1) x n (zFnOk N.length zb) := by
  subst hn
  refine ⟨f, fd, ps, fnZ F S fun cdv A outer s H E gA hr tk hp => ?_, g, F.kp, b⟩
  obtain ⟨t, B⟩ := hbody cdv A outer s H E gA hr tk hp
  exact ⟨t, B.pe, B.tr⟩
end
end Zl
end
section
/-! Z9: what the generator names -/
namespace Zl
open PySem PySem.Spec PyProof.Rows L2 Kb
variable [Tabd]
/-- a class with one field, for a raise -/
def OwnZ (K : PySem.W.Frag) (mg : Str → Option Value) (n f : Str) : Prop := ∃ (qual : Str) (B B2 newId : String) (bmB : List Value) (fI : Addr), PySem.Kx.OwnX K mg n f qual B B2 newId bmB (clsAt K n) fI
section
variable {K : PySem.W.Frag} {X : Cx} {W : WX} {e : Expr} {as : TA} {zs : ZA} {pos p : Pos}
theorem pzs_raise1Z {n f : Str} {k : Nat} {pos' : Pos} (T : OwnZ K X.mg n f) (hc : X.calm = true) (hr : Room k X.A) (tk : Takes X W) (h : PZA K X W [e] as zs) (hg : Gl X n := by rfl) (hdb : (n == ("__debug__" : Str)) = false := by decide)
    (hs : starEach [e] X.env = (false, eval e X.env) :: starEach [] X.env := by rfl) (hpl : (backTo pos (starEach [] X.env)).any (·.1) = false := by rfl) (hK : X.K = K := by rfl) : PZS K X W (.Raise (some (.Call (.Name n p) [e] [] pos)) none pos') (fun _ σ H => tMkX f (clsAt K n) as σ H fun cls d H' => W cls d σ H') (zRaise1 n f zs) := by
  obtain ⟨qual, B, B2, newId, bmB, fI, T⟩ := T
  exact pzs_raise1 T hc hr tk h hg hdb hs hpl hK
end
end Zl
end
section
/-! Z10: streams -/
namespace Zl
open PySem PySem.Spec PyProof.Rows L2 Kb
variable [Tabd]
section
variable {X : Cx} {W : WX} {k j : Nat} {x : Str} {p pos : Pos} {e : Expr} {es : List Expr} {t : TA} {sp : Sp}
/-- a def with any promise, called -/
structure Fs (P : Program) (w : World) (K : PySem.W.Frag) (mg : Str → Option Value) (base : Heap) (k : Nat) (x : Str) (sp : Sp) : Prop where
  ex : ∃ (fa : Addr) (fd : FuncData) (ps : List Str), FnG P w K mg base (L2.CX P w) k fa fd ps sp ∧ mg x = some (.ref fa) ∧ PySem.W.keepIn K (.ref fa) = true ∧ Binds K fd ps []
theorem pe_callS (c : Fs X.prog X.w X.K X.mg X.base k x sp) (gA : X.A.guards = some []) (hr : Room j X.A) (tk : Takes X W) (ha : PA X (e :: es) t) (hk : k ≤ j := by decide) (hg : Gl X x := by rfl)
    (hdb : (x == ("__debug__" : Str)) = false := by decide) (he : starEach (e :: es) X.env = (false, eval e X.env) :: starEach es X.env := by rfl) (hpl : (backTo pos (starEach es X.env)).any (·.1) = false := by rfl) :
    PE X (.Call (.Name x p) (e :: es) [] pos) (tCallS sp (WE W) t) := by
  obtain ⟨fa, fd, ps, F, hm, hkp, hb⟩ := c.ex
  refine ⟨fun pins s σ H Q I h => ?_⟩
  refine wpAny_Call_Name_kw (ld_glob I hg hm ?_ hdb)
  refine PySem.W.callWith_K (h₀ := X.base) I.ok.mod.kin hkp (thn (ha.run pos pins s σ H _ I h) fun us s1 ⟨vs, H1, I1, r, q⟩ => ⟨I1.kIn, ?_⟩) he hpl
  exact run_fnG F gA (hr.mono hk) hb tk I1 r q
end
/-- a new stream of a script -/
def spStream (K : PySem.W.Frag) : Sp := fun vs H Q _ => ∃ (a : Addr) (ns : List Int) (k : Int), vs = [.ref a, .int k] ∧ SqL K H a (ns.map V.int) ∧ 0 ≤ k ∧
  ∀ H' p, (∀ b o, H b = some o → H' b = some o) → H p = none → StOk H' p → Q (.ref p) H'
def zStream (i : Nat) (a : ZA) : ZS := fun ρ k => a ρ (fun zs => ∃ ns kk, zs = [.scr ns, .dat (.int kk)] ∧ 0 ≤ kk ∧ i < ρ.length ∧ k.nx (ρ.set i (some .strm))) (k.ex ρ)
theorem Good.growS {F : Fr} {H H' : Hp} {p : Addr} (g : Good F H) (r : Rel F.S F.O H H') (n : H p = none) (h : StOk H' p) (ht : p ∉ tabs) : Good ⟨p :: F.S, p :: F.O, F.N⟩ H' := by
  have g1 := g.rel r
  have hp : H' p ≠ none := h.some
  have hn : Nf H' p := by
    obtain ⟨x, y, z, e⟩ := h
    exact ⟨_, e, id⟩
  refine ⟨fun a h => ?_, fun a h => List.mem_cons_of_mem _ (g.no a h), fun a h z => ?_, fun a h' t => ?_, fun a h' => ?_, fun a t => List.mem_cons_of_mem _ (g.tS a t), g1.tb.hide hn⟩
  · rcases List.mem_cons.mp h with h | h
    · rw [h]; exact List.mem_cons_self
    · exact List.mem_cons_of_mem _ (g.so a h)
  · rcases List.mem_cons.mp z with z | z
    · exact g.ex a (g.no a h) (by rw [z]; exact n)
    · exact g.ns a h z
  · rcases List.mem_cons.mp h' with h' | h'
    · rw [h']; exact h
    · exact g1.st a h' t
  · rcases List.mem_cons.mp h' with h' | h'
    · rw [h']; exact hp
    · exact g1.ex a h'
theorem Si.growS {F0 F : Fr} {H0 H H' : Hp} {p : Addr} (s : Si F0 H0 F H) (g : Good F H) (r : Rel F.S F.O H H') (n : H p = none) : Si F0 H0 ⟨p :: F.S, p :: F.O, F.N⟩ H' := by
  have n0 : H0 p = none := s.gone (fun a h => g.some (s.subS a h)) n
  have s1 := s.rel r
  refine ⟨fun a h => List.mem_cons_of_mem _ (s.sub a h), fun a h => List.mem_cons_of_mem _ (s.subS a h), fun a h => ?_, s.newN, fun a h => ?_, s1.kp, s.ex0⟩
  · rcases List.mem_cons.mp h with h | h
    · rw [h]; exact .inr n0
    · exact s.newS a h
  · rcases List.mem_cons.mp h with h | h
    · rw [h]; exact .inr n0
    · exact s.newO a h
theorem RZ.growS {K : PySem.W.Frag} {F : Fr} {H H' : Hp} {p : Addr} (g : Good F H) (r : Rel F.S F.O H H') (n : H p = Option.none) : ∀ {z : Z} {v : V}, RZ K F H z v → RZ K ⟨p :: F.S, p :: F.O, F.N⟩ H' z v := by
  have l : Le (hid F.O H) (hid (p :: F.O) H') := Le.grow g r n
  intro z v h
  cases z with
  | dat d => exact Dz.mono l d h
  | strm =>
    obtain ⟨a, h1, h2⟩ := h
    exact ⟨a, List.mem_cons_of_mem _ h1, h2⟩
  | own ds =>
    obtain ⟨q, xs, e1, e2, e3, e4⟩ := h
    exact ⟨q, xs, e1, e2, r.kp q _ (g.ns q e2) e3, Dz.monos l ds e4⟩
  | ownD ds =>
    obtain ⟨q, xs, e1, e2, e3, e4⟩ := h
    exact ⟨q, xs, e1, e2, r.kp q _ (g.ns q e2) e3, Dz.monoK l ds e4⟩
  | exc _ _ => exact h
  | exf _ _ _ _ _ => exact RZ.le_exf l h
  | clo _ => exact RZ.le_clo l h
  | scr ns =>
    obtain ⟨a, e1, e2⟩ := h
    exact ⟨a, e1, l.seqL e2⟩
theorem tr_stream {K : PySem.W.Frag} {W : WX} {i : Nat} {ta : TA} {za : ZA} (h : TrA K W ta za) : TrS K W (tAsg (tCallS (spStream K) (WE W) ta) (gName i)) (zStream i za) := fun F0 H0 F ρ σ H k D g s e hz a => by
  refine h F ρ σ H _ _ _ g e hz (fun r v H1 r1 d1 h1 => ?_) fun x C d H1 r1 d1 h1 => a.ex x C d ρ σ F H1 (g.rel r1) (s.rel r1) (g.le r1) (e.rel g r1) d1 h1
  obtain ⟨ns, kk, rfl, hk, hi, q⟩ := h1
  cases d1 with
  | cons q1 t =>
    cases t with
    | cons q2 t =>
      cases t
      obtain ⟨b, rfl, hs⟩ := q1
      cases (show Dz K _ _ (.int kk) from q2)
      refine ⟨b, ns, kk, rfl, Le.hid_self.seqL hs, hk, fun H2 p r2 n2 st2 => ?_⟩
      have g1 := g.rel r1
      have rr : Rel F.S F.O H1 H2 := .keep r2
      have n0 : H p = none := by
        cases e : H p with
        | none => rfl
        | some o =>
          by_cases hS : p ∈ F.S
          · exact absurd n2 (g1.some hS)
          · have := r1.kp p o hS e
            rw [n2] at this
            cases this
      have hpt : p ∉ tabs := fun t => g1.some (g1.tS p t) n2
      have e1 := e.rel g r1
      have s1 := s.rel r1
      refine a.nx _ ⟨p :: F.S, p :: F.O, F.N⟩ _ H2 (g1.growS rr n2 st2 hpt) (s1.growS g1 rr n2) ((g.le r1).trans (Le.grow g1 rr n2)) ⟨fun j z hj => ?_, fun j1 j2 es1 es2 u n k1 k2 k3 k4 m1 m2 => ?_, by rw [List.length_set, List.length_set, e.len]⟩ q
      · by_cases c : i = j
        · subst c
          rw [List.getElem?_set_self hi] at hj
          cases hj
          exact ⟨.ref p, List.getElem?_set_self (by rw [← e.len]; exact hi), p, List.mem_cons_self, hpt, rfl⟩
        · rw [List.getElem?_set_ne c] at hj ⊢
          obtain ⟨v, e2, e3⟩ := e1.at_ j z hj
          exact ⟨v, e2, e3.growS g1 rr n2⟩
      · have old : ∀ (j : Nat) z, z.mine → (ρ.set i (some Z.strm))[j]? = some (some z) → i ≠ j := fun j z m hj c => by
          subst c
          rw [List.getElem?_set_self hi] at hj
          cases hj
          exact m
        have c1 := old j1 _ m1 k1
        have c2 := old j2 _ m2 k2
        rw [List.getElem?_set_ne c1] at k1 k3
        rw [List.getElem?_set_ne c2] at k2 k4
        exact e1.df j1 j2 es1 es2 u n k1 k2 k3 k4 m1 m2
section
variable {K : PySem.W.Frag} {X : Cx} {W : WX} {k j : Nat} {x : Str} {p pos apos : Pos} {e : Expr} {es : List Expr} {as : TA} {zs : ZA}
theorem pzs_stream {i : Nat} {y : Str} {pos' : Pos} (c : Fs X.prog X.w K X.mg X.base k x (spStream K)) (gA : X.A.guards = some []) (hr : Room j X.A) (tk : Takes X W) (hN : X.N.Nodup) (hi : X.N[i]? = some y) (hx : Loc X.env.scope y) (h : PZA K X W (e :: es) as zs) (hk : k ≤ j := by decide) (hg : Gl X x := by rfl)
    (hdb : (x == ("__debug__" : Str)) = false := by decide) (he : starEach (e :: es) X.env = (false, eval e X.env) :: starEach es X.env := by rfl) (hpl : (backTo pos (starEach es X.env)).any (·.1) = false := by rfl)
    (hs : swapsWith (.Call (.Name x p) (e :: es) [] pos) (some (.Name y pos')) apos.line X.env = pure false := by rfl) (hf : X.fn y = true ∨ X.env.scope.names.lookup y = some .local := by first | exact .inl rfl | exact .inr rfl | assumption) (hK : X.K = K := by rfl) :
    PZS K X W (.Assign [.Name y pos'] (.Call (.Name x p) (e :: es) [] pos) apos) (tAsg (tCallS (spStream K) (WE W) as) (gName i)) (zStream i zs) := by
  subst hK
  exact ⟨ps_set hN hi hx (pe_callS c gA hr tk h.pe hk hg hdb he hpl) hs hf, tr_stream h.tr⟩
end
/-- a draw -/
def zDraw : ZF := fun zs Q _ => ∃ n : Int, zs = [.strm, .dat (.int n)] ∧ 0 < n ∧ n.natAbs.log2 < 9000 ∧ ∀ j : Int, 0 ≤ j → j < n → Q (.dat (.int j))
theorem Rel.ev {S O : List Addr} {a : Addr} {H H' : Hp} (h : a ∈ S) (ho : a ∈ O) (ht : a ∉ tabs) (e : Ev a H H') : Rel S O H H' := ⟨fun b o n q => e.1 b o (fun z => n (by rw [z]; exact h)) q, fun b hb _ q => by
  by_cases c : b = a
  · subst c; exact e.2
  · obtain ⟨x, y, z, u⟩ := q
    exact ⟨x, y, z, e.1 b _ c u⟩, fun t => t.mono (fun p hp ps q => e.1 _ _ (fun z => ht (by rw [← z]; exact tabs_mem hp)) q) fun c o q => by
  rw [hid_some] at q ⊢
  exact ⟨q.1, e.1 c o (fun z => q.1 (by rw [z]; exact ho)) q.2⟩⟩
end Zl
end
section
/-! Z11: more operations: t * n, t[::-1], text.index, dict displays -/
namespace Zl
open PySem PySem.Spec PyProof.Rows L2 Kb
variable [Tabd]
section
variable {prog : Program} {w : World} {A : Around} {E : Value → Shared → Prop} {s : Shared}
open HT in
theorem sliceApplied_rev {sl : Addr} {vl vu vs : Value} {n : Nat} {Q : Int × Int × Nat → Shared → Prop} (hs : s.heap.IsSliceOf sl vl vu vs) (pl : IsPart vl none) (pu : IsPart vu none) (ps : IsPart vs (some (-1)))
    (h : Q ((n : Int) - 1, -1, n) s) : wpAny (model prog w) A (Builtin.Slice.sliceApplied (.ref sl) (pure (n : Int))) Q E s := by
  obtain ⟨os, hos, hcs, hds⟩ := id hs
  unfold Builtin.Slice.sliceApplied Builtin.Slice.sliceFields
  refine wpAny_bind (wpAny_bind (wpAny_field hos hds (x := vl) rfl (wpAny_bind (wpAny_field hos hds (x := vu) rfl (wpAny_bind (wpAny_field hos hds (x := vs) rfl (wpAny_pure ?_)))))))
  refine wpAny_bind (slicePart_ ps ?_)
  show wpAny _ _ (if ((-1 : Int) == 0) = true then _ else _) _ _ s
  rw [if_neg (by decide)]
  refine wpAny_bind (slicePart_ pl (wpAny_bind (slicePart_ pu (wpAny_bind (wpAny_pure ?_)))))
  show wpAny _ _ (match Builtin.Slice.sliceAdjust none none (-1) (n : Int) with | (lo, hi) => pure (lo, (-1 : Int), Builtin.Slice.slicePlaces lo hi (-1))) _ _ s
  have e : Builtin.Slice.sliceAdjust none none (-1) (n : Int) = ((n : Int) - 1, -1) := by
    unfold Builtin.Slice.sliceAdjust
    simp
  rw [e]
  show wpAny _ _ (pure ((n : Int) - 1, (-1 : Int), Builtin.Slice.slicePlaces ((n : Int) - 1) (-1) (-1))) _ _ s
  have e2 : Builtin.Slice.slicePlaces ((n : Int) - 1) (-1) (-1) = n := by
    unfold Builtin.Slice.slicePlaces
    simp
    omega
  rw [e2]
  exact wpAny_pure h
theorem fmc {α β : Type} {f g : α → Option β} : ∀ {l : List α}, (∀ x ∈ l, f x = g x) → l.filterMap f = l.filterMap g
  | [], _ => rfl
  | a :: l, h => by rw [List.filterMap_cons, List.filterMap_cons, h a List.mem_cons_self, fmc fun x hx => h x (List.mem_cons_of_mem _ hx)]
theorem pick_rev (xs : Array Value) : ((List.range xs.size).filterMap fun (k : Nat) => xs[(((xs.size : Int) - 1) + (k : Int) * (-1)).toNat]?).toArray = xs.toList.reverse.toArray := by
  have e : (List.range xs.size).filterMap (fun (k : Nat) => xs[(((xs.size : Int) - 1) + (k : Int) * (-1)).toNat]?) = ((List.range xs.size).map fun k => xs.size - 1 - k).filterMap (xs[·]?) := by
    rw [List.filterMap_map]
    refine fmc fun k hk => ?_
    have := List.mem_range.mp hk
    show xs[_]? = xs[xs.size - 1 - k]?
    congr 1
    omega
  rw [e, PySem.W.krv_range, List.filterMap_reverse, PySem.W.krv_all]
open HT in
theorem getItem_tuple_rev {t sl : Addr} {items : Array Value} {vl vu vs : Value} {Q : Value → Shared → Prop} (ht : IsTup s.heap t items) (hs : s.heap.IsSliceOf sl vl vu vs) (pl : IsPart vl none) (pu : IsPart vu none) (ps : IsPart vs (some (-1)))
    (h : Q (.ref s.heap.objs.size) { s with heap := s.heap.push { cls := .type "tuple", data := .seq items.toList.reverse.toArray } }) (hsz : items.size ≤ sizeLine) : wpAny (model prog w) A (getItem (.ref t) (.ref sl)) Q E s := by
  have htake : sizeOk (.seq items.toList.reverse.toArray) := by
    show items.toList.reverse.toArray.size ≤ sizeLine
    rw [List.size_toArray, List.length_reverse, Array.length_toList]
    exact hsz
  obtain ⟨os, hos, hcs, hds⟩ := id hs
  have hTs : s.TypeIs (.ref sl) "slice" := ⟨os, hos, hcs⟩
  unfold getItem
  try with_reducible refine wpAny_holding ?_
  first | refine wpAny_bind (wpAny_pure ?_) | skip
  refine wpAny_bind (wpAny_sequenceKey ht.typeIs (by decide) ?_)
  refine wpAny_bind (wpAny_callSpecial?_slot (name := Str.ofString "__getitem__") ht.typeIs PyProof.Rows.slot_tuple_getitem
    (wpAny_call_entry PyProof.Rows.slot_tuple_getitem ht.typeIs entry_tuple_getitem ?_ (args_tuple_getitem _ _)))
  show wpAny _ _ (Builtin.Tuple.tupleItemsOf (.ref t) >>= _) _ _ s
  refine wpAny_bind (tupleItemsOf_ ht ?_)
  refine wpAny_bind (wpAny_typeOf hTs ?_)
  rw [if_pos (by decide)]
  refine wpAny_bind (sliceApplied_rev hs pl pu ps ?_)
  have hno : ¬ ((((items.size : Int) - 1) == 0 && (-1 : Int) == 1 && items.size == items.size) = true) := by
    intro q
    rw [Bool.and_eq_true, Bool.and_eq_true] at q
    exact absurd q.1.2 (by decide)
  show wpAny _ _ (if (((items.size : Int) - 1) == 0 && (-1 : Int) == 1 && items.size == items.size) = true then _ else _) _ _ s
  rw [if_neg hno, pick_rev]
  first
    | exact wpAny_bind (m := Builtin.Tuple.tupleExact _) (wpAny_newObj_type (wpAny_pure ⟨_, rfl, wpAny_pure h⟩) htake)
    | exact wpAny_bind (m := Builtin.Tuple.tupleExact _) (wpAny_newObj_type (wpAny_bind (wpAny_pure (wpAny_pure ⟨_, rfl, wpAny_pure h⟩))) htake)
    | exact wpAny_bind (wpAny_bind (m := Builtin.Tuple.tupleExact _) (wpAny_newObj_type (wpAny_pure (wpAny_pure ⟨_, rfl, wpAny_pure h⟩)) htake))
    | exact wpAny_bind (wpAny_bind (m := Builtin.Tuple.tupleExact _) (wpAny_newObj_type (wpAny_pure ⟨_, rfl, wpAny_pure h⟩) htake))
end
/-! ### t[::-1] -/
def tRevT (K : PySem.W.Frag) (te : TE) : TE := fun σ H Q => te σ H fun x H1 => ∃ a xs, x = .ref a ∧ SqT K H1 a xs ∧ ∀ p, H1 p = none → Q (.ref p) (upd H1 p (.tup xs.reverse))
theorem pe_revT {X : Cx} {e : Expr} {te : TE} {k : Nat} {p1 p2 p3 pos : Pos} (he : PE X e te) : PE X (.Subscript e (.Slice none none (some (.UnaryOp .USub (.Constant (.int 1) k p1) p2)) p3) pos) (tRevT X.K te) := by
  refine ⟨fun pins s σ H Q I h => ?_⟩
  refine Subscript_ (thn (he.run pins s σ H _ I h) fun v s1 ⟨x, H1, I1, r1, q1⟩ => ?_)
  obtain ⟨a, xs, ex, hx, q⟩ := q1
  subst ex
  cases r1
  have hst : PO X (some (.UnaryOp .USub (.Constant (.int 1) k p1) p2)) (tPart (tUn (rU fun i => .int (-i)) (tC (.int 1)))) := po_some (pe_un un_neg pe_int)
  refine wpAny_Slice (thn (po_none.run pins s1 σ H1 (fun o H2 => o = none ∧ H2 = H1) I1 ⟨rfl, rfl⟩) fun vl s2 ⟨l, H2, I2, pl, el, e2⟩ => ?_)
  subst el e2
  refine thn (po_none.run pins s2 σ H2 (fun o H3 => o = none ∧ H3 = H2) I2 ⟨rfl, rfl⟩) fun vu s3 ⟨u, H3, I3, pu, eu, e3⟩ => ?_
  subst eu e3
  refine thn (hst.run pins s3 σ H3 (fun o H4 => o = some (-1) ∧ H4 = H3) I3 ⟨1, rfl, -1, rfl, rfl, rfl⟩) fun vs s4 ⟨o, H4, I4, ps, eo, e4⟩ => ?_
  subst eo e4
  have I5 : Inv X pins σ H4 { s4 with heap := s4.heap.push { cls := .type "slice", data := .fields #[vl, vu, vs] } } := I4.kept (t' := s4.toks) fun b ob q => Heap.get?_push_of_some _ q
  obtain ⟨its, r, ht, hz⟩ := I5.tuple hx
  have hlen := r.length
  show wpAny (model X.prog X.w) X.A (subscriptTail e (.Slice none none (some (.UnaryOp .USub (.Constant (.int 1) k p1) p2)) p3) (.ref a) (.ref s4.heap.objs.size)) (EP X pins σ Q) X.xe { s4 with heap := s4.heap.push { cls := .type "slice", data := .fields #[vl, vu, vs] } }
  refine tail_any (ops := [.ref a, .ref s4.heap.objs.size]) ht.typeIs (PyProof.Rows.slot_tuple_getitem.lookup) ?_ (by with_unfolding_all rfl)
  refine getItem_tuple_rev ht (Heap.IsSliceOf.new _ vl vu vs) pl pu ps ?_ (by rw [List.size_toArray]; omega)
  refine ⟨.ref _, _, I5.laid (t' := s4.toks) (o := .tup xs.reverse) (fun b ob q => Heap.get?_push_of_some _ q) (Nat.le_refl _) ?_, rfl, q _ (I5.hok.fresh (Nat.le_refl _))⟩
  exact ⟨by rw [List.length_reverse]; exact hz, _, r.reverse, IsTup.new _ _⟩
/-! ### t * n -/
theorem tuple_mulW1 (l : Addr) (items : Array Value) (n : Nat) (dd : Option Addr) (sl : Array (Option Value)) (x : Int) (u : Tok) (c0 : (decide (x < -(2 ^ 63)) || decide (x ≥ 2 ^ 63)) = false) (c1 : (items.isEmpty || x == 1) = true) :
    Meets (Builtin.«tuple.__mul__» ⟨[.ref l, .int x u], []⟩) (fun _ R s => s.heap.get? l = some { cls := .type "tuple", dict := dd, data := .seq items n, slots := sl } ∧ R (.ok (.ret (Value.ref l))) { s with heap := s.heap, toks := s.toks }) :=
  .of_wp fun prog w A R s h => by
    obtain ⟨hp, g, d, tk, os⟩ := s
    obtain ⟨hl, h⟩ := h
    have f1 := AutoSeq1.idx_int
    wp_walk using wpAny_loadPart' hl
    repeat (first
      | (refine wpAny_ite_false (decide_eq_false (by rw [c0]; exact Bool.false_ne_true)) ?_; wp_walk using wpAny_loadPart' hl)
      | (refine wpAny_ite_true (decide_eq_true c1) ?_; wp_walk using wpAny_loadPart' hl))
    exact ⟨_, rfl, h⟩
theorem tuple_mulW2 (l : Addr) (items : Array Value) (n : Nat) (dd : Option Addr) (sl : Array (Option Value)) (x : Int) (u : Tok) (c0 : (decide (x < -(2 ^ 63)) || decide (x ≥ 2 ^ 63)) = false) (c1 : (items.isEmpty || x == 1) = false) (c2 : (decide (x ≤ 0) || items.isEmpty) = true) :
    Meets (Builtin.«tuple.__mul__» ⟨[.ref l, .int x u], []⟩) (fun _ R s => s.heap.get? l = some { cls := .type "tuple", dict := dd, data := .seq items n, slots := sl } ∧ R (.ok (.ret (Value.ref s.heap.objs.size))) { s with heap := s.heap.push { cls := Value.type "tuple", data := Data.seq #[] }, toks := s.toks }) :=
  .of_wp fun prog w A R s h => by
    obtain ⟨hp, g, d, tk, os⟩ := s
    obtain ⟨hl, h⟩ := h
    have f1 := AutoSeq1.idx_int
    wp_walk using wpAny_loadPart' hl
    repeat (first
      | (refine wpAny_ite_false (decide_eq_false (by rw [c0]; exact Bool.false_ne_true)) ?_; wp_walk using wpAny_loadPart' hl)
      | (refine wpAny_ite_false (decide_eq_false (by rw [c1]; exact Bool.false_ne_true)) ?_; wp_walk using wpAny_loadPart' hl)
      | (refine wpAny_ite_true (decide_eq_true c2) ?_; wp_walk using wpAny_loadPart' hl))
    exact ⟨_, rfl, h⟩
def rMulTA (K : PySem.W.Frag) : R2 := fun x y H Q => ∃ l k xs, x = .ref l ∧ y = .int k ∧ SqT K H l xs ∧ -1000 ≤ k ∧ k ≤ 1000 ∧ xs.length ≤ 1000 ∧
  (xs = [] ∨ k = 1 → Q (.ref l) H) ∧ (¬ (xs = [] ∨ k = 1) → ∀ p, H p = none → Q (.ref p) (upd H p (.tup (List.replicate k.toNat xs).flatten)))
theorem op_mulTA {X : Cx} : OpR X (binaryOp .Mult) (rMulTA X.K) := by
  intro pins s σ H x y v u Q I rx ry h
  obtain ⟨l, k, xs, rfl, rfl, hT, h1, h2, hz, q1, q2⟩ := h
  by_cases hs : xs = [] ∨ k = 1
  · cases rx
    obtain ⟨t, rfl⟩ := ry
    obtain ⟨its, r, ⟨⟨cls, dd, data, sl⟩, ho, hc, n, hd⟩, hsz⟩ := I.tuple hT
    simp only at hc hd
    subst hc hd
    have c0 : (decide (k < -(2 ^ 63)) || decide (k ≥ 2 ^ 63)) = false := by
      rw [decide_eq_false (by omega), decide_eq_false (by omega)] <;> rfl
    have c1 : (its.toArray.isEmpty || k == 1) = true := by
      rcases hs with e | e
      · subst e
        cases r
        rfl
      · subst e
        exact Bool.or_true _
    exact wpAny_binaryOp_repeat_ref (T := "tuple") (U := "int") (by decide) ⟨_, ho, rfl⟩ (fun s' => typeIs_int s' k t) noFill_tuple_mul F.fills_int_mul F.slot_int_rmul repeat_tuple F.slot_int_index.lookup
      (call_meets F.slot_int_rmul (typeIs_int s k t) F.entry_int_rmul (F.args_int_rmul_2 _ _) (int_rmul_tuple k t l its.toArray n dd sl)
        ⟨ho, rfl, ⟨_, ho, rfl⟩, call_meets F.slot_tuple_mul ⟨_, ho, rfl⟩ F.entry_tuple_mul (F.args_tuple_mul_2 _ _) (tuple_mulW1 l its.toArray n dd sl k t c0 c1) ⟨ho, ⟨.ref l, H, I, rfl, q1 hs⟩⟩⟩)
  · by_cases hk : 2 ≤ k
    · exact op_repT pins s σ H _ _ v u Q I rx ry ⟨l, k, xs, rfl, rfl, hT, fun e => hs (.inl e), hk, h2, hz, q2 hs⟩
    · have k0 : k ≤ 0 := by
        have : k ≠ 1 := fun e => hs (.inr e)
        omega
      cases rx
      obtain ⟨t, rfl⟩ := ry
      obtain ⟨its, r, ⟨⟨cls, dd, data, sl⟩, ho, hc, n, hd⟩, hsz⟩ := I.tuple hT
      simp only at hc hd
      subst hc hd
      have hn : its ≠ [] := fun e => hs (.inl (by
        subst e
        cases r
        rfl))
      have hi : its.toArray.isEmpty = false := by
        cases its with
        | nil => exact absurd rfl hn
        | cons a b => rfl
      have c0 : (decide (k < -(2 ^ 63)) || decide (k ≥ 2 ^ 63)) = false := by
        rw [decide_eq_false (by omega), decide_eq_false (by omega)] <;> rfl
      have c1 : (its.toArray.isEmpty || k == 1) = false := by
        rw [hi, Bool.false_or]
        exact beq_eq_false_iff_ne.mpr (by omega)
      have c2 : (decide (k ≤ 0) || its.toArray.isEmpty) = true := by
        rw [decide_eq_true k0] <;> rfl
      refine wpAny_binaryOp_repeat_ref (T := "tuple") (U := "int") (by decide) ⟨_, ho, rfl⟩ (fun s' => typeIs_int s' k t) noFill_tuple_mul F.fills_int_mul F.slot_int_rmul repeat_tuple F.slot_int_index.lookup
        (call_meets F.slot_int_rmul (typeIs_int s k t) F.entry_int_rmul (F.args_int_rmul_2 _ _) (int_rmul_tuple k t l its.toArray n dd sl)
          ⟨ho, rfl, ⟨_, ho, rfl⟩, call_meets F.slot_tuple_mul ⟨_, ho, rfl⟩ F.entry_tuple_mul (F.args_tuple_mul_2 _ _) (tuple_mulW2 l its.toArray n dd sl k t c0 c1 c2) ⟨ho, ?_⟩⟩)
      have e0 : (List.replicate k.toNat xs).flatten = [] := by
        have : k.toNat = 0 := by omega
        rw [this]
        rfl
      have q3 := q2 hs s.heap.objs.size (I.hok.fresh (Nat.le_refl _))
      rw [e0] at q3
      refine ⟨.ref s.heap.objs.size, _, I.laid (t' := s.toks) (o := .tup []) (fun b ob q => Heap.get?_push_of_some _ q) (Nat.le_refl _) ?_, rfl, q3⟩
      exact ⟨Nat.zero_le _, [], .nil, IsTup.new _ _⟩
end Zl
end
section
/-! Z12: the rules of Z11 in words of data -/
namespace Zl
open PySem PySem.Spec PyProof.Rows L2 Kb
variable [Tabd]
variable {K : PySem.W.Frag}
theorem DzAll.rep {H : Hp} {vs : List V} {ds : List PyData} (h : DzAll K H vs ds) : ∀ n : Nat, DzAll K H (List.replicate n vs).flatten (List.replicate n ds).flatten
  | 0 => .nil
  | n + 1 => by
    rw [List.replicate_succ, List.replicate_succ, List.flatten_cons, List.flatten_cons]
    exact h.app (h.rep n)
theorem RZ.tupd {F : Fr} {H : Hp} {a : Z} {x : V} {ds : List PyData} (h : RZ K F H a x) (e : view a = some (.tuple ds)) : RZ K F H (.dat (.tuple ds)) x := by
  cases a with
  | dat d => cases e; exact h
  | strm => cases e
  | own _ => cases e
  | ownD _ => cases e
  | exc _ _ => cases e
  | exf _ _ _ _ _ => cases e
  | clo _ => cases e
  | scr _ => cases e
def dMulA : PyData → PyData → (Z → Prop) → Prop
  | .int i, .int j, Q => i.natAbs.log2 + j.natAbs.log2 < 1000000 ∧ Q (.dat (.int (i * j)))
  | .tuple xs, .int k, Q => (-1000 ≤ k ∧ k ≤ 1000 ∧ xs.length ≤ 1000) ∧ Q (.dat (.tuple (List.replicate k.toNat xs).flatten))
  | _, _, _ => False
abbrev rMulA (K : PySem.W.Frag) : R2 := rOr (rI CMulW fun i j => .int (i * j)) (rMulTA K)
theorem op_mulA {X : Cx} : OpR X (binaryOp .Mult) (rMulA X.K) := op_mulW.or op_mulTA
theorem oz_mulA : OpZ K (rMulA K) (k2 dMulA) := fun F H x y a b Qz Q g ha hb hk q => by
  obtain ⟨d, e, hd, he, hk⟩ := hk
  cases d with
  | int i =>
    cases e with
    | int j => exact .inl (oz_mul F H x y a b Qz Q g ha hb ⟨_, _, hd, he, hk⟩ q)
    | _ => exact hk.elim
  | tuple xs =>
    cases e with
    | int j =>
      obtain ⟨p, us, rfl, h1, h2⟩ := ha.tuple hd
      obtain rfl := hb.int he
      have hx : us = [] → xs = [] := fun z => by subst z; cases h2; rfl
      refine .inr ⟨p, j, us, rfl, rfl, h1, hk.1.1, hk.1.2.1, by rw [h2.len]; exact hk.1.2.2, fun z => ?_, fun _ r nr => ?_⟩
      · have e0 : (List.replicate j.toNat xs).flatten = xs := by
          rcases z with z | z
          · rw [hx z]
            induction j.toNat with
            | zero => rfl
            | succ n ih => rw [List.replicate_succ, List.flatten_cons, ih]; rfl
          · subst z
            show (List.replicate 1 xs).flatten = xs
            rw [List.replicate_succ, List.flatten_cons, List.replicate_zero, List.flatten_nil, List.append_nil]
        have k := hk.2
        rw [e0] at k
        exact q (.dat (.tuple xs)) _ H (.refl _ _ _) (ha.tupd hd) k
      · exact q (.dat (.tuple _)) _ _ (.new nr) (dz_newT g nr (h2.rep _)) hk.2
    | _ => exact hk.elim
  | _ => cases e <;> exact hk.elim
def dRev : PyData → (Z → Prop) → Prop
  | .tuple xs, Q => Q (.dat (.tuple xs.reverse))
  | _, _ => False
theorem tr_revT {W : WX} {te : TE} {ze : ZE} (h : Tr K W te ze) : Tr K W (tRevT K te) (zOne (k1 dRev) ze) := fun F ρ σ H Qz Ez Q g e hz q x => by
  refine h F ρ σ H _ Ez _ g e hz (fun t v H1 r1 d1 h1 => ?_) x
  obtain ⟨d, h2, h1⟩ := h1
  cases d with
  | tuple xs =>
    obtain ⟨p, us, rfl, k1, k2⟩ := d1.tuple h2
    exact ⟨p, us, rfl, k1, fun l nl => q (.dat (.tuple _)) _ _ (r1.trans (.new nl)) (dz_newT (g.rel r1) nl k2.rev) h1⟩
  | _ => exact h1.elim
def zIndex (a b : ZE) : ZE := fun ρ Q E => a ρ (fun x => ∃ s, view x = some (.str s) ∧ b ρ (fun y => ∃ t, view y = some (.str t) ∧ ∃ k, Txt.index0 s t = some k ∧ Q (.dat (.int (k : Nat)))) E) E
theorem tr_index {W : WX} {to te : TE} {zo ze : ZE} (ho : Tr K W to zo) (he : Tr K W te ze) : Tr K W (tBMS K "str" (rIndexX W) to (tCons te tNil)) (zIndex zo ze) := fun F ρ σ H Qz Ez Q g e hz q x => by
  refine ho F ρ σ H _ Ez _ g e hz (fun t v H1 r1 d1 h1 => ?_) x
  obtain ⟨a, ea, h1⟩ := h1
  obtain rfl := d1.str ea
  refine ⟨rfl, ?_⟩
  refine he F ρ σ H1 _ Ez _ (g.rel r1) (e.rel g r1) h1 (fun t2 v2 H2 r2 d2 h2 => ?_) fun x' C d H2 r2 hx => x x' C d H2 (r1.trans r2) hx
  obtain ⟨b, eb, k, hk, h2⟩ := h2
  obtain rfl := d2.str eb
  refine ⟨a, b, rfl, rfl, fun k' hk' => ?_, fun hk' => ?_⟩
  · rw [hk] at hk'
    cases hk'
    exact q (.dat (.int _)) _ H2 (r1.trans r2) (Dz.int _) h2
  · rw [hk] at hk'
    cases hk'
section
variable {X : Cx} {W : WX} {a b e o : Expr} {ta tb te to : TE} {za zb ze zo : ZE} {pos p apos cpos : Pos}
theorem pz_mulA (ha : PZ K X W a ta za) (hb : PZ K X W b tb zb) (hK : X.K = K := by rfl) : PZ K X W (.BinOp a .Mult b pos) (tOp (rMulA K) ta tb) (zTwo (k2 dMulA) za zb) := by
  subst hK
  exact pz_op op_mulA oz_mulA ha hb
theorem pz_rev {k : Nat} {p1 p2 p3 : Pos} (he : PZ K X W e te ze) (hK : X.K = K := by rfl) : PZ K X W (.Subscript e (.Slice none none (some (.UnaryOp .USub (.Constant (.int 1) k p1) p2)) p3) pos) (tRevT K te) (zOne (k1 dRev) ze) := by
  subst hK
  exact ⟨pe_revT he.pe, tr_revT he.tr⟩
theorem pz_index (hc : X.calm = true) (tk : Takes X W) (ho : PZ K X W o to zo) (he : PZ K X W e te ze) 
    (hbase : attributeBase o "index" X.env (eval o X.env) = eval o X.env := by rfl)
    (hfew : ((backTo cpos (starEach [e] X.env)).all (fun x => !x.1) && (backToKw cpos (keywordEach [] X.env)).all (fun x => x.1.isSome)
      && decide (([e] : List Expr).length + ([] : List Keyword).length + (if ([] : List Keyword).isEmpty then 0 else 1) < 30)) = true := by rfl)
    (hline : (apos.endLine == cpos.line) = true := by rfl) (hs : starEach [e] X.env = (false, eval e X.env) :: starEach [] X.env := by rfl) (hplain : (backTo cpos (starEach [] X.env)).any (·.1) = false := by rfl) (hK : X.K = K := by rfl) :
    PZ K X W (.Call (.Attribute o "index" apos) [e] [] cpos) (tBMS K "str" (rIndexX W) to (tCons te tNil)) (zIndex zo ze) := by
  subst hK
  exact ⟨pe_bmS PySem.F.plainAttrs_str PySem.F.slot_str_index PySem.F.type_str_index (mt_indexX hc tk) ho.pe (by first | exact pa_cons he.pe pa_nil hs | exact pa_cons he.pe pa_nil) hbase hfew hline hs hplain, tr_index ho.tr he.tr⟩
/-! ### dicts -/
theorem tr_dnew : Tr K W tDNewK (zC (.dict [])) := fun F ρ σ H Qz Ez Q g e h q x p hp => q (.dat (.dict [])) _ _ (.new hp) (Dz.dic (.inl (hid_some.mpr ⟨fun z => g.ex p z hp, upd_same⟩)) .nil) h
theorem pz_dnew (hK : X.K = K := by rfl) : PZ K X W (.Dict [] [] pos) tDNewK (zC (.dict [])) := by
  subst hK
  exact ⟨pe_dnewK, tr_dnew⟩
/-- {"text": value, ..} -/
def zPairs : List (Str × ZE) → Rho → (List (PyData × PyData) → Prop) → Prop
  | [], _, Q => Q []
  | (x, a) :: r, ρ, Q => a ρ (fun z => ∃ d, z = .dat d ∧ zPairs r ρ fun ps => Q ((.str x, d) :: ps)) fun _ => False
def zDisp (ps : List (Str × ZE)) : ZE := fun ρ Q _ => zPairs ps ρ fun kvs => Q (.dat (.dict kvs))
inductive TrP (K : PySem.W.Frag) (W : WX) : List (TE × TE) → List (Str × ZE) → Prop where
  | nil : TrP K W [] []
  | cons {x : Str} {ta : TE} {za : ZE} {r : List (TE × TE)} {q : List (Str × ZE)} (h : Tr K W ta za) (t : TrP K W r q) : TrP K W ((tC (.str x), ta) :: r) ((x, za) :: q)
theorem tr_pairs {F : Fr} {ρ : Rho} {σ : L2.St} : ∀ {ts : List (TE × TE)} {zs : List (Str × ZE)} (H : Hp) (Qz : List (PyData × PyData) → Prop) (Q : List (V × V) → Hp → Prop), TrP K W ts zs → Good F H → En K F H ρ σ → zPairs zs ρ Qz →
    (∀ H' kvs ds, Rel F.S F.O H H' → DzKvs K (hid F.O H') kvs ds → kvs.map (·.1) = zs.map (fun p => Sum.inr p.1) → Qz ds → Q (kvs.map fun kv => (kV kv.1, kv.2)) H') → tPairs ts σ H Q
  | _, _, H, Qz, Q, .nil, g, e, hz, q => q H [] [] (.refl _ _ _) .nil rfl hz
  | _, _, H, Qz, Q, .cons (x := x) h t, g, e, hz, q => by
    refine h F ρ σ H _ _ _ g e hz (fun r v H1 r1 d1 h1 => ?_) fun _ _ _ _ _ _ h => h.elim
    obtain ⟨d, rfl, h1⟩ := h1
    refine tr_pairs H1 _ _ t (g.rel r1) (e.rel g r1) h1 fun H2 kvs ds r2 dk hk hq => ?_
    have d2 : RZ K F H2 (.dat d) v := d1.rel (g.rel r1) r2
    exact q H2 ((.inr x, v) :: kvs) ((.str x, d) :: ds) (r1.trans r2) (.cons d2 dk) (by rw [List.map_cons, List.map_cons, hk]) hq
theorem merge_all : ∀ (more kvs : List (Key × V)), (∀ p ∈ more, ∀ q ∈ kvs, q.1 ≠ p.1) → (more.map (·.1)).Nodup → mergeK kvs more = kvs ++ more
  | [], kvs, _, _ => (List.append_nil _).symm
  | p :: r, kvs, h, nd => by
    rw [List.map_cons, List.nodup_cons] at nd
    have e : putK kvs p.1 p.2 = kvs ++ [p] := by
      unfold putK
      rw [if_neg]
      intro z
      obtain ⟨q, hq, hd⟩ := List.any_eq_true.mp z
      exact h p List.mem_cons_self q hq (of_decide_eq_true hd)
    show mergeK (putK kvs p.1 p.2) r = _
    rw [e, merge_all r (kvs ++ [p]) (fun a ha b hb => ?_) nd.2, List.append_assoc]
    · rfl
    · rcases List.mem_append.mp hb with hb | hb
      · exact h a (List.mem_cons_of_mem _ ha) b hb
      · rw [List.mem_singleton] at hb
        subst hb
        exact fun z => nd.1 (by rw [z]; exact List.mem_map_of_mem ha)
theorem tr_disp {ts : List (TE × TE)} {zs : List (Str × ZE)} (h : TrP K W ts zs) (nd : (zs.map (·.1)).Nodup) (h15 : zs.length ≤ 15) : Tr K W (tDisp ts) (zDisp zs) := fun F ρ σ H Qz Ez Q g e hz q xx p hp => by
  have r0 : Rel F.S F.O H (upd H p (.dK [])) := .new hp
  have n1 : Nf (upd H p (.dK [])) p := ⟨_, upd_same, id⟩
  have g1 : Good ⟨F.S, p :: F.O, p :: F.N⟩ (upd H p (.dK [])) := g.grow r0 hp n1
  have e1 : En K ⟨F.S, p :: F.O, p :: F.N⟩ (upd H p (.dK [])) ρ σ := ⟨fun i z h => by
    obtain ⟨v, a, b⟩ := e.at_ i z h
    exact ⟨v, a, b.grow g r0 hp⟩, e.df, e.len⟩
  refine tr_pairs (F := ⟨F.S, p :: F.O, p :: F.N⟩) _ _ _ h g1 e1 hz fun H1 kvs ds r1 dk hk hq => ?_
  have hpS : p ∉ F.S := fun z => g.some z hp
  have hpO : p ∉ F.O := fun z => g.ex p z hp
  have e2 : H1 p = some (.dK []) := r1.kp p _ hpS upd_same
  have hlen : kvs.length = zs.length := by
    have := congrArg List.length hk
    rwa [List.length_map, List.length_map] at this
  refine ⟨e2, kvs, rfl, by rw [hlen]; exact h15, ?_⟩
  have em : mergeK [] kvs = kvs := by
    rw [merge_all kvs [] (fun _ _ _ h => nomatch h) ?_]
    · rfl
    · rw [hk]
      have : (zs.map fun p => (Sum.inr p.1 : Key)) = (zs.map (·.1)).map Sum.inr := by rw [List.map_map]; rfl
      rw [this]
      exact List.pairwise_map.mpr (nd.imp fun h z => h (Sum.inr.inj z))
  rw [em]
  have rr : Rel F.S F.O H (upd H1 p (.dK kvs)) := ⟨fun b o n h => by
    rw [upd_ne (ne_of_none h hp)]
    exact r1.kp b o n (by rw [upd_ne (ne_of_none h hp)]; exact h), fun a ha ht hs => (r1.st a ha ht (r0.st a ha ht hs)).same (upd_ne (fun z => hpS (by rw [← z]; exact ha))),
    fun _ => ((r1.tb g1.tb).own List.mem_cons_self fun t => hpS (g.tS p t)).sub fun _ hb => List.mem_cons_of_mem _ hb⟩
  have le : Le (hid (p :: F.O) H1) (hid F.O (upd H1 p (.dK kvs))) := Le.of_same fun b o h => by
    rw [hid_some] at h ⊢
    refine ⟨fun z => h.1 (List.mem_cons_of_mem _ z), ?_⟩
    rw [upd_ne (fun z => h.1 (by rw [z]; exact List.mem_cons_self))]
    exact h.2
  exact q (.dat _) _ _ rr (Dz.dic (.inl (hid_some.mpr ⟨hpO, upd_same⟩)) (Dz.monoK le ds dk)) hq
structure PZPs (K : PySem.W.Frag) (X : Cx) (W : WX) (pos : Pos) (ks : List (Option Expr)) (vs : List Expr) (ts : List (TE × TE)) (zs : List (Str × ZE)) : Prop where
  pe : PPs X pos ks vs ts
  tr : TrP K W ts zs
theorem pzps_nil (hK : X.K = K := by rfl) : PZPs K X W pos [] [] [] [] := ⟨pps_nil, .nil⟩
theorem pzps_cons {x : Str} {j} {ks : List (Option Expr)} {vs : List Expr} {ts : List (TE × TE)} {zs : List (Str × ZE)} {p2 : Pos} (h : PZ K X W e te ze) (t : PZPs K X W pos ks vs ts zs) (hK : X.K = K := by rfl) : PZPs K X W pos (some (.Constant (.str x) j p2) :: ks) (e :: vs) ((tC (.str x), te) :: ts) ((x, ze) :: zs) :=
  ⟨pps_cons pe_str h.pe t.pe, .cons h.tr t.tr⟩
theorem pz_disp {ks : List (Option Expr)} {vs : List Expr} {ts : List (TE × TE)} {zs : List (Str × ZE)} (h : PZPs K X W pos ks vs ts zs) (nd : (zs.map (·.1)).Nodup := by decide) (h15 : zs.length ≤ 15 := by decide) (hall : ks.all (·.isSome) = true := by rfl) (hl : ks.length = vs.length := by rfl) (h0 : ks ≠ [] := by exact fun h => nomatch h) (h16 : ks.length ≤ 15 := by decide) (hK : X.K = K := by rfl) :
    PZ K X W (.Dict ks vs pos) (tDisp ts) (zDisp zs) := ⟨pe_disp h.pe hall hl h0 h16, tr_disp h.tr nd h15⟩
end
end Zl
end
section
/-! Z13: truth values among numbers: b + 1, b - 1, 0 - b, str(b) -/
namespace Zl
open PySem PySem.Spec PyProof.Rows L2 Kb
variable [Tabd]
variable {K : PySem.W.Frag}
def bI (b : Bool) : Int := if b = true then 1 else 0
def dAddB : PyData → PyData → (Z → Prop) → Prop
  | .bool a, .int j, Q => Q (.dat (.int (bI a + j)))
  | d, e, Q => dAdd d e Q
def dSubB : PyData → PyData → (Z → Prop) → Prop
  | .bool a, .int j, Q => Q (.dat (.int (bI a - j)))
  | .int i, .bool b, Q => Q (.dat (.int (i - bI b)))
  | d, e, Q => dSub d e Q
theorem op_addBI {X : Cx} : OpR X (binaryOp .Add) (fun x y H Q => ∃ a j, x = .bl a ∧ y = .int j ∧ Q (.int (bI a + j)) H) := by
  intro pins s σ H x y v u Q I rx ry h
  obtain ⟨a, j, rfl, rfl, q⟩ := h
  obtain ⟨t, rfl⟩ := ry
  cases rx
  exact PySem.IntBool.add_bool_int ⟨.int (bI a + j), H, I.tok _, ⟨_, rfl⟩, q⟩
theorem op_subBI {X : Cx} : OpR X (binaryOp .Sub) (fun x y H Q => ∃ a j, x = .bl a ∧ y = .int j ∧ Q (.int (bI a - j)) H) := by
  intro pins s σ H x y v u Q I rx ry h
  obtain ⟨a, j, rfl, rfl, q⟩ := h
  obtain ⟨t, rfl⟩ := ry
  cases rx
  exact PySem.IntBool.sub_bool_int ⟨.int (bI a - j), H, I.tok _, ⟨_, rfl⟩, q⟩
theorem op_subIB {X : Cx} : OpR X (binaryOp .Sub) (fun x y H Q => ∃ i b, x = .int i ∧ y = .bl b ∧ Q (.int (i - bI b)) H) := by
  intro pins s σ H x y v u Q I rx ry h
  obtain ⟨i, b, rfl, rfl, q⟩ := h
  obtain ⟨t, rfl⟩ := rx
  cases ry
  exact PySem.IntBool.sub_int_bool ⟨.int (i - bI b), H, I.tok _, ⟨_, rfl⟩, q⟩
abbrev rAddB (K : PySem.W.Frag) : R2 := rOr (fun x y H Q => ∃ a j, x = .bl a ∧ y = .int j ∧ Q (.int (bI a + j)) H) (rAdd K)
abbrev rSubB : R2 := rOr (fun x y H Q => ∃ a j, x = .bl a ∧ y = .int j ∧ Q (.int (bI a - j)) H) (rOr (fun x y H Q => ∃ i b, x = .int i ∧ y = .bl b ∧ Q (.int (i - bI b)) H) (rI0 fun i j => .int (i - j)))
theorem oz_addB : OpZ K (rAddB K) (k2 dAddB) := fun F H x y a b Qz Q g ha hb hk q => by
  obtain ⟨d, e, hd, he, hk⟩ := hk
  by_cases c : ∃ p j, d = .bool p ∧ e = .int j
  · obtain ⟨p, j, rfl, rfl⟩ := c
    exact .inl ⟨p, j, ha.bool hd, hb.int he, q (.dat (.int _)) _ H (.refl _ _ _) (Dz.int _) hk⟩
  · have e2 : dAddB d e Qz = dAdd d e Qz := by
      unfold dAddB
      split
      · exact absurd ⟨_, _, rfl, rfl⟩ c
      · rfl
    rw [e2] at hk
    exact .inr (oz_add F H x y a b Qz Q g ha hb ⟨d, e, hd, he, hk⟩ q)
theorem oz_subB : OpZ K rSubB (k2 dSubB) := fun F H x y a b Qz Q g ha hb hk q => by
  obtain ⟨d, e, hd, he, hk⟩ := hk
  by_cases c : ∃ p j, d = .bool p ∧ e = .int j
  · obtain ⟨p, j, rfl, rfl⟩ := c
    exact .inl ⟨p, j, ha.bool hd, hb.int he, q (.dat (.int _)) _ H (.refl _ _ _) (Dz.int _) hk⟩
  · by_cases c2 : ∃ i p, d = .int i ∧ e = .bool p
    · obtain ⟨i, p, rfl, rfl⟩ := c2
      exact .inr (.inl ⟨i, p, ha.int hd, hb.bool he, q (.dat (.int _)) _ H (.refl _ _ _) (Dz.int _) hk⟩)
    · have e2 : dSubB d e Qz = dSub d e Qz := by
        unfold dSubB
        split
        · exact absurd ⟨_, _, rfl, rfl⟩ c
        · exact absurd ⟨_, _, rfl, rfl⟩ c2
        · rfl
      rw [e2] at hk
      exact .inr (.inr (oz_sub F H x y a b Qz Q g ha hb ⟨d, e, hd, he, hk⟩ q))
section
variable {X : Cx} {W : WX} {a b : Expr} {ta tb : TE} {za zb : ZE} {pos : Pos}
theorem pz_addB (ha : PZ K X W a ta za) (hb : PZ K X W b tb zb) (hK : X.K = K := by rfl) : PZ K X W (.BinOp a .Add b pos) (tOp (rAddB K) ta tb) (zTwo (k2 dAddB) za zb) := by
  subst hK
  exact pz_op (op_addBI.or op_addZ) oz_addB ha hb
theorem pz_subB (ha : PZ K X W a ta za) (hb : PZ K X W b tb zb) (hK : X.K = K := by rfl) : PZ K X W (.BinOp a .Sub b pos) (tOp rSubB ta tb) (zTwo (k2 dSubB) za zb) := by
  subst hK
  exact pz_op (op_subBI.or (op_subIB.or op_sub)) oz_subB ha hb
end
def boolS (b : Bool) : Str := if b then "True" else "False"
def dStrB : PyData → (Z → Prop) → Prop
  | .bool b, Q => Q (.dat (.str (boolS b)))
  | d, Q => dStr d Q
theorem call_strB {X : Cx} : CallR X (.type "str") (fun xs H Q => ∃ b, xs = [.bl b] ∧ Q (.str (boolS b)) H) := by
  intro pins s σ H xs us Q I r h
  obtain ⟨b, rfl, q⟩ := h
  obtain ⟨u, rfl, r1⟩ := vals1 r
  cases r1
  exact PySem.P.str_of_bool ⟨.str (boolS b), H, I.tok _, ⟨_, rfl⟩, q⟩
theorem cr_strB {X : Cx} : CallR X (.type "str") (cOr (fun xs H Q => ∃ b, xs = [.bl b] ∧ Q (.str (boolS b)) H) (fun xs H Q => ∃ i, xs = [.int i] ∧ i.natAbs.log2 < 1920 ∧ Q (.str (toString i : String)) H)) := call_strB.or call_str_int
theorem cz_strB : CaZ K (cOr (fun xs H Q => ∃ b, xs = [.bl b] ∧ Q (.str (boolS b)) H) (fun xs H Q => ∃ i : Int, xs = [.int i] ∧ i.natAbs.log2 < 1920 ∧ Q (.str (toString i : String)) H)) (kL1 dStrB) := cz1 fun F H x a d Qz Q g ha hd hk q => by
  cases d with
  | bool b => exact .inl ⟨b, by rw [ha.bool hd], q (.dat (.str _)) _ H (.refl _ _ _) (Dz.str _) hk⟩
  | int i =>
    obtain rfl := ha.int hd
    exact .inr ⟨i, rfl, hk.1, q (.dat (.str _)) _ H (.refl _ _ _) (Dz.str _) hk.2⟩
  | _ => exact hk.elim
end Zl
end
section
/-! ZS: sets of keys of any one kind that goes by value: made of a list, sorted -/
namespace Zl
open PySem PySem.Spec PyProof.Rows L2 Kb
variable [Tabd]
section
variable {κ : Type} [DecidableEq κ] {P : Program} {w : World}
/-- two rows of a table stand for two keys -/
def Apart (κd : PySem.KeyKind P w κ) (e f : Int × Value) : Prop := ∀ k, κd.is k e.2 = true → κd.is k f.2 = true → False
theorem Apart.swap {κd : PySem.KeyKind P w κ} {e f : Int × Value} (h : Apart κd e f) : Apart κd f e := fun k a b => h k b a
/-- the set at a, with what its walk asks -/
structure SetG (κd : PySem.KeyKind P w κ) (h : Heap) (a : Addr) (S : κ → Bool) (n : Nat) : Prop where
  ex : ∃ o es ep t, h.get? a = some o ∧ o.ExactSet ∧ o.data = .set es ep t ∧ ElemsOf κd es.toList ∧ es.toList.Pairwise (Apart κd) ∧ (∀ k, S k = true ↔ ∃ e ∈ es.toList, κd.is k e.2 = true) ∧ es.size < scanBound ∧ t.fits es.size = true ∧ es.size = n ∧
    Ris t.place.toList ∧ (w.params.followText "set-order" = true ∨ t.led = true)
variable {κd : PySem.KeyKind P w κ} {A : Around} {E : Value → Shared → Prop} {s : Shared} {a : Addr} {S : κ → Bool} {n : Nat}
theorem SetG.keep {h h' : Heap} (R : SetG κd h a S n) (k : ∀ o, h.get? a = some o → h'.get? a = some o) : SetG κd h' a S n := by
  obtain ⟨o, es, ep, t, ho, r⟩ := R.ex
  exact ⟨o, es, ep, t, k o ho, r⟩
theorem SetG.same {h : Heap} {S' : κ → Bool} (R : SetG κd h a S n) (e : ∀ k, S' k = S k) : SetG κd h a S' n := by
  obtain rfl : S' = S := funext e
  exact R
/-- the end of an add: the rows are written, and laid anew where the table is full -/
theorem setG_end {g : Bool → Sem Unit} (hg : ∀ (b : Bool) (u : Shared) (q : Unit → Shared → Prop), q () u → wpAny (model P w) A (g b) q E u) {o : Obj} {es new : Array (Int × Value)} {ep : Nat} {t t' : SetTable} (ho : s.heap.get? a = some o) (hx : o.ExactSet) (hd : o.data = .set es ep t)
    (el : ElemsOf κd new.toList) (ap : new.toList.Pairwise (Apart κd)) (mem : ∀ k, S k = true ↔ ∃ e ∈ new.toList, κd.is k e.2 = true) (hb : new.size < scanBound) (hf : t'.fits new.size = true) (ri : Ris t'.place.toList) (ld : w.params.followText "set-order" = true ∨ t'.led = true)
    {b : Bool} {R : Option Bool → Shared → Prop} (hR : ∀ h', Heap.SameBut a s.heap h' → SetG κd h' a S new.size → R (some true) { s with heap := h' }) :
    wpAny (model P w) A (do
      storeSet a new t'
      if (!b && t'.tooFull) = true then do
          g (relayAll t' new (SetTable.grown new.size)).2.2
          storeSet a (relayAll t' new (SetTable.grown new.size)).1 (relayAll t' new (SetTable.grown new.size)).2.1
          pure (some true)
        else pure (some true)) R E s := by
  have sb := Heap.SameBut.update s.heap a (Obj.putSet new t')
  have at1 := store_at (es' := new) (t' := t') ho hd
  refine wpAny_bind (wpAny_storeSet_of ho hd ?_ (fits_of_scanBound hb))
  by_cases full : (!b && t'.tooFull) = true
  · rw [if_pos full]
    have pm := relayAll_perm t' new (SetTable.grown new.size)
    have f3 := relayAll_fits t' new (SetTable.grown new.size)
    have r3 := relayAll_ris t' new (SetTable.grown new.size)
    have l3 := relayAll_led t' new (SetTable.grown new.size)
    revert pm f3 r3 l3
    rcases relayAll t' new (SetTable.grown new.size) with ⟨es2, t3, gave⟩
    intro pm f3 r3 l3
    have size2 : es2.size = new.size := by
      have := pm.length_eq
      rwa [Array.length_toList, Array.length_toList] at this
    have small : es2.size < scanBound := size2 ▸ hb
    refine wpAny_bind (hg _ _ _ (wpAny_bind (wpAny_storeSet_of at1 rfl ?_ (fits_of_scanBound small))))
    refine wpAny_pure (hR _ (sb.trans (.update _ a _)) ⟨_, es2, _, t3, store_at (es' := es2) (t' := t3) at1 rfl, hx, rfl, fun e he => el e (pm.mem_iff.mp he), (pm.pairwise_iff fun h => h.swap).mpr ap, fun k => ?_, small, f3, size2, r3, ?_⟩)
    · rw [mem k]
      exact ⟨fun ⟨e, he, q⟩ => ⟨e, pm.mem_iff.mpr he, q⟩, fun ⟨e, he, q⟩ => ⟨e, pm.mem_iff.mp he, q⟩⟩
    · exact ld.imp id fun z => l3.trans z
  · rw [if_neg full]
    exact wpAny_pure (hR _ sb ⟨_, new, _, t', at1, hx, rfl, el, ap, mem, hb, hf, rfl, ri, ld⟩)
theorem setG_add {k : κ} {x : Value} {Q : Bool → Shared → Prop} (R : SetG κd s.heap a S n) (hk : κd.is k x = true) (sc : x.scannable = true) (room : n + 1 < scanBound)
    (hQ : ∀ h', Heap.SameBut a s.heap h' → SetG κd h' a (fun j => S j || decide (j = k)) (if S k = true then n else n + 1) → Q (!S k) { s with heap := h' }) :
    wpAny (model P w) A (setAddHashed a x (κd.hash k)) Q E s := by
  obtain ⟨o, es, ep, t, ho, hx, hd, el, ap, mem, hb, hf, hn, ri, ld⟩ := R.ex
  unfold setAddHashed setAddHashedIn
  refine wpAny_holding (wpAny_bind (wpAny_setState_of ho hd hf ?_))
  dsimp only
  rw [byScan_of sc hb el]
  simp only [↓reduceIte]
  unfold setAddByScan
  refine wpAny_bind (wpAny_bind (wpAny_rule (wpAny_bind (wpAny_setScan_of hk ho hd hf el ?_))))
  cases hfi : es.toList.findIdx? (fun e => κd.is k e.2) with
  | some j =>
    obtain ⟨hj, pj, _⟩ := List.findIdx?_eq_some_iff_getElem.mp hfi
    have yes : S k = true := (mem k).mpr ⟨_, List.getElem_mem hj, pj⟩
    refine wpAny_pure (wpAny_pure ?_)
    have q := hQ s.heap (.refl a s.heap) ⟨o, es, ep, t, ho, hx, hd, el, ap, fun i => ?_, hb, hf, by rw [if_pos yes]; exact hn, ri, ld⟩
    · rwa [yes] at q
    · rw [Bool.or_eq_true, decide_eq_true_eq, ← mem i]
      exact ⟨fun z => z.elim id fun e => e ▸ yes, .inl⟩
  | none =>
    have absent : ∀ e ∈ es.toList, κd.is k e.2 = false := fun e he => by simpa using List.findIdx?_eq_none_iff.mp hfi e he
    have no : S k = false := by
      cases q : S k with
      | false => rfl
      | true =>
        obtain ⟨e, he, z⟩ := (mem k).mp q
        rw [absent e he] at z
        cases z
    have pm := layNew_perm t es (κd.hash k) x
    have f1 := layNew_fits t es (κd.hash k) x
    have r1 := layNew_ris t es (κd.hash k) x ri
    have l1 := layNew_led t es (κd.hash k) x
    dsimp only
    revert pm f1 r1 l1
    rcases layNew t es (κd.hash k) x with ⟨new, t1, dummy, gave⟩
    intro pm f1 r1 l1
    rw [Array.toList_push] at pm
    have pc : new.toList.Perm ((κd.hash k, x) :: es.toList) := pm.trans (List.perm_append_singleton _ _)
    have el1 : ElemsOf κd new.toList := fun e he => by
      rcases List.mem_cons.mp (pc.mem_iff.mp he) with rfl | z
      · exact ⟨⟨k, hk, rfl⟩, sc⟩
      · exact el e z
    have ap1 : new.toList.Pairwise (Apart κd) := (pc.pairwise_iff fun h => h.swap).mpr (List.pairwise_cons.mpr ⟨fun e he j hj hj2 => (by
      have := κd.inj x k j hk hj
      subst this
      rw [absent e he] at hj2
      exact nomatch hj2), ap⟩)
    have mem1 : ∀ i, (S i || decide (i = k)) = true ↔ ∃ e ∈ new.toList, κd.is i e.2 = true := fun i => by
      rw [Bool.or_eq_true, decide_eq_true_eq, mem i]
      constructor
      · rintro (⟨e, he, q⟩ | rfl)
        · exact ⟨e, pc.mem_iff.mpr (List.mem_cons_of_mem _ he), q⟩
        · exact ⟨_, pc.mem_iff.mpr List.mem_cons_self, hk⟩
      · rintro ⟨e, he, q⟩
        rcases List.mem_cons.mp (pc.mem_iff.mp he) with rfl | z
        · exact .inr (κd.inj x i k q hk)
        · exact .inl ⟨e, z, q⟩
    have size1 : new.size = n + 1 := by rw [← Array.length_toList, pc.length_eq, List.length_cons, Array.length_toList, hn]
    have small : new.size < scanBound := size1 ▸ room
    have ld1 : w.params.followText "set-order" = true ∨ t1.led = true := ld.imp id fun z => l1.trans z
    have fin : ∀ h', Heap.SameBut a s.heap h' → SetG κd h' a (fun j => S j || decide (j = k)) new.size → Q true { s with heap := h' } := fun h' sb r => by
      have q := hQ h' sb
      rw [no, if_neg Bool.false_ne_true] at q
      exact q (size1 ▸ r)
    have ruled : ∀ (b : Bool) (u : Shared) (q : Unit → Shared → Prop), q () u → wpAny (model P w) A (match b with | true => rule "set.scan.the-table-gave-way" | false => pure ()) q E u := fun b u q z => by
      cases b
      · exact wpAny_pure z
      · exact wpAny_rule z
    refine wpAny_bind (ruled _ _ _ ?_)
    split
    · refine wpAny_bind ?_
      rw [hashByValue_scannable 8 sc]
      refine wpAny_pure (setG_end (κd := κd) ?_ ho hx hd el1 ap1 mem1 small ?_ ?_ ?_ ?_)
      · intro b u q z
        cases b
        · exact wpAny_pure z
        · exact wpAny_rule z
      · first | (split <;> first | exact f1 | exact SetTable.fits_plain_off f1) | exact f1
      · first | (split <;> exact r1) | exact r1
      · first | (split <;> exact ld1) | exact ld1
      · intro h' sb r
        exact wpAny_pure (fin h' sb r)
    · refine wpAny_bind (wpAny_pure ?_)
      simp only [↓reduceIte]
      refine setG_end (κd := κd) ?_ ho hx hd el1 ap1 mem1 small f1 r1 ld1 ?_
      · intro b u q z
        cases b
        · exact wpAny_pure z
        · exact wpAny_rule z
      · intro h' sb r
        exact wpAny_pure (fin h' sb r)
/-! ### set(a list) -/
theorem setG_fresh {h : Heap} (e : h.get? a = some { cls := .type "set", dict := none, data := .set #[] 0 (.fresh 0 0 (!w.params.followText "set-order")) }) : SetG κd h a (fun j => decide (j ∈ ([] : List κ))) 0 :=
  ⟨_, #[], 0, _, e, ⟨rfl, rfl, rfl⟩, rfl, (fun e he => by simp at he), by simp, fun k => by simp, by decide, rfl, rfl, .nil, by
    show _ ∨ (!w.params.followText "set-order") = true
    cases w.params.followText "set-order"
    · exact .inr rfl
    · exact .inl rfl⟩
theorem setG_loop {I : Addr} {fp wr : List Addr} {G : Array GenState → Array GenState → Prop} {m : Nat} {Pv : Nat → Value → Prop} {St : Nat → Shared → Prop} {R : Result → Shared → Prop} (W : WalksS P w A.in1 I fp wr G m Pv St) (b : Addr) (hb : b ∉ fp) (ks : List κ) (hm : m = ks.length) (room : ks.length + 1 < scanBound)
    (val : ∀ i v, Pv i v → ∃ k, ks[i]? = some k ∧ κd.is k v = true ∧ v.scannable = true) : ∀ (j i : Nat) (s : Shared), m - i = j → i ≤ m → St i s → (∃ c, c ≤ i ∧ SetG κd s.heap b (fun j => decide (j ∈ ks.take i)) c) →
      (∀ s' c, Moved (b :: wr) G s s' → c ≤ m → SetG κd s'.heap b (fun j => decide (j ∈ ks)) c → R (.ok (.ret .none)) s') → codeAny (model P w) A (.builtin "set.update.loop" ⟨[.ref b, .ref I], []⟩) R s := by
  have out : b ∉ wr := fun h => hb (W.sub _ h)
  have more : ∀ c ∈ wr, c ∈ b :: wr := fun c h => List.mem_cons_of_mem _ h
  intro j
  induction j with
  | zero =>
    intro i s hj hi st ⟨c, hc, hS⟩ hR
    obtain rfl : i = m := by omega
    refine codeAny_builtin F.entry_set_update_loop ?_
    rw [Around.under_plainId F.plain_set_update_loop _]
    refine wpAny_bind (m := pyNext (.ref I)) (W.done s _ _ st fun s' mv => ?_)
    rw [List.take_of_length_le (by omega)] at hS
    exact wpAny_pure (hR s' c (mv.mono more) hc (hS.keep fun o e => mv.heap b o out e))
  | succ j ih =>
    intro i s hj hi st ⟨c, hc, hS⟩ hR
    have lt : i < m := by omega
    refine codeAny_builtin F.entry_set_update_loop ?_
    rw [Around.under_plainId F.plain_set_update_loop _]
    refine wpAny_bind (m := pyNext (.ref I)) (W.item i s _ _ lt st fun v s' hP st' mv => ?_)
    obtain ⟨k, hk, hv, sc⟩ := val i v hP
    have hS' := hS.keep (h' := s'.heap) fun o e => mv.heap b o out e
    refine wpAny_bind (m := holding [v] (setAdd b v)) (wpAny_holding ?_)
    unfold setAdd
    refine wpAny_holding (wpAny_bind (κd.pyHash hv (setG_add (s := { s' with toks := s'.toks + 1 }) hS' hv sc (by omega) fun h' sb hS2 => ?_)))
    have hS3 : SetG κd h' b (fun j => decide (j ∈ ks.take (i + 1))) (if decide (k ∈ ks.take i) = true then c else c + 1) := hS2.same fun j => by
      rw [List.take_add_one, hk]
      simp [List.mem_append]
    have hc3 : (if decide (k ∈ ks.take i) = true then c else c + 1) ≤ i + 1 := by split <;> omega
    refine wpAny_pure ⟨plainId_quiet F.plain_set_update_loop _, ih (i + 1) _ (by omega) lt (W.frame _ s' _ _ st' (Nat.le_succ _) fun d hd o e => (sb.2 d fun z => hb (z ▸ hd)).trans e) ⟨_, hc3, hS3⟩ fun s2 c2 mv2 hc2 hS4 => ?_⟩
    exact hR s2 c2 (Moved.trans W.gtrans ((mv.mono more).then_heap (Nat.le_succ _) fun d o hd e => (sb.2 d fun z => hd (z ▸ List.mem_cons_self)).trans e) mv2) hc2 hS4
end
end Zl
end
section
/-! ZSc: set(a list), sorted(a set) -/
namespace Zl
open PySem PySem.Spec PyProof.Rows L2 Kb
variable [Tabd]
abbrev noSet (w : World) : Obj := { cls := .type "set", dict := none, data := .set #[] 0 (.fresh 0 0 (!w.params.followText "set-order")) }
section
variable {κ : Type} [DecidableEq κ] {P : Program} {w : World} {κd : PySem.KeyKind P w κ} {A : Around} {E : Value → Shared → Prop} {s : Shared}
set_option maxHeartbeats 8000000 in
theorem call_setG {l : Addr} {vs : Array Value} (ks : List κ) {Q : Value → Shared → Prop} (hh : A.handled = none) (hl : s.heap.IsList l vs) (hlen : vs.size = ks.length) (room : ks.length + 1 < scanBound)
    (val : ∀ (i : Nat) v, vs[i]? = some v → ∃ k, ks[i]? = some k ∧ κd.is k v = true ∧ v.scannable = true)
    (h : ∀ (h' : Heap) (tk c : Nat), SetG κd h' s.heap.objs.size (fun j => decide (j ∈ ks)) c → c ≤ ks.length → (∀ b o, s.heap.get? b = some o → h'.get? b = some o) → Q (.ref s.heap.objs.size) { s with heap := h', toks := tk }) :
    wpAny (model P w) A (call (.type "set") [.ref l]) Q E s := by
  have ⟨c, tl, mro⟩ := F.called_set.mro
  have made := F.called_set.made
  have sub := F.called_set.sub
  have h1 := F.called_set.notType
  have h2 := F.called_set.canCreate
  have ct := F.typeCall_set_1 (.ref l)
  refine wpAny_call (codeAny_of_tree (show wpAny _ _ (callAny (.type "set") _) _ _ _ from wpAny_pure ⟨Code.quiet_builtin _ (by decide +kernel), codeAny_builtin F.entry_type_call ?_⟩))
  rw [Around.under_plain (weight_type_call_type "set" [.ref l] []) rfl]
  repeat (any_goals (first | assumption | wp_step))
  refine codeAny_mono (code_set_led1 (.ref l) (E := E) (Q₁ := fun u z => u = .ref s.heap.objs.size ∧ z = { s with heap := s.heap.push (noSet w) }) ⟨rfl, rfl⟩) fun r z hr => ?_
  cases r with
  | error e => exact hr
  | ok fl =>
    cases fl with
    | ret u =>
      obtain ⟨rfl, rfl⟩ := hr
      have here : (s.heap.push (noSet w)).get? s.heap.objs.size = some (noSet w) := Heap.get?_push_size _ rfl
      have ty : Shared.TypeIs { s with heap := s.heap.push (noSet w) } (.ref s.heap.objs.size) "set" := ⟨_, here, rfl⟩
      have li := F.called_set.init.lookup
      have bi := F.called_set.init.bind (.ref s.heap.objs.size)
      repeat (any_goals (first | assumption | wp_step))
      refine codeAny_mono (codeAny_call_builtin (R := wants (fun r z => r = .none ∧ ∃ h' tk c, z = { s with heap := h', toks := tk } ∧ SetG κd h' s.heap.objs.size (fun j => decide (j ∈ ks)) c ∧ c ≤ ks.length ∧ (∀ b o, s.heap.get? b = some o → h'.get? b = some o)) E)
        F.called_set.init.plain F.entry_set_init (check_set_init_1 ty ?_)) fun r2 z2 hr2 => ?_
      · obtain ⟨⟨cl, di, da, sl⟩, hol, hcl, nl, hda⟩ := hl
        simp only at hcl hda
        subst hcl hda
        have at1 : (s.heap.push (noSet w)).get? l = some { cls := .type "list", dict := di, data := .seq vs nl, slots := sl } := Heap.get?_push_of_some _ hol
        have s1 := F.sub_list_set
        have s2 := F.sub_list_frozenset
        have ne : (Value.type "list" == Value.type "dict") = false := by decide
        have l1 : (s.heap.push (noSet w)).IsList l vs := ⟨_, at1, rfl, nl, rfl⟩
        unfold Builtin.«set.__init__» noKeywords Builtin.Frozenset.updateFrom
        generalize hPI : pyIter = PI
        wp_walk
        subst hPI
        have lS : l < s.heap.objs.size := Heap.lt_size hol
        have z1 : (s.heap.push (noSet w)).objs.size = s.heap.objs.size + 1 := Heap.size_push ..
        have neI : l ≠ (s.heap.push (noSet w)).objs.size := fun z => Nat.ne_of_lt (Nat.lt_succ_of_lt lS) (Eq.trans z z1)
        have inn : A.in1.in1.in1.handled = none := by simp [hh]
        have free : s.heap.objs.size ∉ [(s.heap.push (noSet w)).objs.size, l] := fun z => by
          rcases List.mem_cons.mp z with z | z
          · exact Nat.ne_of_lt (Nat.lt_succ_self _) (Eq.trans z z1)
          · exact Nat.ne_of_gt lS (List.mem_singleton.mp z)
        refine wpAny_pyIter_list l1 (wpAny_bind (wpAny_runValue ?_))
        refine setG_loop (Walks.list inn _ l neI vs).toS s.heap.objs.size free ks hlen room val (vs.size - 0) 0 _ (by omega) (Nat.zero_le _) ⟨⟨_, Heap.get?_push_size _ rfl, rfl, rfl⟩, l1.push _⟩ ⟨0, Nat.le_refl 0, setG_fresh (Heap.get?_push_of_some _ here)⟩ fun z c' mv hc hS => ?_
        obtain ⟨h', g, d, tk, os⟩ := z
        obtain rfl : g = s.gens := mv.gens
        obtain rfl : d = s.drawn := mv.drawn
        obtain rfl : os = s.os := mv.os
        refine wpAny_pure (wpAny_pure ⟨rfl, h', tk, c', rfl, hS, by omega, fun b o e => mv.heap b o (fun z => ?_) (Heap.get?_push_of_some _ (Heap.get?_push_of_some _ e))⟩)
        have hb := Heap.lt_size e
        rcases List.mem_cons.mp z with z | z
        · exact Nat.ne_of_lt hb z
        · exact Nat.ne_of_lt (Nat.lt_succ_of_lt hb) (Eq.trans (List.mem_singleton.mp z) z1)
      · cases r2 with
        | error e => exact hr2
        | ok fl =>
          cases fl with
          | ret r =>
            obtain ⟨rfl, h', tk, c', rfl, q1, q2, q3⟩ := hr2
            repeat (any_goals (first | assumption | wp_step))
            exact h _ _ _ q1 q2 q3
          | _ => exact hr2.elim
    | _ => exact hr.elim
end
end Zl
end
section
/-! ZSd: sorted(set(a list)) -/
namespace Zl
open PySem PySem.Spec PyProof.Rows L2 Kb
variable [Tabd]
open PySem.W (EachIs AllAlike Sortable dataLe)
section
variable {κ : Type} [DecidableEq κ] {P : Program} {w : World} {κd : PySem.KeyKind P w κ} {A : Around} {E : Value → Shared → Prop} {s : Shared} {a : Addr} {S : κ → Bool} {n : Nat}
/-- the values of a set's rows, in any order, stand for keys of their own -/
theorem keys_of : ∀ {vs : List Value}, (∀ v ∈ vs, ∃ k, κd.is k v = true) → vs.Pairwise (fun u v => ∀ k, κd.is k u = true → κd.is k v = true → False) → ∃ ks : List κ, EachIs (fun v k => κd.is k v = true) vs ks ∧ ks.Nodup ∧ ∀ k, k ∈ ks ↔ ∃ v ∈ vs, κd.is k v = true
  | [], _, _ => ⟨[], .nil, .nil, fun k => by simp⟩
  | v :: vs, h, p => by
    obtain ⟨p1, p2⟩ := List.pairwise_cons.mp p
    obtain ⟨ks, e, nd, m⟩ := keys_of (fun u hu => h u (List.mem_cons_of_mem _ hu)) p2
    obtain ⟨k, hk⟩ := h v List.mem_cons_self
    refine ⟨k :: ks, .cons hk e, List.nodup_cons.mpr ⟨fun z => ?_, nd⟩, fun j => ?_⟩
    · obtain ⟨u, hu, q⟩ := (m k).mp z
      exact p1 u hu k hk q
    · rw [List.mem_cons, m j]
      constructor
      · rintro (rfl | ⟨u, hu, q⟩)
        · exact ⟨v, List.mem_cons_self, hk⟩
        · exact ⟨u, List.mem_cons_of_mem _ hu, q⟩
      · rintro ⟨u, hu, q⟩
        rcases List.mem_cons.mp hu with rfl | hu
        · exact .inl (κd.inj _ _ _ q hk)
        · exact .inr ⟨u, hu, q⟩
theorem sorted_setG {enc : κ → PyData} {Q : Value → Shared → Prop} (rd : ∀ (h : Heap) k v, κd.is k v = true → Reads h v (enc k) []) (R : SetG κd s.heap a S n) (hh : A.handled = none) (dp : ∀ k, (enc k).depth = 0) (hu : A.units + 10 < cLine)
    (al : ∀ ks : List κ, (∀ k ∈ ks, S k = true) → AllAlike (ks.map enc) ∧ Sortable (ks.map enc))
    (hQ : ∀ s' p (out : List Value) (c : Nat) (ks : List κ), (∀ b o, s.heap.get? b = some o → s'.heap.get? b = some o) → s'.gens = s.gens → s'.os = s.os → s.heap.objs.size ≤ p → s'.heap.get? p = some (seqObj "list" out.toArray c) →
      EachIs (fun v k => κd.is k v = true) out (ks.mergeSort (dataLe false enc)) → ks.Nodup → (∀ k, k ∈ ks ↔ S k = true) → ks.length = n → Q (.ref p) s') : wpAny (model P w) A (call (.builtin "sorted") [.ref a]) Q E s := by
  obtain ⟨o, es, ep, t, ho, hx, hd, el, ap, mem, hb, hf, hn, ri, ld⟩ := R.ex
  refine Calls.call_function_entry kind_sorted plain_sorted entry_sorted (args_sorted1 _) ?_
  unfold Builtin.«sorted»
  refine wpAny_bind (m := checkCount "sorted" 1 1 _) (wpAny_pure (wpAny_bind (collect_set (A := A.in1) hh ⟨o, ho, hx.1, hd⟩ hf hb ri ld fun s1 vs k1 hz g1 o1 pm => ?_)))
  have isk : ∀ v ∈ vs, ∃ k, κd.is k v = true := fun v hv => by
    obtain ⟨e, he, rfl⟩ := List.mem_map.mp (pm.mem_iff.mp hv)
    obtain ⟨⟨k, hk, _⟩, _⟩ := el e he
    exact ⟨k, hk⟩
  have apart : vs.Pairwise (fun u v => ∀ k, κd.is k u = true → κd.is k v = true → False) := (pm.pairwise_iff fun h k a b => h k b a).mpr (List.pairwise_map.mpr ap)
  obtain ⟨ks, ek, nd, mk⟩ := keys_of isk apart
  have mS : ∀ k, k ∈ ks ↔ S k = true := fun k => by
    rw [mk k, mem k]
    constructor
    · rintro ⟨v, hv, q⟩
      obtain ⟨e, he, rfl⟩ := List.mem_map.mp (pm.mem_iff.mp hv)
      exact ⟨e, he, q⟩
    · rintro ⟨e, he, q⟩
      exact ⟨e.2, pm.mem_iff.mpr (List.mem_map_of_mem he), q⟩
  have len : vs.length = n := by rw [pm.length_eq, List.length_map, Array.length_toList]; exact hn
  have small : vs.length ≤ sizeLine := by rw [len, ← hn]; exact fits_of_scanBound hb
  refine wpAny_bind (wpAny_newList ?_ small)
  have here : (s1.heap.push (seqObj "list" vs.toArray 0)).get? s1.heap.objs.size = some (seqObj "list" vs.toArray 0) := Heap.get?_push_size _ rfl
  obtain ⟨a1, a2⟩ := al ks fun k hk => (mS k).mp hk
  refine wpAny_bind (wpAny_holding (PySem.W.list_sort_data (enc := enc) here ek (ek.mono fun v k q => ⟨[], rd _ k v q, by simp⟩) a1 a2 (by rw [← ek.length]; exact small) (fun k _ => by rw [dp k]; show A.units + 1 + 1 + 0 < cLine; omega) fun out h1 h2 => ?_))
  obtain ⟨c, hc⟩ := sortedHeap_at (vs := vs) (out := out.toArray) here
  refine wpAny_pure ⟨_, rfl, hQ _ s1.heap.objs.size out c ks (fun b u e => ?_) g1 o1 hz hc h2 nd mS (by rw [← ek.length]; exact len)⟩
  have q := k1 b u e
  have lt := Heap.lt_size q
  exact (sortedHeap_old (Nat.ne_of_lt lt) (by rw [size_push']; exact Nat.lt_succ_of_lt lt)).trans (Heap.get?_push_of_some _ q)
end
/-! ### sets of ints or of texts, as objects -/
def memD {κ : Type} [DecidableEq κ] (ks : List κ) (j : κ) : Bool := decide (j ∈ ks)
theorem memD_iff {κ : Type} [DecidableEq κ] {ks : List κ} {j : κ} : memD ks j = true ↔ j ∈ ks := decide_eq_true_iff
def SetO1 (P : Program) (w : World) (a : Addr) (ks : List Key) (n : Nat) : HO := .ext fun h => SetG (mixKind P w) h a (memD ks) n
theorem setO1_new {P : Program} {w : World} {H : Hp} {h : Heap} {a : Addr} {ks : List Key} {n : Nat} (R : SetG (mixKind P w) h a (memD ks) n) : ObjOk P w H h a (SetO1 P w a ks n) := by
  have ⟨o, _, _, _, ho, _⟩ := R.ex
  exact ⟨R, ⟨o, ho⟩, fun h1 h2 p k => SetG.keep p k⟩
def rSet1 (K : PySem.W.Frag) (P : Program) (w : World) : List V → Hp → VK → Prop := fun xs H Q => ∃ (l : Addr) (ks : List Key), xs = [.ref l] ∧ SqL K H l (ks.map kV) ∧ ks.length ≤ 4000 ∧ ∀ a c, H a = none → Q (.ref a) (upd H a (SetO1 P w a ks c))
def oneSort (ks : List Key) : Prop := (∀ k ∈ ks, ∃ x, k = .inr x) ∨ ∀ k ∈ ks, ∃ i, k = .inl i
def rSort1 (P : Program) (w : World) : List V → Hp → VK → Prop := fun xs H Q => ∃ (a : Addr) (ks : List Key) (c : Nat), xs = [.ref a] ∧ H a = some (SetO1 P w a ks c) ∧ oneSort ks ∧
  ∀ (js : List Key) p, js.Nodup → (∀ k, k ∈ js ↔ k ∈ ks) → H p = none → Q (.ref p) (upd H p (.lst ((js.mergeSort (dataLe false kD)).map kV)))
theorem scan5 : (4000 : Nat) + 1 < scanBound := by decide
section
variable {X : Cx}
theorem kv_is : ∀ {k : Key} {u : Value}, RelV (kV k) u → keyIs k u = true
  | .inl i, _, ⟨t, e⟩ => by subst e; exact keyIs_int i t
  | .inr x, _, ⟨t, e⟩ => by subst e; exact keyIs_str x t
theorem vals_key : ∀ {ks : List Key} {us : List Value} {i : Nat} {v : Value}, Vals (ks.map kV) us → us[i]? = some v → ∃ k, ks[i]? = some k ∧ keyIs k v = true ∧ v.scannable = true
  | [], _, _, _, r, e => by cases r; simp at e
  | k :: ks, _, 0, _, r, e => by
    cases r with
    | cons h t =>
      simp at e
      subst e
      exact ⟨k, rfl, kv_is h, key_scan h⟩
  | k :: ks, _, i + 1, _, r, e => by
    cases r with
    | cons h t =>
      obtain ⟨j, h1, h2⟩ := vals_key (i := i) t (by simpa using e)
      exact ⟨j, by simpa using h1, h2⟩
theorem cr_set1 (hc : X.calm = true) : CallR X (.type "set") (rSet1 X.K X.prog X.w) := by
  intro pins s σ H xs us Q I r h
  obtain ⟨l, ks, rfl, hl, hb, q⟩ := h
  rw [Vals.ref1 r]
  obtain ⟨its, rv, pl, hz⟩ := I.list hl
  have len : its.toArray.size = ks.length := by
    have := rv.length
    rw [List.length_map] at this
    rw [List.size_toArray, this]
  refine call_setG (κd := mixKind X.prog X.w) ks (I.ok.hd hc) pl.isList len (by have := scan5; omega) (fun i v e => vals_key rv (by simpa using e)) fun h' tk c R hc k => ?_
  exact ⟨.ref s.heap.objs.size, upd H s.heap.objs.size (SetO1 X.prog X.w s.heap.objs.size ks c), I.laid (t' := tk) k (Nat.le_refl _) (setO1_new R), rfl, q _ c (I.hok.fresh (Nat.le_refl _))⟩
theorem each_vals : ∀ {us : List Value} {ks : List Key}, EachIs (fun v k => keyIs k v = true) us ks → Vals (ks.map kV) us
  | _, _, .nil => .nil
  | _, _, .cons h t => by
    refine .cons ?_ (each_vals t)
    rcases keyIs_shape h with ⟨i, t, rfl, rfl⟩ | ⟨x, t, rfl, rfl⟩
    · exact ⟨t, rfl⟩
    · exact ⟨t, rfl⟩
theorem one_alike {ks js : List Key} (o : oneSort ks) (m : ∀ k ∈ js, k ∈ ks) : AllAlike (js.map kD) ∧ Sortable (js.map kD) := by
  rcases o with o | o
  · have e : ∀ k ∈ js, ∃ x, kD k = .str x := fun k hk => by
      obtain ⟨x, rfl⟩ := o k (m k hk)
      exact ⟨x, rfl⟩
    refine ⟨fun d hd d' hd' => ?_, .inr fun d hd => ?_⟩
    · obtain ⟨k, hk, rfl⟩ := List.mem_map.mp hd
      obtain ⟨k', hk', rfl⟩ := List.mem_map.mp hd'
      obtain ⟨x, ex⟩ := e k hk
      obtain ⟨y, ey⟩ := e k' hk'
      rw [ex, ey]
      rfl
    · obtain ⟨k, hk, rfl⟩ := List.mem_map.mp hd
      obtain ⟨x, ex⟩ := e k hk
      rw [ex]
      exact ⟨(fun z => nomatch z), fun _ z => nomatch z⟩
  · have e : ∀ k ∈ js, ∃ x, kD k = .int x := fun k hk => by
      obtain ⟨x, rfl⟩ := o k (m k hk)
      exact ⟨x, rfl⟩
    refine ⟨fun d hd d' hd' => ?_, .inr fun d hd => ?_⟩
    · obtain ⟨k, hk, rfl⟩ := List.mem_map.mp hd
      obtain ⟨k', hk', rfl⟩ := List.mem_map.mp hd'
      obtain ⟨x, ex⟩ := e k hk
      obtain ⟨y, ey⟩ := e k' hk'
      rw [ex, ey]
      rfl
    · obtain ⟨k, hk, rfl⟩ := List.mem_map.mp hd
      obtain ⟨x, ex⟩ := e k hk
      rw [ex]
      exact ⟨(fun z => nomatch z), fun _ z => nomatch z⟩
theorem cr_sort1 (hc : X.calm = true) (hu : X.A.units + 64 < cLine) : CallR X (.builtin "sorted") (rSort1 X.prog X.w) := by
  intro pins s σ H vs us Q I r h
  obtain ⟨a, ks, n, rfl, ha, o1, q⟩ := h
  rw [Vals.ref1 r]
  have R : SetG (mixKind X.prog X.w) s.heap a (memD ks) n := (I.hok a _ ha).1
  refine sorted_setG (enc := kD) (fun h k v e => ?_) R (I.ok.hd hc) (fun k => ?_) (by omega) (fun js m => one_alike o1 fun k hk => memD_iff.mp (m k hk)) fun s' p out c js k g o hp hg e nd m hl => ?_
  · rcases keyIs_shape e with ⟨i, t, rfl, rfl⟩ | ⟨x, t, rfl, rfl⟩
    · exact .int i t
    · exact .str x t
  · cases k <;> rfl
  · have hn : H p = none := I.hok.fresh hp
    have ev := each_vals e
    have hz : ((js.mergeSort (dataLe false kD)).map kV).length ≤ sizeLine := by
      obtain ⟨_, es, _, _, _, _, _, _, _, _, hb, _, hs, _⟩ := R.ex
      rw [List.length_map, List.length_mergeSort, hl, ← hs]
      exact fits_of_scanBound hb
    have J : Inv X pins σ (upd H p (.lst ((js.mergeSort (dataLe false kD)).map kV))) { s with heap := s'.heap, gens := s'.gens, drawn := s'.drawn, toks := s'.toks } :=
      I.call (ch := []) (Un.laid k hp hn) (I.hok.laid k hp ⟨hz, out, c, ev, hg⟩) (by rw [g]; exact I.bare) (fun _ z => nomatch z)
    have es : s' = { s with heap := s'.heap, gens := s'.gens, drawn := s'.drawn, toks := s'.toks } := by
      cases s'
      cases s
      cases o
      rfl
    rw [es]
    exact ⟨.ref p, _, J, rfl, q js p nd (fun k => (m k).trans memD_iff) hn⟩
end
/-! ### in words of data -/
def zSortSet (a : ZE) : ZE := fun ρ Q E => a ρ (fun z => ∃ ks : List Key, view z = some (.list (ks.map kD)) ∧ ks.length ≤ 4000 ∧ oneSort ks ∧ ∀ js : List Key, js.Nodup → (∀ k, k ∈ js ↔ k ∈ ks) → Q (.dat (.list (sortD (js.map kD))))) E
section
variable {K : PySem.W.Frag} {W : WX}
theorem dz_keys {H : Hp} : ∀ {ks : List Key} {vs : List V}, DzAll K H vs (ks.map kD) → vs = ks.map kV
  | [], _, h => by
    cases h
    rfl
  | k :: ks, _, h => by
    cases h with
    | cons a t =>
      rw [List.map_cons, ← dz_keys t]
      cases k with
      | inl i => cases (show Dz K H _ (.int i) from a); rfl
      | inr x => cases (show Dz K H _ (.str x) from a); rfl
theorem keys_dz {H : Hp} : ∀ (ks : List Key), DzAll K H (ks.map kV) (ks.map kD)
  | [] => .nil
  | .inl i :: ks => .cons (Dz.int i) (keys_dz ks)
  | .inr x :: ks => .cons (Dz.str x) (keys_dz ks)
theorem sort_keys (js : List Key) : (js.mergeSort (dataLe false kD)).map kD = sortD (js.map kD) := List.map_mergeSort fun a _ b _ => rfl
theorem tr_sortSet {P : Program} {w : World} {ta : TE} {za : ZE} (h : Tr K W ta za) : Tr K W (tCB (rSort1 P w) (tCons (tCB (rSet1 K P w) (tCons ta tNil)) tNil)) (zSortSet za) := fun F ρ σ H Qz Ez Q g e hz q x => by
  refine h F ρ σ H _ Ez _ g e hz (fun r v H1 r1 d1 h1 => ?_) x
  obtain ⟨ks, h2, hl, o1, h1⟩ := h1
  obtain ⟨p, xs, rfl, k1, k2⟩ := d1.list h2
  obtain rfl := dz_keys k2
  refine ⟨p, ks, rfl, SqL.of k1, hl, fun a c na => ?_⟩
  refine ⟨a, ks, c, rfl, upd_same, o1, fun js l nd m nl => ?_⟩
  have r2 : Rel F.S F.O H1 (upd H1 a (SetO1 P w a ks c)) := .new na
  have g2 := (g.rel r1).rel r2
  refine q (.dat (.list _)) _ _ ((r1.trans r2).trans (.new nl)) ?_ (h1 js nd m)
  have := dz_newL (K := K) g2 nl (keys_dz (H := hid F.O (upd H1 a (SetO1 P w a ks c))) (js.mergeSort (dataLe false kD)))
  rwa [sort_keys] at this
variable {X : Cx} {e : Expr} {te : TE} {ze : ZE} {pos p p2 pos2 : Pos}
theorem pz_sortSet {P : Program} {w : World} (hc : X.calm = true) (hu : X.A.units + 64 < cLine) (hm : X.mg "sorted" = none) (hm2 : X.mg "set" = none) (h : PZ K X W e te ze) (hg : Gl X "sorted" := by rfl) (hg2 : Gl X "set" := by rfl)
    (he : starEach [e] X.env = (false, eval e X.env) :: starEach [] X.env := by rfl) (hpl : (backTo pos2 (starEach [] X.env)).any (·.1) = false := by rfl)
    (he2 : starEach [.Call (.Name "set" p2) [e] [] pos2] X.env = (false, eval (.Call (.Name "set" p2) [e] [] pos2) X.env) :: starEach [] X.env := by rfl) (hpl2 : (backTo pos (starEach [] X.env)).any (·.1) = false := by rfl) (hP : X.prog = P := by rfl) (hw : X.w = w := by rfl) (hK : X.K = K := by rfl) :
    PZ K X W (.Call (.Name "sorted" p) [.Call (.Name "set" p2) [e] [] pos2] [] pos) (tCB (rSort1 P w) (tCons (tCB (rSet1 K P w) (tCons te tNil)) tNil)) (zSortSet ze) := by
  subst hK hP hw
  have a1 : PA X [e] (tCons te tNil) := by first | exact pa_cons h.pe pa_nil he | exact pa_cons h.pe pa_nil
  have i1 : PE X (.Call (.Name "set" p2) [e] [] pos2) (tCB (rSet1 X.K X.prog X.w) (tCons te tNil)) := by
    first | exact pe_callTy (cr_set1 hc) hg2 hm2 (by decide +kernel) a1 (by decide) (by decide) he hpl | exact pe_callTy (cr_set1 hc) hg2 hm2 (by decide +kernel) a1 (by decide) (by decide)
  have a2 : PA X [.Call (.Name "set" p2) [e] [] pos2] (tCons (tCB (rSet1 X.K X.prog X.w) (tCons te tNil)) tNil) := by first | exact pa_cons i1 pa_nil he2 | exact pa_cons i1 pa_nil
  exact ⟨by first | exact pe_callB (cr_sort1 hc hu) hg hm (by decide +kernel) a2 (by decide) (by decide) he2 hpl2 | exact pe_callB (cr_sort1 hc hu) hg hm (by decide +kernel) a2 (by decide) (by decide), tr_sortSet h.tr⟩
end
end Zl
end
section
/-! ZT: try .. except C as e, and isinstance(e, ..) in the suite -/
namespace Zl
open PySem PySem.Spec PyProof.Rows L2 Kb
variable [Tabd]
/-- what the text's classes come from, told by names -/
def isSub (tab : List (Str × List Str)) (n c : Str) : Bool := ((tab.lookup n).getD []).contains c
theorem En.del {K : PySem.W.Frag} {F : Fr} {H : Hp} {ρ : Rho} {σ : L2.St} {i : Nat} (e : En K F H ρ σ) : En K F H (ρ.set i none) (σ.set i none) := by
  have key : ∀ (j : Nat) z, (ρ.set i (none : Option Z))[j]? = some (some z) → i ≠ j ∧ ρ[j]? = some (some z) := fun j z h => by
    by_cases c : i = j
    · subst c
      by_cases l : i < ρ.length
      · rw [List.getElem?_set_self l] at h
        cases h
      · rw [List.getElem?_eq_none (by rw [List.length_set]; omega)] at h
        cases h
    · rw [List.getElem?_set_ne c] at h
      exact ⟨c, h⟩
  refine ⟨fun j z h => ?_, fun j1 j2 ds es u n h1 h2 h3 h4 m1 m2 => ?_, by rw [List.length_set, List.length_set, e.len]⟩
  · obtain ⟨c, h⟩ := key j z h
    rw [List.getElem?_set_ne c]
    exact e.at_ j z h
  · obtain ⟨c1, h1⟩ := key j1 _ h1
    obtain ⟨c2, h2⟩ := key j2 _ h2
    rw [List.getElem?_set_ne c1] at h3
    rw [List.getElem?_set_ne c2] at h4
    exact e.df j1 j2 ds es u n h1 h2 h3 h4 m1 m2
section
variable {K : PySem.W.Frag} {W : WX}
def zTryAs (names : List Str) (cau : Str → Bool) (i : Nat) (zb : ZS) (zs : Addr → Str → ZS) : ZS := fun ρ k => zb ρ { k with ex := fun ρ' x => x.n ∈ names ∧ (cau x.n = true → x.pay = none ∧ i < ρ'.length ∧ ∀ a, zs a x.n (ρ'.set i (some (.exc a x.n)))
  ⟨fun ρ2 => k.nx (ρ2.set i none), k.rt, fun ρ2 => k.bk (ρ2.set i none), fun ρ2 => k.ct (ρ2.set i none), fun _ _ => False⟩) ∧ (cau x.n = false → k.ex ρ' x) }
/-- the suite's reading, with the class that is known there -/
def tSuite (K : PySem.W.Frag) (names : List Str) (ts : Addr → Str → TS) (a : Addr) (cls : Value) (d : Option Addr) : TS := fun D σ H => ∃ n, n ∈ names ∧ cls = .ref (clsAt K n) ∧ d = none ∧ ts a n D σ H
theorem tr_tryAs {names : List Str} {cau : Str → Bool} {c : Value} {i : Nat} {tb : WX → TS} {zb : ZS} {ts : Addr → Str → TS} {zs : Addr → Str → ZS} (cat : ∀ n ∈ names, PySem.W.exmOne K (.ref (clsAt K n)) c = some (cau n)) (hb : ∀ W', TrS K W' (tb W') zb) (hs : ∀ a n, n ∈ names → TrS K WF (ts a n) (zs a n)) :
    TrS K W (fun D σ H => tb (wAs K c i (tSuite K names ts) W D) D σ H) (zTryAs names cau i zb zs) := fun F0 H0 F ρ σ H k D g s e hz a => by
  refine hb _ F0 H0 F ρ σ H _ D g s e hz ⟨a.nx, a.bk, a.ct, a.rt, fun x C d ρ' σ' F' H' g' s' l' e' rx hx => ?_⟩
  obtain ⟨hn, yes, no⟩ := hx
  obtain ⟨rc, rp⟩ := rx
  have rx : RX K F' H' x C d := ⟨rc, rp⟩
  refine ⟨cau x.n, by rw [rc]; exact cat x.n hn, fun hc adr na => ?_, fun hc => a.ex x C d ρ' σ' F' H' g' s' l' e' rx (no hc)⟩
  obtain ⟨hp, hi, hy⟩ := yes hc
  rw [hp] at rp
  refine ⟨x.n, hn, rc, rp, ?_⟩
  have e2 := e'.set (i := i) (c := .exc adr x.n) (v := .ref adr) rfl trivial hi
  exact hs adr x.n hn F0 H0 F' _ _ H' _ _ g' s' e2 (hy adr) ⟨fun ρ2 F2 σ2 H2 g2 s2 l2 e3 q => a.nx _ F2 _ H2 g2 s2 (l'.trans l2) e3.del q, fun ρ2 F2 σ2 H2 g2 s2 l2 e3 q => a.bk _ F2 _ H2 g2 s2 (l'.trans l2) e3.del q, fun ρ2 F2 σ2 H2 g2 s2 l2 e3 q => a.ct _ F2 _ H2 g2 s2 (l'.trans l2) e3.del q, a.rt,
    fun _ _ _ _ _ _ _ _ _ _ _ _ h => h.elim⟩
variable {X : Cx} {np pos pos' p : Pos}
theorem pzs_tryAs {names : List Str} {cau : Str → Bool} {x y : Str} {c : Value} {i : Nat} {body suite : List Stmt} {b₀ : Stmt} {tb : WX → TS} {zb : ZS} {ts : Addr → Str → TS} {zs : Addr → Str → ZS} (hs : X.stack = X.env :: X.outer) (hf : X.env.frame = some X.env.locals) (hN : X.N.Nodup) (hi : X.N[i]? = some y) (hln : X.env.kindOf y = some .local) (hc : Names X x c) (tk : Takes X W)
    (cat : ∀ n ∈ names, PySem.W.exmOne K (.ref (clsAt K n)) c = some (cau n))
    (hb : ∀ (W' : WX) (pn : List (Addr × Obj)) (xe : Value → Shared → Prop), Takes (X.tr pn xe) W' → PassesOwn (model X.prog X.w) X.A X.env xe → PZB K (X.tr pn xe) W' body (tb W') zb)
    (hsu : ∀ (a : Addr) (oe : Obj) (n : Str) (pn : List (Addr × Obj)), n ∈ names → Zc (.ref (clsAt K n)) none oe → (∃ vs, oe.data = .fields vs) → PZB K (X.suite a ((a, oe) :: pn)) WF (b₀ :: suite) (ts a n) (zs a n)) (hsz : ∀ a n, n ∈ names → TrS K WF (ts a n) (zs a n)) (htb : ∀ W', TrS K W' (tb W') zb) (hK : X.K = K := by rfl) :
    PZS K X W (.Try body [.ExceptHandler (some (.Name x np)) (some y) (b₀ :: suite) pos'] [] [] pos) (fun D σ H => tb (wAs K c i (tSuite K names ts) W D) D σ H) (zTryAs names cau i zb zs) := by
  subst hK
  refine ⟨ps_try_as hs hf hN hi hln hc tk (fun W' pn xe t q => (hb W' pn xe t q).pe) fun a oe cls d pn hz hd => ?_, tr_tryAs cat htb hsz⟩
  refine ⟨fun pins s σ H D I h => ?_⟩
  obtain ⟨n, hn, rfl, rfl, h⟩ := h
  exact (hsu a oe n pn hn hz hd).pe.run pins s σ H D I h
/-! ### isinstance(e, ..) in the suite -/
def tIsE (i : Nat) (a : Addr) (b : Bool) : TE := fun σ H Q => σ[i]? = some (some (.ref a)) ∧ Q (.bl b) H
def zIsE (i : Nat) (a : Addr) (b : Bool) : ZE := fun ρ Q _ => (∃ x, ρ[i]? = some (some (.exc a x))) ∧ Q (.dat (.bool b))
theorem tr_isE {i : Nat} {a : Addr} {b : Bool} : Tr K W (tIsE i a b) (zIsE i a b) := fun F ρ σ H Qz Ez Q g e hz q x => by
  obtain ⟨⟨n, h1⟩, h2⟩ := hz
  obtain ⟨v, e1, e2⟩ := e.at_ i _ h1
  cases (show v = .ref a from e2)
  exact ⟨e1, q (.dat (.bool b)) _ H (.refl _ _ _) (Dz.bl b) h2⟩
theorem pe_clsV {x : Str} {C : Addr} (hg : Gl X x) (hm : X.mg x = some (.ref C)) (hd : (x == ("__debug__" : Str)) = false) : PE X (.Name x p) (tC (.ref C)) := pe_glob (v := .ref C) hg hm rfl hd
variable {a : Addr} {oe : Obj} {pn : List (Addr × Obj)} {n : Str}
/-- the class of an except clause or of isinstance, as a value: an own class or a built-in one -/
structure ClsV (X : Cx) (x : Str) (v : V) (cv : Value) : Prop where
  pe : ∀ p : Pos, PE X (.Name x p) (tC v)
  one : ∀ u, RelV v u → u = cv
theorem clsV_own {x : Str} {C : Addr} (hm : X.mg x = some (.ref C)) (hg : Gl X x := by rfl) (hd : (x == ("__debug__" : Str)) = false := by decide) : ClsV X x (.ref C) (.ref C) := ⟨fun _ => pe_clsV hg hm hd, fun u h => h⟩
theorem clsV_ty {x : Str} {T : String} (hm : X.mg x = none) (hv : bootBuiltins x = some (.type T)) (hg : Gl X x := by rfl) (hn : x ≠ "__name__" := by decide) (hd : (x == ("__debug__" : Str)) = false := by decide) : ClsV X x (.ty T) (.type T) := ⟨fun _ => pe_bltn (v := .ty T) hg hm hv rfl hn hd, fun u h => h⟩
theorem pz_isE {i : Nat} {b : Bool} {y x : Str} {v : V} {cv : Value} {p2 p3 : Pos} (C : ExcC X.K (clsAt K n)) (hz : Zc (.ref (clsAt K n)) none oe) (hf : ∃ vs, oe.data = .fields vs) (hm : X.mg "isinstance" = none) (cl : ClsV (X.suite a ((a, oe) :: pn)) x v cv) (e : PySem.W.kitOne K (.ref (clsAt K n)) cv = some b)
    (hN : X.N[i]? = some y) (hv : Vis X.env.scope y) (hdb : (y == ("__debug__" : Str)) = false := by decide) (hcd : (y == ("__classdict__" : Str)) = false := by decide) (hg : Gl X "isinstance" := by rfl)
    (he : starEach [.Name y p2, .Name x p3] X.env = (false, eval (.Name y p2) X.env) :: starEach [.Name x p3] X.env := by rfl) (he2 : starEach [.Name x p3] X.env = (false, eval (.Name x p3) X.env) :: starEach [] X.env := by rfl) (hpl : (backTo pos (starEach [.Name x p3] X.env)).any (·.1) = false := by rfl) (hK : X.K = K := by rfl) :
    PZ K (X.suite a ((a, oe) :: pn)) W (.Call (.Name "isinstance" p) [.Name y p2, .Name x p3] [] pos) (tIsE i a b) (zIsE i a b) := by
  subst hK
  refine ⟨⟨fun pins s σ H Q I h => ?_⟩, tr_isE⟩
  have pa : PA (X.suite a ((a, oe) :: pn)) [.Name y p2, .Name x p3] (tCons (tVar i) (tCons (tC v) tNil)) := by
    first | exact pa_cons (pe_var hN hv hdb hcd) (pa_cons (cl.pe p3) pa_nil he2) he | exact pa_cons (pe_var hN hv hdb hcd) (pa_cons (cl.pe p3) pa_nil)
  have pe : PE (X.suite a ((a, oe) :: pn)) (.Call (.Name "isinstance" p) [.Name y p2, .Name x p3] [] pos) (tCB (rIsE X.K (clsAt X.K n) a) (tCons (tVar i) (tCons (tC v) tNil))) := by
    first | exact pe_callB (call_isE C hz hf) hg hm (by decide +kernel) pa (by decide) (by decide) he hpl | exact pe_callB (call_isE C hz hf) hg hm (by decide +kernel) pa (by decide) (by decide)
  exact pe.run pins s σ H Q I ⟨.ref a, h.1, v, cv, b, rfl, cl.one, e, h.2⟩
/-- isinstance(e, (A, B)) -/
def rIsET (K : PySem.W.Frag) (D a : Addr) : List V → Hp → VK → Prop := fun xs H Q => ∃ (p : Addr) (vs : List V) (cvs : List Value) (b : Bool), xs = [.ref a, .ref p] ∧ SqT K H p vs ∧ (∀ us, Vals vs us → us = cvs) ∧ PySem.W.kitAny K (.ref D) cvs = some b ∧ Q (.bl b) H
def tIsE2 (i : Nat) (a : Addr) (b : Bool) (vs : List V) : TE := fun σ H Q => σ[i]? = some (some (.ref a)) ∧ ∀ l, H l = none → Q (.bl b) (upd H l (.tup vs))
theorem tr_isE2 {i : Nat} {a : Addr} {b : Bool} {vs : List V} : Tr K W (tIsE2 i a b vs) (zIsE i a b) := fun F ρ σ H Qz Ez Q g e hz q x => by
  obtain ⟨⟨n, h1⟩, h2⟩ := hz
  obtain ⟨v, e1, e2⟩ := e.at_ i _ h1
  cases (show v = .ref a from e2)
  exact ⟨e1, fun l nl => q (.dat (.bool b)) _ _ (.new nl) (Dz.bl b) h2⟩
theorem call_isET {D : Addr} (C : ExcC X.K D) (hz : Zc (.ref D) none oe) (hf : ∃ vs, oe.data = .fields vs) : CallR (X.suite a ((a, oe) :: pn)) (.builtin "isinstance") (rIsET X.K D a) := by
  intro pins s σ H xs us Q I r h
  obtain ⟨p, vs, cvs, b, rfl, ht, one, e, q⟩ := h
  obtain ⟨u1, u2, rfl, r1, r2⟩ := vals2 r
  cases (show u1 = Value.ref a from r1)
  cases (show u2 = Value.ref p from r2)
  obtain ⟨its, rv, ⟨⟨oc, od, oda, osl⟩, ho, hc, n, hd⟩, _⟩ := I.tuple ht
  obtain rfl := one _ rv
  simp only at hc hd
  subst hc hd
  obtain ⟨hget, _⟩ := I.pin (a, oe) (List.mem_append.mpr (.inl List.mem_cons_self))
  obtain ⟨fs, hfs⟩ := hf
  have J : PySem.W.InstAt s.heap a oe D none := by
    obtain ⟨c, d, da, sl⟩ := oe
    obtain ⟨h1, h2⟩ := hz
    dsimp only at h1 h2 hfs
    subst h1 h2 hfs
    exact ⟨hget, rfl, rfl, trivial⟩
  exact PySem.W.kia_tup (PySem.W.handS_kitx_exc C.hg C.hk C.hs C.hd C.ha C.hn C.ht C.hm) I.kIn J ho e (fun z => nomatch z) fun tk => ⟨.bl b, H, I.kept (t' := tk) fun _ _ z => z, rfl, q⟩
theorem pz_isE2 {i : Nat} {b : Bool} {y x x' : Str} {v v' : V} {cv cv' : Value} {k0 : Nat} {p2 p3 p4 p5 : Pos} (C : ExcC X.K (clsAt K n)) (hz : Zc (.ref (clsAt K n)) none oe) (hf : ∃ vs, oe.data = .fields vs) (hm : X.mg "isinstance" = none) (cl : ClsV (X.suite a ((a, oe) :: pn)) x v cv) (cl' : ClsV (X.suite a ((a, oe) :: pn)) x' v' cv') (e : PySem.W.kitAny K (.ref (clsAt K n)) [cv, cv'] = some b)
    (hN : X.N[i]? = some y) (hv : Vis X.env.scope y) (hdb : (y == ("__debug__" : Str)) = false := by decide) (hcd : (y == ("__classdict__" : Str)) = false := by decide) (hg : Gl X "isinstance" := by rfl)
    (hi : starEach [.Name x p4, .Name x' p5] X.env = (false, eval (.Name x p4) X.env) :: starEach [.Name x' p5] X.env := by rfl) (hi2 : starEach [.Name x' p5] X.env = (false, eval (.Name x' p5) X.env) :: starEach [] X.env := by rfl)
    (he : starEach [.Name y p2, .Tuple [.Name x p4, .Name x' p5] k0 p3] X.env = (false, eval (.Name y p2) X.env) :: starEach [.Tuple [.Name x p4, .Name x' p5] k0 p3] X.env := by rfl) (he2 : starEach [.Tuple [.Name x p4, .Name x' p5] k0 p3] X.env = (false, eval (.Tuple [.Name x p4, .Name x' p5] k0 p3) X.env) :: starEach [] X.env := by rfl) (hpl : (backTo pos (starEach [.Tuple [.Name x p4, .Name x' p5] k0 p3] X.env)).any (·.1) = false := by rfl) (hK : X.K = K := by rfl) :
    PZ K (X.suite a ((a, oe) :: pn)) W (.Call (.Name "isinstance" p) [.Name y p2, .Tuple [.Name x p4, .Name x' p5] k0 p3] [] pos) (tIsE2 i a b [v, v']) (zIsE i a b) := by
  subst hK
  refine ⟨⟨fun pins s σ H Q I h => ?_⟩, tr_isE2⟩
  have pc : PA (X.suite a ((a, oe) :: pn)) [.Name x p4, .Name x' p5] (tCons (tC v) (tCons (tC v') tNil)) := by
    first | exact pa_cons (cl.pe p4) (pa_cons (cl'.pe p5) pa_nil hi2) hi | exact pa_cons (cl.pe p4) (pa_cons (cl'.pe p5) pa_nil)
  have pa : PA (X.suite a ((a, oe) :: pn)) [.Name y p2, .Tuple [.Name x p4, .Name x' p5] k0 p3] (tCons (tVar i) (tCons (tTup (tCons (tC v) (tCons (tC v') tNil))) tNil)) := by
    first | exact pa_cons (pe_var hN hv hdb hcd) (pa_cons (pe_tup pc) pa_nil he2) he | exact pa_cons (pe_var hN hv hdb hcd) (pa_cons (pe_tup pc) pa_nil)
  have pe : PE (X.suite a ((a, oe) :: pn)) (.Call (.Name "isinstance" p) [.Name y p2, .Tuple [.Name x p4, .Name x' p5] k0 p3] [] pos) (tCB (rIsET X.K (clsAt X.K n) a) (tCons (tVar i) (tCons (tTup (tCons (tC v) (tCons (tC v') tNil))) tNil))) := by
    first | exact pe_callB (call_isET C hz hf) hg hm (by decide +kernel) pa (by decide) (by decide) he hpl | exact pe_callB (call_isET C hz hf) hg hm (by decide +kernel) pa (by decide) (by decide)
  refine pe.run pins s σ H Q I ⟨.ref a, h.1, by show 2 ≤ sizeLine; decide, fun l nl => ⟨l, [v, v'], [cv, cv'], b, rfl, .inl (.inl upd_same), fun us hu => ?_, e, ?_⟩⟩
  · cases hu with
    | cons r1 t =>
      cases t with
      | cons r2 t =>
        cases t
        rw [cl.one _ r1, cl'.one _ r2]
  · exact h.2 l nl
end
/-! ### the body's words without its place -/
def lookE (X : Cx) : Value → Shared → Prop := fun e s₁ => wpAny (model X.prog X.w) X.A (noteFrame e X.env) (fun _ s₂ => wpAny (model X.prog X.w) X.A (setFlight e none) (fun _ _ => True) (fun _ _ => True) s₂) (fun _ _ => True) s₁
theorem takes_look {X : Cx} {W : WX} {pn : List (Addr × Obj)} (hs : X.stack = X.env :: X.outer) (hf : X.env.frame = some X.env.locals) : Takes (X.tr pn (lookE X)) W := fun u s' ⟨a, B, sI, pins', σ', H', cls, d, e, J', nb, up, sky, na, os, ag, w⟩ => by
  subst e
  have hfr : X.A.frames = some (X.env :: X.outer) := by
    rw [← hs]
    exact J'.ok.frames
  exact Sky.land Zc.steady hfr hf (by rw [← hs]; exact sky) fun h3 fl3 up3 => trivial
theorem pzs_try {K : PySem.W.Frag} {W : WX} {X : Cx} {np pos pos' : Pos} {names : List Str} {cau : Str → Bool} {x y : Str} {c : Value} {i : Nat} {body suite : List Stmt} {b₀ : Stmt} {tb : WX → TS} {zb : ZS} {ts : Addr → Str → TS} {zs : Addr → Str → ZS} (hs : X.stack = X.env :: X.outer) (hf : X.env.frame = some X.env.locals) (hN : X.N.Nodup) (hi : X.N[i]? = some y) (hln : X.env.kindOf y = some .local) (hc : Names X x c) (tk : Takes X W)
    (cat : ∀ n ∈ names, PySem.W.exmOne K (.ref (clsAt K n)) c = some (cau n))
    (hb : ∀ (W' : WX) (pn : List (Addr × Obj)) (xe : Value → Shared → Prop), Takes (X.tr pn xe) W' → PassesOwn (model X.prog X.w) X.A X.env xe → PZB K (X.tr pn xe) W' body (tb W') zb)
    (hsu : ∀ (a : Addr) (oe : Obj) (n : Str) (pn : List (Addr × Obj)), n ∈ names → Zc (.ref (clsAt K n)) none oe → (∃ vs, oe.data = .fields vs) → PZB K (X.suite a ((a, oe) :: pn)) WF (b₀ :: suite) (ts a n) (zs a n)) (hK : X.K = K := by rfl) :
    PZS K X W (.Try body [.ExceptHandler (some (.Name x np)) (some y) (b₀ :: suite) pos'] [] [] pos) (fun D σ H => tb (wAs K c i (tSuite K names ts) W D) D σ H) (zTryAs names cau i zb zs) :=
  pzs_tryAs hs hf hN hi hln hc tk cat hb hsu (fun a n hn => (hsu a { cls := .ref (clsAt K n), dict := none, data := .fields #[] } n [] hn ⟨rfl, rfl⟩ ⟨_, rfl⟩).tr) (fun W' => (hb W' [] (lookE X) (takes_look hs hf) .looking).tr) hK
end Zl
end
section
/-! ZU: the whole layer; a def that calls itself, told by depth -/
namespace Zl
open PySem PySem.Spec PyProof.Rows L2 Kb
variable [Tabd]
section
variable {P : Program} {w : World} {K : PySem.W.Frag} {mg : Str → Option Value} {base : Heap}
theorem fz_none {x : Str} {st : Stmt} {f : Addr} {fd : FuncData} {ps : List Str} {k n : Nat} (F : L2.Fun K x x st f fd) (g : mg x = some (.ref f)) (b : Binds K fd ps []) : Fz P w K mg base k x n (fun _ _ _ => False) :=
  ⟨f, fd, ps, ⟨fun _ _ _ _ ⟨_, _, _, _, _, _, _, _, h, _⟩ => h.elim, fun _ _ _ _ _ _ _ _ _ _ _ _ _ _ ⟨_, _, _, _, _, _, _, _, h, _⟩ => h.elim⟩, g, F.kp, b⟩
/-- more is promised than is asked -/
theorem Fz.weak {x : Str} {k n : Nat} {f g : ZF} (c : Fz P w K mg base k x n f) (h : ∀ zs Q E, g zs Q E → f zs Q E) : Fz P w K mg base k x n g := by
  obtain ⟨fa, fd, ps, F, hm, hk, hb⟩ := c.ex
  have le : ∀ vs H Q E, spZ K n g vs H Q E → spZ K n f vs H Q E := fun vs H Q E ⟨F, zs, Qz, Ez, a, b, c, d, e, r⟩ => ⟨F, zs, Qz, Ez, a, b, c, d, h _ _ _ e, r⟩
  exact ⟨fa, fd, ps, ⟨fun vs H Q E hs => F.len vs H Q E (le _ _ _ _ hs), fun A o s H ar us vs Q E a b c d e hs => F.run A o s H ar us vs Q E a b c d e (le _ _ _ _ hs)⟩, hm, hk, hb⟩
end
end Zl
end
section
namespace Kb
open PySem PySem.Spec PyProof.Rows L2
open C8 (pss_cut)
def topS (i : Nat) : Stmt := PySem.Challenge.pw_rightrecord_k02_whole_records_and_keys.main.body.getD i (.Pass ⟨0, 0, 0, 0⟩)
abbrev s_is_name : Stmt := topS 3
abbrev N_is_name : List Str := ["value"]
theorem sc_is_name : FnScope N_is_name ["value"] (defScope s_is_name) := ⟨rfl, rfl, rfl, by decide +kernel, rfl, by decide +kernel, by decide +kernel⟩
abbrev s__is_word : Stmt := topS 4
abbrev N__is_word : List Str := ["value", "longest", "first", "last", "letter"]
theorem sc__is_word : FnScope N__is_word ["value", "longest", "first", "last"] (defScope s__is_word) := ⟨rfl, rfl, rfl, by decide +kernel, rfl, by decide +kernel, by decide +kernel⟩
abbrev s_value_kind : Stmt := topS 5
abbrev N_value_kind : List Str := ["value"]
theorem sc_value_kind : FnScope N_value_kind ["value"] (defScope s_value_kind) := ⟨rfl, rfl, rfl, by decide +kernel, rfl, by decide +kernel, by decide +kernel⟩
abbrev s_is_integer_below : Stmt := topS 6
abbrev N_is_integer_below : List Str := ["value", "limit"]
theorem sc_is_integer_below : FnScope N_is_integer_below ["value", "limit"] (defScope s_is_integer_below) := ⟨rfl, rfl, rfl, by decide +kernel, rfl, by decide +kernel, by decide +kernel⟩
abbrev s_is_tuple : Stmt := topS 7
abbrev N_is_tuple : List Str := ["value", "least", "most"]
theorem sc_is_tuple : FnScope N_is_tuple ["value", "least", "most"] (defScope s_is_tuple) := ⟨rfl, rfl, rfl, by decide +kernel, rfl, by decide +kernel, by decide +kernel⟩
abbrev s_is_ascending : Stmt := topS 8
abbrev N_is_ascending : List Str := ["items", "low", "high"]
theorem sc_is_ascending : FnScope N_is_ascending ["items"] (defScope s_is_ascending) := ⟨rfl, rfl, rfl, by decide +kernel, rfl, by decide +kernel, by decide +kernel⟩
abbrev s_has_kinds : Stmt := topS 9
abbrev N_has_kinds : List Str := ["value", "kinds", "item"]
theorem sc_has_kinds : FnScope N_has_kinds ["value", "kinds"] (defScope s_has_kinds) := ⟨rfl, rfl, rfl, by decide +kernel, rfl, by decide +kernel, by decide +kernel⟩
abbrev s_is_schema : Stmt := topS 19
abbrev N_is_schema : List Str := ["value", "entry"]
theorem sc_is_schema : FnScope N_is_schema ["value"] (defScope s_is_schema) := ⟨rfl, rfl, rfl, by decide +kernel, rfl, by decide +kernel, by decide +kernel⟩
abbrev s__is_table : Stmt := topS 20
abbrev N__is_table : List Str := ["value", "name", "size", "kinds", "kind"]
theorem sc__is_table : FnScope N__is_table ["value"] (defScope s__is_table) := ⟨rfl, rfl, rfl, by decide +kernel, rfl, by decide +kernel, by decide +kernel⟩
abbrev s_check_schema : Stmt := topS 21
abbrev N_check_schema : List Str := ["schema"]
theorem sc_check_schema : FnScope N_check_schema ["schema"] (defScope s_check_schema) := ⟨rfl, rfl, rfl, by decide +kernel, rfl, by decide +kernel, by decide +kernel⟩
abbrev s_find_table : Stmt := topS 22
abbrev N_find_table : List Str := ["schema", "table", "entry"]
theorem sc_find_table : FnScope N_find_table ["schema", "table"] (defScope s_find_table) := ⟨rfl, rfl, rfl, by decide +kernel, rfl, by decide +kernel, by decide +kernel⟩
abbrev s_check_table : Stmt := topS 23
abbrev N_check_table : List Str := ["schema", "table"]
theorem sc_check_table : FnScope N_check_table ["schema", "table"] (defScope s_check_table) := ⟨rfl, rfl, rfl, by decide +kernel, rfl, by decide +kernel, by decide +kernel⟩
abbrev s_check_record : Stmt := topS 24
abbrev N_check_record : List Str := ["schema", "table", "record"]
theorem sc_check_record : FnScope N_check_record ["schema", "table", "record"] (defScope s_check_record) := ⟨rfl, rfl, rfl, by decide +kernel, rfl, by decide +kernel, by decide +kernel⟩
abbrev s_table_names : Stmt := topS 25
abbrev N_table_names : List Str := ["schema", "entry"]
theorem sc_table_names : FnScope N_table_names ["schema"] (defScope s_table_names) := ⟨rfl, rfl, rfl, by decide +kernel, rfl, by decide +kernel, by decide +kernel⟩
abbrev s_key_size : Stmt := topS 26
abbrev N_key_size : List Str := ["schema", "table"]
theorem sc_key_size : FnScope N_key_size ["schema", "table"] (defScope s_key_size) := ⟨rfl, rfl, rfl, by decide +kernel, rfl, by decide +kernel, by decide +kernel⟩
abbrev s_column_kinds : Stmt := topS 27
abbrev N_column_kinds : List Str := ["schema", "table"]
theorem sc_column_kinds : FnScope N_column_kinds ["schema", "table"] (defScope s_column_kinds) := ⟨rfl, rfl, rfl, by decide +kernel, rfl, by decide +kernel, by decide +kernel⟩
abbrev s_is_record : Stmt := topS 28
abbrev N_is_record : List Str := ["schema", "table", "value"]
theorem sc_is_record : FnScope N_is_record ["schema", "table", "value"] (defScope s_is_record) := ⟨rfl, rfl, rfl, by decide +kernel, rfl, by decide +kernel, by decide +kernel⟩
abbrev s_record_key : Stmt := topS 29
abbrev N_record_key : List Str := ["schema", "table", "record"]
theorem sc_record_key : FnScope N_record_key ["schema", "table", "record"] (defScope s_record_key) := ⟨rfl, rfl, rfl, by decide +kernel, rfl, by decide +kernel, by decide +kernel⟩
abbrev s__law_stream : Stmt := topS 31
abbrev N__law_stream : List Str := ["script", "at", "cell", "great", "mixed"]
theorem sc__law_stream : FnScope N__law_stream ["script", "at"] (defScope s__law_stream) := ⟨rfl, rfl, rfl, by decide +kernel, rfl, by decide +kernel, by decide +kernel⟩
abbrev s__law_draw : Stmt := topS 32
abbrev N__law_draw : List Str := ["stream", "total", "found", "one", "two"]
theorem sc__law_draw : FnScope N__law_draw ["stream", "total"] (defScope s__law_draw) := ⟨rfl, rfl, rfl, by decide +kernel, rfl, by decide +kernel, by decide +kernel⟩
abbrev s__law_pick : Stmt := topS 33
abbrev N__law_pick : List Str := ["stream", "items"]
theorem sc__law_pick : FnScope N__law_pick ["stream", "items"] (defScope s__law_pick) := ⟨rfl, rfl, rfl, by decide +kernel, rfl, by decide +kernel, by decide +kernel⟩
abbrev s__law_words : Stmt := topS 34
abbrev N__law_words : List Str := ["stream", "total", "letters", "found", "longest", "at", "word", "turn"]
theorem sc__law_words : FnScope N__law_words ["stream", "total", "letters"] (defScope s__law_words) := ⟨rfl, rfl, rfl, by decide +kernel, rfl, by decide +kernel, by decide +kernel⟩
abbrev s__law_names : Stmt := topS 35
abbrev N__law_names : List Str := ["stream", "total"]
theorem sc__law_names : FnScope N__law_names ["stream", "total"] (defScope s__law_names) := ⟨rfl, rfl, rfl, by decide +kernel, rfl, by decide +kernel, by decide +kernel⟩
abbrev s__law_numbers : Stmt := topS 36
abbrev N__law_numbers : List Str := ["stream", "total", "found", "at", "far", "number", "turn"]
theorem sc__law_numbers : FnScope N__law_numbers ["stream", "total"] (defScope s__law_numbers) := ⟨rfl, rfl, rfl, by decide +kernel, rfl, by decide +kernel, by decide +kernel⟩
abbrev s__law_pool : Stmt := topS 37
abbrev N__law_pool : List Str := ["stream", "names"]
theorem sc__law_pool : FnScope N__law_pool ["stream"] (defScope s__law_pool) := ⟨rfl, rfl, rfl, by decide +kernel, rfl, by decide +kernel, by decide +kernel⟩
abbrev s__law_schema : Stmt := topS 38
abbrev N__law_schema : List Str := ["stream", "most", "alike", "tables", "name", "width", "key", "kinds", "column"]
theorem sc__law_schema : FnScope N__law_schema ["stream", "most"] (defScope s__law_schema) := ⟨rfl, rfl, rfl, by decide +kernel, rfl, by decide +kernel, by decide +kernel⟩
abbrev s__law_record : Stmt := topS 39
abbrev N__law_record : List Str := ["stream", "kinds", "pool", "kind"]
theorem sc__law_record : FnScope N__law_record ["stream", "kinds", "pool"] (defScope s__law_record) := ⟨rfl, rfl, rfl, by decide +kernel, rfl, by decide +kernel, by decide +kernel⟩
abbrev s__law_other : Stmt := topS 40
abbrev N__law_other : List Str := ["stream", "options"]
theorem sc__law_other : FnScope N__law_other ["stream"] (defScope s__law_other) := ⟨rfl, rfl, rfl, by decide +kernel, rfl, by decide +kernel, by decide +kernel⟩
abbrev s__law_changed : Stmt := topS 41
abbrev N__law_changed : List Str := ["stream", "value", "way", "at", "options"]
theorem sc__law_changed : FnScope N__law_changed ["stream", "value"] (defScope s__law_changed) := ⟨rfl, rfl, rfl, by decide +kernel, rfl, by decide +kernel, by decide +kernel⟩
abbrev s__law_is_word : Stmt := topS 42
abbrev N__law_is_word : List Str := ["value", "letters", "most", "letter"]
theorem sc__law_is_word : FnScope N__law_is_word ["value", "letters", "most"] (defScope s__law_is_word) := ⟨rfl, rfl, rfl, by decide +kernel, rfl, by decide +kernel, by decide +kernel⟩
abbrev s__law_is_whole : Stmt := topS 43
abbrev N__law_is_whole : List Str := ["value", "low", "high"]
theorem sc__law_is_whole : FnScope N__law_is_whole ["value", "low", "high"] (defScope s__law_is_whole) := ⟨rfl, rfl, rfl, by decide +kernel, rfl, by decide +kernel, by decide +kernel⟩
abbrev s__law_kind : Stmt := topS 44
abbrev N__law_kind : List Str := ["value"]
theorem sc__law_kind : FnScope N__law_kind ["value"] (defScope s__law_kind) := ⟨rfl, rfl, rfl, by decide +kernel, rfl, by decide +kernel, by decide +kernel⟩
abbrev s__law_is_record : Stmt := topS 45
abbrev N__law_is_record : List Str := ["kinds", "value", "part"]
theorem sc__law_is_record : FnScope N__law_is_record ["kinds", "value"] (defScope s__law_is_record) := ⟨rfl, rfl, rfl, by decide +kernel, rfl, by decide +kernel, by decide +kernel⟩
abbrev s__law_bad_table : Stmt := topS 46
abbrev N__law_bad_table : List Str := ["stream", "schema", "names", "options", "table"]
theorem sc__law_bad_table : FnScope N__law_bad_table ["stream", "schema"] (defScope s__law_bad_table) := ⟨rfl, rfl, rfl, by decide +kernel, rfl, by decide +kernel, by decide +kernel⟩
abbrev s__law_error : Stmt := topS 47
abbrev N__law_error : List Str := ["way", "schema", "table", "value", "e"]
theorem sc__law_error : FnScope N__law_error ["way", "schema", "table", "value"] (defScope s__law_error) := ⟨rfl, rfl, rfl, by decide +kernel, rfl, by decide +kernel, by decide +kernel⟩
abbrev s__law_table_right : Stmt := topS 48
abbrev N__law_table_right : List Str := ["stream", "schema", "pool", "name", "key", "kinds", "records", "record", "other", "mates", "value", "due", "turn", "at"]
theorem sc__law_table_right : FnScope N__law_table_right ["stream", "schema", "pool", "name", "key", "kinds"] (defScope s__law_table_right) := ⟨rfl, rfl, rfl, by decide +kernel, rfl, by decide +kernel, by decide +kernel⟩
abbrev s_law : Stmt := topS 49
abbrev N_law : List Str := ["script", "k", "stream", "schema", "pool", "before", "table", "name", "key", "kinds", "way", "value"]
theorem sc_law : FnScope N_law ["script"] (defScope s_law) := ⟨rfl, rfl, rfl, by decide +kernel, rfl, by decide +kernel, by decide +kernel⟩
structure Txt (K : PySem.W.Frag) (mg : Str → Option Value) where
  a_is_name : Addr
  f_is_name : FuncData
  F_is_name : L2.Fun K "is_name" "is_name" s_is_name a_is_name f_is_name
  g_is_name : mg "is_name" = some (.ref a_is_name)
  b_is_name : Binds K f_is_name ["value"] []
  a__is_word : Addr
  f__is_word : FuncData
  F__is_word : L2.Fun K "_is_word" "_is_word" s__is_word a__is_word f__is_word
  g__is_word : mg "_is_word" = some (.ref a__is_word)
  b__is_word : Binds K f__is_word ["value", "longest", "first", "last"] []
  a_value_kind : Addr
  f_value_kind : FuncData
  F_value_kind : L2.Fun K "value_kind" "value_kind" s_value_kind a_value_kind f_value_kind
  g_value_kind : mg "value_kind" = some (.ref a_value_kind)
  b_value_kind : Binds K f_value_kind ["value"] []
  a_is_integer_below : Addr
  f_is_integer_below : FuncData
  F_is_integer_below : L2.Fun K "is_integer_below" "is_integer_below" s_is_integer_below a_is_integer_below f_is_integer_below
  g_is_integer_below : mg "is_integer_below" = some (.ref a_is_integer_below)
  b_is_integer_below : Binds K f_is_integer_below ["value", "limit"] []
  a_is_tuple : Addr
  f_is_tuple : FuncData
  F_is_tuple : L2.Fun K "is_tuple" "is_tuple" s_is_tuple a_is_tuple f_is_tuple
  g_is_tuple : mg "is_tuple" = some (.ref a_is_tuple)
  b_is_tuple : Binds K f_is_tuple ["value", "least", "most"] []
  a_is_ascending : Addr
  f_is_ascending : FuncData
  F_is_ascending : L2.Fun K "is_ascending" "is_ascending" s_is_ascending a_is_ascending f_is_ascending
  g_is_ascending : mg "is_ascending" = some (.ref a_is_ascending)
  b_is_ascending : Binds K f_is_ascending ["items"] []
  a_has_kinds : Addr
  f_has_kinds : FuncData
  F_has_kinds : L2.Fun K "has_kinds" "has_kinds" s_has_kinds a_has_kinds f_has_kinds
  g_has_kinds : mg "has_kinds" = some (.ref a_has_kinds)
  b_has_kinds : Binds K f_has_kinds ["value", "kinds"] []
  a_is_schema : Addr
  f_is_schema : FuncData
  F_is_schema : L2.Fun K "is_schema" "is_schema" s_is_schema a_is_schema f_is_schema
  g_is_schema : mg "is_schema" = some (.ref a_is_schema)
  b_is_schema : Binds K f_is_schema ["value"] []
  a__is_table : Addr
  f__is_table : FuncData
  F__is_table : L2.Fun K "_is_table" "_is_table" s__is_table a__is_table f__is_table
  g__is_table : mg "_is_table" = some (.ref a__is_table)
  b__is_table : Binds K f__is_table ["value"] []
  a_check_schema : Addr
  f_check_schema : FuncData
  F_check_schema : L2.Fun K "check_schema" "check_schema" s_check_schema a_check_schema f_check_schema
  g_check_schema : mg "check_schema" = some (.ref a_check_schema)
  b_check_schema : Binds K f_check_schema ["schema"] []
  a_find_table : Addr
  f_find_table : FuncData
  F_find_table : L2.Fun K "find_table" "find_table" s_find_table a_find_table f_find_table
  g_find_table : mg "find_table" = some (.ref a_find_table)
  b_find_table : Binds K f_find_table ["schema", "table"] []
  a_check_table : Addr
  f_check_table : FuncData
  F_check_table : L2.Fun K "check_table" "check_table" s_check_table a_check_table f_check_table
  g_check_table : mg "check_table" = some (.ref a_check_table)
  b_check_table : Binds K f_check_table ["schema", "table"] []
  a_check_record : Addr
  f_check_record : FuncData
  F_check_record : L2.Fun K "check_record" "check_record" s_check_record a_check_record f_check_record
  g_check_record : mg "check_record" = some (.ref a_check_record)
  b_check_record : Binds K f_check_record ["schema", "table", "record"] []
  a_table_names : Addr
  f_table_names : FuncData
  F_table_names : L2.Fun K "table_names" "table_names" s_table_names a_table_names f_table_names
  g_table_names : mg "table_names" = some (.ref a_table_names)
  b_table_names : Binds K f_table_names ["schema"] []
  a_key_size : Addr
  f_key_size : FuncData
  F_key_size : L2.Fun K "key_size" "key_size" s_key_size a_key_size f_key_size
  g_key_size : mg "key_size" = some (.ref a_key_size)
  b_key_size : Binds K f_key_size ["schema", "table"] []
  a_column_kinds : Addr
  f_column_kinds : FuncData
  F_column_kinds : L2.Fun K "column_kinds" "column_kinds" s_column_kinds a_column_kinds f_column_kinds
  g_column_kinds : mg "column_kinds" = some (.ref a_column_kinds)
  b_column_kinds : Binds K f_column_kinds ["schema", "table"] []
  a_is_record : Addr
  f_is_record : FuncData
  F_is_record : L2.Fun K "is_record" "is_record" s_is_record a_is_record f_is_record
  g_is_record : mg "is_record" = some (.ref a_is_record)
  b_is_record : Binds K f_is_record ["schema", "table", "value"] []
  a_record_key : Addr
  f_record_key : FuncData
  F_record_key : L2.Fun K "record_key" "record_key" s_record_key a_record_key f_record_key
  g_record_key : mg "record_key" = some (.ref a_record_key)
  b_record_key : Binds K f_record_key ["schema", "table", "record"] []
  a__law_stream : Addr
  f__law_stream : FuncData
  F__law_stream : L2.Fun K "_law_stream" "_law_stream" s__law_stream a__law_stream f__law_stream
  g__law_stream : mg "_law_stream" = some (.ref a__law_stream)
  b__law_stream : Binds K f__law_stream ["script", "at"] []
  a__law_draw : Addr
  f__law_draw : FuncData
  F__law_draw : L2.Fun K "_law_draw" "_law_draw" s__law_draw a__law_draw f__law_draw
  g__law_draw : mg "_law_draw" = some (.ref a__law_draw)
  b__law_draw : Binds K f__law_draw ["stream", "total"] []
  a__law_pick : Addr
  f__law_pick : FuncData
  F__law_pick : L2.Fun K "_law_pick" "_law_pick" s__law_pick a__law_pick f__law_pick
  g__law_pick : mg "_law_pick" = some (.ref a__law_pick)
  b__law_pick : Binds K f__law_pick ["stream", "items"] []
  a__law_words : Addr
  f__law_words : FuncData
  F__law_words : L2.Fun K "_law_words" "_law_words" s__law_words a__law_words f__law_words
  g__law_words : mg "_law_words" = some (.ref a__law_words)
  b__law_words : Binds K f__law_words ["stream", "total", "letters"] []
  a__law_names : Addr
  f__law_names : FuncData
  F__law_names : L2.Fun K "_law_names" "_law_names" s__law_names a__law_names f__law_names
  g__law_names : mg "_law_names" = some (.ref a__law_names)
  b__law_names : Binds K f__law_names ["stream", "total"] []
  a__law_numbers : Addr
  f__law_numbers : FuncData
  F__law_numbers : L2.Fun K "_law_numbers" "_law_numbers" s__law_numbers a__law_numbers f__law_numbers
  g__law_numbers : mg "_law_numbers" = some (.ref a__law_numbers)
  b__law_numbers : Binds K f__law_numbers ["stream", "total"] []
  a__law_pool : Addr
  f__law_pool : FuncData
  F__law_pool : L2.Fun K "_law_pool" "_law_pool" s__law_pool a__law_pool f__law_pool
  g__law_pool : mg "_law_pool" = some (.ref a__law_pool)
  b__law_pool : Binds K f__law_pool ["stream"] []
  a__law_schema : Addr
  f__law_schema : FuncData
  F__law_schema : L2.Fun K "_law_schema" "_law_schema" s__law_schema a__law_schema f__law_schema
  g__law_schema : mg "_law_schema" = some (.ref a__law_schema)
  b__law_schema : Binds K f__law_schema ["stream", "most"] []
  a__law_record : Addr
  f__law_record : FuncData
  F__law_record : L2.Fun K "_law_record" "_law_record" s__law_record a__law_record f__law_record
  g__law_record : mg "_law_record" = some (.ref a__law_record)
  b__law_record : Binds K f__law_record ["stream", "kinds", "pool"] []
  a__law_other : Addr
  f__law_other : FuncData
  F__law_other : L2.Fun K "_law_other" "_law_other" s__law_other a__law_other f__law_other
  g__law_other : mg "_law_other" = some (.ref a__law_other)
  b__law_other : Binds K f__law_other ["stream"] []
  a__law_changed : Addr
  f__law_changed : FuncData
  F__law_changed : L2.Fun K "_law_changed" "_law_changed" s__law_changed a__law_changed f__law_changed
  g__law_changed : mg "_law_changed" = some (.ref a__law_changed)
  b__law_changed : Binds K f__law_changed ["stream", "value"] []
  a__law_is_word : Addr
  f__law_is_word : FuncData
  F__law_is_word : L2.Fun K "_law_is_word" "_law_is_word" s__law_is_word a__law_is_word f__law_is_word
  g__law_is_word : mg "_law_is_word" = some (.ref a__law_is_word)
  b__law_is_word : Binds K f__law_is_word ["value", "letters", "most"] []
  a__law_is_whole : Addr
  f__law_is_whole : FuncData
  F__law_is_whole : L2.Fun K "_law_is_whole" "_law_is_whole" s__law_is_whole a__law_is_whole f__law_is_whole
  g__law_is_whole : mg "_law_is_whole" = some (.ref a__law_is_whole)
  b__law_is_whole : Binds K f__law_is_whole ["value", "low", "high"] []
  a__law_kind : Addr
  f__law_kind : FuncData
  F__law_kind : L2.Fun K "_law_kind" "_law_kind" s__law_kind a__law_kind f__law_kind
  g__law_kind : mg "_law_kind" = some (.ref a__law_kind)
  b__law_kind : Binds K f__law_kind ["value"] []
  a__law_is_record : Addr
  f__law_is_record : FuncData
  F__law_is_record : L2.Fun K "_law_is_record" "_law_is_record" s__law_is_record a__law_is_record f__law_is_record
  g__law_is_record : mg "_law_is_record" = some (.ref a__law_is_record)
  b__law_is_record : Binds K f__law_is_record ["kinds", "value"] []
  a__law_bad_table : Addr
  f__law_bad_table : FuncData
  F__law_bad_table : L2.Fun K "_law_bad_table" "_law_bad_table" s__law_bad_table a__law_bad_table f__law_bad_table
  g__law_bad_table : mg "_law_bad_table" = some (.ref a__law_bad_table)
  b__law_bad_table : Binds K f__law_bad_table ["stream", "schema"] []
  a__law_error : Addr
  f__law_error : FuncData
  F__law_error : L2.Fun K "_law_error" "_law_error" s__law_error a__law_error f__law_error
  g__law_error : mg "_law_error" = some (.ref a__law_error)
  b__law_error : Binds K f__law_error ["way", "schema", "table", "value"] []
  a__law_table_right : Addr
  f__law_table_right : FuncData
  F__law_table_right : L2.Fun K "_law_table_right" "_law_table_right" s__law_table_right a__law_table_right f__law_table_right
  g__law_table_right : mg "_law_table_right" = some (.ref a__law_table_right)
  b__law_table_right : Binds K f__law_table_right ["stream", "schema", "pool", "name", "key", "kinds"] []
  a_law : Addr
  f_law : FuncData
  F_law : L2.Fun K "law" "law" s_law a_law f_law
  g_law : mg "law" = some (.ref a_law)
  b_law : Binds K f_law ["script"] []
  m_KeyError : mg "KeyError" = none
  m_abs : mg "abs" = none
  m_all : mg "all" = none
  m_bool : mg "bool" = none
  m_int : mg "int" = none
  m_isinstance : mg "isinstance" = none
  m_len : mg "len" = none
  m_list : mg "list" = none
  m_max : mg "max" = none
  m_min : mg "min" = none
  m_range : mg "range" = none
  m_repr : mg "repr" = none
  m_sorted : mg "sorted" = none
  m_str : mg "str" = none
  m_tuple : mg "tuple" = none
  m_type : mg "type" = none
  m_zip : mg "zip" = none
  t_MAX_COLUMNS : Tok
  v_MAX_COLUMNS : mg "MAX_COLUMNS" = some (.int 4 t_MAX_COLUMNS)
  t_MAX_NAME : Tok
  v_MAX_NAME : mg "MAX_NAME" = some (.int 8 t_MAX_NAME)
  t_MAX_NUMBER : Tok
  v_MAX_NUMBER : mg "MAX_NUMBER" = some (.int 1000000000 t_MAX_NUMBER)
  t_MAX_TABLES : Tok
  v_MAX_TABLES : mg "MAX_TABLES" = some (.int 6 t_MAX_TABLES)
theorem all_mk {K : PySem.W.Frag} {h : Heap} {mg : Str → Option Value} (X : K.In h) (G : h.Ns mainGlobals mg)
    {f0 : Addr} {od0 an0 : Option Addr} {sl0 : Array (Option Value)} {oc0 kV0 dc0 pm0 cd0 ct0 : Value}
    {f1 : Addr} {od1 an1 : Option Addr} {sl1 : Array (Option Value)} {oc1 kV1 dc1 pm1 cd1 ct1 : Value}
    {f2 : Addr} {od2 an2 : Option Addr} {sl2 : Array (Option Value)} {oc2 kV2 dc2 pm2 cd2 ct2 : Value}
    {f3 : Addr} {od3 an3 : Option Addr} {sl3 : Array (Option Value)} {oc3 kV3 dc3 pm3 cd3 ct3 : Value}
    {f4 : Addr} {od4 an4 : Option Addr} {sl4 : Array (Option Value)} {oc4 kV4 dc4 pm4 cd4 ct4 : Value}
    {f5 : Addr} {od5 an5 : Option Addr} {sl5 : Array (Option Value)} {oc5 kV5 dc5 pm5 cd5 ct5 : Value}
    {f6 : Addr} {od6 an6 : Option Addr} {sl6 : Array (Option Value)} {oc6 kV6 dc6 pm6 cd6 ct6 : Value}
    {f7 : Addr} {od7 an7 : Option Addr} {sl7 : Array (Option Value)} {oc7 kV7 dc7 pm7 cd7 ct7 : Value}
    {f8 : Addr} {od8 an8 : Option Addr} {sl8 : Array (Option Value)} {oc8 kV8 dc8 pm8 cd8 ct8 : Value}
    {f9 : Addr} {od9 an9 : Option Addr} {sl9 : Array (Option Value)} {oc9 kV9 dc9 pm9 cd9 ct9 : Value}
    {f10 : Addr} {od10 an10 : Option Addr} {sl10 : Array (Option Value)} {oc10 kV10 dc10 pm10 cd10 ct10 : Value}
    {f11 : Addr} {od11 an11 : Option Addr} {sl11 : Array (Option Value)} {oc11 kV11 dc11 pm11 cd11 ct11 : Value}
    {f12 : Addr} {od12 an12 : Option Addr} {sl12 : Array (Option Value)} {oc12 kV12 dc12 pm12 cd12 ct12 : Value}
    {f13 : Addr} {od13 an13 : Option Addr} {sl13 : Array (Option Value)} {oc13 kV13 dc13 pm13 cd13 ct13 : Value}
    {f14 : Addr} {od14 an14 : Option Addr} {sl14 : Array (Option Value)} {oc14 kV14 dc14 pm14 cd14 ct14 : Value}
    {f15 : Addr} {od15 an15 : Option Addr} {sl15 : Array (Option Value)} {oc15 kV15 dc15 pm15 cd15 ct15 : Value}
    {f16 : Addr} {od16 an16 : Option Addr} {sl16 : Array (Option Value)} {oc16 kV16 dc16 pm16 cd16 ct16 : Value}
    {f17 : Addr} {od17 an17 : Option Addr} {sl17 : Array (Option Value)} {oc17 kV17 dc17 pm17 cd17 ct17 : Value}
    {f18 : Addr} {od18 an18 : Option Addr} {sl18 : Array (Option Value)} {oc18 kV18 dc18 pm18 cd18 ct18 : Value}
    {f19 : Addr} {od19 an19 : Option Addr} {sl19 : Array (Option Value)} {oc19 kV19 dc19 pm19 cd19 ct19 : Value}
    {f20 : Addr} {od20 an20 : Option Addr} {sl20 : Array (Option Value)} {oc20 kV20 dc20 pm20 cd20 ct20 : Value}
    {f21 : Addr} {od21 an21 : Option Addr} {sl21 : Array (Option Value)} {oc21 kV21 dc21 pm21 cd21 ct21 : Value}
    {f22 : Addr} {od22 an22 : Option Addr} {sl22 : Array (Option Value)} {oc22 kV22 dc22 pm22 cd22 ct22 : Value}
    {f23 : Addr} {od23 an23 : Option Addr} {sl23 : Array (Option Value)} {oc23 kV23 dc23 pm23 cd23 ct23 : Value}
    {f24 : Addr} {od24 an24 : Option Addr} {sl24 : Array (Option Value)} {oc24 kV24 dc24 pm24 cd24 ct24 : Value}
    {f25 : Addr} {od25 an25 : Option Addr} {sl25 : Array (Option Value)} {oc25 kV25 dc25 pm25 cd25 ct25 : Value}
    {f26 : Addr} {od26 an26 : Option Addr} {sl26 : Array (Option Value)} {oc26 kV26 dc26 pm26 cd26 ct26 : Value}
    {f27 : Addr} {od27 an27 : Option Addr} {sl27 : Array (Option Value)} {oc27 kV27 dc27 pm27 cd27 ct27 : Value}
    {f28 : Addr} {od28 an28 : Option Addr} {sl28 : Array (Option Value)} {oc28 kV28 dc28 pm28 cd28 ct28 : Value}
    {f29 : Addr} {od29 an29 : Option Addr} {sl29 : Array (Option Value)} {oc29 kV29 dc29 pm29 cd29 ct29 : Value}
    {f30 : Addr} {od30 an30 : Option Addr} {sl30 : Array (Option Value)} {oc30 kV30 dc30 pm30 cd30 ct30 : Value}
    {f31 : Addr} {od31 an31 : Option Addr} {sl31 : Array (Option Value)} {oc31 kV31 dc31 pm31 cd31 ct31 : Value}
    {f32 : Addr} {od32 an32 : Option Addr} {sl32 : Array (Option Value)} {oc32 kV32 dc32 pm32 cd32 ct32 : Value}
    {f33 : Addr} {od33 an33 : Option Addr} {sl33 : Array (Option Value)} {oc33 kV33 dc33 pm33 cd33 ct33 : Value}
    {f34 : Addr} {od34 an34 : Option Addr} {sl34 : Array (Option Value)} {oc34 kV34 dc34 pm34 cd34 ct34 : Value}
    {f35 : Addr} {od35 an35 : Option Addr} {sl35 : Array (Option Value)} {oc35 kV35 dc35 pm35 cd35 ct35 : Value}
    {f36 : Addr} {od36 an36 : Option Addr} {sl36 : Array (Option Value)} {oc36 kV36 dc36 pm36 cd36 ct36 : Value}
    {t_MAX_COLUMNS : Tok}
    {t_MAX_NAME : Tok}
    {t_MAX_NUMBER : Tok}
    {t_MAX_TABLES : Tok}
    (a0 : PySem.W.nsIn K mainGlobals "is_name" = some (some (.ref f0))) (l0 : K.lookup f0 = some ⟨oc0, od0, .func (PySem.W.fnOf "is_name" "is_name" (defArgs s_is_name) (defBody s_is_name) (defScope s_is_name) .none kV0 dc0 pm0 an0 cd0 ct0), sl0⟩) (c0 : PySem.W.codeIn K cd0 "is_name" = true) (k0 : PySem.W.keepIn K (.ref f0) = true)
    (a1 : PySem.W.nsIn K mainGlobals "_is_word" = some (some (.ref f1))) (l1 : K.lookup f1 = some ⟨oc1, od1, .func (PySem.W.fnOf "_is_word" "_is_word" (defArgs s__is_word) (defBody s__is_word) (defScope s__is_word) .none kV1 dc1 pm1 an1 cd1 ct1), sl1⟩) (c1 : PySem.W.codeIn K cd1 "_is_word" = true) (k1 : PySem.W.keepIn K (.ref f1) = true)
    (a2 : PySem.W.nsIn K mainGlobals "value_kind" = some (some (.ref f2))) (l2 : K.lookup f2 = some ⟨oc2, od2, .func (PySem.W.fnOf "value_kind" "value_kind" (defArgs s_value_kind) (defBody s_value_kind) (defScope s_value_kind) .none kV2 dc2 pm2 an2 cd2 ct2), sl2⟩) (c2 : PySem.W.codeIn K cd2 "value_kind" = true) (k2 : PySem.W.keepIn K (.ref f2) = true)
    (a3 : PySem.W.nsIn K mainGlobals "is_integer_below" = some (some (.ref f3))) (l3 : K.lookup f3 = some ⟨oc3, od3, .func (PySem.W.fnOf "is_integer_below" "is_integer_below" (defArgs s_is_integer_below) (defBody s_is_integer_below) (defScope s_is_integer_below) .none kV3 dc3 pm3 an3 cd3 ct3), sl3⟩) (c3 : PySem.W.codeIn K cd3 "is_integer_below" = true) (k3 : PySem.W.keepIn K (.ref f3) = true)
    (a4 : PySem.W.nsIn K mainGlobals "is_tuple" = some (some (.ref f4))) (l4 : K.lookup f4 = some ⟨oc4, od4, .func (PySem.W.fnOf "is_tuple" "is_tuple" (defArgs s_is_tuple) (defBody s_is_tuple) (defScope s_is_tuple) .none kV4 dc4 pm4 an4 cd4 ct4), sl4⟩) (c4 : PySem.W.codeIn K cd4 "is_tuple" = true) (k4 : PySem.W.keepIn K (.ref f4) = true)
    (a5 : PySem.W.nsIn K mainGlobals "is_ascending" = some (some (.ref f5))) (l5 : K.lookup f5 = some ⟨oc5, od5, .func (PySem.W.fnOf "is_ascending" "is_ascending" (defArgs s_is_ascending) (defBody s_is_ascending) (defScope s_is_ascending) .none kV5 dc5 pm5 an5 cd5 ct5), sl5⟩) (c5 : PySem.W.codeIn K cd5 "is_ascending" = true) (k5 : PySem.W.keepIn K (.ref f5) = true)
    (a6 : PySem.W.nsIn K mainGlobals "has_kinds" = some (some (.ref f6))) (l6 : K.lookup f6 = some ⟨oc6, od6, .func (PySem.W.fnOf "has_kinds" "has_kinds" (defArgs s_has_kinds) (defBody s_has_kinds) (defScope s_has_kinds) .none kV6 dc6 pm6 an6 cd6 ct6), sl6⟩) (c6 : PySem.W.codeIn K cd6 "has_kinds" = true) (k6 : PySem.W.keepIn K (.ref f6) = true)
    (a7 : PySem.W.nsIn K mainGlobals "is_schema" = some (some (.ref f7))) (l7 : K.lookup f7 = some ⟨oc7, od7, .func (PySem.W.fnOf "is_schema" "is_schema" (defArgs s_is_schema) (defBody s_is_schema) (defScope s_is_schema) .none kV7 dc7 pm7 an7 cd7 ct7), sl7⟩) (c7 : PySem.W.codeIn K cd7 "is_schema" = true) (k7 : PySem.W.keepIn K (.ref f7) = true)
    (a8 : PySem.W.nsIn K mainGlobals "_is_table" = some (some (.ref f8))) (l8 : K.lookup f8 = some ⟨oc8, od8, .func (PySem.W.fnOf "_is_table" "_is_table" (defArgs s__is_table) (defBody s__is_table) (defScope s__is_table) .none kV8 dc8 pm8 an8 cd8 ct8), sl8⟩) (c8 : PySem.W.codeIn K cd8 "_is_table" = true) (k8 : PySem.W.keepIn K (.ref f8) = true)
    (a9 : PySem.W.nsIn K mainGlobals "check_schema" = some (some (.ref f9))) (l9 : K.lookup f9 = some ⟨oc9, od9, .func (PySem.W.fnOf "check_schema" "check_schema" (defArgs s_check_schema) (defBody s_check_schema) (defScope s_check_schema) .none kV9 dc9 pm9 an9 cd9 ct9), sl9⟩) (c9 : PySem.W.codeIn K cd9 "check_schema" = true) (k9 : PySem.W.keepIn K (.ref f9) = true)
    (a10 : PySem.W.nsIn K mainGlobals "find_table" = some (some (.ref f10))) (l10 : K.lookup f10 = some ⟨oc10, od10, .func (PySem.W.fnOf "find_table" "find_table" (defArgs s_find_table) (defBody s_find_table) (defScope s_find_table) .none kV10 dc10 pm10 an10 cd10 ct10), sl10⟩) (c10 : PySem.W.codeIn K cd10 "find_table" = true) (k10 : PySem.W.keepIn K (.ref f10) = true)
    (a11 : PySem.W.nsIn K mainGlobals "check_table" = some (some (.ref f11))) (l11 : K.lookup f11 = some ⟨oc11, od11, .func (PySem.W.fnOf "check_table" "check_table" (defArgs s_check_table) (defBody s_check_table) (defScope s_check_table) .none kV11 dc11 pm11 an11 cd11 ct11), sl11⟩) (c11 : PySem.W.codeIn K cd11 "check_table" = true) (k11 : PySem.W.keepIn K (.ref f11) = true)
    (a12 : PySem.W.nsIn K mainGlobals "check_record" = some (some (.ref f12))) (l12 : K.lookup f12 = some ⟨oc12, od12, .func (PySem.W.fnOf "check_record" "check_record" (defArgs s_check_record) (defBody s_check_record) (defScope s_check_record) .none kV12 dc12 pm12 an12 cd12 ct12), sl12⟩) (c12 : PySem.W.codeIn K cd12 "check_record" = true) (k12 : PySem.W.keepIn K (.ref f12) = true)
    (a13 : PySem.W.nsIn K mainGlobals "table_names" = some (some (.ref f13))) (l13 : K.lookup f13 = some ⟨oc13, od13, .func (PySem.W.fnOf "table_names" "table_names" (defArgs s_table_names) (defBody s_table_names) (defScope s_table_names) .none kV13 dc13 pm13 an13 cd13 ct13), sl13⟩) (c13 : PySem.W.codeIn K cd13 "table_names" = true) (k13 : PySem.W.keepIn K (.ref f13) = true)
    (a14 : PySem.W.nsIn K mainGlobals "key_size" = some (some (.ref f14))) (l14 : K.lookup f14 = some ⟨oc14, od14, .func (PySem.W.fnOf "key_size" "key_size" (defArgs s_key_size) (defBody s_key_size) (defScope s_key_size) .none kV14 dc14 pm14 an14 cd14 ct14), sl14⟩) (c14 : PySem.W.codeIn K cd14 "key_size" = true) (k14 : PySem.W.keepIn K (.ref f14) = true)
    (a15 : PySem.W.nsIn K mainGlobals "column_kinds" = some (some (.ref f15))) (l15 : K.lookup f15 = some ⟨oc15, od15, .func (PySem.W.fnOf "column_kinds" "column_kinds" (defArgs s_column_kinds) (defBody s_column_kinds) (defScope s_column_kinds) .none kV15 dc15 pm15 an15 cd15 ct15), sl15⟩) (c15 : PySem.W.codeIn K cd15 "column_kinds" = true) (k15 : PySem.W.keepIn K (.ref f15) = true)
    (a16 : PySem.W.nsIn K mainGlobals "is_record" = some (some (.ref f16))) (l16 : K.lookup f16 = some ⟨oc16, od16, .func (PySem.W.fnOf "is_record" "is_record" (defArgs s_is_record) (defBody s_is_record) (defScope s_is_record) .none kV16 dc16 pm16 an16 cd16 ct16), sl16⟩) (c16 : PySem.W.codeIn K cd16 "is_record" = true) (k16 : PySem.W.keepIn K (.ref f16) = true)
    (a17 : PySem.W.nsIn K mainGlobals "record_key" = some (some (.ref f17))) (l17 : K.lookup f17 = some ⟨oc17, od17, .func (PySem.W.fnOf "record_key" "record_key" (defArgs s_record_key) (defBody s_record_key) (defScope s_record_key) .none kV17 dc17 pm17 an17 cd17 ct17), sl17⟩) (c17 : PySem.W.codeIn K cd17 "record_key" = true) (k17 : PySem.W.keepIn K (.ref f17) = true)
    (a18 : PySem.W.nsIn K mainGlobals "_law_stream" = some (some (.ref f18))) (l18 : K.lookup f18 = some ⟨oc18, od18, .func (PySem.W.fnOf "_law_stream" "_law_stream" (defArgs s__law_stream) (defBody s__law_stream) (defScope s__law_stream) .none kV18 dc18 pm18 an18 cd18 ct18), sl18⟩) (c18 : PySem.W.codeIn K cd18 "_law_stream" = true) (k18 : PySem.W.keepIn K (.ref f18) = true)
    (a19 : PySem.W.nsIn K mainGlobals "_law_draw" = some (some (.ref f19))) (l19 : K.lookup f19 = some ⟨oc19, od19, .func (PySem.W.fnOf "_law_draw" "_law_draw" (defArgs s__law_draw) (defBody s__law_draw) (defScope s__law_draw) .none kV19 dc19 pm19 an19 cd19 ct19), sl19⟩) (c19 : PySem.W.codeIn K cd19 "_law_draw" = true) (k19 : PySem.W.keepIn K (.ref f19) = true)
    (a20 : PySem.W.nsIn K mainGlobals "_law_pick" = some (some (.ref f20))) (l20 : K.lookup f20 = some ⟨oc20, od20, .func (PySem.W.fnOf "_law_pick" "_law_pick" (defArgs s__law_pick) (defBody s__law_pick) (defScope s__law_pick) .none kV20 dc20 pm20 an20 cd20 ct20), sl20⟩) (c20 : PySem.W.codeIn K cd20 "_law_pick" = true) (k20 : PySem.W.keepIn K (.ref f20) = true)
    (a21 : PySem.W.nsIn K mainGlobals "_law_words" = some (some (.ref f21))) (l21 : K.lookup f21 = some ⟨oc21, od21, .func (PySem.W.fnOf "_law_words" "_law_words" (defArgs s__law_words) (defBody s__law_words) (defScope s__law_words) .none kV21 dc21 pm21 an21 cd21 ct21), sl21⟩) (c21 : PySem.W.codeIn K cd21 "_law_words" = true) (k21 : PySem.W.keepIn K (.ref f21) = true)
    (a22 : PySem.W.nsIn K mainGlobals "_law_names" = some (some (.ref f22))) (l22 : K.lookup f22 = some ⟨oc22, od22, .func (PySem.W.fnOf "_law_names" "_law_names" (defArgs s__law_names) (defBody s__law_names) (defScope s__law_names) .none kV22 dc22 pm22 an22 cd22 ct22), sl22⟩) (c22 : PySem.W.codeIn K cd22 "_law_names" = true) (k22 : PySem.W.keepIn K (.ref f22) = true)
    (a23 : PySem.W.nsIn K mainGlobals "_law_numbers" = some (some (.ref f23))) (l23 : K.lookup f23 = some ⟨oc23, od23, .func (PySem.W.fnOf "_law_numbers" "_law_numbers" (defArgs s__law_numbers) (defBody s__law_numbers) (defScope s__law_numbers) .none kV23 dc23 pm23 an23 cd23 ct23), sl23⟩) (c23 : PySem.W.codeIn K cd23 "_law_numbers" = true) (k23 : PySem.W.keepIn K (.ref f23) = true)
    (a24 : PySem.W.nsIn K mainGlobals "_law_pool" = some (some (.ref f24))) (l24 : K.lookup f24 = some ⟨oc24, od24, .func (PySem.W.fnOf "_law_pool" "_law_pool" (defArgs s__law_pool) (defBody s__law_pool) (defScope s__law_pool) .none kV24 dc24 pm24 an24 cd24 ct24), sl24⟩) (c24 : PySem.W.codeIn K cd24 "_law_pool" = true) (k24 : PySem.W.keepIn K (.ref f24) = true)
    (a25 : PySem.W.nsIn K mainGlobals "_law_schema" = some (some (.ref f25))) (l25 : K.lookup f25 = some ⟨oc25, od25, .func (PySem.W.fnOf "_law_schema" "_law_schema" (defArgs s__law_schema) (defBody s__law_schema) (defScope s__law_schema) .none kV25 dc25 pm25 an25 cd25 ct25), sl25⟩) (c25 : PySem.W.codeIn K cd25 "_law_schema" = true) (k25 : PySem.W.keepIn K (.ref f25) = true)
    (a26 : PySem.W.nsIn K mainGlobals "_law_record" = some (some (.ref f26))) (l26 : K.lookup f26 = some ⟨oc26, od26, .func (PySem.W.fnOf "_law_record" "_law_record" (defArgs s__law_record) (defBody s__law_record) (defScope s__law_record) .none kV26 dc26 pm26 an26 cd26 ct26), sl26⟩) (c26 : PySem.W.codeIn K cd26 "_law_record" = true) (k26 : PySem.W.keepIn K (.ref f26) = true)
    (a27 : PySem.W.nsIn K mainGlobals "_law_other" = some (some (.ref f27))) (l27 : K.lookup f27 = some ⟨oc27, od27, .func (PySem.W.fnOf "_law_other" "_law_other" (defArgs s__law_other) (defBody s__law_other) (defScope s__law_other) .none kV27 dc27 pm27 an27 cd27 ct27), sl27⟩) (c27 : PySem.W.codeIn K cd27 "_law_other" = true) (k27 : PySem.W.keepIn K (.ref f27) = true)
    (a28 : PySem.W.nsIn K mainGlobals "_law_changed" = some (some (.ref f28))) (l28 : K.lookup f28 = some ⟨oc28, od28, .func (PySem.W.fnOf "_law_changed" "_law_changed" (defArgs s__law_changed) (defBody s__law_changed) (defScope s__law_changed) .none kV28 dc28 pm28 an28 cd28 ct28), sl28⟩) (c28 : PySem.W.codeIn K cd28 "_law_changed" = true) (k28 : PySem.W.keepIn K (.ref f28) = true)
    (a29 : PySem.W.nsIn K mainGlobals "_law_is_word" = some (some (.ref f29))) (l29 : K.lookup f29 = some ⟨oc29, od29, .func (PySem.W.fnOf "_law_is_word" "_law_is_word" (defArgs s__law_is_word) (defBody s__law_is_word) (defScope s__law_is_word) .none kV29 dc29 pm29 an29 cd29 ct29), sl29⟩) (c29 : PySem.W.codeIn K cd29 "_law_is_word" = true) (k29 : PySem.W.keepIn K (.ref f29) = true)
    (a30 : PySem.W.nsIn K mainGlobals "_law_is_whole" = some (some (.ref f30))) (l30 : K.lookup f30 = some ⟨oc30, od30, .func (PySem.W.fnOf "_law_is_whole" "_law_is_whole" (defArgs s__law_is_whole) (defBody s__law_is_whole) (defScope s__law_is_whole) .none kV30 dc30 pm30 an30 cd30 ct30), sl30⟩) (c30 : PySem.W.codeIn K cd30 "_law_is_whole" = true) (k30 : PySem.W.keepIn K (.ref f30) = true)
    (a31 : PySem.W.nsIn K mainGlobals "_law_kind" = some (some (.ref f31))) (l31 : K.lookup f31 = some ⟨oc31, od31, .func (PySem.W.fnOf "_law_kind" "_law_kind" (defArgs s__law_kind) (defBody s__law_kind) (defScope s__law_kind) .none kV31 dc31 pm31 an31 cd31 ct31), sl31⟩) (c31 : PySem.W.codeIn K cd31 "_law_kind" = true) (k31 : PySem.W.keepIn K (.ref f31) = true)
    (a32 : PySem.W.nsIn K mainGlobals "_law_is_record" = some (some (.ref f32))) (l32 : K.lookup f32 = some ⟨oc32, od32, .func (PySem.W.fnOf "_law_is_record" "_law_is_record" (defArgs s__law_is_record) (defBody s__law_is_record) (defScope s__law_is_record) .none kV32 dc32 pm32 an32 cd32 ct32), sl32⟩) (c32 : PySem.W.codeIn K cd32 "_law_is_record" = true) (k32 : PySem.W.keepIn K (.ref f32) = true)
    (a33 : PySem.W.nsIn K mainGlobals "_law_bad_table" = some (some (.ref f33))) (l33 : K.lookup f33 = some ⟨oc33, od33, .func (PySem.W.fnOf "_law_bad_table" "_law_bad_table" (defArgs s__law_bad_table) (defBody s__law_bad_table) (defScope s__law_bad_table) .none kV33 dc33 pm33 an33 cd33 ct33), sl33⟩) (c33 : PySem.W.codeIn K cd33 "_law_bad_table" = true) (k33 : PySem.W.keepIn K (.ref f33) = true)
    (a34 : PySem.W.nsIn K mainGlobals "_law_error" = some (some (.ref f34))) (l34 : K.lookup f34 = some ⟨oc34, od34, .func (PySem.W.fnOf "_law_error" "_law_error" (defArgs s__law_error) (defBody s__law_error) (defScope s__law_error) .none kV34 dc34 pm34 an34 cd34 ct34), sl34⟩) (c34 : PySem.W.codeIn K cd34 "_law_error" = true) (k34 : PySem.W.keepIn K (.ref f34) = true)
    (a35 : PySem.W.nsIn K mainGlobals "_law_table_right" = some (some (.ref f35))) (l35 : K.lookup f35 = some ⟨oc35, od35, .func (PySem.W.fnOf "_law_table_right" "_law_table_right" (defArgs s__law_table_right) (defBody s__law_table_right) (defScope s__law_table_right) .none kV35 dc35 pm35 an35 cd35 ct35), sl35⟩) (c35 : PySem.W.codeIn K cd35 "_law_table_right" = true) (k35 : PySem.W.keepIn K (.ref f35) = true)
    (a36 : PySem.W.nsIn K mainGlobals "law" = some (some (.ref f36))) (l36 : K.lookup f36 = some ⟨oc36, od36, .func (PySem.W.fnOf "law" "law" (defArgs s_law) (defBody s_law) (defScope s_law) .none kV36 dc36 pm36 an36 cd36 ct36), sl36⟩) (c36 : PySem.W.codeIn K cd36 "law" = true) (k36 : PySem.W.keepIn K (.ref f36) = true)
    (z_KeyError : PySem.W.nsIn K mainGlobals "KeyError" = some none)
    (z_abs : PySem.W.nsIn K mainGlobals "abs" = some none)
    (z_all : PySem.W.nsIn K mainGlobals "all" = some none)
    (z_bool : PySem.W.nsIn K mainGlobals "bool" = some none)
    (z_int : PySem.W.nsIn K mainGlobals "int" = some none)
    (z_isinstance : PySem.W.nsIn K mainGlobals "isinstance" = some none)
    (z_len : PySem.W.nsIn K mainGlobals "len" = some none)
    (z_list : PySem.W.nsIn K mainGlobals "list" = some none)
    (z_max : PySem.W.nsIn K mainGlobals "max" = some none)
    (z_min : PySem.W.nsIn K mainGlobals "min" = some none)
    (z_range : PySem.W.nsIn K mainGlobals "range" = some none)
    (z_repr : PySem.W.nsIn K mainGlobals "repr" = some none)
    (z_sorted : PySem.W.nsIn K mainGlobals "sorted" = some none)
    (z_str : PySem.W.nsIn K mainGlobals "str" = some none)
    (z_tuple : PySem.W.nsIn K mainGlobals "tuple" = some none)
    (z_type : PySem.W.nsIn K mainGlobals "type" = some none)
    (z_zip : PySem.W.nsIn K mainGlobals "zip" = some none)
    (y_MAX_COLUMNS : PySem.W.nsIn K mainGlobals "MAX_COLUMNS" = some (some (.int 4 t_MAX_COLUMNS)))
    (y_MAX_NAME : PySem.W.nsIn K mainGlobals "MAX_NAME" = some (some (.int 8 t_MAX_NAME)))
    (y_MAX_NUMBER : PySem.W.nsIn K mainGlobals "MAX_NUMBER" = some (some (.int 1000000000 t_MAX_NUMBER)))
    (y_MAX_TABLES : PySem.W.nsIn K mainGlobals "MAX_TABLES" = some (some (.int 6 t_MAX_TABLES))) : Nonempty (Txt K mg) :=
  ⟨{
    a_is_name := f0
    f_is_name := _
    F_is_name := fun_mk (st := s_is_name) l0 c0 k0
    g_is_name := PySem.W.mg_of X G a0
    b_is_name := (fun_mk (st := s_is_name) l0 c0 k0).binds (ps := ["value"]) fun _ _ _ _ _ _ us hl => match us, hl with | [_], _ => rfl
    a__is_word := f1
    f__is_word := _
    F__is_word := fun_mk (st := s__is_word) l1 c1 k1
    g__is_word := PySem.W.mg_of X G a1
    b__is_word := (fun_mk (st := s__is_word) l1 c1 k1).binds (ps := ["value", "longest", "first", "last"]) fun _ _ _ _ _ _ us hl => match us, hl with | [_, _, _, _], _ => rfl
    a_value_kind := f2
    f_value_kind := _
    F_value_kind := fun_mk (st := s_value_kind) l2 c2 k2
    g_value_kind := PySem.W.mg_of X G a2
    b_value_kind := (fun_mk (st := s_value_kind) l2 c2 k2).binds (ps := ["value"]) fun _ _ _ _ _ _ us hl => match us, hl with | [_], _ => rfl
    a_is_integer_below := f3
    f_is_integer_below := _
    F_is_integer_below := fun_mk (st := s_is_integer_below) l3 c3 k3
    g_is_integer_below := PySem.W.mg_of X G a3
    b_is_integer_below := (fun_mk (st := s_is_integer_below) l3 c3 k3).binds (ps := ["value", "limit"]) fun _ _ _ _ _ _ us hl => match us, hl with | [_, _], _ => rfl
    a_is_tuple := f4
    f_is_tuple := _
    F_is_tuple := fun_mk (st := s_is_tuple) l4 c4 k4
    g_is_tuple := PySem.W.mg_of X G a4
    b_is_tuple := (fun_mk (st := s_is_tuple) l4 c4 k4).binds (ps := ["value", "least", "most"]) fun _ _ _ _ _ _ us hl => match us, hl with | [_, _, _], _ => rfl
    a_is_ascending := f5
    f_is_ascending := _
    F_is_ascending := fun_mk (st := s_is_ascending) l5 c5 k5
    g_is_ascending := PySem.W.mg_of X G a5
    b_is_ascending := (fun_mk (st := s_is_ascending) l5 c5 k5).binds (ps := ["items"]) fun _ _ _ _ _ _ us hl => match us, hl with | [_], _ => rfl
    a_has_kinds := f6
    f_has_kinds := _
    F_has_kinds := fun_mk (st := s_has_kinds) l6 c6 k6
    g_has_kinds := PySem.W.mg_of X G a6
    b_has_kinds := (fun_mk (st := s_has_kinds) l6 c6 k6).binds (ps := ["value", "kinds"]) fun _ _ _ _ _ _ us hl => match us, hl with | [_, _], _ => rfl
    a_is_schema := f7
    f_is_schema := _
    F_is_schema := fun_mk (st := s_is_schema) l7 c7 k7
    g_is_schema := PySem.W.mg_of X G a7
    b_is_schema := (fun_mk (st := s_is_schema) l7 c7 k7).binds (ps := ["value"]) fun _ _ _ _ _ _ us hl => match us, hl with | [_], _ => rfl
    a__is_table := f8
    f__is_table := _
    F__is_table := fun_mk (st := s__is_table) l8 c8 k8
    g__is_table := PySem.W.mg_of X G a8
    b__is_table := (fun_mk (st := s__is_table) l8 c8 k8).binds (ps := ["value"]) fun _ _ _ _ _ _ us hl => match us, hl with | [_], _ => rfl
    a_check_schema := f9
    f_check_schema := _
    F_check_schema := fun_mk (st := s_check_schema) l9 c9 k9
    g_check_schema := PySem.W.mg_of X G a9
    b_check_schema := (fun_mk (st := s_check_schema) l9 c9 k9).binds (ps := ["schema"]) fun _ _ _ _ _ _ us hl => match us, hl with | [_], _ => rfl
    a_find_table := f10
    f_find_table := _
    F_find_table := fun_mk (st := s_find_table) l10 c10 k10
    g_find_table := PySem.W.mg_of X G a10
    b_find_table := (fun_mk (st := s_find_table) l10 c10 k10).binds (ps := ["schema", "table"]) fun _ _ _ _ _ _ us hl => match us, hl with | [_, _], _ => rfl
    a_check_table := f11
    f_check_table := _
    F_check_table := fun_mk (st := s_check_table) l11 c11 k11
    g_check_table := PySem.W.mg_of X G a11
    b_check_table := (fun_mk (st := s_check_table) l11 c11 k11).binds (ps := ["schema", "table"]) fun _ _ _ _ _ _ us hl => match us, hl with | [_, _], _ => rfl
    a_check_record := f12
    f_check_record := _
    F_check_record := fun_mk (st := s_check_record) l12 c12 k12
    g_check_record := PySem.W.mg_of X G a12
    b_check_record := (fun_mk (st := s_check_record) l12 c12 k12).binds (ps := ["schema", "table", "record"]) fun _ _ _ _ _ _ us hl => match us, hl with | [_, _, _], _ => rfl
    a_table_names := f13
    f_table_names := _
    F_table_names := fun_mk (st := s_table_names) l13 c13 k13
    g_table_names := PySem.W.mg_of X G a13
    b_table_names := (fun_mk (st := s_table_names) l13 c13 k13).binds (ps := ["schema"]) fun _ _ _ _ _ _ us hl => match us, hl with | [_], _ => rfl
    a_key_size := f14
    f_key_size := _
    F_key_size := fun_mk (st := s_key_size) l14 c14 k14
    g_key_size := PySem.W.mg_of X G a14
    b_key_size := (fun_mk (st := s_key_size) l14 c14 k14).binds (ps := ["schema", "table"]) fun _ _ _ _ _ _ us hl => match us, hl with | [_, _], _ => rfl
    a_column_kinds := f15
    f_column_kinds := _
    F_column_kinds := fun_mk (st := s_column_kinds) l15 c15 k15
    g_column_kinds := PySem.W.mg_of X G a15
    b_column_kinds := (fun_mk (st := s_column_kinds) l15 c15 k15).binds (ps := ["schema", "table"]) fun _ _ _ _ _ _ us hl => match us, hl with | [_, _], _ => rfl
    a_is_record := f16
    f_is_record := _
    F_is_record := fun_mk (st := s_is_record) l16 c16 k16
    g_is_record := PySem.W.mg_of X G a16
    b_is_record := (fun_mk (st := s_is_record) l16 c16 k16).binds (ps := ["schema", "table", "value"]) fun _ _ _ _ _ _ us hl => match us, hl with | [_, _, _], _ => rfl
    a_record_key := f17
    f_record_key := _
    F_record_key := fun_mk (st := s_record_key) l17 c17 k17
    g_record_key := PySem.W.mg_of X G a17
    b_record_key := (fun_mk (st := s_record_key) l17 c17 k17).binds (ps := ["schema", "table", "record"]) fun _ _ _ _ _ _ us hl => match us, hl with | [_, _, _], _ => rfl
    a__law_stream := f18
    f__law_stream := _
    F__law_stream := fun_mk (st := s__law_stream) l18 c18 k18
    g__law_stream := PySem.W.mg_of X G a18
    b__law_stream := (fun_mk (st := s__law_stream) l18 c18 k18).binds (ps := ["script", "at"]) fun _ _ _ _ _ _ us hl => match us, hl with | [_, _], _ => rfl
    a__law_draw := f19
    f__law_draw := _
    F__law_draw := fun_mk (st := s__law_draw) l19 c19 k19
    g__law_draw := PySem.W.mg_of X G a19
    b__law_draw := (fun_mk (st := s__law_draw) l19 c19 k19).binds (ps := ["stream", "total"]) fun _ _ _ _ _ _ us hl => match us, hl with | [_, _], _ => rfl
    a__law_pick := f20
    f__law_pick := _
    F__law_pick := fun_mk (st := s__law_pick) l20 c20 k20
    g__law_pick := PySem.W.mg_of X G a20
    b__law_pick := (fun_mk (st := s__law_pick) l20 c20 k20).binds (ps := ["stream", "items"]) fun _ _ _ _ _ _ us hl => match us, hl with | [_, _], _ => rfl
    a__law_words := f21
    f__law_words := _
    F__law_words := fun_mk (st := s__law_words) l21 c21 k21
    g__law_words := PySem.W.mg_of X G a21
    b__law_words := (fun_mk (st := s__law_words) l21 c21 k21).binds (ps := ["stream", "total", "letters"]) fun _ _ _ _ _ _ us hl => match us, hl with | [_, _, _], _ => rfl
    a__law_names := f22
    f__law_names := _
    F__law_names := fun_mk (st := s__law_names) l22 c22 k22
    g__law_names := PySem.W.mg_of X G a22
    b__law_names := (fun_mk (st := s__law_names) l22 c22 k22).binds (ps := ["stream", "total"]) fun _ _ _ _ _ _ us hl => match us, hl with | [_, _], _ => rfl
    a__law_numbers := f23
    f__law_numbers := _
    F__law_numbers := fun_mk (st := s__law_numbers) l23 c23 k23
    g__law_numbers := PySem.W.mg_of X G a23
    b__law_numbers := (fun_mk (st := s__law_numbers) l23 c23 k23).binds (ps := ["stream", "total"]) fun _ _ _ _ _ _ us hl => match us, hl with | [_, _], _ => rfl
    a__law_pool := f24
    f__law_pool := _
    F__law_pool := fun_mk (st := s__law_pool) l24 c24 k24
    g__law_pool := PySem.W.mg_of X G a24
    b__law_pool := (fun_mk (st := s__law_pool) l24 c24 k24).binds (ps := ["stream"]) fun _ _ _ _ _ _ us hl => match us, hl with | [_], _ => rfl
    a__law_schema := f25
    f__law_schema := _
    F__law_schema := fun_mk (st := s__law_schema) l25 c25 k25
    g__law_schema := PySem.W.mg_of X G a25
    b__law_schema := (fun_mk (st := s__law_schema) l25 c25 k25).binds (ps := ["stream", "most"]) fun _ _ _ _ _ _ us hl => match us, hl with | [_, _], _ => rfl
    a__law_record := f26
    f__law_record := _
    F__law_record := fun_mk (st := s__law_record) l26 c26 k26
    g__law_record := PySem.W.mg_of X G a26
    b__law_record := (fun_mk (st := s__law_record) l26 c26 k26).binds (ps := ["stream", "kinds", "pool"]) fun _ _ _ _ _ _ us hl => match us, hl with | [_, _, _], _ => rfl
    a__law_other := f27
    f__law_other := _
    F__law_other := fun_mk (st := s__law_other) l27 c27 k27
    g__law_other := PySem.W.mg_of X G a27
    b__law_other := (fun_mk (st := s__law_other) l27 c27 k27).binds (ps := ["stream"]) fun _ _ _ _ _ _ us hl => match us, hl with | [_], _ => rfl
    a__law_changed := f28
    f__law_changed := _
    F__law_changed := fun_mk (st := s__law_changed) l28 c28 k28
    g__law_changed := PySem.W.mg_of X G a28
    b__law_changed := (fun_mk (st := s__law_changed) l28 c28 k28).binds (ps := ["stream", "value"]) fun _ _ _ _ _ _ us hl => match us, hl with | [_, _], _ => rfl
    a__law_is_word := f29
    f__law_is_word := _
    F__law_is_word := fun_mk (st := s__law_is_word) l29 c29 k29
    g__law_is_word := PySem.W.mg_of X G a29
    b__law_is_word := (fun_mk (st := s__law_is_word) l29 c29 k29).binds (ps := ["value", "letters", "most"]) fun _ _ _ _ _ _ us hl => match us, hl with | [_, _, _], _ => rfl
    a__law_is_whole := f30
    f__law_is_whole := _
    F__law_is_whole := fun_mk (st := s__law_is_whole) l30 c30 k30
    g__law_is_whole := PySem.W.mg_of X G a30
    b__law_is_whole := (fun_mk (st := s__law_is_whole) l30 c30 k30).binds (ps := ["value", "low", "high"]) fun _ _ _ _ _ _ us hl => match us, hl with | [_, _, _], _ => rfl
    a__law_kind := f31
    f__law_kind := _
    F__law_kind := fun_mk (st := s__law_kind) l31 c31 k31
    g__law_kind := PySem.W.mg_of X G a31
    b__law_kind := (fun_mk (st := s__law_kind) l31 c31 k31).binds (ps := ["value"]) fun _ _ _ _ _ _ us hl => match us, hl with | [_], _ => rfl
    a__law_is_record := f32
    f__law_is_record := _
    F__law_is_record := fun_mk (st := s__law_is_record) l32 c32 k32
    g__law_is_record := PySem.W.mg_of X G a32
    b__law_is_record := (fun_mk (st := s__law_is_record) l32 c32 k32).binds (ps := ["kinds", "value"]) fun _ _ _ _ _ _ us hl => match us, hl with | [_, _], _ => rfl
    a__law_bad_table := f33
    f__law_bad_table := _
    F__law_bad_table := fun_mk (st := s__law_bad_table) l33 c33 k33
    g__law_bad_table := PySem.W.mg_of X G a33
    b__law_bad_table := (fun_mk (st := s__law_bad_table) l33 c33 k33).binds (ps := ["stream", "schema"]) fun _ _ _ _ _ _ us hl => match us, hl with | [_, _], _ => rfl
    a__law_error := f34
    f__law_error := _
    F__law_error := fun_mk (st := s__law_error) l34 c34 k34
    g__law_error := PySem.W.mg_of X G a34
    b__law_error := (fun_mk (st := s__law_error) l34 c34 k34).binds (ps := ["way", "schema", "table", "value"]) fun _ _ _ _ _ _ us hl => match us, hl with | [_, _, _, _], _ => rfl
    a__law_table_right := f35
    f__law_table_right := _
    F__law_table_right := fun_mk (st := s__law_table_right) l35 c35 k35
    g__law_table_right := PySem.W.mg_of X G a35
    b__law_table_right := (fun_mk (st := s__law_table_right) l35 c35 k35).binds (ps := ["stream", "schema", "pool", "name", "key", "kinds"]) fun _ _ _ _ _ _ us hl => match us, hl with | [_, _, _, _, _, _], _ => rfl
    a_law := f36
    f_law := _
    F_law := fun_mk (st := s_law) l36 c36 k36
    g_law := PySem.W.mg_of X G a36
    b_law := (fun_mk (st := s_law) l36 c36 k36).binds (ps := ["script"]) fun _ _ _ _ _ _ us hl => match us, hl with | [_], _ => rfl
    m_KeyError := PySem.W.mg_none_of X G z_KeyError
    m_abs := PySem.W.mg_none_of X G z_abs
    m_all := PySem.W.mg_none_of X G z_all
    m_bool := PySem.W.mg_none_of X G z_bool
    m_int := PySem.W.mg_none_of X G z_int
    m_isinstance := PySem.W.mg_none_of X G z_isinstance
    m_len := PySem.W.mg_none_of X G z_len
    m_list := PySem.W.mg_none_of X G z_list
    m_max := PySem.W.mg_none_of X G z_max
    m_min := PySem.W.mg_none_of X G z_min
    m_range := PySem.W.mg_none_of X G z_range
    m_repr := PySem.W.mg_none_of X G z_repr
    m_sorted := PySem.W.mg_none_of X G z_sorted
    m_str := PySem.W.mg_none_of X G z_str
    m_tuple := PySem.W.mg_none_of X G z_tuple
    m_type := PySem.W.mg_none_of X G z_type
    m_zip := PySem.W.mg_none_of X G z_zip
    t_MAX_COLUMNS := t_MAX_COLUMNS
    v_MAX_COLUMNS := PySem.W.mg_of X G y_MAX_COLUMNS
    t_MAX_NAME := t_MAX_NAME
    v_MAX_NAME := PySem.W.mg_of X G y_MAX_NAME
    t_MAX_NUMBER := t_MAX_NUMBER
    v_MAX_NUMBER := PySem.W.mg_of X G y_MAX_NUMBER
    t_MAX_TABLES := t_MAX_TABLES
    v_MAX_TABLES := PySem.W.mg_of X G y_MAX_TABLES }⟩
end Kb
end
section
/-! Y0: the stream and the draw, the same in all laws -/
namespace Zl
open PySem PySem.Spec PyProof.Rows L2 Kb
variable [Tabd]
open C8 (pss_cut)
section
variable {P : Program} {w : World} {K : PySem.W.Frag} {mg : Str → Option Value} {base : Heap}
theorem ok_stream (T : Txt K mg) : Fs P w K mg base 1 "_law_stream" (spStream K) := by
  refine ⟨T.a__law_stream, T.f__law_stream, _, ?_, T.g__law_stream, T.F__law_stream.kp, T.b__law_stream⟩
  refine T.F__law_stream.okG sc__law_stream (fun vs H Q E h => ?_) (fun cdv A outer s H vs Q E gA hr h => ?_)
  · obtain ⟨a, ns, k, rfl, _⟩ := h
    rfl
  · obtain ⟨a, ns, k, rfl, hS, hk, q⟩ := h
    refine ⟨_, (pss_cons (ps_set (i := 2) sc__law_stream.nd rfl (.inl rfl) (pe_op op_add (pe_op op_mul pe_int (pv 1)) pe_int))
 (pss_cut (ps_if (pt_cmpR op_lt (pv 1) (pe_callB call_len_seq (by rfl) T.m_len (by decide +kernel) (pa_cons (pv 0) pa_nil)) (nomark _))
 (pss_one (ps_set (i := 2) sc__law_stream.nd rfl (.inl rfl) (pe_ix ix_list (pv 0) (pv 1) (fun _ _ => rfl))))
 pss_nil)
 (pss_cons (ps_set (i := 3) sc__law_stream.nd rfl (.inl rfl) (pe_op op_mod (pe_callB call_abs (by rfl) T.m_abs (by decide +kernel) (pa_cons (pv 2) pa_nil)) (pe_op op_powW (pe_op op_powW pe_int pe_int) pe_int)))
 (pss_cons (ps_set (i := 4) sc__law_stream.nd rfl (.inl rfl) (pe_op op_mod (pe_op op_add (pe_op op_add (pe_op op_add (pe_op op_mul (pe_op op_mod (pv 3) pe_int) pe_int) (pe_op op_mul pe_int (pv 1))) (pe_op op_mul pe_int (pe_callTy call_int1 (by rfl) T.m_int (by decide +kernel) (pa_cons (pe_cmpR op_lt (pv 2) pe_int (nomark _)) pa_nil)))) pe_int) pe_int))
 (pss_one (ps_ret (pe_lst (pa_cons (pe_callB (call_max2 rfl) (by rfl) T.m_max (by decide +kernel) (pa_cons pe_int (pa_cons (pe_op op_sub (pv 3) (pe_op op_powW pe_int pe_int)) pa_nil))) (pa_cons (pv 4) (pa_cons pe_int pa_nil)))))))))), ?_⟩
    -- cell
    refine ⟨_, rfl, _, _, rfl, rfl, .inl ⟨by decide, by decide⟩, _, _, rfl, rfl, fun σ H1 => ∃ c : Int, σ = [some (.ref a), some (.int k), some (.int c), none, none] ∧ H1 = H, ?_, ?_⟩
    · refine ⟨_, rfl, _, rfl, _, _, rfl, .inl hS, _, _, rfl, rfl, _, rfl, ite2 (fun c => ?_) (fun c => ?_)⟩
      · have hc := of_decide_eq_true c
        have hl : k.toNat < ns.length := by
          rw [List.length_map] at hc
          omega
        have ha : atI (ns.map V.int) k = some (.int ns[k.toNat]) := by
          exact atI_of hk (by rw [List.getElem?_map, List.getElem?_eq_getElem hl]; rfl)
        exact ⟨_, rfl, _, rfl, _, _, _, _, rfl, rfl, hS, ha, _, rfl, rfl⟩
      · exact ⟨_, rfl, rfl⟩
    · rintro σ H1 ⟨c, rfl, rfl⟩
      refine ⟨_, rfl, _, rfl, _, _, rfl, rfl, ⟨by decide, pow_one⟩, _, _, rfl, rfl, ⟨by decide, pow_bits⟩, _, _, rfl, rfl, modk (by decide +kernel), ?_⟩
      refine ⟨_, rfl, _, _, rfl, rfl, modk (by decide), _, _, rfl, rfl, .inr ⟨by decide, by decide⟩, _, rfl, _, _, rfl, rfl, .inl ⟨by decide, by decide⟩, _, _, rfl, rfl, _, rfl, _, _, rfl, rfl, .inr ⟨_, rfl, ?_⟩⟩
      refine ⟨_, _, rfl, rfl, .inl ⟨by decide, by decide⟩, _, _, rfl, rfl, _, _, rfl, rfl, _, _, rfl, rfl, modk (by decide), ?_⟩
      refine ⟨_, rfl, _, _, rfl, rfl, ⟨by decide, pow_two⟩, _, _, rfl, rfl, _, _, rfl, _, rfl, (show 3 ≤ sizeLine by decide), fun p np => ?_⟩
      exact q _ p (fun b o e => by rw [upd_ne (ne_of_none e np)]; exact e) np ⟨_, _, _, upd_same⟩
theorem ok_draw (T : Txt K mg) : Fz P w K mg base 1 "_law_draw" 2 zDraw := by
  refine ⟨T.a__law_draw, T.f__law_draw, _, ?_, T.g__law_draw, T.F__law_draw.kp, T.b__law_draw⟩
  refine T.F__law_draw.okG sc__law_draw (spZ_len rfl) (fun cdv A outer s H vs Q E gA hr h => ?_)
  · obtain ⟨F, zs, Qz, Ez, hl, hN, gd, rz, ⟨n, rfl, hn, hn2, q0⟩, qq, _⟩ := h
    obtain ⟨v1, v2, rfl, r1, r2⟩ : ∃ v1 v2, vs = [v1, v2] ∧ RZ K F H .strm v1 ∧ RZ K F H (.dat (.int n)) v2 := by
      cases rz with
      | cons a t =>
        cases t with
        | cons b t =>
          cases t
          exact ⟨_, _, rfl, a, b⟩
    obtain ⟨a, ha, ht, rfl⟩ := r1
    cases (show Dz K _ v2 (.int n) from r2)
    obtain ⟨g, m, c, hS⟩ := gd.st a ha ht
    have q : ∀ H' (r : Int), Ev a H H' → 0 ≤ r → r < n → Q (.int r) H' := fun H' r ev h0 h1 => qq (.dat (.int r)) _ H' (.ev ha (gd.so a ha) ht ev) (Dz.int r) (q0 r h0 h1)
    have e0 : atI [V.int g, V.int m, V.int c] 0 = some (.int g) := rfl
    refine ⟨_, (pss_cons (ps_if (pt_cmpR op_gt (pe_ix ix_list (pv 0) pe_int (fun _ _ => rfl)) pe_int (nomark _))
 (pss_cons (ps_set (i := 2) sc__law_draw.nd rfl (.inl rfl) (pe_op op_mod (pe_ix ix_list (pv 0) pe_int (fun _ _ => rfl)) (pv 1)))
 (pss_cons (ps_asg (pe_op op_fdivW (pe_ix ix_list (pv 0) pe_int (fun _ _ => rfl)) (pv 1)) (pg_sub (pv 0) pe_int set_list))
 (pss_one (ps_ret (pv 2)))))
 pss_nil)
 (pss_cons (ps_asg (pe_op op_add (pe_ix ix_list (pv 0) pe_int (fun _ _ => rfl)) pe_int) (pg_sub (pv 0) pe_int set_list))
 (pss_cons (ps_set (i := 3) sc__law_draw.nd rfl (.inl rfl) (pe_op op_mod (pe_op op_add (pe_ix ix_list (pv 0) pe_int (fun _ _ => rfl)) (pe_op op_mul pe_int (pe_ix ix_list (pv 0) pe_int (fun _ _ => rfl)))) pe_int))
 (pss_cons (ps_set (i := 4) sc__law_draw.nd rfl (.inl rfl) (pe_op op_mod (pe_op op_add (pe_op op_mul (pe_op op_mod (pe_op op_mul (pv 3) (pv 3)) pe_int) (pv 3)) (pe_op op_mul pe_int (pe_ix ix_list (pv 0) pe_int (fun _ _ => rfl)))) pe_int))
 (pss_one (ps_ret (pe_op op_mod (pe_op op_fdivW (pv 4) pe_int) (pv 1)))))))), ?_⟩
    refine ⟨_, rfl, _, _, _, _, rfl, rfl, .of hS, e0, _, _, rfl, rfl, _, rfl, ite2 (fun c => ?_) (fun c => ?_)⟩
    · refine ⟨_, rfl, _, _, _, _, rfl, rfl, .of hS, e0, _, rfl, _, _, rfl, rfl, hn, ?_⟩
      refine ⟨_, rfl, _, _, _, _, rfl, rfl, .of hS, e0, _, rfl, _, _, rfl, rfl, ⟨hn, hn2⟩, _, rfl, _, _, _, 0, rfl, rfl, hS, rfl, ?_⟩
      refine ⟨_, rfl, ?_⟩
      exact q _ _ .put (Int.emod_nonneg _ (by omega)) (Int.emod_lt_of_pos _ hn)
    · refine ⟨_, rfl, _, _, _, _, rfl, rfl, .of hS, rfl, _, _, rfl, rfl, _, rfl, _, _, _, 2, rfl, rfl, hS, rfl, ?_⟩
      refine ⟨_, rfl, _, _, _, _, rfl, rfl, .of upd_same, rfl, _, rfl, _, _, _, _, rfl, rfl, .of upd_same, rfl, _, _, rfl, rfl, .inl ⟨by decide, by decide⟩, _, _, rfl, rfl, _, _, rfl, rfl, by show (0 : Int) < 2305843009213693951; decide, ?_⟩
      have hb : ∀ x : Int, 0 ≤ x % 2305843009213693951 ∧ x % 2305843009213693951 < 2305843009213693951 := fun x => ⟨Int.emod_nonneg _ (by decide), Int.emod_lt_of_pos _ (by decide)⟩
      have hb2 : ∀ x : Int, 0 ≤ x % 2305843009213693921 ∧ x % 2305843009213693921 < 2305843009213693921 := fun x => ⟨Int.emod_nonneg _ (by decide), Int.emod_lt_of_pos _ (by decide)⟩
      refine ⟨_, rfl, _, rfl, _, _, rfl, rfl, .inl ⟨Int.lt_of_lt_of_le (by decide) (hb _).1, Int.lt_trans (hb _).2 (by decide)⟩, _, _, rfl, rfl, by show (0 : Int) < 2305843009213693921; decide, _, rfl, _, _, rfl, rfl, .inl ⟨Int.lt_of_lt_of_le (by decide) (hb2 _).1, Int.lt_trans (hb2 _).2 (by decide)⟩, _, rfl, _, _, _, _, rfl, rfl, .of upd_same, rfl, _, _, rfl, rfl, .inl ⟨by decide, by decide⟩, _, _, rfl, rfl, _, _, rfl, rfl, by show (0 : Int) < 2305843009213693907; decide, ?_⟩
      refine ⟨_, rfl, _, _, rfl, rfl, ⟨by show (0 : Int) < 4096; decide, by show (4096 : Int).natAbs.log2 < 9000; decide⟩, _, rfl, _, _, rfl, rfl, hn, ?_⟩
      exact q _ _ .put (Int.emod_nonneg _ (by omega)) (Int.emod_lt_of_pos _ hn)
end
end Zl
end
section
/-! ZV: evaluating words of data by simp: one equation for each kind of value, so that nothing unknown is unfolded -/
namespace Zl
open PySem PySem.Spec PyProof.Rows L2 Kb
variable [Tabd]
section
variable {d e : PyData} {ds es : List PyData} {i j : Int} {x y : Str} {b c : Bool} {Q : Z → Prop} {ns : List Int}
theorem view_dat : view (.dat d) = some d := rfl
theorem view_own : view (.own ds) = some (.list ds) := rfl
theorem free_dat : Z.free (.dat d) = True := rfl
theorem free_strm : Z.free .strm = True := rfl
theorem free_scr : Z.free (.scr ns) = True := rfl
theorem out_dat : Z.out (.dat d) = .dat d := rfl
theorem out_own : Z.out (.own ds) = .dat (.list ds) := rfl
theorem items_list : items (.dat (.list ds)) = some ds := rfl
theorem items_tuple : items (.dat (.tuple ds)) = some ds := rfl
theorem items_str : items (.dat (.str x)) = some (x.cps.toList.map sign) := rfl
theorem tru_bool : dTru (.bool b) = some b := rfl
theorem tru_none : dTru .none = some false := rfl
theorem tru_int : dTru (.int i) = some (i != 0) := rfl
theorem tru_list : dTru (.list ds) = some (!ds.isEmpty) := rfl
theorem tru_tuple : dTru (.tuple ds) = some (!ds.isEmpty) := rfl
theorem lt_int : dLt (.int i) (.int j) Q = Q (.dat (.bool (decide (i < j)))) := rfl
theorem le_int : dLe (.int i) (.int j) Q = Q (.dat (.bool (decide (i ≤ j)))) := rfl
theorem gt_int : dGt (.int i) (.int j) Q = Q (.dat (.bool (decide (j < i)))) := rfl
theorem ge_int : dGe (.int i) (.int j) Q = Q (.dat (.bool (decide (j ≤ i)))) := rfl
theorem lt_str : dLt (.str x) (.str y) Q = Q (.dat (.bool (lessL x y))) := rfl
theorem le_str : dLe (.str x) (.str y) Q = Q (.dat (.bool (!lessL y x))) := rfl
theorem len_list : dLen (.list ds) Q = Q (.dat (.int ds.length)) := rfl
theorem len_tuple : dLen (.tuple ds) Q = Q (.dat (.int ds.length)) := rfl
theorem len_strD : dLen (.str x) Q = (x.length ≤ line ∧ Q (.dat (.int x.length))) := rfl
theorem neg_int : dNeg (.int i) Q = Q (.dat (.int (-i))) := rfl
theorem add_int : dAddB (.int i) (.int j) Q = Q (.dat (.int (i + j))) := rfl
theorem add_str : dAddB (.str x) (.str y) Q = (x.length + y.length ≤ line ∧ Q (.dat (.str (x ++ y)))) := rfl
theorem add_list : dAddB (.list ds) (.list es) Q = (ds.length + es.length ≤ line ∧ Q (.dat (.list (ds ++ es)))) := rfl
theorem add_tuple : dAddB (.tuple ds) (.tuple es) Q = (ds.length + es.length ≤ line ∧ Q (.dat (.tuple (ds ++ es)))) := rfl
theorem sub_int : dSubB (.int i) (.int j) Q = Q (.dat (.int (i - j))) := rfl
theorem add_boolI : dAddB (.bool b) (.int j) Q = Q (.dat (.int (bI b + j))) := rfl
theorem sub_boolI : dSubB (.bool b) (.int j) Q = Q (.dat (.int (bI b - j))) := rfl
theorem sub_intB : dSubB (.int i) (.bool b) Q = Q (.dat (.int (i - bI b))) := rfl
theorem str_bool : dStrB (.bool b) Q = Q (.dat (.str (boolS b))) := rfl
theorem mul_int : dMulA (.int i) (.int j) Q = (i.natAbs.log2 + j.natAbs.log2 < 1000000 ∧ Q (.dat (.int (i * j)))) := rfl
theorem mul_tuple : dMulA (.tuple ds) (.int j) Q = ((-1000 ≤ j ∧ j ≤ 1000 ∧ ds.length ≤ 1000) ∧ Q (.dat (.tuple (List.replicate j.toNat ds).flatten))) := rfl
theorem mod_int : dMod (.int i) (.int j) Q = (0 < j ∧ Q (.dat (.int (i % j)))) := rfl
theorem div_int : dDiv (.int i) (.int j) Q = (0 < j ∧ j.natAbs.log2 < 9000 ∧ Q (.dat (.int (i / j)))) := rfl
theorem pow_int : dPow (.int i) (.int j) Q = (0 ≤ j ∧ (Builtin.Int.intBits i : Int) * j ≤ 2 ^ 27 ∧ Q (.dat (.int (i ^ j.toNat)))) := rfl
theorem min_int : dMin2 (.int i) (.int j) Q = Q (.dat (.int (if j < i then j else i))) := rfl
theorem max_int : dMax2 (.int i) (.int j) Q = Q (.dat (.int (if j > i then j else i))) := rfl
theorem abs_intD : dAbs (.int i) Q = Q (.dat (.int (if i < 0 then -i else i))) := by first | rfl | simp [dAbs]
theorem ix_list : dIx (.list ds) (.int i) Q = ∃ d, atI ds i = some d ∧ Q (.dat d) := rfl
theorem ix_tuple : dIx (.tuple ds) (.int i) Q = ∃ d, atI ds i = some d ∧ Q (.dat d) := rfl
theorem ix_str : dIx (.str x) (.int i) Q = (x.length ≤ line ∧ ∃ c, atI x.cps.toList i = some c ∧ Q (.dat (sign c))) := rfl
theorem slD_list {lo hi : Option Int} : dSl (.list ds) lo hi Q = Q (.dat (.list (cutL ds lo hi))) := rfl
theorem slD_tuple {lo hi : Option Int} : dSl (.tuple ds) lo hi Q = Q (.dat (.tuple (cutL ds lo hi))) := rfl
theorem slD_str {lo hi : Option Int} : dSl (.str x) lo hi Q = (x.length ≤ line ∧ Q (.dat (.str ⟨(cutL x.cps.toList lo hi).toArray⟩))) := rfl
theorem tuple_list : dTuple (.list ds) Q = Q (.dat (.tuple ds)) := rfl
theorem tuple_tuple : dTuple (.tuple ds) Q = Q (.dat (.tuple ds)) := rfl
theorem list_list : dList (.list ds) Q = Q (.dat (.list ds)) := rfl
theorem list_tuple : dList (.tuple ds) Q = Q (.dat (.list ds)) := rfl
theorem rev_tuple : dRev (.tuple ds) Q = Q (.dat (.tuple ds.reverse)) := rfl
theorem str_int : dStrB (.int i) Q = (i.natAbs.log2 < 1920 ∧ Q (.dat (.str (toString i : String)))) := rfl
theorem lower_str : dLower (.str x) Q = (x.length ≤ line ∧ Q (.dat (.str (Txt.lower x)))) := rfl
theorem upper_str : dUpper (.str x) Q = (x.length ≤ line ∧ Q (.dat (.str (Txt.upper x)))) := rfl
theorem toint_bool : dToInt (.bool b) Q = Q (.dat (.int (if b then 1 else 0))) := rfl
theorem toint_int : dToInt (.int i) Q = Q (.dat (.int i)) := rfl
theorem in_list {neg : Bool} : dIn neg d (.list ds) Q = (okIn ds d ∧ Q (.dat (.bool (if neg then !anyEq ds d else anyEq ds d)))) := by cases d <;> rfl
theorem in_tuple {neg : Bool} : dIn neg d (.tuple ds) Q = (okIn ds d ∧ Q (.dat (.bool (if neg then !anyEq ds d else anyEq ds d)))) := by cases d <;> rfl
theorem in_str {neg : Bool} : dIn neg (.str x) (.str y) Q = Q (.dat (.bool (if neg then !hasStr x y else hasStr x y))) := rfl
theorem isB_bool {neg : Bool} : dIsB neg (.bool b) (.bool c) Q = Q (.dat (.bool (if neg then !decide (b = c) else decide (b = c)))) := by first | rfl | simp [dIsB]
theorem isN_any {neg : Bool} : dIsN neg d .none Q = Q (.dat (.bool (if neg then !isNone d else isNone d))) := by simp [dIsN]
theorem eq_any {neg : Bool} : dEq neg d e Q = (eqOk d e = true ∧ (neg = true → isDict e = false) ∧ dep d ≤ 60 ∧ Q (.dat (.bool (if neg then !PyData.eqv d e else PyData.eqv d e)))) := rfl
theorem dats_nil : dats [] = some [] := rfl
theorem dats_cons {zs : List Z} : dats (.dat d :: zs) = (dats zs).map (d :: ·) := rfl
theorem kl1_dat {f : PyData → (Z → Prop) → Prop} : kL1 f [.dat d] Q = f d Q := propext ⟨fun ⟨_, _, h1, h2, h⟩ => by cases h1; cases h2; exact h, fun h => ⟨_, _, rfl, rfl, h⟩⟩
theorem kl1_own {f : PyData → (Z → Prop) → Prop} : kL1 f [.own ds] Q = f (.list ds) Q := propext ⟨fun ⟨_, _, h1, h2, h⟩ => by cases h1; cases h2; exact h, fun h => ⟨_, _, rfl, rfl, h⟩⟩
theorem kl2_dat {f : PyData → PyData → (Z → Prop) → Prop} : kL2 f [.dat d, .dat e] Q = f d e Q := propext ⟨fun ⟨_, _, _, _, h1, h2, h3, h⟩ => by cases h1; cases h2; cases h3; exact h, fun h => ⟨_, _, _, _, rfl, rfl, rfl, h⟩⟩
theorem gcons_cons {a : ZG} {g : ZGs} {ρ : Rho} {R : Rho → Prop} : zgCons a g (d :: ds) ρ R = a (.dat d) ρ fun ρ' => g ds ρ' R := propext ⟨fun ⟨_, _, e, h⟩ => by cases e; exact h, fun h => ⟨_, _, rfl, h⟩⟩
theorem gnil_nil {ρ : Rho} {R : Rho → Prop} : zgNil [] ρ R = R ρ := propext ⟨fun h => h.2, fun h => ⟨rfl, h⟩⟩
theorem tupG_tuple {n : Nat} {g : ZGs} {ρ : Rho} {R : Rho → Prop} : zTupG n g (.dat (.tuple ds)) ρ R = (ds.length = n ∧ g ds ρ R) := propext ⟨fun ⟨_, e, h⟩ => by cases e; exact h, fun h => ⟨_, rfl, h⟩⟩
end
end Zl
end
section
open PySem PySem.Spec PyProof.Rows L2 Kb
local macro_rules | `(tactic| walk_at "zt") => `(tactic| simp +decide only [Zl.dTy, Zl.dIsa, Zl.isa, Zl.isaT, Zl.tyZ, Bool.false_and, Bool.and_false, Bool.true_and, Bool.and_true, Bool.or_false, Bool.false_or, Bool.or_true, Bool.true_or, decide_true, decide_false, Bool.not_true, Bool.not_false, if_true, if_false, Bool.false_eq_true])
local macro_rules | `(tactic| walk_at "zs") => `(tactic| simp only [Zl.zSeq, Zl.zNext, Zl.zIfS, Zl.zRet, Zl.zRetN, Zl.zAsg, Zl.zName, Zl.zOr, Zl.zAnd, Zl.zNot, Zl.zB, Zl.zTru, Zl.zOne, Zl.zTwo, Zl.zVar, Zl.zC, Zl.zCB, Zl.zCons, Zl.zNil, Zl.zChain, Zl.zCall, Zl.zAndV, Zl.zOrV, Zl.zNotV, Zl.zIf, Zl.zOfN, Zl.zDrop, Zl.zTup, Zl.zLst, Zl.zLstN, Zl.zNew, Zl.zAppend, Zl.zExtend, Zl.zFreeze, Zl.zLc, Zl.zItems, Zl.zZip, Zl.zSl, Zl.zPart, Zl.zNoPart, Zl.zRng1, Zl.zRng2, Zl.zEnum, Zl.zFor, Zl.tupG_tuple, Zl.gcons_cons, Zl.gnil_nil, Zl.zIndex, Zl.zYes, Zl.zRaise0, Zl.zRaise1, Zl.zLenScr, Zl.zDisp, Zl.zPairs, Zl.zStream, Zl.zSortSet, Zl.k1, Zl.k2, Zl.kl1_dat, Zl.kl1_own, Zl.kl2_dat, Zl.view_dat, Zl.view_own, Zl.free_dat, Zl.free_strm, Zl.free_scr, Zl.out_dat, Zl.out_own, Zl.items_list, Zl.items_tuple, Zl.items_str, Zl.tru_bool, Zl.tru_none, Zl.tru_int, Zl.tru_list, Zl.tru_tuple, Zl.lt_int, Zl.le_int, Zl.gt_int, Zl.ge_int, Zl.lt_str, Zl.le_str, Zl.len_list, Zl.len_tuple, Zl.len_strD, Zl.neg_int, Zl.add_int, Zl.add_str, Zl.add_list, Zl.add_tuple, Zl.add_boolI, Zl.sub_boolI, Zl.sub_intB, Zl.str_bool, Zl.sub_int, Zl.mul_int, Zl.mul_tuple, Zl.mod_int, Zl.div_int, Zl.pow_int, Zl.min_int, Zl.max_int, Zl.abs_intD, Zl.ix_list, Zl.ix_tuple, Zl.ix_str, Zl.slD_list, Zl.slD_tuple, Zl.slD_str, Zl.tuple_list, Zl.tuple_tuple, Zl.list_list, Zl.list_tuple, Zl.rev_tuple, Zl.str_int, Zl.lower_str, Zl.upper_str, Zl.toint_bool, Zl.toint_int, Zl.in_list, Zl.in_tuple, Zl.in_str, Zl.isB_bool, Zl.isN_any, Zl.dats_nil, Zl.dats_cons, Option.map_some, Zl.wipeZ, Zl.startZ, List.map_cons, List.map_nil, List.length_cons, List.length_nil, List.replicate_succ, List.replicate_zero, List.cons_append, List.nil_append, List.set_cons_zero, List.set_cons_succ, List.getElem?_cons_zero, List.getElem?_cons_succ, Nat.sub_self, Nat.reduceAdd, Nat.reduceSub, Nat.reduceLT, Nat.reduceLeDiff, Option.some.injEq, exists_eq_left', exists_eq_left, exists_eq, exists_and_left, true_and, and_true, ne_eq, not_false_eq_true, reduceCtorEq, List.cons.injEq, Zl.Z.dat.injEq, Zl.Z.own.injEq, Zl.Z.scr.injEq, PyData.bool.injEq, PyData.int.injEq, PyData.str.injEq, PyData.tuple.injEq, PyData.list.injEq, and_self, if_true, if_false, Bool.false_eq_true, ite_true, ite_false, Bool.not_true, Bool.not_false, Bool.not_eq_true', decide_eq_true_eq, decide_eq_false_iff_not, decide_true, decide_false, List.mem_cons, List.not_mem_nil, or_false, forall_eq_or_imp, forall_eq, implies_true, List.length_set])
section
/-! ZW: sets of lists and of tuples -/
namespace Zl
open PySem PySem.Spec PyProof.Rows L2 Kb
variable [Tabd]
open PySem.W (EachIs AllAlike Sortable dataLe)
section
variable {κ : Type} [DecidableEq κ] {P : Program} {w : World} {κd : PySem.KeyKind P w κ} {A : Around} {E : Value → Shared → Prop} {s : Shared}
set_option maxHeartbeats 8000000 in
theorem call_setGT {l : Addr} {vs : Array Value} (ks : List κ) {Q : Value → Shared → Prop} (hh : A.handled = none) (hl : s.heap.IsTuple l vs) (hlen : vs.size = ks.length) (room : ks.length + 1 < scanBound)
    (val : ∀ (i : Nat) v, vs[i]? = some v → ∃ k, ks[i]? = some k ∧ κd.is k v = true ∧ v.scannable = true)
    (h : ∀ (h' : Heap) (tk c : Nat), SetG κd h' s.heap.objs.size (fun j => decide (j ∈ ks)) c → c ≤ ks.length → (∀ b o, s.heap.get? b = some o → h'.get? b = some o) → Q (.ref s.heap.objs.size) { s with heap := h', toks := tk }) :
    wpAny (model P w) A (call (.type "set") [.ref l]) Q E s := by
  have ⟨c, tl, mro⟩ := F.called_set.mro
  have made := F.called_set.made
  have sub := F.called_set.sub
  have h1 := F.called_set.notType
  have h2 := F.called_set.canCreate
  have ct := F.typeCall_set_1 (.ref l)
  refine wpAny_call (codeAny_of_tree (show wpAny _ _ (callAny (.type "set") _) _ _ _ from wpAny_pure ⟨Code.quiet_builtin _ (by decide +kernel), codeAny_builtin F.entry_type_call ?_⟩))
  rw [Around.under_plain (weight_type_call_type "set" [.ref l] []) rfl]
  repeat (any_goals (first | assumption | wp_step))
  refine codeAny_mono (code_set_led1 (.ref l) (E := E) (Q₁ := fun u z => u = .ref s.heap.objs.size ∧ z = { s with heap := s.heap.push (noSet w) }) ⟨rfl, rfl⟩) fun r z hr => ?_
  cases r with
  | error e => exact hr
  | ok fl =>
    cases fl with
    | ret u =>
      obtain ⟨rfl, rfl⟩ := hr
      have here : (s.heap.push (noSet w)).get? s.heap.objs.size = some (noSet w) := Heap.get?_push_size _ rfl
      have ty : Shared.TypeIs { s with heap := s.heap.push (noSet w) } (.ref s.heap.objs.size) "set" := ⟨_, here, rfl⟩
      have li := F.called_set.init.lookup
      have bi := F.called_set.init.bind (.ref s.heap.objs.size)
      repeat (any_goals (first | assumption | wp_step))
      refine codeAny_mono (codeAny_call_builtin (R := wants (fun r z => r = .none ∧ ∃ h' tk c, z = { s with heap := h', toks := tk } ∧ SetG κd h' s.heap.objs.size (fun j => decide (j ∈ ks)) c ∧ c ≤ ks.length ∧ (∀ b o, s.heap.get? b = some o → h'.get? b = some o)) E)
        F.called_set.init.plain F.entry_set_init (check_set_init_1 ty ?_)) fun r2 z2 hr2 => ?_
      · obtain ⟨⟨cl, di, da, sl⟩, hol, hcl, nl, hda⟩ := hl
        simp only at hcl hda
        subst hcl hda
        have at1 : (s.heap.push (noSet w)).get? l = some { cls := .type "tuple", dict := di, data := .seq vs nl, slots := sl } := Heap.get?_push_of_some _ hol
        have s1 := F.sub_tuple_set
        have s2 := F.sub_tuple_frozenset
        have ne : (Value.type "tuple" == Value.type "dict") = false := by decide
        have l1 : (s.heap.push (noSet w)).IsTuple l vs := ⟨_, at1, rfl, nl, rfl⟩
        unfold Builtin.«set.__init__» noKeywords Builtin.Frozenset.updateFrom
        generalize hPI : pyIter = PI
        wp_walk
        subst hPI
        have lS : l < s.heap.objs.size := Heap.lt_size hol
        have z1 : (s.heap.push (noSet w)).objs.size = s.heap.objs.size + 1 := Heap.size_push ..
        have neI : l ≠ (s.heap.push (noSet w)).objs.size := fun z => Nat.ne_of_lt (Nat.lt_succ_of_lt lS) (Eq.trans z z1)
        have inn : A.in1.in1.in1.handled = none := by simp [hh]
        have free : s.heap.objs.size ∉ [(s.heap.push (noSet w)).objs.size, l] := fun z => by
          rcases List.mem_cons.mp z with z | z
          · exact Nat.ne_of_lt (Nat.lt_succ_self _) (Eq.trans z z1)
          · exact Nat.ne_of_gt lS (List.mem_singleton.mp z)
        refine wpAny_pyIter_tuple l1 (wpAny_bind (wpAny_runValue ?_))
        refine setG_loop (Walks.tuple inn _ l neI vs).toS s.heap.objs.size free ks hlen room val (vs.size - 0) 0 _ (by omega) (Nat.zero_le _) ⟨⟨_, Heap.get?_push_size _ rfl, rfl, rfl⟩, l1.push _⟩ ⟨0, Nat.le_refl 0, setG_fresh (Heap.get?_push_of_some _ here)⟩ fun z c' mv hc hS => ?_
        obtain ⟨h', g, d, tk, os⟩ := z
        obtain rfl : g = s.gens := mv.gens
        obtain rfl : d = s.drawn := mv.drawn
        obtain rfl : os = s.os := mv.os
        refine wpAny_pure (wpAny_pure ⟨rfl, h', tk, c', rfl, hS, by omega, fun b o e => mv.heap b o (fun z => ?_) (Heap.get?_push_of_some _ (Heap.get?_push_of_some _ e))⟩)
        have hb := Heap.lt_size e
        rcases List.mem_cons.mp z with z | z
        · exact Nat.ne_of_lt hb z
        · exact Nat.ne_of_lt (Nat.lt_succ_of_lt hb) (Eq.trans (List.mem_singleton.mp z) z1)
      · cases r2 with
        | error e => exact hr2
        | ok fl =>
          cases fl with
          | ret r =>
            obtain ⟨rfl, h', tk, c', rfl, q1, q2, q3⟩ := hr2
            repeat (any_goals (first | assumption | wp_step))
            exact h _ _ _ q1 q2 q3
          | _ => exact hr2.elim
    | _ => exact hr.elim
end

/-! ### set(..) of a list or of a tuple; its length; sorted -/
theorem each_len {α : Type} {R : Value → α → Prop} : ∀ {vs : List Value} {ks : List α}, EachIs R vs ks → vs.length = ks.length
  | _, _, .nil => rfl
  | _, _, .cons _ t => congrArg (· + 1) (each_len t)
/-- how many keys the rows of a set stand for -/
theorem setG_count {κ : Type} [DecidableEq κ] {P : Program} {w : World} {κd : PySem.KeyKind P w κ} {h : Heap} {a : Addr} {ks : List κ} {n : Nat} (R : SetG κd h a (memD ks) n) : ∃ js : List κ, js.Nodup ∧ (∀ k, k ∈ js ↔ k ∈ ks) ∧ js.length = n := by
  obtain ⟨o, es, ep, t, ho, hx, hd, el, ap, mem, hb, hf, hn, ri, ld⟩ := R.ex
  have isk : ∀ v ∈ es.toList.map (·.2), ∃ k, κd.is k v = true := fun v hv => by
    obtain ⟨e, he, rfl⟩ := List.mem_map.mp hv
    obtain ⟨⟨k, hk, _⟩, _⟩ := el e he
    exact ⟨k, hk⟩
  obtain ⟨js, ek, nd, mk⟩ := keys_of isk (List.pairwise_map.mpr ap)
  refine ⟨js, nd, fun k => ?_, ?_⟩
  · rw [mk k, ← memD_iff, mem k]
    constructor
    · rintro ⟨v, hv, q⟩
      obtain ⟨e, he, rfl⟩ := List.mem_map.mp hv
      exact ⟨e, he, q⟩
    · rintro ⟨e, he, q⟩
      exact ⟨e.2, List.mem_map_of_mem he, q⟩
  · have := each_len ek
    rw [← this, List.length_map, Array.length_toList]
    exact hn
def rSetA (K : PySem.W.Frag) (P : Program) (w : World) : List V → Hp → VK → Prop := fun xs H Q => ∃ (l : Addr) (ks : List Key), xs = [.ref l] ∧ (SqL K H l (ks.map kV) ∨ SqT K H l (ks.map kV)) ∧ ks.length ≤ 4000 ∧ ∀ a c, H a = none → Q (.ref a) (upd H a (SetO1 P w a ks c))
section
variable {X : Cx}
theorem cr_setA (hc : X.calm = true) : CallR X (.type "set") (rSetA X.K X.prog X.w) := by
  intro pins s σ H xs us Q I r h
  obtain ⟨l, ks, rfl, hl | hl, hb, q⟩ := h
  · exact cr_set1 hc pins s σ H _ us Q I r ⟨l, ks, rfl, hl, hb, q⟩
  · rw [Vals.ref1 r]
    obtain ⟨its, rv, pl, hz⟩ := I.tuple hl
    have len : its.toArray.size = ks.length := by
      have := rv.length
      rw [List.length_map] at this
      rw [List.size_toArray, this]
    refine call_setGT (κd := mixKind X.prog X.w) ks (I.ok.hd hc) (show s.heap.IsTuple l its.toArray from pl) len (by have := scan5; omega) (fun i v e => vals_key rv (by simpa using e)) fun h' tk c R hc k => ?_
    exact ⟨.ref s.heap.objs.size, upd H s.heap.objs.size (SetO1 X.prog X.w s.heap.objs.size ks c), I.laid (t' := tk) k (Nat.le_refl _) (setO1_new R), rfl, q _ c (I.hok.fresh (Nat.le_refl _))⟩
def rLenSet (P : Program) (w : World) : List V → Hp → VK → Prop := fun xs H Q => ∃ (a : Addr) (ks : List Key) (c : Nat), xs = [.ref a] ∧ H a = some (SetO1 P w a ks c) ∧ ∀ js : List Key, js.Nodup → (∀ k, k ∈ js ↔ k ∈ ks) → Q (.int js.length) H
theorem cr_lenSet : CallR X (.builtin "len") (rLenSet X.prog X.w) := by
  intro pins s σ H vs us Q I r h
  obtain ⟨a, ks, n, rfl, ha, q⟩ := h
  rw [Vals.ref1 r]
  have R : SetG (mixKind X.prog X.w) s.heap a (memD ks) n := (I.hok a _ ha).1
  obtain ⟨js, nd, mk, hl⟩ := setG_count R
  obtain ⟨o, es, ep, t, ho, hx, hd, el, ap, mem, hb, hf, hn, ri, ld⟩ := R.ex
  have hz := fits_of_scanBound hb
  refine call_len_set ho hx hd hf (by have : sizeLine < 2 ^ 63 := by decide
                                      omega) ⟨.int js.length, H, I.tok _, ⟨_, by rw [hl, hn]⟩, q js nd mk⟩
end
def setArg (z : Z) (ks : List Key) : Prop := view z = some (.list (ks.map kD)) ∨ view z = some (.tuple (ks.map kD))
def zLenSet (a : ZE) : ZE := fun ρ Q E => a ρ (fun z => ∃ ks : List Key, setArg z ks ∧ ks.length ≤ 4000 ∧ ∀ js : List Key, js.Nodup → (∀ k, k ∈ js ↔ k ∈ ks) → Q (.dat (.int js.length))) E
def zSortSetA (a : ZE) : ZE := fun ρ Q E => a ρ (fun z => ∃ ks : List Key, setArg z ks ∧ ks.length ≤ 4000 ∧ oneSort ks ∧ ∀ js : List Key, js.Nodup → (∀ k, k ∈ js ↔ k ∈ ks) → Q (.dat (.list (sortD (js.map kD))))) E
section
variable {K : PySem.W.Frag} {W : WX}
theorem setArg_at {F : Fr} {H : Hp} {r : Z} {v : V} {ks : List Key} (d : RZ K F H r v) (h : setArg r ks) : ∃ p, v = .ref p ∧ (SqL K H p (ks.map kV) ∨ SqT K H p (ks.map kV)) := by
  rcases h with h | h
  · obtain ⟨p, xs, rfl, k1, k2⟩ := d.list h
    obtain rfl := dz_keys k2
    exact ⟨p, rfl, .inl (SqL.of k1)⟩
  · obtain ⟨p, xs, rfl, k1, k2⟩ := d.tuple h
    obtain rfl := dz_keys k2
    exact ⟨p, rfl, .inr k1⟩
theorem tr_lenSet {P : Program} {w : World} {ta : TE} {za : ZE} (h : Tr K W ta za) : Tr K W (tCB (rLenSet P w) (tCons (tCB (rSetA K P w) (tCons ta tNil)) tNil)) (zLenSet za) := fun F ρ σ H Qz Ez Q g e hz q x => by
  refine h F ρ σ H _ Ez _ g e hz (fun r v H1 r1 d1 h1 => ?_) x
  obtain ⟨ks, h2, hl, h1⟩ := h1
  obtain ⟨p, rfl, k1⟩ := setArg_at d1 h2
  refine ⟨p, ks, rfl, k1, hl, fun a c na => ?_⟩
  refine ⟨a, ks, c, rfl, upd_same, fun js nd m => ?_⟩
  exact q (.dat (.int _)) _ _ (r1.trans (.new na)) (Dz.int _) (h1 js nd m)
theorem tr_sortSetA {P : Program} {w : World} {ta : TE} {za : ZE} (h : Tr K W ta za) : Tr K W (tCB (rSort1 P w) (tCons (tCB (rSetA K P w) (tCons ta tNil)) tNil)) (zSortSetA za) := fun F ρ σ H Qz Ez Q g e hz q x => by
  refine h F ρ σ H _ Ez _ g e hz (fun r v H1 r1 d1 h1 => ?_) x
  obtain ⟨ks, h2, hl, o1, h1⟩ := h1
  obtain ⟨p, rfl, k1⟩ := setArg_at d1 h2
  refine ⟨p, ks, rfl, k1, hl, fun a c na => ?_⟩
  refine ⟨a, ks, c, rfl, upd_same, o1, fun js l nd m nl => ?_⟩
  have r2 : Rel F.S F.O H1 (upd H1 a (SetO1 P w a ks c)) := .new na
  have g2 := (g.rel r1).rel r2
  refine q (.dat (.list _)) _ _ ((r1.trans r2).trans (.new nl)) ?_ (h1 js nd m)
  have := dz_newL (K := K) g2 nl (keys_dz (H := hid F.O (upd H1 a (SetO1 P w a ks c))) (js.mergeSort (dataLe false kD)))
  rwa [sort_keys] at this
variable {X : Cx} {e : Expr} {te : TE} {ze : ZE} {pos p p2 pos2 : Pos}
theorem pz_sortSetA {P : Program} {w : World} (hc : X.calm = true) (hu : X.A.units + 64 < cLine) (hm : X.mg "sorted" = none) (hm2 : X.mg "set" = none) (h : PZ K X W e te ze) (hg : Gl X "sorted" := by rfl) (hg2 : Gl X "set" := by rfl)
    (he : starEach [e] X.env = (false, eval e X.env) :: starEach [] X.env := by rfl) (hpl : (backTo pos2 (starEach [] X.env)).any (·.1) = false := by rfl)
    (he2 : starEach [.Call (.Name "set" p2) [e] [] pos2] X.env = (false, eval (.Call (.Name "set" p2) [e] [] pos2) X.env) :: starEach [] X.env := by rfl) (hpl2 : (backTo pos (starEach [] X.env)).any (·.1) = false := by rfl) (hP : X.prog = P := by rfl) (hw : X.w = w := by rfl) (hK : X.K = K := by rfl) :
    PZ K X W (.Call (.Name "sorted" p) [.Call (.Name "set" p2) [e] [] pos2] [] pos) (tCB (rSort1 P w) (tCons (tCB (rSetA K P w) (tCons te tNil)) tNil)) (zSortSetA ze) := by
  subst hK hP hw
  have a1 : PA X [e] (tCons te tNil) := by first | exact pa_cons h.pe pa_nil he | exact pa_cons h.pe pa_nil
  have i1 : PE X (.Call (.Name "set" p2) [e] [] pos2) (tCB (rSetA X.K X.prog X.w) (tCons te tNil)) := by
    first | exact pe_callTy (cr_setA hc) hg2 hm2 (by decide +kernel) a1 (by decide) (by decide) he hpl | exact pe_callTy (cr_setA hc) hg2 hm2 (by decide +kernel) a1 (by decide) (by decide)
  have a2 : PA X [.Call (.Name "set" p2) [e] [] pos2] (tCons (tCB (rSetA X.K X.prog X.w) (tCons te tNil)) tNil) := by first | exact pa_cons i1 pa_nil he2 | exact pa_cons i1 pa_nil
  exact ⟨by first | exact pe_callB (cr_sort1 hc hu) hg hm (by decide +kernel) a2 (by decide) (by decide) he2 hpl2 | exact pe_callB (cr_sort1 hc hu) hg hm (by decide +kernel) a2 (by decide) (by decide), tr_sortSetA h.tr⟩
theorem pz_lenSet {P : Program} {w : World} (hc : X.calm = true) (hm : X.mg "len" = none) (hm2 : X.mg "set" = none) (h : PZ K X W e te ze) (hg : Gl X "len" := by rfl) (hg2 : Gl X "set" := by rfl)
    (he : starEach [e] X.env = (false, eval e X.env) :: starEach [] X.env := by rfl) (hpl : (backTo pos2 (starEach [] X.env)).any (·.1) = false := by rfl)
    (he2 : starEach [.Call (.Name "set" p2) [e] [] pos2] X.env = (false, eval (.Call (.Name "set" p2) [e] [] pos2) X.env) :: starEach [] X.env := by rfl) (hpl2 : (backTo pos (starEach [] X.env)).any (·.1) = false := by rfl) (hP : X.prog = P := by rfl) (hw : X.w = w := by rfl) (hK : X.K = K := by rfl) :
    PZ K X W (.Call (.Name "len" p) [.Call (.Name "set" p2) [e] [] pos2] [] pos) (tCB (rLenSet P w) (tCons (tCB (rSetA K P w) (tCons te tNil)) tNil)) (zLenSet ze) := by
  subst hK hP hw
  have a1 : PA X [e] (tCons te tNil) := by first | exact pa_cons h.pe pa_nil he | exact pa_cons h.pe pa_nil
  have i1 : PE X (.Call (.Name "set" p2) [e] [] pos2) (tCB (rSetA X.K X.prog X.w) (tCons te tNil)) := by
    first | exact pe_callTy (cr_setA hc) hg2 hm2 (by decide +kernel) a1 (by decide) (by decide) he hpl | exact pe_callTy (cr_setA hc) hg2 hm2 (by decide +kernel) a1 (by decide) (by decide)
  have a2 : PA X [.Call (.Name "set" p2) [e] [] pos2] (tCons (tCB (rSetA X.K X.prog X.w) (tCons te tNil)) tNil) := by first | exact pa_cons i1 pa_nil he2 | exact pa_cons i1 pa_nil
  exact ⟨by first | exact pe_callB cr_lenSet hg hm (by decide +kernel) a2 (by decide) (by decide) he2 hpl2 | exact pe_callB cr_lenSet hg hm (by decide +kernel) a2 (by decide) (by decide), tr_lenSet h.tr⟩
end
end Zl
end
section
/-! ZX: expressions that write a list of one's own: pop -/
namespace Zl
open PySem PySem.Spec PyProof.Rows L2 Kb
variable [Tabd]
variable {K : PySem.W.Frag} {W : WX}
/-- all but the streams and the lists of one's own stands -/
def RelW (F : Fr) (H H' : Hp) : Prop := ∀ b o, b ∉ F.S → b ∉ F.N → H b = some o → H' b = some o
theorem RelW.of {F : Fr} {H H' : Hp} (r : Rel F.S F.O H H') : RelW F H H' := fun b o n _ e => r.kp b o n e
theorem RelW.refl {F : Fr} {H : Hp} : RelW F H H := fun _ _ _ _ e => e
theorem RelW.trans {F : Fr} {A B C : Hp} (x : RelW F A B) (y : RelW F B C) : RelW F A C := fun b o n m e => y b o n m (x b o n m e)
theorem RelW.le {F : Fr} {H H' : Hp} (g : Good F H) (r : RelW F H H') : Le (hid F.O H) (hid F.O H') := Le.hid fun b o n e => r b o (fun z => n (g.so b z)) (fun z => n (g.no b z)) e
theorem RelW.si {F0 F : Fr} {H0 H H' : Hp} (s : Si F0 H0 F H) (r : RelW F H H') : Si F0 H0 F H' := by
  refine ⟨s.sub, s.subS, s.newS, s.newN, s.newO, fun b o n e => r b o (fun z => ?_) (fun z => ?_) (s.kp b o n e), s.ex0⟩
  · rcases s.newS b z with h | h
    · exact n h
    · rw [h] at e
      cases e
  · rw [s.newN b z] at e
    cases e
theorem RelW.put {F : Fr} {H : Hp} {l : Addr} {o : HO} (h : l ∈ F.N) : RelW F H (upd H l o) := fun b u _ m e => by
  rw [upd_ne (fun z => m (by rw [z]; exact h))]
  exact e
abbrev ZX := Rho → (Rho → Z → Prop) → (Xc → Prop) → Prop
def TrX (K : PySem.W.Frag) (W : WX) (te : TE) (z : ZX) : Prop := ∀ (F : Fr) (ρ : Rho) (σ : L2.St) (H : Hp) (Qz : Rho → Z → Prop) (Ez : Xc → Prop) (Q : VK), Good F H → En K F H ρ σ → z ρ Qz Ez →
  (∀ ρ' r v H', Good F H' → RelW F H H' → En K F H' ρ' σ → RZ K F H' r v → Qz ρ' r → Q v H') → (∀ x C d H', Rel F.S F.O H H' → RX K F H' x C d → Ez x → W C d σ H') → te σ H Q
/-- nothing is written -/
def zPure (a : ZE) : ZX := fun ρ Q E => a ρ (fun r => Q ρ r) E
theorem tr_pure {te : TE} {za : ZE} (h : Tr K W te za) : TrX K W te (zPure za) := fun F ρ σ H Qz Ez Q g e hz q x =>
  h F ρ σ H _ Ez _ g e hz (fun r v H1 r1 d1 q1 => q ρ r v H1 (g.rel r1) (.of r1) (e.rel g r1) d1 q1) x
theorem DzAll.erase {H : Hp} : ∀ (j : Nat) {vs : List V} {ds : List PyData}, DzAll K H vs ds → DzAll K H (vs.eraseIdx j) (ds.eraseIdx j)
  | _, _, _, .nil => .nil
  | 0, _, _, .cons _ t => t
  | j + 1, _, _, .cons h t => .cons h (t.erase j)
/-- name.pop(e) -/
def zPop (i : Nat) (a : ZE) : ZX := fun ρ Q E => ∃ ds, ρ[i]? = some (some (.own ds)) ∧ a ρ (fun y => ∃ (j : Nat) (d : PyData), y = .dat (.int j) ∧ ds[j]? = some d ∧ ds.length ≤ line ∧ Q (ρ.set i (some (.own (ds.eraseIdx j)))) (.dat d)) E
theorem tr_pop {i : Nat} {te : TE} {za : ZE} (h : Tr K W te za) : TrX K W (tBM K "list" rPopAt (tVar i) (tCons te tNil)) (zPop i za) := fun F ρ σ H Qz Ez Q g e hz q x => by
  obtain ⟨ds, h1, hz⟩ := hz
  obtain ⟨v, h2, l, xs, rfl, hl, h3, h4⟩ := e.at_ i _ h1
  refine ⟨_, h2, .inl ⟨rfl, _, SqL.of h3⟩, ?_⟩
  refine h F ρ σ H _ _ _ g e hz (fun r v H1 r1 d1 q1 => ?_) x
  obtain ⟨j, d, rfl, hj, hn, q1⟩ := q1
  have g1 := g.rel r1
  have h3' := r1.kp l _ (g.ns l hl) h3
  have h4' := Dz.monos (g.le r1) ds h4
  obtain ⟨u, hu, du⟩ := h4'.get' hj
  cases (show Dz K _ v (.int j) from d1)
  have hlt : j < xs.length := (List.getElem?_eq_some_iff.mp hu).1
  have hxl : xs.length ≤ line := by rw [h4.len]; exact hn
  have h63 : line < 2 ^ 63 := by decide
  have hix : seqIndex? (j : Int) xs.length = some j := by
    unfold seqIndex?
    have n1 : ¬ ((j : Int) < 0) := by omega
    simp only [if_neg n1]
    rw [if_pos (by simp; omega)]
    simp
  refine ⟨l, xs, j, j, u, rfl, rfl, h3', by omega, by omega, hix, hu, ?_⟩
  exact q _ (.dat d) u _ (g1.put hl) ((RelW.of r1).trans (.put hl)) ((e.rel g r1).put g1 h1 h2 hl (h4'.erase j)) (Dz.mono (Le.own (g.no l hl)) d du) q1
/-- name.pop() -/
def zPop0 (i : Nat) : ZX := fun ρ Q _ => ∃ ds d, ρ[i]? = some (some (.own (ds ++ [d]))) ∧ Q (ρ.set i (some (.own ds))) (.dat d)
theorem tr_pop0 {i : Nat} : TrX K W (tBM0 K "list" rPop (tVar i)) (zPop0 i) := fun F ρ σ H Qz Ez Q g e hz q x => by
  obtain ⟨ds, d, h1, hz⟩ := hz
  obtain ⟨v, h2, l, xs, rfl, hl, h3, h4⟩ := e.at_ i _ h1
  refine ⟨_, h2, .inl ⟨rfl, _, SqL.of h3⟩, ?_⟩
  have hlen := h4.len
  rw [List.length_append, List.length_singleton] at hlen
  obtain ⟨u, hu, du⟩ := h4.get' (i := ds.length) (d := d) (by simp)
  refine ⟨l, xs, u, rfl, rfl, h3, by rw [hlen, Nat.add_sub_cancel]; exact hu, ?_⟩
  have ht : DzAll K (hid F.O H) xs.dropLast ds := by
    have := h4.take ds.length
    rw [List.take_left] at this
    rwa [List.dropLast_eq_take, hlen, Nat.add_sub_cancel]
  exact q _ (.dat d) u _ (g.put hl) (.put hl) (e.put g h1 h2 hl ht) (Dz.mono (Le.own (g.no l hl)) d du) hz
/-! ### a comprehension that writes -/
def zLcXGo (vs : List Nat) (g : ZG) (t : ZT) (e : ZX) : List PyData → Rho → List PyData → (Rho → Z → Prop) → Prop
  | [], ρ, acc, Q => Q ρ (.dat (.list acc))
  | d :: r, ρ, acc, Q => g (.dat d) ρ fun ρ' => t ρ' (fun b => if b = true then e ρ' (fun ρ2 y => ∃ x, y = .dat x ∧ acc.length < line ∧ zLcXGo vs g t e r (wipeZ ρ2 vs) (acc ++ [x]) Q) (fun _ => False) else zLcXGo vs g t e r (wipeZ ρ' vs) acc Q) (fun _ => False)
def zLcX (vs : List Nat) (a : ZI) (g : ZG) (t : ZT) (e : ZX) : ZX := fun ρ Q E => a ρ (fun ds => zLcXGo vs g t e ds (wipeZ ρ vs) [] Q) E
theorem wipe_len {σ : L2.St} : ∀ vs : List Nat, (wipe σ vs).length = σ.length
  | [] => rfl
  | v :: vs => by
    show ((wipe σ vs).set v none).length = _
    rw [List.length_set, wipe_len vs]
theorem wipe_at {σ : L2.St} {j : Nat} {v : V} : ∀ vs : List Nat, (wipe σ vs)[j]? = some (some v) → σ[j]? = some (some v)
  | [], h => h
  | u :: vs, h => by
    have h : ((wipe σ vs).set u none)[j]? = some (some v) := h
    by_cases c : u = j
    · subst c
      by_cases hi : u < (wipe σ vs).length
      · rw [List.getElem?_set_self hi] at h
        cases h
      · rw [List.getElem?_eq_none (by rw [List.length_set]; omega)] at h
        cases h
    · rw [List.getElem?_set_ne c] at h
      exact wipe_at vs h
theorem En.unwipe {F : Fr} {H : Hp} {ρ : Rho} {σ : L2.St} {vs : List Nat} (e : En K F H ρ (L2.wipe σ vs)) : En K F H ρ σ := by
  refine ⟨fun i z h => ?_, fun i j ds es v n h1 h2 h3 h4 m1 m2 => ?_, by rw [e.len, wipe_len]⟩
  · obtain ⟨v, h1, h2⟩ := e.at_ i z h
    exact ⟨v, wipe_at vs h1, h2⟩
  · obtain ⟨u1, k1, _⟩ := e.at_ i _ h1
    obtain ⟨u2, k2, _⟩ := e.at_ j _ h2
    have q1 := wipe_at vs k1
    have q2 := wipe_at vs k2
    rw [h3] at q1
    rw [h4] at q2
    cases q1
    cases q2
    exact e.df i j ds es v n h1 h2 k1 k2 m1 m2
/-- a hidden object is written -/
theorem RZ.apart {F : Fr} {H : Hp} {D : Addr} {o : HO} (hO : D ∈ F.O) (hN : D ∉ F.N) {z : Z} {v : V} (h : RZ K F H z v) : RZ K F (upd H D o) z v := by
  cases z with
  | dat d => exact Dz.mono (Le.own hO) d h
  | strm => exact h
  | own ds =>
    obtain ⟨q, xs, e1, e2, e3, e4⟩ := h
    exact ⟨q, xs, e1, e2, by rw [upd_ne (fun z => hN (by rw [← z]; exact e2))]; exact e3, Dz.monos (Le.own hO) ds e4⟩
  | ownD ds =>
    obtain ⟨q, xs, e1, e2, e3, e4⟩ := h
    exact ⟨q, xs, e1, e2, by rw [upd_ne (fun z => hN (by rw [← z]; exact e2))]; exact e3, Dz.monoK (Le.own hO) ds e4⟩
  | exc _ _ => exact h
  | exf _ _ _ _ _ => exact RZ.le_exf (Le.own hO) h
  | clo _ => exact RZ.le_clo (Le.own hO) h
  | scr ns =>
    obtain ⟨a, e1, e2⟩ := h
    exact ⟨a, e1, (Le.own hO).seqL e2⟩
theorem En.aside {F : Fr} {H : Hp} {ρ : Rho} {σ : L2.St} {D : Addr} {o : HO} (hO : D ∈ F.O) (hN : D ∉ F.N) (e : En K F H ρ σ) : En K F (upd H D o) ρ σ :=
  ⟨fun i z h => by
    obtain ⟨v, h1, h2⟩ := e.at_ i z h
    exact ⟨v, h1, h2.apart hO hN⟩, e.df, e.len⟩
theorem Good.apart {F : Fr} {H : Hp} {D : Addr} {o : HO} (g : Good F H) (hS : D ∉ F.S) (hO : D ∈ F.O) : Good F (upd H D o) :=
  ⟨g.so, g.no, g.ns, fun a h t => (g.st a h t).same (upd_ne (fun q => hS (by rw [← q]; exact h))), fun a h => by
    by_cases c : a = D
    · subst c
      rw [upd_same]
      exact (fun q => (nomatch q))
    · rw [upd_ne c]
      exact g.ex a h, g.tS, g.tb.own hO fun t => hS (g.tS D t)⟩
theorem RZ.show {F : Fr} {H : Hp} {D : Addr} {z : Z} {v : V} (h : RZ K ⟨F.S, D :: F.O, F.N⟩ H z v) : RZ K F H z v := by
  have l : Le (hid (D :: F.O) H) (hid F.O H) := Le.sub fun b hb => List.mem_cons_of_mem _ hb
  cases z with
  | dat d => exact Dz.mono l d h
  | strm => exact h
  | own ds =>
    obtain ⟨q, xs, e1, e2, e3, e4⟩ := h
    exact ⟨q, xs, e1, e2, e3, Dz.monos l ds e4⟩
  | ownD ds =>
    obtain ⟨q, xs, e1, e2, e3, e4⟩ := h
    exact ⟨q, xs, e1, e2, e3, Dz.monoK l ds e4⟩
  | exc _ _ => exact h
  | exf _ _ _ _ _ => exact RZ.le_exf l h
  | clo _ => exact RZ.le_clo l h
  | scr ns =>
    obtain ⟨a, e1, e2⟩ := h
    exact ⟨a, e1, l.seqL e2⟩
theorem En.show {F : Fr} {H : Hp} {ρ : Rho} {σ : L2.St} {D : Addr} (e : En K ⟨F.S, D :: F.O, F.N⟩ H ρ σ) : En K F H ρ σ :=
  ⟨fun i z h => by
    obtain ⟨v, h1, h2⟩ := e.at_ i z h
    exact ⟨v, h1, h2.show⟩, e.df, e.len⟩
theorem Good.show {F : Fr} {H1 H : Hp} {D : Addr} (g1 : Good F H1) (g : Good ⟨F.S, D :: F.O, F.N⟩ H) : Good F H :=
  ⟨g1.so, g1.no, g1.ns, g.st, (fun a h => g.ex a (List.mem_cons_of_mem _ h)), g1.tS, g.tb.sub fun _ hb => List.mem_cons_of_mem _ hb⟩
theorem tr_lcX {sl vs : List Nat} {wi : TI} {tg : TG} {tt : TT} {te : TE} {za : ZI} {zg : ZG} {zt : ZT} {ze : ZX} (h : TrI K W wi za) (hg : TrG K sl tg zg) (hs : ∀ i ∈ sl, i ∈ vs) (ht : TrT K WF tt zt) (he : TrX K WF te ze) : TrX K W (tLc wi tg tt te vs) (zLcX vs za zg zt ze) := fun F ρ σ H Qz Ez Q g e hz q x => by
  refine h F ρ σ H _ Ez _ g e hz (fun ds J H1 r1 wk q1 => ?_) x
  intro D nD
  have g1 := g.rel r1
  have e1 := e.rel g r1
  have nD0 := r1.none_back g nD
  have nS : D ∉ F.S := fun z => g1.some z nD
  have nN : D ∉ F.N := fun z => g1.ex D (g1.no D z) nD
  have own : D ∈ D :: F.O := List.mem_cons_self
  have r0 : Rel F.S F.O H1 (upd H1 D (.lst [])) := .new nD
  refine ⟨fun i m H' => m + i = ds.length ∧ ∃ ρ' acc av, Good ⟨F.S, D :: F.O, F.N⟩ H' ∧ (∀ b o, b ∉ F.S → b ∉ F.N → H1 b = some o → H' b = some o) ∧ En K ⟨F.S, D :: F.O, F.N⟩ H' ρ' (wipe σ vs) ∧ H' D = some (.lst av) ∧ DzAll K (hid (D :: F.O) H') av acc ∧ zLcXGo vs zg zt ze (ds.drop i) ρ' acc Qz,
    ⟨ds.length, rfl, wipeZ ρ vs, [], [], (g1.rel r0).hide ⟨_, upd_same, id⟩, RelW.of r0, (e1.hide g1 r0 nD).wipe vs, upd_same, .nil, q1⟩, fun i m H' hw => ?_⟩
  obtain ⟨hm, ρ', acc, av, g', r', e', hD, hav, q'⟩ := hw
  have l' : Le (hid F.O H1) (hid (D :: F.O) H') := Le.of_same fun b o eb => by
    rw [hid_some] at eb ⊢
    refine ⟨fun z => ?_, r' b o (fun z => eb.1 (g1.so b z)) (fun z => eb.1 (g1.no b z)) eb.2⟩
    rcases List.mem_cons.mp z with z | z
    · rw [z, nD] at eb
      cases eb.2
    · exact eb.1 z
  obtain ⟨w1, w2⟩ := wk _ H' l' g'
  by_cases hi : i < ds.length
  · have hd : ds[i]? = some ds[i] := List.getElem?_eq_getElem hi
    rw [List.drop_eq_getElem_cons hi] at q'
    obtain ⟨go, yl⟩ := w1 i _ hd
    refine .inr ⟨go, fun H' => m - 1 + (i + 1) = ds.length ∧ ∃ ρ' acc av, Good ⟨F.S, D :: F.O, F.N⟩ H' ∧ (∀ b o, b ∉ F.S → b ∉ F.N → H1 b = some o → H' b = some o) ∧ En K ⟨F.S, D :: F.O, F.N⟩ H' ρ' (wipe σ vs) ∧ H' D = some (.lst av) ∧ DzAll K (hid (D :: F.O) H') av acc ∧ zLcXGo vs zg zt ze (ds.drop (i + 1)) ρ' acc Qz, fun H2 h2 => ⟨m - 1, by omega, h2⟩, fun y H3 y3 => ?_⟩
    obtain ⟨r3, d3⟩ := yl y H3 y3
    have r3' : Rel F.S (D :: F.O) H' H3 := r3
    refine hg _ _ _ H3 _ y _ _ (g'.rel r3) (e'.rel g' r3) d3 trivial q' fun ρ4 σ4 e4 w4 q4 => ?_
    refine ⟨(w4 vs hs).trans (wipe_wipe vs), ?_⟩
    have w5 : wipe σ4 vs = wipe σ vs := (w4 vs hs).trans (wipe_wipe vs)
    refine ht _ ρ4 σ4 H3 _ _ _ (g'.rel r3) e4 q4 (fun b H5 r5 q5 => ?_) fun _ _ _ _ _ _ z => z.elim
    have r35 : Rel F.S (D :: F.O) H' H5 := r3'.trans r5
    have g5 : Good ⟨F.S, D :: F.O, F.N⟩ H5 := g'.rel r35
    have e5 := e4.rel (g'.rel r3) r5
    have h5 := r35.kp D _ nS hD
    cases b with
    | false => exact ⟨by omega, wipeZ ρ4 vs, acc, av, g5, fun b o n1 n2 eb => r35.kp b o n1 (r' b o n1 n2 eb), by have := e5.wipe vs; rwa [w5] at this, h5, Dz.monos (g'.le r35) acc hav, q5⟩
    | true =>
      refine he _ ρ4 σ4 H5 _ _ _ g5 e5 q5 (fun ρ6 z v H6 g6 r6 e6 d6 q6 => ?_) fun _ _ _ _ _ _ z => z.elim
      obtain ⟨xd, rfl, hl, q6⟩ := q6
      have h6 := r6 D _ nS nN h5
      have hav6 := Dz.monos (RelW.le g5 r6) acc (Dz.monos (g'.le r35) acc hav)
      have e7 : En K ⟨F.S, D :: F.O, F.N⟩ (upd H6 D (.lst (av ++ [v]))) (wipeZ ρ6 vs) (wipe σ vs) := by
        have := (En.aside (F := ⟨F.S, D :: F.O, F.N⟩) (o := .lst (av ++ [v])) own nN e6).wipe vs
        rwa [w5] at this
      refine ⟨av, h6, Nat.lt_of_lt_of_le (by rw [hav.len]; exact hl) (by decide), by omega, wipeZ ρ6 vs, acc ++ [xd], av ++ [v], g6.apart nS own, fun b o n1 n2 eb => ?_, e7, upd_same, Dz.monos (Le.own own) _ (hav6.app (.cons d6 .nil)), q6⟩
      rw [upd_ne (ne_of_none eb nD)]
      exact r6 b o n1 n2 (r35.kp b o n1 (r' b o n1 n2 eb))
  · have e0 : i = ds.length := by omega
    subst e0
    rw [List.drop_length] at q'
    refine .inl ⟨w2, q ρ' (.dat (.list acc)) (.ref D) H' (g1.show g') (fun b o n1 n2 eb => r' b o n1 n2 (r1.kp b o n1 eb)) e'.show.unwipe ?_ q'⟩
    exact Dz.lst (hid_some.mpr ⟨fun z => g.ex D z nD0, hD⟩) (Dz.monos (Le.sub fun b hb => List.mem_cons_of_mem _ hb) acc hav)
/-! ### what is done with it -/
def zAsgX (a : ZX) (b : ZG) : ZS := fun ρ k => a ρ (fun ρ' c => c.free ∧ b c ρ' k.nx) (k.ex ρ)
theorem tr_asgX {sl : List Nat} {te : TE} {tg : TG} {za : ZX} {zb : ZG} (h : TrX K W te za) (hg : TrG K sl tg zb) : TrS K W (tAsg te tg) (zAsgX za zb) := fun F0 H0 F ρ σ H k D g s e hz a => by
  refine h F ρ σ H _ _ _ g e hz (fun ρ' r v H1 g1 r1 e1 d1 h1 => ?_) fun x C d H1 r1 d1 h1 => a.ex x C d ρ σ F H1 (g.rel r1) (s.rel r1) (g.le r1) (e.rel g r1) d1 h1
  exact hg F ρ' σ H1 r v _ _ g1 e1 d1 h1.1 h1.2 fun ρ2 σ2 e2 _ q2 => a.nx ρ2 F σ2 H1 g1 (r1.si s) (r1.le g) e2 q2
def zRetX (a : ZX) : ZS := fun ρ k => a ρ (fun _ r => k.rt r) (k.ex ρ)
theorem tr_retX {te : TE} {za : ZX} (h : TrX K W te za) : TrS K W (tRet te) (zRetX za) := fun F0 H0 F ρ σ H k D g s e hz a => by
  refine h F ρ σ H _ _ _ g e hz (fun ρ' r v H1 g1 r1 e1 d1 h1 => ?_) fun x C d H1 r1 d1 h1 => a.ex x C d ρ σ F H1 (g.rel r1) (s.rel r1) (g.le r1) (e.rel g r1) d1 h1
  exact a.rt r v F H1 g1 (r1.si s) d1 h1
def zDropX (a : ZX) : ZS := fun ρ k => a ρ (fun ρ' _ => k.nx ρ') (k.ex ρ)
theorem tr_dropX {te : TE} {za : ZX} (h : TrX K W te za) : TrS K W (tDrop te) (zDropX za) := fun F0 H0 F ρ σ H k D g s e hz a => by
  refine h F ρ σ H _ _ _ g e hz (fun ρ' r v H1 g1 r1 e1 d1 h1 => ?_) fun x C d H1 r1 d1 h1 => a.ex x C d ρ σ F H1 (g.rel r1) (s.rel r1) (g.le r1) (e.rel g r1) d1 h1
  exact a.nx ρ' F σ H1 g1 (r1.si s) (r1.le g) e1 h1
/-- name.append(e), e writes -/
def zAppendX (i : Nat) (a : ZX) : ZS := fun ρ k => (∃ ds, ρ[i]? = some (some (.own ds))) ∧ a ρ (fun ρ' y => ∃ ds d, ρ'[i]? = some (some (.own ds)) ∧ y = .dat d ∧ ds.length < line ∧ k.nx (ρ'.set i (some (.own (ds ++ [d]))))) (k.ex ρ)
theorem tr_appendX {i : Nat} {te : TE} {za : ZX} (h : TrX K W te za) : TrS K W (tDrop (tBM K "list" rAppend (tVar i) (tCons te tNil))) (zAppendX i za) := fun F0 H0 F ρ σ H k D g s e hz a => by
  obtain ⟨⟨ds0, h1⟩, hz⟩ := hz
  obtain ⟨v, h2, l, xs, rfl, hl, h3, h4⟩ := e.at_ i _ h1
  refine ⟨_, h2, .inl ⟨rfl, _, SqL.of h3⟩, ?_⟩
  refine h F ρ σ H _ _ _ g e hz (fun ρ' r v H1 g1 r1 e1 d1 q1 => ?_) fun x C d H1 r1 d1 h1 => a.ex x C d ρ σ F H1 (g.rel r1) (s.rel r1) (g.le r1) (e.rel g r1) d1 h1
  obtain ⟨ds, d, k1, rfl, hn, q1⟩ := q1
  obtain ⟨v', k2, l', ys, rfl, hl', k3, k4⟩ := e1.at_ i _ k1
  rw [h2] at k2
  cases k2
  refine ⟨l, ys, v, rfl, rfl, k3, Nat.lt_of_lt_of_le (by rw [k4.len]; exact hn) (by decide), ?_⟩
  exact a.nx _ F σ _ (g1.put hl) ((r1.si s).put hl) ((r1.le g).trans (Le.own (g.no l hl))) (e1.put g1 k1 h2 hl (k4.app (.cons d1 .nil))) q1
/-- a builtin of such a value -/
def zCBX (k : List Z → (Z → Prop) → Prop) (a : ZX) : ZX := fun ρ Q E => a ρ (fun ρ' x => k [x] (fun c => Q ρ' c)) E
theorem tr_cbX {r : List V → Hp → VK → Prop} {k : List Z → (Z → Prop) → Prop} {te : TE} {za : ZX} (hc : CaZ K r k) (h : TrX K W te za) : TrX K W (tCB r (tCons te tNil)) (zCBX k za) := fun F ρ σ H Qz Ez Q g e hz q x => by
  refine h F ρ σ H _ Ez _ g e hz (fun ρ' a v H1 g1 r1 e1 d1 h1 => ?_) x
  exact hc F H1 [v] [a] _ _ g1 (.cons d1 .nil) h1 fun c u H2 r2 d2 h2 => q ρ' c u H2 (g1.rel r2) (r1.trans (.of r2)) (e1.rel g1 r2) d2 h2
/-- lists one after the other, as a new list -/
def zAddN (a b : ZE) : ZN := fun ρ Q E => a ρ (fun x => b ρ (fun y => ∃ ds es, view x = some (.list ds) ∧ view y = some (.list es) ∧ ds.length + es.length ≤ line ∧ Q (ds ++ es)) E) E
theorem tr_addN {ta tb : TE} {za zb : ZE} (ha : Tr K W ta za) (hb : Tr K W tb zb) : TrN K W (tOp rCat ta tb) (zAddN za zb) := fun F ρ σ H Qz Ez Q g e hz q x => by
  refine ha F ρ σ H _ Ez _ g e hz (fun r v H1 r1 d1 h1 => ?_) x
  refine hb F ρ σ H1 _ Ez _ (g.rel r1) (e.rel g r1) h1 (fun r' v' H2 r2 d2 h2 => ?_) fun x' C d H2 r2 hx => x x' C d H2 (r1.trans r2) hx
  obtain ⟨ds, es, q1, q2, hn, h2⟩ := h2
  have g1 := g.rel r1
  have g2 := g1.rel r2
  obtain ⟨p, xs, rfl, k1, k2⟩ := (d1.rel g1 r2).list q1
  obtain ⟨p', ys, rfl, k3, k4⟩ := d2.list q2
  refine ⟨p, p', xs, ys, rfl, rfl, k1, k3, line_le (by rw [k2.len, k4.len]; exact hn), fun l nl => ?_⟩
  have r12 := r1.trans r2
  exact q _ l _ _ (r12.trans (.new nl)) (r12.none_back g nl) upd_same (Dz.monos (Le.newO nl) _ (k2.app k4)) h2
/-! ### with their syntax -/
structure PZX (K : PySem.W.Frag) (X : Cx) (W : WX) (e : Expr) (t : TE) (z : ZX) : Prop where
  pe : PE X e t
  tr : TrX K W t z
section
variable {X : Cx} {e a b : Expr} {te ta tb : TE} {ze za zb : ZE} {zx : ZX} {pos p p2 apos spos pos' : Pos}
theorem pzx_pure (h : PZ K X W e te ze) : PZX K X W e te (zPure ze) := ⟨h.pe, tr_pure h.tr⟩
theorem pzx_pop {i : Nat} {x : Str} (hN : X.N[i]? = some x) (hv : Vis X.env.scope x) (h : PZ K X W e te ze) (hd : (x == ("__debug__" : Str)) = false := by decide) (hcd : (x == ("__classdict__" : Str)) = false := by decide)
    (hpe : PE X (.Name x p2) (tVar i) → PE X e te → PE X (.Call (.Attribute (.Name x p2) "pop" apos) [e] [] pos) (tBM K "list" rPopAt (tVar i) (tCons te tNil))) (hK : X.K = K := by rfl) :
    PZX K X W (.Call (.Attribute (.Name x p2) "pop" apos) [e] [] pos) (tBM K "list" rPopAt (tVar i) (tCons te tNil)) (zPop i ze) := by
  subst hK
  exact ⟨hpe (pe_var hN hv hd hcd) h.pe, tr_pop h.tr⟩
theorem pzx_pop0 {i : Nat} {x : Str} (hN : X.N[i]? = some x) (hv : Vis X.env.scope x) (hd : (x == ("__debug__" : Str)) = false := by decide) (hcd : (x == ("__classdict__" : Str)) = false := by decide)
    (hpe : PE X (.Name x p2) (tVar i) → PE X (.Call (.Attribute (.Name x p2) "pop" apos) [] [] pos) (tBM0 K "list" rPop (tVar i))) (hK : X.K = K := by rfl) :
    PZX K X W (.Call (.Attribute (.Name x p2) "pop" apos) [] [] pos) (tBM0 K "list" rPop (tVar i)) (zPop0 i) := by
  subst hK
  exact ⟨hpe (pe_var hN hv hd hcd), tr_pop0⟩
theorem pzx_lc {sl : List Nat} {elt tg iter : Expr} {ifs : List Expr} {scope : Scope} {own : List (Str × Nat)} {wi : TI} {zi : ZI} {g : TG} {zg : ZG} {tt : TT} {zt : ZT} {zx : ZX} (hc : X.calm = true) (hN : X.N.Nodup) (hi : PZI K X W tg iter wi zi) (ok : BlkOk X.N X.env.scope scope own)
    (hg : ∀ (s : Shared) (H : Hp) (C : Addr) (cl : List (Str × Addr)) (fp : List Addr), PZG K (X.blk s H scope (compEnvC scope cl C X.env) fp) sl tg g zg) (ht : ∀ (s : Shared) (H : Hp) (C : Addr) (cl : List (Str × Addr)) (fp : List Addr), PZTs K (X.blk s H scope (compEnvC scope cl C X.env) fp) WF ifs tt zt)
    (he : ∀ (s : Shared) (H : Hp) (C : Addr) (cl : List (Str × Addr)) (fp : List Addr), PZX K (X.blk s H scope (compEnvC scope cl C X.env) fp) WF elt te zx) (hsl : (sl.all fun i => (own.map (·.2)).contains i) = true := by rfl) (hs : ∀ x, foldedSetIterable iter X.env x = pure x := by intro _; rfl) (hK : X.K = K := by rfl) :
    PZX K X W (.ListComp elt [⟨tg, iter, ifs, 0⟩] scope pos) (tLc wi g tt te (own.map (·.2))) (zLcX (own.map (·.2)) zi zg zt zx) := by
  subst hK
  exact ⟨pe_lc hc hN hi.pe ok (fun s H C cl fp => (hg s H C cl fp).pe) (fun s H C cl fp => (ht s H C cl fp).pe) (fun s H C cl fp => (he s H C cl fp).pe) hs,
      tr_lcX hi.tr (hg X.s_0 X.H_0 0 [] []).tr (fun i hi => by simpa using List.all_eq_true.mp hsl i hi) (ht X.s_0 X.H_0 0 [] []).tr (he X.s_0 X.H_0 0 [] []).tr⟩
theorem pzs_setLcX {i : Nat} {y : Str} {py : Pos} {sl : List Nat} {elt tg iter : Expr} {ifs : List Expr} {scope : Scope} {own : List (Str × Nat)} {wi : TI} {zi : ZI} {g : TG} {zg : ZG} {tt : TT} {zt : ZT} {zx : ZX} (hc : X.calm = true) (hN : X.N.Nodup) (hy : X.N[i]? = some y) (hyl : X.env.scope.names.lookup y = some .local)
    (hsw : swapsWith (.ListComp elt [⟨tg, iter, ifs, 0⟩] scope pos) (some (.Name y py)) spos.line X.env = pure true) (hi : PZI K X W tg iter wi zi) (ok : BlkOk X.N X.env.scope scope own)
    (hg : ∀ (s : Shared) (H : Hp) (C : Addr) (cl : List (Str × Addr)) (fp : List Addr), PZG K (X.blk s H scope (compEnvC scope cl C X.env) fp) sl tg g zg) (ht : ∀ (s : Shared) (H : Hp) (C : Addr) (cl : List (Str × Addr)) (fp : List Addr), PZTs K (X.blk s H scope (compEnvC scope cl C X.env) fp) WF ifs tt zt)
    (he : ∀ (s : Shared) (H : Hp) (C : Addr) (cl : List (Str × Addr)) (fp : List Addr), PZX K (X.blk s H scope (compEnvC scope cl C X.env) fp) WF elt te zx) (hsl : (sl.all fun i => (own.map (·.2)).contains i) = true := by rfl) (hs : ∀ x, foldedSetIterable iter X.env x = pure x := by intro _; rfl) (hK : X.K = K := by rfl) :
    PZS K X W (.Assign [.Name y py] (.ListComp elt [⟨tg, iter, ifs, 0⟩] scope pos) spos) (tAsg (tLc wi g tt te (own.map (·.2))) (gName i)) (zAsgX (zLcX (own.map (·.2)) zi zg zt zx) (zName i)) := by
  subst hK
  exact ⟨ps_setLc hc hN hy hyl hsw hi.pe ok (fun s H C cl fp => (hg s H C cl fp).pe) (fun s H C cl fp => (ht s H C cl fp).pe) (fun s H C cl fp => (he s H C cl fp).pe) hs,
      tr_asgX (tr_lcX hi.tr (hg X.s_0 X.H_0 0 [] []).tr (fun i hi => by simpa using List.all_eq_true.mp hsl i hi) (ht X.s_0 X.H_0 0 [] []).tr (he X.s_0 X.H_0 0 [] []).tr) tr_name⟩
/-- name = [.. for ..], one's own from now on -/
theorem pzs_newLc {i : Nat} {y : Str} {py : Pos} {sl : List Nat} {elt tg iter : Expr} {ifs : List Expr} {scope : Scope} {own : List (Str × Nat)} {wi : TI} {zi : ZI} {g : TG} {zg : ZG} {tt : TT} {zt : ZT} (hc : X.calm = true) (hN : X.N.Nodup) (hy : X.N[i]? = some y) (hyl : X.env.scope.names.lookup y = some .local)
    (hsw : swapsWith (.ListComp elt [⟨tg, iter, ifs, 0⟩] scope pos) (some (.Name y py)) spos.line X.env = pure true) (hi : PZI K X W tg iter wi zi) (ok : BlkOk X.N X.env.scope scope own)
    (hg : ∀ (s : Shared) (H : Hp) (C : Addr) (cl : List (Str × Addr)) (fp : List Addr), PZG K (X.blk s H scope (compEnvC scope cl C X.env) fp) sl tg g zg) (ht : ∀ (s : Shared) (H : Hp) (C : Addr) (cl : List (Str × Addr)) (fp : List Addr), PZTs K (X.blk s H scope (compEnvC scope cl C X.env) fp) WF ifs tt zt)
    (he : ∀ (s : Shared) (H : Hp) (C : Addr) (cl : List (Str × Addr)) (fp : List Addr), PZ K (X.blk s H scope (compEnvC scope cl C X.env) fp) WF elt te ze) (hsl : (sl.all fun i => (own.map (·.2)).contains i) = true := by rfl) (hs : ∀ x, foldedSetIterable iter X.env x = pure x := by intro _; rfl) (hK : X.K = K := by rfl) :
    PZS K X W (.Assign [.Name y py] (.ListComp elt [⟨tg, iter, ifs, 0⟩] scope pos) spos) (tAsg (tLc wi g tt te (own.map (·.2))) (gName i)) (zNew i (zLc (own.map (·.2)) zi zg zt ze)) := by
  subst hK
  exact ⟨ps_setLc hc hN hy hyl hsw hi.pe ok (fun s H C cl fp => (hg s H C cl fp).pe) (fun s H C cl fp => (ht s H C cl fp).pe) (fun s H C cl fp => (he s H C cl fp).pe) hs,
      tr_new (tr_lc hi.tr (hg X.s_0 X.H_0 0 [] []).tr (fun i hi => by simpa using List.all_eq_true.mp hsl i hi) (ht X.s_0 X.H_0 0 [] []).tr (he X.s_0 X.H_0 0 [] []).tr)⟩
theorem pzx_BT {T : String} {x : Str} {r : List V → Hp → VK → Prop} {k : List Z → (Z → Prop) → Prop} (hc : CallR X (.type T) r) (hz : CaZ K r k) (hm : X.mg x = none) (h : PZX K X W e te zx) (hv : bootBuiltins x = some (.type T)) (hg : Gl X x := by rfl) (hn : x ≠ "__name__" := by decide) (hdb : (x == ("__debug__" : Str)) = false := by decide)
    (he : starEach [e] X.env = (false, eval e X.env) :: starEach [] X.env := by rfl) (hpl : (backTo pos (starEach [] X.env)).any (·.1) = false := by rfl) (hK : X.K = K := by rfl) : PZX K X W (.Call (.Name x p) [e] [] pos) (tCB r (tCons te tNil)) (zCBX k zx) := by
  subst hK
  have a1 : PA X [e] (tCons te tNil) := by first | exact pa_cons h.pe pa_nil he | exact pa_cons h.pe pa_nil
  exact ⟨by first | exact pe_callTy hc hg hm hv a1 hn hdb he hpl | exact pe_callTy hc hg hm hv a1 hn hdb, tr_cbX hz h.tr⟩
theorem pzs_retX (h : PZX K X W e te zx) (hK : X.K = K := by rfl) : PZS K X W (.Return (some e) pos) (tRet te) (zRetX zx) := by
  subst hK
  exact ⟨ps_ret h.pe, tr_retX h.tr⟩
theorem pzs_exprX (h : PZX K X W e te zx) (hs : swapsWith e none pos.line X.env = pure false := by rfl) (hK : X.K = K := by rfl) : PZS K X W (.Expr e pos) (tDrop te) (zDropX zx) := by
  subst hK
  exact ⟨ps_expr h.pe hs, tr_dropX h.tr⟩
theorem pzs_asgX {sl : List Nat} {tg : Expr} {g : TG} {zg : ZG} (he : PZX K X W e te zx) (hg : PZG K X sl tg g zg) (hs : swapsWithSole [tg] e pos.line X.env = pure false := by rfl) (hw : swappedStores [tg] e X.env = pure none := by rfl)
    (h1 : (assignEach [tg] X.env).map (·.2) = [assign tg X.env] := by rfl) (hK : X.K = K := by rfl) : PZS K X W (.Assign [tg] e pos) (tAsg te g) (zAsgX zx zg) := by
  subst hK
  exact ⟨ps_asg he.pe hg.pe hs hw h1, tr_asgX he.tr hg.tr⟩
theorem pzs_setX {i : Nat} {x : Str} (hN : X.N.Nodup) (hi : X.N[i]? = some x) (hx : Loc X.env.scope x) (he : PZX K X W e te zx) (hs : swapsWith e (some (.Name x pos')) pos.line X.env = pure false := by rfl) (hf : X.fn x = true ∨ X.env.scope.names.lookup x = some .local := by first | exact .inl rfl | exact .inr rfl | assumption) (hK : X.K = K := by rfl) :
    PZS K X W (.Assign [.Name x pos'] e pos) (tAsg te (gName i)) (zAsgX zx (zName i)) := by
  subst hK
  exact ⟨ps_set hN hi hx he.pe hs hf, tr_asgX he.tr tr_name⟩
theorem pzs_appendX {i : Nat} {x : Str} (hN : X.N[i]? = some x) (hv : Vis X.env.scope x) (h : PZX K X W e te zx) (hd : (x == ("__debug__" : Str)) = false := by decide) (hcd : (x == ("__classdict__" : Str)) = false := by decide) (hpe : PE X (.Name x p2) (tVar i) → PE X e te → PS X (.Expr (.Call (.Attribute (.Name x p2) "append" apos) [e] [] pos) pos') (tDrop (tBM K "list" rAppend (tVar i) (tCons te tNil)))) (hK : X.K = K := by rfl) :
    PZS K X W (.Expr (.Call (.Attribute (.Name x p2) "append" apos) [e] [] pos) pos') (tDrop (tBM K "list" rAppend (tVar i) (tCons te tNil))) (zAppendX i zx) := by
  subst hK
  exact ⟨hpe (pe_var hN hv hd hcd) h.pe, tr_appendX h.tr⟩
theorem pzn_add (ha : PZ K X W a ta za) (hb : PZ K X W b tb zb) (hK : X.K = K := by rfl) : PZN K X W (.BinOp a .Add b pos) (tOp rCat ta tb) (zAddN za zb) := by
  subst hK
  exact ⟨pe_op op_cat ha.pe hb.pe, tr_addN ha.tr hb.tr⟩
end
end Zl
end
section
/-! ZY: kinds of values, told by the constructor alone -/
namespace Zl
open PySem PySem.Spec PyProof.Rows L2 Kb
variable [Tabd]
section
variable {d : PyData} {ds : List PyData} {kvs : List (PyData × PyData)} {i : Int} {x : Str} {b : Bool} {Q : Z → Prop} {T : String}
theorem ty_none : tyZ .none = "NoneType" := rfl
theorem ty_bool : tyZ (.bool b) = "bool" := rfl
theorem ty_int : tyZ (.int i) = "int" := rfl
theorem ty_str : tyZ (.str x) = "str" := rfl
theorem ty_list : tyZ (.list ds) = "list" := rfl
theorem ty_tuple : tyZ (.tuple ds) = "tuple" := rfl
theorem ty_dict : tyZ (.dict kvs) = "dict" := rfl
theorem isa_any : dIsa T d Q = Q (.dat (.bool (isa T d))) := rfl
theorem isa_none : isa T .none = isaT T "NoneType" := rfl
theorem isa_bool : isa T (.bool b) = isaT T "bool" := rfl
theorem isa_int : isa T (.int i) = isaT T "int" := rfl
theorem isa_str : isa T (.str x) = isaT T "str" := rfl
theorem isa_list : isa T (.list ds) = isaT T "list" := rfl
theorem isa_tuple : isa T (.tuple ds) = isaT T "tuple" := rfl
theorem isa_dict : isa T (.dict kvs) = isaT T "dict" := rfl
theorem ty_any {neg : Bool} : dTy T neg d Q = Q (.dat (.bool (if neg then !decide (tyZ d = T) else decide (tyZ d = T)))) := rfl
end
end Zl
end
local macro_rules | `(tactic| walk_at "zu") => `(tactic| simp +decide only [Zl.isa_any, Zl.isa_none, Zl.isa_bool, Zl.isa_int, Zl.isa_str, Zl.isa_list, Zl.isa_tuple, Zl.isa_dict, Zl.ty_any, Zl.ty_none, Zl.ty_bool, Zl.ty_int, Zl.ty_str, Zl.ty_list, Zl.ty_tuple, Zl.ty_dict, Zl.isaT, Bool.false_and, Bool.and_false, Bool.true_and, Bool.and_true, Bool.or_false, Bool.false_or, Bool.or_true, Bool.true_or, decide_true, decide_false, Bool.not_true, Bool.not_false, if_true, if_false, Bool.false_eq_true])
section
/-! ZM: set comprehensions over ints and texts -/
namespace Zl
open PySem PySem.Spec PyProof.Rows L2 Kb
variable [Tabd]
open PpSet (newSet_ok eval_SetComp compLoopS_any codeAny_compStart_set)
/-- what a set comprehension fills -/
structure Fill (P : Program) (w : World) where
  α : Type
  O : Addr → α → HO
  o0 : α
  step : V → α → (α → Prop) → Prop
  fresh : ∀ (H : Hp) (h : Heap), ObjOk P w H (h.push (noSet w)) h.objs.size (O h.objs.size o0)
  add : ∀ {Y : Cx} (_ : Y.prog = P) (_ : Y.w = w) {pn : List (Addr × Obj)} {τ : L2.St} {G : Hp} {u : Shared} {E : Value → Shared → Prop} {D : Addr} {a : α} {v : V} {x : Value} {R : α → Prop} {Q : Value → Shared → Prop},
    Inv Y pn τ G u → G D = some (O D a) → RelV v x → step v a R → (∀ a' u', R a' → Inv Y pn τ (upd G D (O D a')) u' → Q .none u') → wpAny (model Y.prog Y.w) Y.A (call (.builtin "set.add") [.ref D, x]) Q E u
abbrev InBlk (X : Cx) (sco : Scope) (p : Cx → Prop) : Prop := ∀ (u : Shared) (G : Hp) (c : Addr) (cs : List (Str × Addr)) (ft : List Addr), p (X.blk u G sco (compEnvC sco cs c X.env) ft)
def tFill {P : Program} {w : World} (F : Fill P w) (wi : TI) (g : TG) (tt : TT) (te : TE) (vs : List Nat) : TE := fun τ G Q => wi τ G fun J G1 => ∀ D, G1 D = none →
  ∃ W : Nat → Nat → Hp → Prop, (∃ m, W 0 m (upd G1 D (F.O D F.o0))) ∧ ∀ i m G, W i m G → (J.stop i G ∧ Q (.ref D) G) ∨
    (J.go i G ∧ ∃ Nx : Hp → Prop, (∀ G', Nx G' → ∃ m', m' < m ∧ W (i + 1) m' G') ∧ ∀ x G', J.yld i G x G' → g x (wipe τ vs) G' fun τ2 G2 => wipe τ2 vs = wipe τ vs ∧
      tt τ2 G2 fun b G3 => if b = true then te τ2 G3 fun y G4 => ∃ a, G4 D = some (F.O D a) ∧ F.step y a (fun a' => Nx (upd G4 D (F.O D a'))) else Nx G3)
theorem fill_core {X : Cx} (F : Fill X.prog X.w) {pn : List (Addr × Obj)} {u : Shared} {τ : L2.St} {G : Hp} {Q : VK} {elt tg it0 : Expr} {ifs : List Expr} {sco : Scope} {own : List (Str × Nat)} {pos p2 : Pos} {wi : TI} {g : TG} {tt : TT} {te : TE} {use : Option (Value → Sem Unit)} {Qf : Value → Shared → Prop}
    (calm : X.calm = true) (nd : X.N.Nodup) (I : Inv X pn τ G u) (pi : PI X tg it0 wi) (ok : BlkOk X.N X.env.scope sco own) (bg : InBlk X sco fun Y => PG Y tg g) (bt : InBlk X sco fun Y => PTs Y ifs tt) (be : InBlk X sco fun Y => PE Y elt te)
    (fo : ∀ x, foldedSetIterable it0 X.env x = pure x) (hz : tFill F wi g tt te (own.map (·.2)) τ G Q)
    (back : ∀ D c u' m G', Inv X pn τ G' u' → Q (.ref D) G' → u'.heap.Ns c m → FpOk X pn G' c → compPost (model X.prog X.w) X.A X.xe use Qf (.ref D) c (.ok .next) u') :
    wpAny (model X.prog X.w) X.A (comprehension (.SetComp elt [⟨tg, it0, ifs, 0⟩] sco pos) sco X.env p2 (newSet (.type "set")) false (eval it0 X.env) use) Qf X.xe u := by
  have fr : ∀ y ∈ sco.names, y.2 = .free → ∃ c, X.env.cells.lookup y.1 = some c := fun y hy e => (ok.free y hy e).elim (fun k => I.ok.has _ (.inl k)) fun k => I.ok.has _ (.inr k)
  refine wpAny_comprehension_free (use := use) rfl fo (closure_ok fr) ok.kind (fun y hy e => (ok.uniq y hy).trans (congrArg _ e)) (thn (pi.run pn u τ G _ I hz) fun _ _ hx => thn hx fun _ u2 h2 => ?_)
  obtain ⟨ia, ft, tn, J, G2, rfl, I2, T, st2, fp2, q⟩ := h2
  refine newSet_ok (newEnv_comp ?_)
  generalize eD : u2.heap.objs.size = D
  have dn : G2 D = none := I2.hok.fresh (Nat.le_of_eq eD)
  obtain ⟨W, ⟨m0, w0⟩, turn⟩ := q D dn
  generalize e3 : ({ u2 with heap := u2.heap.push (noSet X.w) } : Shared) = u3
  have h3 : u3.heap = u2.heap.push (noSet X.w) := congrArg Shared.heap e3.symm
  have I3 : Inv X pn τ (upd G2 D (F.O D F.o0)) u3 := e3 ▸ I2.laid (t' := u2.toks) (fun _ _ e => Heap.get?_push_of_some _ e) (Nat.le_of_eq eD) (eD ▸ F.fresh _ u2.heap)
  have lt2 : ∀ b ∈ ft, b < u2.heap.objs.size := fun b hb => (T.obj _ _ st2 b hb).elim fun _ z => Heap.lt_size z.1
  have fp3 : ∀ b ∈ ft, FpOk X pn (upd G2 D (F.O D F.o0)) b ∧ b < u3.heap.objs.size := fun b hb => ⟨⟨(upd_ne (eD ▸ Nat.ne_of_lt (lt2 b hb))).trans (fp2 b hb).1, (fp2 b hb).2⟩, h3 ▸ (Heap.size_push u2.heap (noSet X.w)).symm ▸ Nat.lt_succ_of_lt (lt2 b hb)⟩
  have st3 : tn 0 u3.heap := T.keep _ _ _ st2 fun b _ o e => h3 ▸ Heap.get?_push_of_some _ e
  have I4 := block_start I3 ok nd fp3
  have Bg := bg u3 (upd G2 D (F.O D F.o0)) u3.heap.objs.size (cellsFrom (u3.heap.objs.size + 1) sco.names (cloFrom X.env.cells sco.names [])) ft
  have Bt := bt u3 (upd G2 D (F.O D F.o0)) u3.heap.objs.size (cellsFrom (u3.heap.objs.size + 1) sco.names (cloFrom X.env.cells sco.names [])) ft
  have Be := be u3 (upd G2 D (F.O D F.o0)) u3.heap.objs.size (cellsFrom (u3.heap.objs.size + 1) sco.names (cloFrom X.env.cells sco.names [])) ft
  have nft : ∀ b ∈ ft, (upd G2 D (F.O D F.o0)) b = none := fun b hb => (fp3 b hb).1.1
  generalize e4 : ({ u3 with heap := pushCells (u3.heap.push { cls := .type "dict", data := .dict #[] }) sco.names } : Shared) = u4 at I4
  have st4 : tn 0 u4.heap := T.keep _ _ _ st3 fun b _ o e => e4 ▸ pushCells_keeps _ _ _ _ (Heap.get?_push_of_some _ e)
  generalize ec : compEnvC sco (cellsFrom (u3.heap.objs.size + 1) sco.names (cloFrom X.env.cells sco.names [])) u3.heap.objs.size X.env = ce at I4 Bg Bt Be
  have el : ce.locals = u3.heap.objs.size := ec ▸ rfl
  generalize eG : upd G2 D (F.O D F.o0) = G3 at I3 I4 Bg Bt Be w0 nft fp3
  have hold : ∀ {τ' : L2.St} {G' : Hp} {u' : Shared}, Inv (X.blk u3 G3 sco ce ft) [] τ' G' u' → (∀ b ∈ ft, G' b = none) → ∀ b ∈ ft, FpOk (X.blk u3 G3 sco ce ft) [] G' b :=
    fun {τ' G' u'} J' hn b hb => ⟨hn b hb, (J'.ok.exf b hb).1, J'.ok.exfs b hb, .inl hb, (J'.ok.exf b hb).2, fun p hp => by simp at hp⟩
  have run : codeAny (model X.prog X.w) X.A (.compLoop (.SetComp elt [⟨tg, it0, ifs, 0⟩] sco pos) 0 (.ref ia) (.ref D) ce) (compPost (model X.prog X.w) X.A X.xe use Qf (.ref D) u3.heap.objs.size) u4 := by
    refine compLoopS_any (fun n v => ∃ i G', Inv (X.blk u3 G3 sco ce ft) [] (wipe τ (own.map (·.2))) G' v ∧ tn i v.heap ∧ (∀ b ∈ ft, G' b = none) ∧ W i n G') (fun n u5 => ?_) m0 ⟨0, G3, I4, st4, nft, w0⟩
    rintro ⟨i, G5, I5, st5, n5, w5⟩
    rcases turn i n G5 w5 with ⟨stop, fin⟩ | ⟨go, Nx, less, each⟩
    · refine thnF (T.done (X.blk u3 G3 sco ce ft) rfl rfl rfl calm i [] u5 _ G5 (fun _ _ => False) I5 (hold I5 n5) st5 stop) fun r u6 h6 => ?_
      obtain ⟨rfl, I6⟩ := h6
      have nC : G5 u3.heap.objs.size = none := el ▸ (show G5 ce.locals = none from I6.free)
      obtain ⟨m, hm, _⟩ := I6.loc
      have I7 : Inv X pn τ G5 u6 := I3.call' (ch := ft) I6.os I6.base I6.hok I6.bare fun b hb => let z := (fp3 b hb).1.2; ⟨z.2.2.1, z.1, z.2.2.2.1, z.2.2.2.2⟩
      exact back D _ u6 m G5 I7 fin (el ▸ (show u6.heap.Ns ce.locals m from hm)) (I3.fpOk (Nat.le_refl _) nC)
    · refine thnF (T.item (X.blk u3 G3 sco ce ft) rfl rfl rfl calm i [] u5 _ G5 (fun _ _ => False) I5 (hold I5 n5) st5 go) fun r u6 h6 => ?_
      obtain ⟨vx, rfl, h6⟩ := h6
      refine thnF h6 fun _ u7 h7 => ?_
      obtain ⟨x, G7, I7, r7, y7, st7, n7⟩ := h7
      refine thnF (Bg.run _ u7 _ G7 x vx _ (I7.pinned (hold I7 n7) (T.obj _ _ st7)) r7 (each x G7 y7)) fun _ u8 h8 => ?_
      obtain ⟨τ8, G8, I8, hw, q8⟩ := h8
      have next : ∀ {v : Shared} {G' : Hp}, Inv (X.blk u3 G3 sco ce ft) ([] ++ pinsAt ft u7.heap) τ8 G' v → Nx G' → ∃ m, m < n ∧ ∃ i G', Inv (X.blk u3 G3 sco ce ft) [] (wipe τ (own.map (·.2))) G' v ∧ tn i v.heap ∧ (∀ b ∈ ft, G' b = none) ∧ W i m G' := fun {v G'} J' nx => by
        obtain ⟨m', lt, w'⟩ := less G' nx
        have pin : ∀ b ∈ ft, ∀ o, u7.heap.get? b = some o → v.heap.get? b = some o ∧ G' b = none := fun b hb o e => (J'.pin (b, o) (List.mem_append_right _ (List.mem_append_right _ (mem_pinsAt hb e)))).imp_right And.left
        refine ⟨m', lt, i + 1, G', (J'.unpinned (pins := [])).weak (by rw [← hw, wipe_length]) (fun j z e => (wipe_some (hw ▸ e)).1), T.keep _ _ _ st7 fun b hb o e => (pin b hb o e).1, fun b hb => ?_, w'⟩
        exact (T.obj _ _ st7 b hb).elim fun o z => (pin b hb o z.1).2
      refine thnF (Bt.run _ u8 τ8 G8 _ I8 q8) fun b u9 h9 => ?_
      obtain ⟨G9, I9, q9⟩ := h9
      cases b with
      | false => exact next I9 (by simpa using q9)
      | true =>
        simp only [if_true] at q9
        refine thnF (Be.run _ u9 τ8 G9 _ I9 q9) fun z v10 h10 => ?_
        obtain ⟨y, G10, I10, r10, a, d10, nx⟩ := h10
        exact F.add (Y := X.blk u3 G3 sco ce ft) rfl rfl I10 d10 r10 nx fun a' v' na J' => next J' na
  subst ec e4
  exact codeAny_compStart_set run (T.self X.A 0 _ _ _ st4 run)
theorem pe_fill {X : Cx} (F : Fill X.prog X.w) {elt tg it0 : Expr} {ifs : List Expr} {sco : Scope} {own : List (Str × Nat)} {pos : Pos} {wi : TI} {g : TG} {tt : TT} {te : TE} (calm : X.calm = true) (nd : X.N.Nodup) (pi : PI X tg it0 wi) (ok : BlkOk X.N X.env.scope sco own)
    (bg : InBlk X sco fun Y => PG Y tg g) (bt : InBlk X sco fun Y => PTs Y ifs tt) (be : InBlk X sco fun Y => PE Y elt te) (fo : ∀ x, foldedSetIterable it0 X.env x = pure x := by intro _; rfl) : PE X (.SetComp elt [⟨tg, it0, ifs, 0⟩] sco pos) (tFill F wi g tt te (own.map (·.2))) :=
  ⟨fun pn u τ G Q I hz => by
    rw [eval_SetComp]
    refine fill_core F calm nd I pi ok bg bt be fo hz fun D c v m G' J' fin hm fk => ⟨m, hm, fun h2 sb => ⟨.ref D, G', ?_, rfl, fin⟩⟩
    obtain ⟨a0, a1, a2, a3, a4, a5⟩ := fk
    exact J'.turned (t' := v.toks) (fun b o hb e => (sb.2 b hb).trans e) a0 a1 a3 a4 a5⟩
/-! ### keys -/
theorem SetG.ofSet {κ : Type} [DecidableEq κ] {P : Program} {w : World} {κd : PySem.KeyKind P w κ} {u : Shared} {a : Addr} {S : κ → Bool} {n : Nat} (R : SetG κd u.heap a S n) : u.TypeIs (.ref a) "set" :=
  let ⟨o, _, _, _, ho, hx, _⟩ := R.ex
  ⟨o, ho, hx.1⟩
theorem call_addG {κ : Type} [DecidableEq κ] {P : Program} {w : World} {κd : PySem.KeyKind P w κ} {A : Around} {E : Value → Shared → Prop} {u : Shared} {a : Addr} {S : κ → Bool} {n : Nat} {k : κ} {x : Value} {Q : Value → Shared → Prop} (R : SetG κd u.heap a S n) (hk : κd.is k x = true) (sc : x.scannable = true) (room : n + 1 < scanBound)
    (h : ∀ h', Heap.SameBut a u.heap h' → SetG κd h' a (fun j => S j || decide (j = k)) (if S k = true then n else n + 1) → Q .none { u with heap := h', toks := u.toks + 1 }) : wpAny (model P w) A (call (.builtin "set.add") [.ref a, x]) Q E u := by
  refine wpAny_call_entry F.slot_set_add R.ofSet F.entry_set_add ?_ (F.args_set_add_2 _ _)
  unfold Builtin.«set.add» Builtin.Frozenset.oneOther Builtin.Frozenset.addrOf setAdd
  simp only [List.isEmpty_nil, bind_assoc]
  refine wpAny_bind (wpAny_pure ?_)
  try dsimp only
  refine wpAny_bind (wpAny_pure ?_)
  try dsimp only
  refine wpAny_bind (wpAny_holding (wpAny_bind (κd.pyHash hk ?_)))
  exact setG_add (s := { u with toks := u.toks + 1 }) R hk sc room fun h' sb new => (show wpAny _ _ (ret Value.none) _ _ _ from wpAny_pure ⟨_, rfl, h h' sb new⟩)
theorem memD_add {ks : List Key} {k : Key} : (fun j => memD ks j || decide (j = k)) = memD (ks ++ [k]) := by
  funext j
  unfold memD
  by_cases c : j ∈ ks
  · simp [c]
  · simp [c]
def fillK (P : Program) (w : World) : Fill P w where
  α := List Key × Nat
  O := fun D a => SetO1 P w D a.1 a.2
  o0 := ([], 0)
  step := fun v a R => ∃ k, v = kV k ∧ a.2 + 1 < scanBound ∧ R (a.1 ++ [k], if memD a.1 k = true then a.2 else a.2 + 1)
  fresh := fun H h => setO1_new (setG_fresh (Heap.get?_push_size _ rfl))
  add := fun {Y} eP ew pn τ G u E D a v x R Q I hD r st h => by
    subst eP ew
    obtain ⟨k, rfl, room, hR⟩ := st
    have S := (I.hok D _ hD).1
    refine call_addG (κd := mixKind Y.prog Y.w) S (kv_is r) (key_scan r) room fun h' sb new => ?_
    rw [memD_add] at new
    have he : ∃ o, h'.get? D = some o := new.ex.elim fun o z => ⟨o, z.choose_spec.choose_spec.choose_spec.1⟩
    exact h _ _ hR (I.write (e := D) (t' := u.toks + 1) (by rw [hD]; trivial) (.inl rfl) (fun b o hb ho => (sb.2 b hb).trans ho) he (setO1_new new))
/-! ### in words of data -/
abbrev ZK := Rho → (List Key → Prop) → (Xc → Prop) → Prop
def TrK (K : PySem.W.Frag) (P : Program) (w : World) (W : WX) (te : TE) (z : ZK) : Prop := ∀ (F : Fr) (ρ : Rho) (σ : L2.St) (H : Hp) (Qz : List Key → Prop) (Ez : Xc → Prop) (Q : VK), Good F H → En K F H ρ σ → z ρ Qz Ez →
  (∀ ks c D H', Rel F.S F.O H H' → H D = none → H' D = some (SetO1 P w D ks c) → Qz ks → Q (.ref D) H') → (∀ x C d H', Rel F.S F.O H H' → RX K F H' x C d → Ez x → W C d σ H') → te σ H Q
def zScGo (g : ZG) (t : ZT) (e : ZE) (ρ : Rho) : List PyData → List Key → (List Key → Prop) → Prop
  | [], acc, Q => Q acc
  | d :: r, acc, Q => g (.dat d) ρ fun ρ' => t ρ' (fun b => if b = true then e ρ' (fun y => ∃ k, y = .dat (kD k) ∧ acc.length < 4000 ∧ zScGo g t e ρ r (acc ++ [k]) Q) (fun _ => False) else zScGo g t e ρ r acc Q) (fun _ => False)
def zSc (vs : List Nat) (a : ZI) (g : ZG) (t : ZT) (e : ZE) : ZK := fun ρ Q E => a ρ (fun ds => zScGo g t e (wipeZ ρ vs) ds [] Q) E
variable {K : PySem.W.Frag} {W : WX} {P : Program} {w : World}
theorem dz_key {H : Hp} {k : Key} {v : V} (h : Dz K H v (kD k)) : v = kV k := by
  cases k with
  | inl i => cases (show Dz K H v (.int i) from h); rfl
  | inr x => cases (show Dz K H v (.str x) from h); rfl
theorem tr_sc {sl vs : List Nat} {wi : TI} {tg : TG} {tt : TT} {te : TE} {za : ZI} {zg : ZG} {zt : ZT} {ze : ZE} (h : TrI K W wi za) (hg : TrG K sl tg zg) (hs : ∀ i ∈ sl, i ∈ vs) (ht : TrT K WF tt zt) (he : Tr K WF te ze) : TrK K P w W (tFill (fillK P w) wi tg tt te vs) (zSc vs za zg zt ze) := fun F ρ σ H Qz Ez Q g e hz q x => by
  refine h F ρ σ H _ Ez _ g e hz (fun ds J H1 r1 wk q1 => ?_) x
  intro D nD
  have g1 := g.rel r1
  have e1 := e.rel g r1
  have nD0 := r1.none_back g nD
  have nS : D ∉ F.S := fun z => g1.some z nD
  refine ⟨fun i m H' => m + i = ds.length ∧ Rel F.S (D :: F.O) H1 H' ∧ ∃ (acc : List Key) (n : Nat), H' D = some (SetO1 P w D acc n) ∧ n ≤ acc.length ∧ acc.length ≤ 4000 ∧ zScGo zg zt ze (wipeZ ρ vs) (ds.drop i) acc Qz, ⟨ds.length, rfl, .new nD, [], 0, upd_same, Nat.le_refl _, Nat.zero_le _, q1⟩, fun i m H' hw => ?_⟩
  obtain ⟨hm, r', acc, n, hD, hn, h4, q'⟩ := hw
  have r0 := r'.unhideN nD
  have g' := g1.hideR nD r' (by rw [hD]; exact fun z => nomatch z)
  have l' := Le.grow g1 r0 nD
  obtain ⟨w1, w2⟩ := wk _ H' l' g'
  have e' : En K ⟨F.S, D :: F.O, F.N⟩ H' (wipeZ ρ vs) (wipe σ vs) := (e1.hide g1 r0 nD).wipe vs
  by_cases hi : i < ds.length
  · have hd : ds[i]? = some ds[i] := List.getElem?_eq_getElem hi
    rw [List.drop_eq_getElem_cons hi] at q'
    obtain ⟨go, yl⟩ := w1 i _ hd
    refine .inr ⟨go, fun H' => m - 1 + (i + 1) = ds.length ∧ Rel F.S (D :: F.O) H1 H' ∧ ∃ (acc : List Key) (n : Nat), H' D = some (SetO1 P w D acc n) ∧ n ≤ acc.length ∧ acc.length ≤ 4000 ∧ zScGo zg zt ze (wipeZ ρ vs) (ds.drop (i + 1)) acc Qz, fun H2 h2 => ⟨m - 1, by omega, h2⟩, fun y H3 y3 => ?_⟩
    obtain ⟨r3, d3⟩ := yl y H3 y3
    have r3' : Rel F.S (D :: F.O) H' H3 := r3
    refine hg _ _ _ H3 _ y _ _ (g'.rel r3) (e'.rel g' r3) d3 trivial q' fun ρ4 σ4 e4 w4 q4 => ?_
    refine ⟨(w4 vs hs).trans (wipe_wipe vs), ?_⟩
    refine ht _ ρ4 σ4 H3 _ _ _ (g'.rel r3) e4 q4 (fun b H5 r5 q5 => ?_) fun _ _ _ _ _ _ z => z.elim
    have r35 : Rel F.S (D :: F.O) H' H5 := r3'.trans r5
    cases b with
    | false => exact ⟨by omega, r'.trans r35, acc, n, r35.kp D _ nS hD, hn, h4, q5⟩
    | true =>
      refine he _ ρ4 σ4 H5 _ _ _ (g'.rel r35) (e4.rel (g'.rel r3) r5) q5 (fun z v H6 r6 d6 q6 => ?_) fun _ _ _ _ _ _ z => z.elim
      obtain ⟨k, rfl, hl, q6⟩ := q6
      have r36 : Rel F.S (D :: F.O) H' H6 := r35.trans r6
      have h6 := r36.kp D _ nS hD
      obtain rfl := dz_key d6
      have sb := scan5
      refine ⟨(acc, n), h6, k, rfl, by show n + 1 < scanBound; omega, by omega, ⟨fun b o nb eb => ?_, fun a ha ta sa => ?_, fun h => ((r'.trans r36).tb h).own List.mem_cons_self fun t => nS (g.tS D t)⟩, acc ++ [k], _, upd_same, ?_, by rw [List.length_append, List.length_singleton]; omega, q6⟩
      · rw [upd_ne (ne_of_none eb nD)]
        exact (r'.trans r36).kp b o nb eb
      · exact ((r'.trans r36).st a ha ta sa).same (upd_ne (fun z => nS (by rw [← z]; exact ha)))
      · rw [List.length_append, List.length_singleton]
        split <;> omega
  · have e0 : i = ds.length := by omega
    subst e0
    rw [List.drop_length] at q'
    exact .inl ⟨w2, q acc n D H' (r1.trans r0) nD0 hD q'⟩
/-- sorted, len of it -/
def zSortK (z : ZK) : ZE := fun ρ Q E => z ρ (fun ks => oneSort ks ∧ ∀ js : List Key, js.Nodup → (∀ k, k ∈ js ↔ k ∈ ks) → Q (.dat (.list (sortD (js.map kD))))) E
def zLenK (z : ZK) : ZE := fun ρ Q E => z ρ (fun ks => ∀ js : List Key, js.Nodup → (∀ k, k ∈ js ↔ k ∈ ks) → Q (.dat (.int js.length))) E
theorem tr_sortK {te : TE} {z : ZK} (h : TrK K P w W te z) : Tr K W (tCB (rSort1 P w) (tCons te tNil)) (zSortK z) := fun F ρ σ H Qz Ez Q g e hz q x => by
  refine h F ρ σ H _ Ez _ g e hz (fun ks c D H1 r1 n0 hD h1 => ?_) x
  obtain ⟨o1, h1⟩ := h1
  refine ⟨D, ks, c, rfl, hD, o1, fun js l nd m nl => ?_⟩
  refine q (.dat (.list _)) _ _ (r1.trans (.new nl)) ?_ (h1 js nd m)
  have := dz_newL (K := K) (g.rel r1) nl (keys_dz (H := hid F.O H1) (js.mergeSort (PySem.W.dataLe false kD)))
  rwa [sort_keys] at this
theorem tr_lenK {te : TE} {z : ZK} (h : TrK K P w W te z) : Tr K W (tCB (rLenSet P w) (tCons te tNil)) (zLenK z) := fun F ρ σ H Qz Ez Q g e hz q x => by
  refine h F ρ σ H _ Ez _ g e hz (fun ks c D H1 r1 n0 hD h1 => ?_) x
  exact ⟨D, ks, c, rfl, hD, fun js nd m => q (.dat (.int _)) _ _ r1 (Dz.int _) (h1 js nd m)⟩
structure PZK (K : PySem.W.Frag) (X : Cx) (W : WX) (e : Expr) (t : TE) (z : ZK) : Prop where
  pe : PE X e t
  tr : TrK K X.prog X.w W t z
section
variable {X : Cx} {pos p : Pos} {e : Expr} {te : TE} {zk : ZK}
theorem pzk_sc {sl : List Nat} {elt tg iter : Expr} {ifs : List Expr} {scope : Scope} {own : List (Str × Nat)} {wi : TI} {zi : ZI} {g : TG} {zg : ZG} {tt : TT} {zt : ZT} {te : TE} {ze : ZE} (hc : X.calm = true) (hN : X.N.Nodup) (hi : PZI K X W tg iter wi zi) (ok : BlkOk X.N X.env.scope scope own)
    (hg : InBlk X scope fun Y => PZG K Y sl tg g zg) (ht : InBlk X scope fun Y => PZTs K Y WF ifs tt zt) (he : InBlk X scope fun Y => PZ K Y WF elt te ze) (hsl : (sl.all fun i => (own.map (·.2)).contains i) = true := by rfl) (hs : ∀ x, foldedSetIterable iter X.env x = pure x := by intro _; rfl) (hK : X.K = K := by rfl) :
    PZK K X W (.SetComp elt [⟨tg, iter, ifs, 0⟩] scope pos) (tFill (fillK X.prog X.w) wi g tt te (own.map (·.2))) (zSc (own.map (·.2)) zi zg zt ze) := by
  subst hK
  exact ⟨pe_fill (fillK X.prog X.w) hc hN hi.pe ok (fun s H C cl fp => (hg s H C cl fp).pe) (fun s H C cl fp => (ht s H C cl fp).pe) (fun s H C cl fp => (he s H C cl fp).pe) hs,
      tr_sc hi.tr (hg X.s_0 X.H_0 0 [] []).tr (fun i hi => by simpa using List.all_eq_true.mp hsl i hi) (ht X.s_0 X.H_0 0 [] []).tr (he X.s_0 X.H_0 0 [] []).tr⟩
theorem pz_sortK (hc : X.calm = true) (hu : X.A.units + 64 < cLine) (hm : X.mg "sorted" = none) (h : PZK K X W e te zk) (hg : Gl X "sorted" := by rfl) (he : starEach [e] X.env = (false, eval e X.env) :: starEach [] X.env := by rfl) (hpl : (backTo pos (starEach [] X.env)).any (·.1) = false := by rfl) :
    PZ K X W (.Call (.Name "sorted" p) [e] [] pos) (tCB (rSort1 X.prog X.w) (tCons te tNil)) (zSortK zk) := by
  have a1 : PA X [e] (tCons te tNil) := by first | exact pa_cons h.pe pa_nil he | exact pa_cons h.pe pa_nil
  exact ⟨by first | exact pe_callB (cr_sort1 hc hu) hg hm (by decide +kernel) a1 (by decide) (by decide) he hpl | exact pe_callB (cr_sort1 hc hu) hg hm (by decide +kernel) a1 (by decide) (by decide), tr_sortK h.tr⟩
theorem pz_lenK (hm : X.mg "len" = none) (h : PZK K X W e te zk) (hg : Gl X "len" := by rfl) (he : starEach [e] X.env = (false, eval e X.env) :: starEach [] X.env := by rfl) (hpl : (backTo pos (starEach [] X.env)).any (·.1) = false := by rfl) :
    PZ K X W (.Call (.Name "len" p) [e] [] pos) (tCB (rLenSet X.prog X.w) (tCons te tNil)) (zLenK zk) := by
  have a1 : PA X [e] (tCons te tNil) := by first | exact pa_cons h.pe pa_nil he | exact pa_cons h.pe pa_nil
  exact ⟨by first | exact pe_callB cr_lenSet hg hm (by decide +kernel) a1 (by decide) (by decide) he hpl | exact pe_callB cr_lenSet hg hm (by decide +kernel) a1 (by decide) (by decide), tr_lenK h.tr⟩
end
end Zl
end
section
/-! ZN: pairs at once, op=, dicts read, dict of pairs, sums, lists times numbers, lists that take tuples, enumerate of a tuple -/
namespace Zl
open PySem PySem.Spec PyProof.Rows L2 Kb
variable [Tabd]
variable {K : PySem.W.Frag} {W : WX}
/-! ### a, b = x, y -/
section
variable {X : Cx} {a b c e : Expr} {te ta : TE} {ze : ZE} {as : TA} {zs : ZA} {pos : Pos}
theorem pzs_par {i j : Nat} {x y : Str} {px py pt : Pos} {kt k2 pt2} (hc : X.calm = true) (hN : X.N.Nodup) (hi : X.N[i]? = some x) (hj : X.N[j]? = some y) (hij : i ≠ j)
    (hx : X.env.scope.names.lookup x = some .local) (hy : X.env.scope.names.lookup y = some .local) (ha : PZA K X W [a, b] as zs)
    (hw : swappedStores [.Tuple [.Name x px, .Name y py] kt pt] (.Tuple [a, b] k2 pt2) X.env = pure (some [x, y]) := by rfl)
    (hs : swapsWithSole [.Tuple [.Name x px, .Name y py] kt pt] (.Tuple [a, b] k2 pt2) pos.line X.env = pure false := by rfl) :
    PZS K X W (.Assign [.Tuple [.Name x px, .Name y py] kt pt] (.Tuple [a, b] k2 pt2) pos) (tPar i j as) (zPar i j zs) :=
  ⟨ps_par hc hN hi hj hij hx hy ha.pe hw hs, tr_par ha.tr⟩
def zPar3 (i j l : Nat) (b : ZA) : ZS := fun ρ k => b ρ (fun zs => ∃ x y z, zs = [x, y, z] ∧ x.free ∧ y.free ∧ z.free ∧ i < ρ.length ∧ j < ρ.length ∧ l < ρ.length ∧ k.nx (((ρ.set i (some x)).set j (some y)).set l (some z))) (k.ex ρ)
theorem tr_par3 {i j l : Nat} {ta : TA} {za : ZA} (h : TrA K W ta za) : TrS K W (tPar3 i j l ta) (zPar3 i j l za) := fun F0 H0 F ρ σ H k D g s e hz a => by
  refine h F ρ σ H _ _ _ g e hz (fun r v H1 r1 d1 h1 => ?_) fun x C d H1 r1 d1 h1 => a.ex x C d ρ σ F H1 (g.rel r1) (s.rel r1) (g.le r1) (e.rel g r1) d1 h1
  obtain ⟨x, y, z, rfl, fx, fy, fz, hi, hj, hl, h1⟩ := h1
  cases d1 with
  | cons q1 t =>
    cases t with
    | cons q2 t =>
      cases t with
      | cons q3 t =>
        cases t
        refine ⟨_, _, _, rfl, ?_⟩
        have e1 := (((e.rel g r1).set q1 fx hi).set (i := j) q2 fy (by rw [List.length_set]; exact hj)).set (i := l) q3 fz (by rw [List.length_set, List.length_set]; exact hl)
        exact a.nx _ F _ H1 (g.rel r1) (s.rel r1) (g.le r1) e1 h1
theorem pzs_par3 {i j l : Nat} {x y z : Str} {px py pz pt : Pos} {kt k2 pt2} (hc : X.calm = true) (hN : X.N.Nodup) (hi : X.N[i]? = some x) (hj : X.N[j]? = some y) (hl : X.N[l]? = some z) (hij : i ≠ j) (hil : i ≠ l) (hjl : j ≠ l)
    (hx : X.env.scope.names.lookup x = some .local) (hy : X.env.scope.names.lookup y = some .local) (hz : X.env.scope.names.lookup z = some .local) (ha : PZA K X W [a, b, c] as zs)
    (hw : swappedStores [.Tuple [.Name x px, .Name y py, .Name z pz] kt pt] (.Tuple [a, b, c] k2 pt2) X.env = pure (some [x, y, z]) := by rfl)
    (hs : swapsWithSole [.Tuple [.Name x px, .Name y py, .Name z pz] kt pt] (.Tuple [a, b, c] k2 pt2) pos.line X.env = pure false := by rfl) :
    PZS K X W (.Assign [.Tuple [.Name x px, .Name y py, .Name z pz] kt pt] (.Tuple [a, b, c] k2 pt2) pos) (tPar3 i j l as) (zPar3 i j l zs) :=
  ⟨ps_par3 hc hN hi hj hl hij hil hjl hx hy hz ha.pe hw hs, tr_par3 ha.tr⟩
/-! ### name += a number -/
def kAddI : Z → Z → (Z → Prop) → Prop := fun a b Q => ∃ i j, view a = some (.int i) ∧ view b = some (.int j) ∧ Q (.dat (.int (i + j)))
theorem oz_ipadd : OpZ K (ipI fun i j => i + j) kAddI := fun F H x y a b Qz Q g ha hb hk q => by
  obtain ⟨i, j, h1, h2, hk⟩ := hk
  obtain rfl := ha.int h1
  obtain rfl := hb.int h2
  exact ⟨i, j, rfl, rfl, q (.dat (.int _)) _ H (.refl _ _ _) (Dz.int _) hk⟩
theorem pzs_augAdd {i : Nat} {x : Str} {pos' : Pos} (hN : X.N.Nodup) (hi : X.N[i]? = some x) (hx : Loc X.env.scope x) (he : PZ K X W e te ze) (hf : X.fn x = true ∨ X.env.scope.names.lookup x = some .local := by first | exact .inl rfl | exact .inr rfl | assumption) :
    PZS K X W (.AugAssign (.Name x pos') .Add e pos) (tAug i te (ipI fun i j => i + j)) (zAug i ze kAddI) :=
  ⟨ps_aug hN hi hx he.pe ip_add hf, tr_aug he.tr oz_ipadd⟩
end
/-! ### a list times a number -/
def dMulC : PyData → PyData → (Z → Prop) → Prop
  | .int i, .int j, Q => dMulA (.int i) (.int j) Q
  | .tuple xs, .int k, Q => dMulA (.tuple xs) (.int k) Q
  | .list xs, .int k, Q => (-1000 ≤ k ∧ k ≤ 1000 ∧ xs.length ≤ 1000) ∧ Q (.dat (.list (List.replicate k.toNat xs).flatten))
  | _, _, _ => False
abbrev rMulC (K : PySem.W.Frag) : R2 := rOr (rMulA K) rRep
theorem op_mulC {X : Cx} : OpR X (binaryOp .Mult) (rMulC X.K) := op_mulA.or op_rep
theorem oz_mulC : OpZ K (rMulC K) (k2 dMulC) := fun F H x y a b Qz Q g ha hb hk q => by
  obtain ⟨d, e, hd, he, hk⟩ := hk
  cases d with
  | int i =>
    cases e with
    | int j => exact .inl (oz_mulA F H x y a b Qz Q g ha hb ⟨_, _, hd, he, hk⟩ q)
    | _ => exact hk.elim
  | tuple xs =>
    cases e with
    | int j => exact .inl (oz_mulA F H x y a b Qz Q g ha hb ⟨_, _, hd, he, hk⟩ q)
    | _ => exact hk.elim
  | list xs =>
    cases e with
    | int j =>
      obtain ⟨p, us, rfl, h1, h2⟩ := ha.list hd
      obtain rfl := hb.int he
      obtain ⟨⟨k1, k2, k3⟩, hk⟩ := hk
      refine .inr ⟨p, j, us, rfl, rfl, h1, by omega, by omega, ?_, fun l nl => q (.dat (.list _)) _ _ (.new nl) (dz_newL g nl (h2.rep j.toNat)) hk⟩
      have a1 : us.length * j.toNat ≤ 1000 * 1000 := Nat.mul_le_mul (by rw [h2.len]; exact k3) (by omega)
      exact Nat.le_trans a1 (by decide)
    | _ => exact hk.elim
  | _ => cases e <;> exact hk.elim
/-! ### sum -/
def dSum : PyData → (Z → Prop) → Prop
  | .list ds, Q => ∃ ns : List Int, ds = ns.map .int ∧ Q (.dat (.int ns.sum))
  | _, _ => False
theorem dz_ints {H : Hp} : ∀ {vs : List V} {ns : List Int}, DzAll K H vs (ns.map .int) → vs = ns.map V.int
  | _, [], .nil => rfl
  | _, n :: ns, .cons h t => by
    cases h
    rw [dz_ints t]
    rfl
theorem cz_sum : CaZ K (rSum K) (kL1 dSum) := cz1 fun F H x a d Qz Q g ha hd hk q => by
  cases d with
  | list ds =>
    obtain ⟨p, xs, rfl, h1, h2⟩ := ha.list hd
    obtain ⟨ns, rfl, hk⟩ := hk
    obtain rfl := dz_ints h2
    exact ⟨p, ns, rfl, SqL.of h1, q (.dat (.int _)) _ H (.refl _ _ _) (Dz.int _) hk⟩
  | _ => exact hk.elim
/-! ### dicts, read -/
def isKey : PyData → Key → Bool
  | .int i, .inl j => decide (i = j)
  | .str x, .inr y => decide (x = y)
  | _, _ => false
theorem isKey_kD (a b : Key) : isKey (kD a) b = decide (a = b) := by
  cases a <;> cases b <;> simp [kD, isKey]
def dkGet (k : Key) : List (PyData × PyData) → Option PyData
  | [] => none
  | (e, d) :: r => if isKey e k = true then some d else dkGet k r
theorem DzKvs.val {H : Hp} : ∀ {kvs : List (Key × V)} {ds : List (PyData × PyData)}, DzKvs K H kvs ds → ∀ k, (valV kvs k = none ∧ dkGet k ds = none) ∨ ∃ v d, valV kvs k = some v ∧ dkGet k ds = some d ∧ Dz K H v d
  | _, _, .nil, k => .inl ⟨rfl, rfl⟩
  | _, _, .cons (k := j) (v := v) (d := d) h t, k => by
    by_cases n : j = k
    · exact .inr ⟨v, d, valV_pos n, by simp [dkGet, isKey_kD, n], h⟩
    · rcases DzKvs.val t k with ⟨a, b⟩ | ⟨v', d', a, b, c⟩
      · exact .inl ⟨(valV_neg n).trans a, by simp [dkGet, isKey_kD, n, b]⟩
      · exact .inr ⟨v', d', (valV_neg n).trans a, by simp [dkGet, isKey_kD, n, b], c⟩
theorem rz_dict {F : Fr} {H : Hp} {ds : List (PyData × PyData)} {v : V} (h : RZ K F H (.dat (.dict ds)) v) : ∃ p kvs, v = .ref p ∧ Rd (hid F.O H) p (.dK kvs) ∧ DzKvs K (hid F.O H) kvs ds := by
  cases (show Dz K _ v (.dict ds) from h) with
  | dic a b => exact ⟨_, _, rfl, a, b⟩
theorem RZ.dict {F : Fr} {H : Hp} {z : Z} {v : V} {ds : List (PyData × PyData)} (h : RZ K F H z v) (e : view z = some (.dict ds)) : ∃ p kvs, v = .ref p ∧ Rd H p (.dK kvs) ∧ DzKvs K (hid F.O H) kvs ds := by
  cases z with
  | dat d =>
    cases e
    obtain ⟨p, kvs, rfl, e1, e2⟩ := rz_dict h
    exact ⟨p, kvs, rfl, Le.hid_self.rd _ _ e1, e2⟩
  | ownD d =>
    cases e
    obtain ⟨p, kvs, rfl, _, e1, e2⟩ := h
    exact ⟨p, kvs, rfl, .inl e1, e2⟩
  | own d => cases e
  | strm => cases e
  | exc _ _ => cases e
  | exf _ _ _ _ _ => cases e
  | clo _ => cases e
  | scr _ => cases e
/-- d[k], there -/
def kDG : Z → Z → (Z → Prop) → Prop := fun x y Q => ∃ ds k d, view x = some (.dict ds) ∧ y = .dat (kD k) ∧ dkGet k ds = some d ∧ Q (.dat d)
def zDGet (a b : ZE) : ZE := fun ρ Q E => a ρ (fun x => b ρ (fun y => kDG x y Q) E) E
theorem dg_str {kvs : List (PyData × PyData)} {x : Str} {Q : Z → Prop} : kDG (.dat (.dict kvs)) (.dat (.str x)) Q = ∃ d, dkGet (.inr x) kvs = some d ∧ Q (.dat d) := propext ⟨fun ⟨ds, k, d, h1, h2, h3, h4⟩ => by
  cases h1
  cases k with
  | inl i => cases h2
  | inr y => cases h2; exact ⟨d, h3, h4⟩, fun ⟨d, h3, h4⟩ => ⟨kvs, .inr x, d, rfl, rfl, h3, h4⟩⟩
theorem tr_dget {ta tb : TE} {za zb : ZE} (ha : Tr K W ta za) (hb : Tr K W tb zb) : Tr K W (tDGet ta tb) (zDGet za zb) := fun F ρ σ H Qz Ez Q g e hz q x => by
  refine ha F ρ σ H _ Ez _ g e hz (fun r v H1 r1 d1 h1 => ?_) x
  refine hb F ρ σ H1 _ Ez _ (g.rel r1) (e.rel g r1) h1 (fun s u H2 r2 d2 h2 => ?_) fun x' C d H2 r2 hx => x x' C d H2 (r1.trans r2) hx
  obtain ⟨ds, k, d, hv, rfl, hd, h2⟩ := h2
  obtain ⟨p, kvs, rfl, e1, e2⟩ := (d1.rel (g.rel r1) r2).dict hv
  obtain rfl := dz_key (show Dz K _ u (kD k) from d2)
  rcases e2.val k with ⟨_, n⟩ | ⟨w, d', b1, b2, b3⟩
  · rw [n] at hd
    cases hd
  · rw [b2] at hd
    cases hd
    exact ⟨p, w, rfl, .inl ⟨kvs, k, e1, rfl, b1.symm⟩, q (.dat d) w H2 (r1.trans r2) b3 h2⟩
/-- d.get(k, x) -/
def kDG2 (ds : List (PyData × PyData)) : Z → Z → (Z → Prop) → Prop := fun y z Q => ∃ k d, y = .dat (kD k) ∧ z = .dat d ∧ Q (.dat ((dkGet k ds).getD d))
def zDGet2 (a b c : ZE) : ZE := fun ρ Q E => a ρ (fun x => ∃ ds, view x = some (.dict ds) ∧ b ρ (fun y => c ρ (fun z => kDG2 ds y z Q) E) E) E
theorem dg2_str {kvs : List (PyData × PyData)} {x : Str} {d : PyData} {Q : Z → Prop} : kDG2 kvs (.dat (.str x)) (.dat d) Q = Q (.dat ((dkGet (.inr x) kvs).getD d)) := propext ⟨fun ⟨k, e, h2, h3, h4⟩ => by
  cases h3
  cases k with
  | inl i => cases h2
  | inr y => cases h2; exact h4, fun h => ⟨.inr x, d, rfl, rfl, h⟩⟩
theorem tr_dget2 {ta tb tc : TE} {za zb zc : ZE} (ha : Tr K W ta za) (hb : Tr K W tb zb) (hc : Tr K W tc zc) : Tr K W (tDGet2 ta tb tc) (zDGet2 za zb zc) := fun F ρ σ H Qz Ez Q g e hz q x => by
  refine ha F ρ σ H _ Ez _ g e hz (fun r v H1 r1 d1 h1 => ?_) x
  obtain ⟨ds, hv, h1⟩ := h1
  obtain ⟨p, kvs, rfl, e1, e2⟩ := d1.dict hv
  have g1 := g.rel r1
  refine ⟨p, rfl, .inl ⟨kvs, e1⟩, ?_⟩
  refine hb F ρ σ H1 _ Ez _ g1 (e.rel g r1) h1 (fun s u H2 r2 d2 h2 => ?_) fun x' C d H2 r2 hx => x x' C d H2 (r1.trans r2) hx
  have r12 := r1.trans r2
  refine hc F ρ σ H2 _ Ez _ (g.rel r12) (e.rel g r12) h2 (fun s3 u3 H3 r3 d3 h3 => ?_) fun x' C d H3 r3 hx => x x' C d H3 (r12.trans r3) hx
  obtain ⟨k, d, rfl, rfl, h3⟩ := h3
  obtain rfl := dz_key (show Dz K _ u (kD k) from d2)
  have d1' := d1.rel g1 (r2.trans r3)
  obtain ⟨p', kvs', ep, e1', e2'⟩ := d1'.dict hv
  cases ep
  rcases e2'.val k with ⟨n1, n⟩ | ⟨w, d', b1, b2, b3⟩
  · refine ⟨none, .inl ⟨kvs', k, e1', rfl, n1.symm⟩, ?_⟩
    rw [n] at h3
    exact q (.dat d) u3 H3 (r12.trans r3) d3 h3
  · refine ⟨some w, .inl ⟨kvs', k, e1', rfl, b1.symm⟩, ?_⟩
    rw [b2] at h3
    exact q (.dat d') w H3 (r12.trans r3) b3 h3
/-- k in d, k not in d -/
def zDIn (neg : Bool) (b a : ZE) : ZE := fun ρ Q E => b ρ (fun y => a ρ (fun x => ∃ ds k, view x = some (.dict ds) ∧ y = .dat (kD k) ∧ Q (.dat (.bool (if neg then !(dkGet k ds).isSome else (dkGet k ds).isSome)))) E) E
theorem din_core {F : Fr} {H : Hp} {z : Z} {x : V} {ds : List (PyData × PyData)} {k : Key} (h : RZ K F H z x) (e : view z = some (.dict ds)) : ∃ a o, x = .ref a ∧ DGet H a (kV k) o ∧ o.isSome = (dkGet k ds).isSome := by
  obtain ⟨p, kvs, rfl, e1, e2⟩ := h.dict e
  rcases e2.val k with ⟨n1, n⟩ | ⟨w, d', b1, b2, b3⟩
  · exact ⟨p, none, rfl, .inl ⟨kvs, k, e1, rfl, n1.symm⟩, by rw [n]; rfl⟩
  · exact ⟨p, some w, rfl, .inl ⟨kvs, k, e1, rfl, b1.symm⟩, by rw [b2]; rfl⟩
theorem tr_din {ta tb : TE} {za zb : ZE} (hb : Tr K W tb zb) (ha : Tr K W ta za) : Tr K W (tDIn tb ta) (zDIn false zb za) := fun F ρ σ H Qz Ez Q g e hz q x => by
  refine hb F ρ σ H _ Ez _ g e hz (fun r v H1 r1 d1 h1 => ?_) x
  refine ha F ρ σ H1 _ Ez _ (g.rel r1) (e.rel g r1) h1 (fun s u H2 r2 d2 h2 => ?_) fun x' C d H2 r2 hx => x x' C d H2 (r1.trans r2) hx
  obtain ⟨ds, k, hv, rfl, h2⟩ := h2
  obtain rfl := dz_key (show Dz K _ v (kD k) from d1)
  obtain ⟨a, o, rfl, dg, ho⟩ := din_core (k := k) d2 hv
  refine ⟨a, o, rfl, dg, ?_⟩
  rw [ho]
  exact q (.dat (.bool _)) _ H2 (r1.trans r2) (Dz.bl _) h2
theorem tr_dnin {ta tb : TE} {za zb : ZE} (hb : Tr K W tb zb) (ha : Tr K W ta za) : Tr K W (tDNotIn tb ta) (zDIn true zb za) := fun F ρ σ H Qz Ez Q g e hz q x => by
  refine hb F ρ σ H _ Ez _ g e hz (fun r v H1 r1 d1 h1 => ?_) x
  refine ha F ρ σ H1 _ Ez _ (g.rel r1) (e.rel g r1) h1 (fun s u H2 r2 d2 h2 => ?_) fun x' C d H2 r2 hx => x x' C d H2 (r1.trans r2) hx
  obtain ⟨ds, k, hv, rfl, h2⟩ := h2
  obtain rfl := dz_key (show Dz K _ v (kD k) from d1)
  obtain ⟨a, o, rfl, dg, ho⟩ := din_core (k := k) d2 hv
  refine ⟨a, o, rfl, dg, ?_⟩
  rw [ho]
  exact q (.dat (.bool _)) _ H2 (r1.trans r2) (Dz.bl _) h2
section
variable {X : Cx} {a b : Expr} {ta tb : TE} {za zb : ZE} {pos : Pos}
theorem pz_din (hu : X.A.units + 64 < cLine) (hb : PZ K X W b tb zb) (ha : PZ K X W a ta za) (h1 : behindInMarks .In a = false := by rfl) : PZ K X W (.Compare b [.In] [a] pos) (tDIn tb ta) (zDIn false zb za) :=
  ⟨pe_cmp (pc_din (by omega) hb.pe ha.pe) h1, tr_din hb.tr ha.tr⟩
theorem pz_dnin (hu : X.A.units + 64 < cLine) (hb : PZ K X W b tb zb) (ha : PZ K X W a ta za) (h1 : behindInMarks .NotIn a = false := by rfl) : PZ K X W (.Compare b [.NotIn] [a] pos) (tDNotIn tb ta) (zDIn true zb za) :=
  ⟨pe_cmp (pc_dnotin (by omega) hb.pe ha.pe) h1, tr_dnin hb.tr ha.tr⟩
end
/-! ### dict of a list of pairs -/
def dkPut (k : Key) (d : PyData) (ds : List (PyData × PyData)) : List (PyData × PyData) :=
  if (ds.any fun kv => isKey kv.1 k) = true then ds.map (fun kv => if isKey kv.1 k = true then (kv.1, d) else kv) else ds ++ [(kD k, d)]
def dkMerge (ds : List (PyData × PyData)) (more : List (Key × PyData)) : List (PyData × PyData) := more.foldl (fun acc kv => dkPut kv.1 kv.2 acc) ds
theorem DzKvs.any {H : Hp} {k : Key} : ∀ {kvs : List (Key × V)} {ds : List (PyData × PyData)}, DzKvs K H kvs ds → (ds.any fun kv => isKey kv.1 k) = (kvs.any fun kv => decide (kv.1 = k))
  | _, _, .nil => rfl
  | _, _, .cons h t => by
    rw [List.any_cons, List.any_cons, DzKvs.any t]
    simp only [isKey_kD]
theorem DzKvs.app {H : Hp} : ∀ {a b : List (Key × V)} {ds es : List (PyData × PyData)}, DzKvs K H a ds → DzKvs K H b es → DzKvs K H (a ++ b) (ds ++ es)
  | _, _, _, _, .nil, h => h
  | _, _, _, _, .cons h t, q => .cons h (DzKvs.app t q)
theorem DzKvs.putMap {H : Hp} {k : Key} {v : V} {d : PyData} (hv : Dz K H v d) : ∀ {kvs : List (Key × V)} {ds : List (PyData × PyData)}, DzKvs K H kvs ds → DzKvs K H (kvs.map fun kv => if kv.1 = k then (kv.1, v) else kv) (ds.map fun kv => if isKey kv.1 k = true then (kv.1, d) else kv)
  | _, _, .nil => .nil
  | _, _, .cons (k := j) h t => by
    rw [List.map_cons, List.map_cons]
    by_cases n : j = k
    · subst n
      simp only [isKey_kD, decide_true, if_true]
      exact .cons hv (DzKvs.putMap hv t)
    · simp only [isKey_kD, decide_eq_true_eq, if_neg n]
      exact .cons h (DzKvs.putMap hv t)
theorem DzKvs.put {H : Hp} {k : Key} {v : V} {d : PyData} (hv : Dz K H v d) {kvs : List (Key × V)} {ds : List (PyData × PyData)} (h : DzKvs K H kvs ds) : DzKvs K H (putK kvs k v) (dkPut k d ds) := by
  unfold putK dkPut
  rw [h.any]
  by_cases n : (kvs.any fun kv => decide (kv.1 = k)) = true
  · rw [if_pos n, if_pos n]
    exact h.putMap hv
  · rw [if_neg n, if_neg n]
    exact h.app (.cons hv .nil)
theorem DzKvs.merge {H : Hp} : ∀ {more : List (Key × V)} {ms : List (Key × PyData)} {kvs : List (Key × V)} {ds : List (PyData × PyData)}, DzKvs K H kvs ds → Paired (fun (a : Key × V) (b : Key × PyData) => a.1 = b.1 ∧ Dz K H a.2 b.2) more ms → DzKvs K H (mergeK kvs more) (dkMerge ds ms)
  | _, _, _, _, h, .nil => h
  | _, _, _, _, h, .cons ⟨q, r⟩ t => by
    unfold mergeK dkMerge
    rw [List.foldl_cons, List.foldl_cons, q]
    exact DzKvs.merge (h.put r) t
def dDict : PyData → (Z → Prop) → Prop
  | .list ds, Q => ∃ ms : List (Key × PyData), ds = ms.map (fun m => .tuple [kD m.1, m.2]) ∧ Q (.dat (.dict (dkMerge [] ms)))
  | _, _ => False
theorem dz_pairs {H : Hp} : ∀ {vs : List V} {ms : List (Key × PyData)}, DzAll K H vs (ms.map fun m => .tuple [kD m.1, m.2]) → ∃ (ps : List Addr) (kvs : List (Key × V)), vs = ps.map V.ref ∧ Paired (fun p kv => SqT K H p [kV kv.1, kv.2]) ps kvs ∧ Paired (fun (a : Key × V) (b : Key × PyData) => a.1 = b.1 ∧ Dz K H a.2 b.2) kvs ms
  | _, [], .nil => ⟨[], [], rfl, .nil, .nil⟩
  | _, m :: ms, .cons h t => by
    obtain ⟨ps, kvs, e, a, b⟩ := dz_pairs t
    cases h with
    | tup hs ha =>
      cases ha with
      | cons h1 h2 =>
        cases h2 with
        | cons h3 h4 =>
          cases h4
          obtain rfl := dz_key h1
          exact ⟨_ :: ps, (m.1, _) :: kvs, by rw [e]; rfl, .cons hs a, .cons ⟨rfl, h3⟩ b⟩
abbrev rDictP (K : PySem.W.Frag) : List V → Hp → VK → Prop := fun xs H Q => ∃ (a : Addr) (ps : List Addr) (kvs : List (Key × V)), xs = [.ref a] ∧ SqL K H a (ps.map V.ref) ∧ Paired (fun p kv => SqT K H p [kV kv.1, kv.2]) ps kvs ∧
    ∀ p, H p = none → Q (.ref p) (upd H p (.dK (mergeK [] kvs)))
theorem paired_seq {F : Fr} {H : Hp} : ∀ {ps : List Addr} {kvs : List (Key × V)}, Paired (fun p (kv : Key × V) => SqT K (hid F.O H) p [kV kv.1, kv.2]) ps kvs → Paired (fun p (kv : Key × V) => SqT K H p [kV kv.1, kv.2]) ps kvs
  | _, _, .nil => .nil
  | _, _, .cons h t => .cons (Le.hid_self.seqT h) (paired_seq t)
theorem cz_dict : CaZ K (rDictP K) (kL1 dDict) := cz1 fun F H x a d Qz Q g ha hd hk q => by
  cases d with
  | list ds =>
    obtain ⟨ms, rfl, hk⟩ := hk
    obtain ⟨p, xs, rfl, h1, h2⟩ := ha.list hd
    obtain ⟨ps, kvs, rfl, h3, h4⟩ := dz_pairs h2
    refine ⟨p, ps, kvs, rfl, SqL.of h1, paired_seq h3, fun l nl => q (.dat (.dict _)) _ _ (.new nl) ?_ hk⟩
    exact Dz.dic (.inl (hid_some.mpr ⟨fun z => g.ex l z nl, upd_same⟩)) (Dz.monoK (Le.new nl) _ (DzKvs.merge .nil h4))
  | _ => exact hk.elim
theorem list_extendT (l : Addr) (items : Array Value) (n : Nat) (b : Addr) (items2 : Array Value) (n2 : Nat) (dd : Option Addr) (sl : Array (Option Value)) (hs0 : ¬(!items.isEmpty && Builtin.List.listTooLong (items.size + items2.size)) = true) (hs1 : items.size ≤ sizeLine) (hs2 : items.size + items2.size ≤ sizeLine + 1) :
    Meets (Builtin.«list.extend» ⟨[.ref l, .ref b], []⟩) (fun _ R s => s.heap.get? l = some { cls := .type "list", dict := none, data := .seq items n, slots := #[] } ∧ s.heap.get? b = some { cls := .type "tuple", dict := dd, data := .seq items2 n2, slots := sl } ∧ R (.ok (.ret Value.none)) { s with heap := s.heap.update l (Obj.mapSeq fun x => x ++ items2), toks := s.toks }) :=
  .of_wp fun prog w A R s h => by
    obtain ⟨hp, g, d, tk, os⟩ := s
    obtain ⟨hl, hb, h⟩ := h
    have f1 := AutoSeq1.idx_int
    have f2 := AutoSeq1.sub_tuple_tuple
    have f3 := AutoSeq1.sub_list_list
    have f4 := AutoSeq1.sub_tuple_list
    have f5 := AutoSeq1.sub_list_tuple
    have hz' : (items ++ items2).size ≤ sizeLine + 1 := by rw [Array.size_append]; exact hs2
    wp_walk using (wpAny_updateSeq hl rfl (hz := hs1) (_hz' := hz')), AutoSeq1.wpAny_loadPart' hl, AutoSeq1.wpAny_loadPart' hb
    exact ⟨_, rfl, h⟩
/-! ### name.extend(a list or a tuple) -/
def rExtendB (K : PySem.W.Frag) : V → List V → Hp → VK → Prop := fun x vs H Q => ∃ l b xs zs, x = .ref l ∧ vs = [.ref b] ∧ H l = some (.lst xs) ∧ (H b = some (.lst zs) ∨ SqT K H b zs) ∧ xs.length + zs.length ≤ sizeLine ∧ Q .non (upd H l (.lst (xs ++ zs)))
theorem mt_extendB {X : Cx} : MtM X "list.extend" (rExtendB X.K) := by
  intro pins s σ H x vs v us Q I rx rv h
  obtain ⟨l, b, xs, zs, rfl, rfl, hH, hB | hB, hz, q⟩ := h
  · exact mt_extend pins s σ H _ _ v us Q I rx rv ⟨l, b, xs, zs, rfl, rfl, hH, hB, hz, q⟩
  · cases rx
    obtain ⟨u, rfl, ru⟩ := rv.one
    cases ru
    obtain ⟨z, its, n, r, hl, e⟩ := I.lstM hH
    obtain ⟨its2, r2, ⟨⟨cls, dd, data, sl⟩, ho, hc, n2, hd⟩, hs⟩ := I.tuple hB
    simp only at hc hd
    subst hc hd
    have hl2 := r2.length
    have hsz : its.toArray.size + its2.toArray.size ≤ sizeLine := by rw [List.size_toArray, List.size_toArray]; omega
    have hlong : ¬ (!its.toArray.isEmpty && Builtin.List.listTooLong (its.toArray.size + its2.toArray.size)) = true := by
      rw [notLongL hsz, Bool.and_false]
      exact Bool.false_ne_true
    refine call_meets F.slot_list_extend ⟨_, e, rfl⟩ F.entry_list_extend (F.args_list_extend_2 _ _)
      (list_extendT l its.toArray n b its2.toArray n2 dd sl hlong (by rw [List.size_toArray]; omega) (by omega)) ⟨e, ho, ?_⟩
    refine ⟨.non, _, I.lset (its' := its ++ its2) hH e (by simp) (r.append r2) ?_, rfl, q⟩
    rw [List.length_append]
    omega
def zExtendB (i : Nat) (a : ZE) : ZS := fun ρ k => ∃ ds, ρ[i]? = some (some (.own ds)) ∧ a ρ (fun y => ∃ es, (y = .dat (.list es) ∨ y = .dat (.tuple es)) ∧ ds.length + es.length ≤ line ∧ k.nx (ρ.set i (some (.own (ds ++ es))))) (k.ex ρ)
theorem tr_extendB {i : Nat} {te : TE} {za : ZE} (h : Tr K W te za) : TrS K W (tDrop (tBM K "list" (rExtendB K) (tVar i) (tCons te tNil))) (zExtendB i za) := fun F0 H0 F ρ σ H k D g s e hz a => by
  obtain ⟨ds, h1, hz⟩ := hz
  obtain ⟨v, h2, l, xs, rfl, hl, h3, h4⟩ := e.at_ i _ h1
  refine ⟨_, h2, .inl ⟨rfl, _, SqL.of h3⟩, ?_⟩
  refine h F ρ σ H _ _ _ g e hz (fun r v H1 r1 d1 q1 => ?_) fun x C d H1 r1 d1 h1 => a.ex x C d ρ σ F H1 (g.rel r1) (s.rel r1) (g.le r1) (e.rel g r1) d1 h1
  obtain ⟨es, ey, hn, q1⟩ := q1
  have g1 := g.rel r1
  have h3' := r1.kp l _ (g.ns l hl) h3
  have h4' := Dz.monos (g.le r1) ds h4
  rcases ey with rfl | rfl
  · obtain ⟨p, ys, rfl, k1, k2⟩ := rz_lst d1
    refine ⟨l, p, xs, ys, rfl, rfl, h3', .inl k1, line_le (by rw [h4.len, k2.len]; exact hn), ?_⟩
    exact a.nx _ F σ _ (g1.put hl) ((s.rel r1).put hl) ((g.le r1).trans (Le.own (g.no l hl))) ((e.rel g r1).put g1 h1 h2 hl (h4'.app k2)) q1
  · obtain ⟨p, ys, rfl, k1, k2⟩ := rz_tuple d1
    refine ⟨l, p, xs, ys, rfl, rfl, h3', .inr (Le.hid_self.seqT k1), line_le (by rw [h4.len, k2.len]; exact hn), ?_⟩
    exact a.nx _ F σ _ (g1.put hl) ((s.rel r1).put hl) ((g.le r1).trans (Le.own (g.no l hl))) ((e.rel g r1).put g1 h1 h2 hl (h4'.app k2)) q1
/-! ### a list of one's own, made by list(..) -/
def zListN (a : ZA) : ZN := fun ρ Q E => a ρ (fun zs => ∃ z ds, zs = [z] ∧ (view z = some (.list ds) ∨ view z = some (.tuple ds)) ∧ Q ds) E
theorem tr_listN {ta : TA} {za : ZA} (h : TrA K W ta za) : TrN K W (tCB (fun xs H Q => ∃ p ys, xs = [.ref p] ∧ (SqL K H p ys ∨ SqT K H p ys) ∧ ∀ l, H l = none → Q (.ref l) (upd H l (.lst ys))) ta) (zListN za) := fun F ρ σ H Qz Ez Q g e hz q x => by
  refine h F ρ σ H _ Ez _ g e hz (fun r v H1 r1 d1 q1 => ?_) x
  obtain ⟨z, ds, rfl, hv, q1⟩ := q1
  obtain ⟨u, rfl, d⟩ := d1.one
  rcases hv with hv | hv
  · obtain ⟨p, xs, rfl, h1, h2⟩ := d.list hv
    exact ⟨p, xs, rfl, .inl (SqL.of h1), fun l nl => q ds l xs _ (r1.trans (.new nl)) (r1.none_back g nl) upd_same (Dz.monos (Le.newO nl) _ h2) q1⟩
  · obtain ⟨p, xs, rfl, h1, h2⟩ := d.tuple hv
    exact ⟨p, xs, rfl, .inr h1, fun l nl => q ds l xs _ (r1.trans (.new nl)) (r1.none_back g nl) upd_same (Dz.monos (Le.newO nl) _ h2) q1⟩
end Zl
end
section
/-! ZEn: enumerate of a tuple -/
namespace Zl
open PySem PySem.Spec PyProof.Rows L2 Kb
variable [Tabd]
open PySem.Sem (wp)
open PySem.AutoSeq1 (wpAny_loadPart')
theorem enumT_new (l : Addr) (items : Array Value) (n : Nat) (dct : Option Addr) (sl : Array (Option Value)) :
    Meets (Builtin.«enumerate.__new__» ⟨[.type "enumerate", .ref l], []⟩) (fun _ R s => s.heap.get? l = some { cls := .type "tuple", dict := dct, data := .seq items n, slots := sl } ∧
      R (.ok (.ret (.ref (s.heap.push { cls := .type "tuple_iterator", data := .fields #[.ref l, .int 0 0] }).objs.size)))
        { s with heap := (s.heap.push { cls := .type "tuple_iterator", data := .fields #[.ref l, .int 0 0] }).push { cls := .type "enumerate", data := .fields #[.none, .bool false, .ref s.heap.objs.size, rawInt 0, .none, .none] } }) :=
  .of_wp fun prog w A R s h => by
    obtain ⟨hp, g, d, tk, os⟩ := s
    obtain ⟨hl, h⟩ := h
    have hsub := sub_enumerate
    have hL : Heap.IsTuple (Shared.heap ⟨hp, g, d, tk, os⟩) l items := ⟨_, hl, rfl, n, rfl⟩
    wp_walk using wpAny_loadPart' hl
    refine wpAny_stack_any fun st => wpAny_pure ?_
    split
    · rename_i c _ _ _ _ _
      cases (c == Value.type "enumerate")
      · wp_walk using wpAny_loadPart' hl, wpAny_pyIter_tuple hL
        exact ⟨_, rfl, h⟩
      · wp_walk using wpAny_loadPart' hl, wpAny_pyIter_tuple hL
        exact ⟨_, rfl, h⟩
    · wp_walk using wpAny_loadPart' hl, wpAny_pyIter_tuple hL
      exact ⟨_, rfl, h⟩
section
variable {prog : Program} {w : World} {A : Around} {E : Value → Shared → Prop} {s : Shared}
theorem call_enumT {l : Addr} {items : Array Value} {Q : Value → Shared → Prop} (hL : s.heap.IsTuple l items)
    (h : ∀ h', IsEnum h' (s.heap.objs.size + 1) s.heap.objs.size 0 .none → h'.IsTupleIter s.heap.objs.size l 0 → h'.objs.size = s.heap.objs.size + 2 →
      (∀ b o, s.heap.get? b = some o → h'.get? b = some o) → Q (.ref (s.heap.objs.size + 1)) { s with heap := h' }) :
    wpAny (model prog w) A (call (.type "enumerate") [.ref l]) Q E s := by
  obtain ⟨⟨c, dct, dt, sl⟩, hl, hc, n, hd⟩ := hL
  replace hc : c = .type "tuple" := hc
  replace hd : dt = .seq items n := hd
  subst hc hd
  refine callType_new F.called_enumerate (by decide) (F.typeCall_enumerate_1 _) (F.newCall_enumerate_1 _) (fun obj => F.args_object_init_2 obj _) F.entry_enumerate_new
    (enumT_new l items n dct sl) ⟨hl, ?_⟩
  have hz : (s.heap.push { cls := .type "tuple_iterator", data := .fields #[.ref l, .int 0 0] }).objs.size = s.heap.objs.size + 1 := Heap.size_push ..
  show _ ∧ _
  rw [hz]
  have he : IsEnum ((s.heap.push { cls := .type "tuple_iterator", data := .fields #[.ref l, .int 0 0] }).push
      { cls := .type "enumerate", data := .fields #[.none, .bool false, .ref s.heap.objs.size, rawInt 0, .none, .none] }) (s.heap.objs.size + 1) s.heap.objs.size 0 .none := by
    have := Heap.get?_push_size (s.heap.push { cls := .type "tuple_iterator", data := .fields #[.ref l, .int 0 0] })
      (o := { cls := .type "enumerate", data := .fields #[.none, .bool false, .ref s.heap.objs.size, rawInt 0, .none, .none] }) rfl
    rw [hz] at this
    exact this
  refine ⟨⟨_, he, rfl⟩, h _ he ⟨_, Heap.get?_push_of_some _ (Heap.get?_push_size _ rfl), rfl, rfl⟩ (by rw [Heap.size_push, hz]) fun b o x => Heap.get?_push_of_some _ (Heap.get?_push_of_some _ x)⟩
theorem enumT_next_item {e it l : Addr} {i : Nat} {items : Array Value} {x old : Value} {Q : Value → Shared → Prop}
    (he : IsEnum s.heap e it i old) (hit : s.heap.IsTupleIter it l i) (hl : s.heap.IsTuple l items) (hx : items[i]? = some x) (hne : e ≠ it)
    (hQ : ∀ h', IsEnumOut h' e it ((i : Int) + 1) x s.heap.objs.size → h'.IsTupleIter it l (i + 1) →
      h'.get? s.heap.objs.size = some { cls := .type "tuple", data := .seq #[.int i s.toks, x] } → h'.objs.size = s.heap.objs.size + 1 →
      (∀ b o, b ≠ e → b ≠ it → s.heap.get? b = some o → h'.get? b = some o) → Q (.ref s.heap.objs.size) { s with heap := h', toks := s.toks + 1 }) :
    wpAny (model prog w) A (Builtin.«enumerate.__next__» ⟨[.ref e], []⟩) (fun fin s' => ∃ v, fin = .done (.ret v) ∧ Q v s') E s := by
  obtain ⟨hp, g, d, tk, os⟩ := s
  show wpAny _ _ (field (.ref e) 2 >>= _) _ _ _
  refine wpAny_bind (wpAny_field he rfl (x := .ref it) rfl ?_)
  refine wpAny_bind (RZ.nextOf_tuple_item hit hl hx fun h₁ hit₁ hs₁ => ?_)
  replace hs₁ : Heap.SameBut it hp h₁ := hs₁
  have he₁ : IsEnum h₁ e it i old := (hs₁.2 e hne).trans he
  show wpAny _ _ (field (.ref e) 3 >>= _) _ _ ⟨h₁, g, d, tk, os⟩
  refine wpAny_bind (wpAny_field he₁ rfl (x := rawInt i) rfl ?_)
  show wpAny _ _ (field (.ref e) 4 >>= _) _ _ ⟨h₁, g, d, tk, os⟩
  refine wpAny_bind (wpAny_field he₁ rfl (x := .none) rfl ?_)
  show wpAny _ _ (mkInt i >>= _) _ _ ⟨h₁, g, d, tk, os⟩
  refine wpAny_bind (wpAny_mkInt ?_)
  show wpAny _ _ (setField (.ref e) 3 (rawInt ((i : Int) + 1)) >>= _) _ _ ⟨h₁, g, d, tk + 1, os⟩
  refine wpAny_bind (wpAny_setField_rec he₁ (by simp) fun h₂ he₂ hs₂ => ?_)
  replace hs₂ : Heap.SameBut e h₁ h₂ := hs₂
  replace he₂ : IsEnum h₂ e it ((i : Int) + 1) old := he₂
  show wpAny _ _ (setField (.ref e) 4 .none >>= _) _ _ ⟨h₂, g, d, tk + 1, os⟩
  refine wpAny_bind (wpAny_setField_rec he₂ (by simp) fun h₃ he₃ hs₃ => ?_)
  replace hs₃ : Heap.SameBut e h₂ h₃ := hs₃
  replace he₃ : IsEnum h₃ e it ((i : Int) + 1) old := he₃
  show wpAny _ _ (newTuple [.int i tk, x] >>= _) _ _ ⟨h₃, g, d, tk + 1, os⟩
  refine wpAny_bind (wpAny_newTuple ?_)
  have he₄ : IsEnum (h₃.push { cls := .type "tuple", data := .seq #[.int i tk, x] }) e it ((i : Int) + 1) old := Heap.get?_push_of_some _ he₃
  generalize hh₄ : h₃.push { cls := .type "tuple", data := .seq #[.int i tk, x] } = h₄ at he₄
  have hsz : h₃.objs.size = hp.objs.size := by rw [hs₃.1, hs₂.1, hs₁.1]
  have hel : e < hp.objs.size := Heap.lt_size he
  have ht₄ : h₄.get? hp.objs.size = some { cls := .type "tuple", data := .seq #[.int i tk, x] } := by rw [← hh₄, ← hsz]; exact Heap.get?_push_size _ rfl
  have hz₄ : h₄.objs.size = hp.objs.size + 1 := by rw [← hh₄, Heap.size_push, hsz]
  have hk₄ : ∀ b o, b ≠ e → b ≠ it → hp.get? b = some o → h₄.get? b = some o := fun b o hbe hbi hb => by
    rw [← hh₄]; exact Heap.get?_push_of_some _ (hs₃.extBut b o hbe (hs₂.extBut b o hbe (hs₁.extBut b o hbi hb)))
  have hit₄ : h₄.IsTupleIter it l (i + 1) := by
    rw [← hh₄]; obtain ⟨o, ho, r⟩ := (hit₁.extBut hs₂.extBut (Ne.symm hne)).extBut hs₃.extBut (Ne.symm hne); exact ⟨o, Heap.get?_push_of_some _ ho, r⟩
  show wpAny _ _ (Builtin.SmallTypes.ownedTupleIsFree (.ref e) >>= _) _ _ ⟨h₄, g, d, tk + 1, os⟩
  rw [hsz]
  clear hh₄ he₃ hs₃ he₂ hs₂ he₁ hs₁ hit₁ hsz h₃ h₂ h₁
  refine wpAny_bind ?_
  unfold Builtin.SmallTypes.ownedTupleIsFree
  refine wpAny_bind (wpAny_field he₄ rfl (x := .none) rfl (wpAny_pure ?_))
  simp only [if_true]
  refine wpAny_bind (wpAny_rule ?_)
  refine wpAny_bind (wpAny_field he₄ rfl (x := old) rfl ?_)
  refine wpAny_bind (wpAny_setField_rec he₄ (by simp) fun h₅ he₅ hs₅ => ?_)
  replace hs₅ : Heap.SameBut e h₄ h₅ := hs₅
  replace he₅ : IsEnum h₅ e it ((i : Int) + 1) x := he₅
  show wpAny _ _ (Builtin.SmallTypes.ownedTupleHandOut (.ref e) (.ref hp.objs.size) >>= _) _ _ ⟨h₅, g, d, tk + 1, os⟩
  refine wpAny_bind ?_
  unfold Builtin.SmallTypes.ownedTupleHandOut
  refine wpAny_bind (wpAny_setField_rec he₅ (by simp) fun h₆ he₆ hs₆ => ?_)
  replace hs₆ : Heap.SameBut e h₅ h₆ := hs₆
  replace he₆ : IsEnumOut h₆ e it ((i : Int) + 1) x hp.objs.size := he₆
  refine wpAny_setField_rec he₆ (by simp) fun h₇ he₇ hs₇ => ?_
  replace hs₇ : Heap.SameBut e h₆ h₇ := hs₇
  replace he₇ : IsEnumOut h₇ e it ((i : Int) + 1) x hp.objs.size := he₇
  refine wpAny_bind (wpAny_letGo (wpAny_pure ⟨_, rfl, hQ h₇ he₇ ?_ ?_ ?_ ?_⟩))
  · exact ((hit₄.extBut hs₅.extBut (Ne.symm hne)).extBut hs₆.extBut (Ne.symm hne)).extBut hs₇.extBut (Ne.symm hne)
  · exact hs₇.extBut _ _ (Nat.ne_of_gt hel) (hs₆.extBut _ _ (Nat.ne_of_gt hel) (hs₅.extBut _ _ (Nat.ne_of_gt hel) ht₄))
  · rw [hs₇.1, hs₆.1, hs₅.1, hz₄]
  · exact fun b o hbe hbi hb => hs₇.extBut b o hbe (hs₆.extBut b o hbe (hs₅.extBut b o hbe (hk₄ b o hbe hbi hb)))
theorem pyNext_enumT_item {e it l : Addr} {i : Nat} {items : Array Value} {x old : Value} {Q : Option Value → Shared → Prop}
    (he : IsEnum s.heap e it i old) (hit : s.heap.IsTupleIter it l i) (hl : s.heap.IsTuple l items) (hx : items[i]? = some x) (hne : e ≠ it)
    (hQ : ∀ h', IsEnumOut h' e it ((i : Int) + 1) x s.heap.objs.size → h'.IsTupleIter it l (i + 1) →
      h'.get? s.heap.objs.size = some { cls := .type "tuple", data := .seq #[.int i s.toks, x] } → h'.objs.size = s.heap.objs.size + 1 →
      (∀ b o, b ≠ e → b ≠ it → s.heap.get? b = some o → h'.get? b = some o) → Q (some (.ref s.heap.objs.size)) { s with heap := h', toks := s.toks + 1 }) :
    wpAny (model prog w) A (pyNext (.ref e)) Q E s := by
  have hT : s.TypeIs (.ref e) "enumerate" := ⟨_, he, rfl⟩
  unfold pyNext
  exact wpAny_bind (wpAny_attempt (wpAny_callSpecial?_slot (name := Str.ofString "__next__") hT F.slot_enumerate_next
    (wpAny_call_entry F.slot_enumerate_next hT F.entry_enumerate_next
      (enumT_next_item he hit hl hx hne fun h' a b c d k => wpAny_pure (hQ h' a b c d k)) (F.args_enumerate_next_1 _))))
theorem pyNext_enumT_end {e it l : Addr} {i : Nat} {items : Array Value} {old : Value} {Q : Option Value → Shared → Prop} (hh : A.handled = none)
    (he : IsEnum s.heap e it i old) (hit : s.heap.IsTupleIter it l i) (hl : s.heap.IsTuple l items) (hx : items[i]? = none)
    (hQ : ∀ h', Heap.ExtBut it s.heap h' → Q none { s with heap := h' }) : wpAny (model prog w) A (pyNext (.ref e)) Q E s := by
  have hT : s.TypeIs (.ref e) "enumerate" := ⟨_, he, rfl⟩
  unfold pyNext
  refine wpAny_bind (wpAny_attempt (wpAny_callSpecial?_slot (name := Str.ofString "__next__") hT F.slot_enumerate_next
    (wpAny_call_entry F.slot_enumerate_next hT F.entry_enumerate_next ?_ (F.args_enumerate_next_1 _))))
  show wpAny _ _ (field (.ref e) 2 >>= _) _ _ _
  refine wpAny_bind (wpAny_field he rfl (x := .ref it) rfl ?_)
  refine wpAny_bind (RZ.nextOf_tuple_end hh hit hl hx fun h' x he' hx' => ?_)
  obtain ⟨o, ho, hc⟩ := hx'
  refine wpAny_bind (wpAny_isInstance (T := "StopIteration") (b := true) ⟨o, ho, hc⟩ isSubtype_stop ?_)
  exact wpAny_pure (hQ _ he')
end
/-- the tuple at a, each item in a new pair -/
def IteT (K : PySem.W.Frag) (a : Addr) : It :=
  ⟨fun i H => ∃ (xs : List V) (x : V), SqT K H a xs ∧ xs[i]? = some x, fun i H v H' => ∃ T x, v = .ref T ∧ H T = none ∧ H' = upd H T (.tup [.int (i : Nat), x]) ∧ ∀ xs, SqT K H a xs → xs[i]? = some x, fun i H => ∃ xs : List V, SqT K H a xs ∧ xs.length ≤ i⟩
theorem turn_enumT {P : Program} {w : World} {K : PySem.W.Frag} {elts : List Expr} {kk : Nat} {tpos : Pos} (a e it : Addr) :
    Turn P w K (.Tuple elts kk tpos) (IteT K a) [e, it] e (fun i h => (∃ old, IsEnum h e it ((i : Nat) : Int) old) ∧ h.IsTupleIter it a i ∧ e ≠ it) where
  mem := by simp
  obj := fun i h st b hb => by
    obtain ⟨⟨old, he⟩, ⟨o, ho, hc, hd⟩, _⟩ := st
    have e' : b = e ∨ b = it := by simpa using hb
    rcases e' with z | z
    · rw [z]; exact ⟨_, he, fun v q => nomatch q⟩
    · rw [z]; exact ⟨o, ho, fun v q => by rw [hd] at q; cases q⟩
  keep := fun i h h' st k => let ⟨⟨old, he⟩, hi, hne⟩ := st; ⟨⟨old, k e (by simp) _ he⟩, hi.at fun o q => k it (by simp) o q, hne⟩
  item := by
    intro X hP hw hK hc i pins s σ H E I hf st hg
    subst hP hw hK
    obtain ⟨⟨old, he⟩, hit, hne⟩ := st
    obtain ⟨xs, x, hq, hx⟩ := hg
    obtain ⟨its, rv, p, hz⟩ := I.tuple hq
    obtain ⟨u, hu, ru⟩ := rv.get hx
    have hel : e < s.heap.objs.size := Heap.lt_size he
    have hil : it < s.heap.objs.size := by obtain ⟨_, q, _⟩ := hit; exact Heap.lt_size q
    refine pyNext_enumT_item he hit p (x := u) (by simpa using hu) hne fun h' ho hit' hT hsz hk => ?_
    refine ⟨_, rfl, wpAny_letOwnedTupleGo_enum (s := { s with heap := h', toks := s.toks + 1 }) ho fun h'' he' sb => ?_⟩
    have hT2 : h''.get? s.heap.objs.size = some { cls := .type "tuple", data := .seq #[.int i s.toks, u] } := (sb.2 _ (Nat.ne_of_gt hel)).trans hT
    have new : ObjOk X.prog X.w (upd H s.heap.objs.size (.tup [.int (i : Nat), x])) h'' s.heap.objs.size (.tup [.int (i : Nat), x]) :=
      ⟨by show 2 ≤ sizeLine; decide, [.int i s.toks, u], .cons ⟨_, rfl⟩ (.cons ru .nil), ⟨_, hT2, rfl, _, rfl⟩⟩
    have I1 : Inv X pins σ (upd H s.heap.objs.size (.tup [.int (i : Nat), x])) { s with heap := h'', toks := s.toks + 1 } :=
      I.turnedNew (ch := [e, it]) (fun b ob hb q => (sb.2 b (fun z => hb (by simp [z]))).trans (hk b ob (fun z => hb (by simp [z])) (fun z => hb (by simp [z])) q)) hf (Nat.le_refl _) new
    refine ⟨.ref s.heap.objs.size, _, I1, rfl, ⟨_, x, rfl, I.hok.fresh (Nat.le_refl _), rfl, fun ys hy => by rw [I.tuple_inj hy hq]; exact hx⟩, ⟨⟨u, ?_⟩, hit'.at fun o q => (sb.2 it (Ne.symm hne)).trans q, hne⟩, fun b hb => ?_⟩
    · have e1 : ((i + 1 : Nat) : Int) = (i : Int) + 1 := by omega
      rw [e1]; exact he'
    · have hb' : b < s.heap.objs.size := by
        have e' : b = e ∨ b = it := by simpa using hb
        rcases e' with z | z
        · rw [z]; exact hel
        · rw [z]; exact hil
      rw [upd_ne (Nat.ne_of_lt hb')]
      exact (hf b hb).1
  done := by
    intro X hP hw hK hc i pins s σ H E I hf st hg
    subst hP hw hK
    obtain ⟨⟨old, he⟩, hit, hne⟩ := st
    obtain ⟨xs, hq, hx⟩ := hg
    obtain ⟨its, rv, p, hz⟩ := I.tuple hq
    obtain ⟨f0, f1, f2, f3, f4, f5⟩ := hf it (by simp)
    have hl := rv.length
    exact pyNext_enumT_end (I.ok.hd hc) he hit p (by simp; omega) fun h' eb => ⟨rfl, I.turned (t' := s.toks) (fun b o hb q => eb b o hb q) f0 f1 f3 f4 f5⟩
  self := fun A i s Q E st h => let ⟨⟨_, he⟩, _⟩ := st; wpAny_pyIter_enum he h
/-- of a list, or of a tuple -/
def iEnumB (K : PySem.W.Frag) (ta : TA) : TI := fun σ H R => ta σ H fun vs H1 => ∃ a xs, vs = [.ref a] ∧ ((SqL K H1 a xs ∧ R (Ite K a) H1) ∨ (SqT K H1 a xs ∧ R (IteT K a) H1))
theorem pi_enumB {X : Cx} {e : Expr} {ta : TA} {p pos tpos : Pos} {elts : List Expr} {kk : Nat} (hg : Gl X "enumerate") (hm : X.mg "enumerate" = none) (ha : PA X [e] ta) (hs : starEach [e] X.env = [(false, eval e X.env)] := by rfl) :
    PI X (.Tuple elts kk tpos) (.Call (.Name "enumerate" p) [e] [] pos) (iEnumB X.K ta) := by
  refine ⟨fun pins s σ H R I h => ?_⟩
  refine Call_ (ld_blt I hg hm boot_enumerate (PyProof.Rows.callWith_type1 (thn (ha.run pos pins s σ H _ I h) fun us s1 ⟨vs, H1, I1, r1, q1⟩ => ?_) hs rfl))
  obtain ⟨a, xs, ex, q1⟩ := q1
  subst ex
  cases r1 with
  | cons r rr =>
    cases rr
    cases r
    have fresh2 : ∀ b, b ∈ [s1.heap.objs.size + 1, s1.heap.objs.size] → FpOk X pins H1 b := fun b hb => by
      have e' : b = s1.heap.objs.size + 1 ∨ b = s1.heap.objs.size := by simpa using hb
      have hle : s1.heap.objs.size ≤ b := by
        rcases e' with z | z
        · rw [z]; exact Nat.le_add_right _ _
        · rw [z]; exact Nat.le_refl _
      exact I1.fpOk hle (I1.hok.fresh hle)
    rcases q1 with ⟨hq, q⟩ | ⟨hq, q⟩
    · obtain ⟨its, rv, p', hz⟩ := I1.list hq
      refine call_enumerate_list p'.isList fun h' he hit hsz hk => wpAny_pyIter_enum he ?_
      have I2 : Inv X pins σ H1 { s1 with heap := h' } := I1.kept (t' := s1.toks) hk
      exact ⟨s1.heap.objs.size + 1, [s1.heap.objs.size + 1, s1.heap.objs.size], _, _, H1, rfl, I2, turn_enum a (s1.heap.objs.size + 1) s1.heap.objs.size, ⟨⟨.none, he⟩, hit, Nat.succ_ne_self _⟩, fresh2, q⟩
    · obtain ⟨its, rv, p', hz⟩ := I1.tuple hq
      refine call_enumT (show s1.heap.IsTuple a its.toArray from p') fun h' he hit hsz hk => wpAny_pyIter_enum he ?_
      have I2 : Inv X pins σ H1 { s1 with heap := h' } := I1.kept (t' := s1.toks) hk
      exact ⟨s1.heap.objs.size + 1, [s1.heap.objs.size + 1, s1.heap.objs.size], _, _, H1, rfl, I2, turn_enumT a (s1.heap.objs.size + 1) s1.heap.objs.size, ⟨⟨.none, he⟩, hit, Nat.succ_ne_self _⟩, fresh2, q⟩
variable {K : PySem.W.Frag} {W : WX}
theorem walk_eT {F : Fr} {H : Hp} {a : Addr} {xs : List V} {ds : List PyData} (h : SqT K (hid F.O H) a xs) (hd : DzAll K (hid F.O H) xs ds) : Walk K F H (IteT K a) (numb 0 ds) := fun G H' l g => by
  have h2 := Le.hid_self.seqT (l.seqT h)
  refine ⟨fun i d hi => ?_, xs, h2, by rw [numb_len, hd.len]; exact Nat.le_refl _⟩
  obtain ⟨y, h3, rfl⟩ := numb_get hi
  obtain ⟨v, hv, hz⟩ := hd.get' h3
  refine ⟨⟨xs, v, h2, hv⟩, fun x H3 hy => ?_⟩
  obtain ⟨T, w, rfl, nT, rfl, hy⟩ := hy
  have := hy xs h2
  rw [hv] at this
  cases this
  rw [Nat.zero_add]
  exact ⟨.new nT, dz_two g nT (.int _) (Dz.mono l y hz)⟩
def zEnumB (a : ZA) : ZI := fun ρ Q E => a ρ (fun zs => ∃ ds, (zs = [.dat (.list ds)] ∨ zs = [.dat (.tuple ds)]) ∧ Q (numb 0 ds)) E
theorem tr_enumB {ta : TA} {za : ZA} (h : TrA K W ta za) : TrI K W (iEnumB K ta) (zEnumB za) := fun F ρ σ H Qz Ez R g e hz q x => by
  refine h F ρ σ H _ Ez _ g e hz (fun r v H1 r1 d1 q1 => ?_) x
  obtain ⟨ds, hz, q1⟩ := q1
  rcases hz with rfl | rfl
  · obtain ⟨u, rfl, d⟩ := d1.one
    obtain ⟨p, xs, rfl, hs, ha⟩ := rz_list d
    exact ⟨p, xs, rfl, .inl ⟨Le.hid_self.seqL hs, q _ _ H1 r1 (walk_e hs ha) q1⟩⟩
  · obtain ⟨u, rfl, d⟩ := d1.one
    obtain ⟨p, xs, rfl, hs, ha⟩ := rz_tuple d
    exact ⟨p, xs, rfl, .inr ⟨Le.hid_self.seqT hs, q _ _ H1 r1 (walk_eT hs ha) q1⟩⟩
section
variable {X : Cx} {a b c e f o : Expr} {te ta tb tc : TE} {ze za zb zc : ZE} {as : TA} {zs : ZA} {pos p cpos apos : Pos}
theorem pzi_enumB {elts : List Expr} {kk : Nat} {tpos : Pos} (hm : X.mg "enumerate" = none) (h : PZA K X W [e] as zs) (hg : Gl X "enumerate" := by rfl) (hs : starEach [e] X.env = [(false, eval e X.env)] := by rfl) (hK : X.K = K := by rfl) : PZI K X W (.Tuple elts kk tpos) (.Call (.Name "enumerate" p) [e] [] pos) (iEnumB K as) (zEnumB zs) := by
  subst hK
  exact ⟨pi_enumB hg hm h.pe hs, tr_enumB h.tr⟩
theorem pz_mulC (ha : PZ K X W a ta za) (hb : PZ K X W b tb zb) (hK : X.K = K := by rfl) : PZ K X W (.BinOp a .Mult b pos) (tOp (rMulC K) ta tb) (zTwo (k2 dMulC) za zb) := by
  subst hK
  exact ⟨pe_op op_mulC ha.pe hb.pe, tr_op oz_mulC ha.tr hb.tr⟩
theorem pz_dget (hu : X.A.units + 64 < cLine) (ha : PZ K X W a ta za) (hb : PZ K X W b tb zb) (hs : NoSl b) : PZ K X W (.Subscript a b pos) (tDGet ta tb) (zDGet za zb) :=
  ⟨pe_dget (by omega) ha.pe hb.pe hs, tr_dget ha.tr hb.tr⟩
theorem pz_dget2 (hu : X.A.units + 64 < cLine) (ho : PZ K X W o ta za) (he : PZ K X W e tb zb) (hf : PZ K X W f tc zc) 
    (hbase : attributeBase o "get" X.env (eval o X.env) = eval o X.env := by rfl)
    (few : ((backTo cpos (starEach [e, f] X.env)).all (fun x => !x.1) && (backToKw cpos (keywordEach [] X.env)).all (fun x => x.1.isSome)
      && decide (([e, f] : List Expr).length + ([] : List Keyword).length + (if ([] : List Keyword).isEmpty then 0 else 1) < 30)) = true := by rfl)
    (line : (apos.endLine == cpos.line) = true := by rfl) (trees : backTo cpos (starEach [e, f] X.env) = [(false, eval e X.env), (false, eval f X.env)] := by rfl) :
    PZ K X W (.Call (.Attribute o "get" apos) [e, f] [] cpos) (tDGet2 ta tb tc) (zDGet2 za zb zc) :=
  ⟨pe_dget2 (by omega) ho.pe he.pe hf.pe ⟨hbase, few, line, trees⟩, tr_dget2 ho.tr he.tr hf.tr⟩
theorem pzn_list (hm : X.mg "list" = none) (h : PZA K X W [e] as zs) (hg : Gl X "list" := by rfl)
    (he : starEach [e] X.env = (false, eval e X.env) :: starEach [] X.env := by rfl) (hpl : (backTo pos (starEach [] X.env)).any (·.1) = false := by rfl) (hK : X.K = K := by rfl) :
    PZN K X W (.Call (.Name "list" p) [e] [] pos) (tCB (fun xs H Q => ∃ p ys, xs = [.ref p] ∧ (SqL K H p ys ∨ SqT K H p ys) ∧ ∀ l, H l = none → Q (.ref l) (upd H l (.lst ys))) as) (zListN zs) := by
  subst hK
  exact ⟨by first | exact pe_callTy call_list_of hg hm (by decide +kernel) h.pe (by decide) (by decide) he hpl | exact pe_callTy call_list_of hg hm (by decide +kernel) h.pe (by decide) (by decide), tr_listN h.tr⟩
theorem pzs_extendB {i : Nat} {x : Str} {p2 apos pos' : Pos} (hN : X.N[i]? = some x) (hv : Vis X.env.scope x) (h : PZ K X W e te ze) (hd : (x == ("__debug__" : Str)) = false := by decide) (hcd : (x == ("__classdict__" : Str)) = false := by decide) (hpe : PE X (.Name x p2) (tVar i) → PE X e te → PS X (.Expr (.Call (.Attribute (.Name x p2) "extend" apos) [e] [] pos) pos') (tDrop (tBM K "list" (rExtendB K) (tVar i) (tCons te tNil)))) :
    PZS K X W (.Expr (.Call (.Attribute (.Name x p2) "extend" apos) [e] [] pos) pos') (tDrop (tBM K "list" (rExtendB K) (tVar i) (tCons te tNil))) (zExtendB i ze) :=
  ⟨hpe (pe_var hN hv hd hcd) h.pe, tr_extendB h.tr⟩
end
end Zl
end
section
/-! ZP: the small steps, further -/
namespace Zl
open PySem PySem.Spec PyProof.Rows L2 Kb
variable [Tabd]
section
variable {i j : Int} {ds : List PyData} {Q : Z → Prop}
theorem mulC_int : dMulC (.int i) (.int j) Q = (i.natAbs.log2 + j.natAbs.log2 < 1000000 ∧ Q (.dat (.int (i * j)))) := rfl
theorem mulC_tuple : dMulC (.tuple ds) (.int j) Q = ((-1000 ≤ j ∧ j ≤ 1000 ∧ ds.length ≤ 1000) ∧ Q (.dat (.tuple (List.replicate j.toNat ds).flatten))) := rfl
theorem mulC_list : dMulC (.list ds) (.int j) Q = ((-1000 ≤ j ∧ j ≤ 1000 ∧ ds.length ≤ 1000) ∧ Q (.dat (.list (List.replicate j.toNat ds).flatten))) := rfl
end
end Zl
end
local macro_rules | `(tactic| walk_at "zw") => `(tactic| simp only [Zl.zAug, Zl.zPar3, Zl.zExtendB, Zl.zListN, Zl.zEnumB, Zl.zDGet, Zl.zDGet2, Zl.zSortK, Zl.zAsgX, Zl.zPure, Zl.kAddI, Zl.dg_str, Zl.dg2_str, Zl.mulC_list, Zl.mulC_int, Zl.mulC_tuple, Zl.zPar, PyData.dict.injEq, Zl.zSeq, Zl.zNext, Zl.zIfS, Zl.zRet, Zl.zRetN, Zl.zAsg, Zl.zName, Zl.zOr, Zl.zAnd, Zl.zNot, Zl.zB, Zl.zTru, Zl.zOne, Zl.zTwo, Zl.zVar, Zl.zC, Zl.zCB, Zl.zCons, Zl.zNil, Zl.zChain, Zl.zCall, Zl.zAndV, Zl.zOrV, Zl.zNotV, Zl.zIf, Zl.zOfN, Zl.zDrop, Zl.zTup, Zl.zLst, Zl.zLstN, Zl.zNew, Zl.zAppend, Zl.zExtend, Zl.zFreeze, Zl.zLc, Zl.zItems, Zl.zZip, Zl.zSl, Zl.zPart, Zl.zNoPart, Zl.zRng1, Zl.zRng2, Zl.zEnum, Zl.zFor, Zl.tupG_tuple, Zl.gcons_cons, Zl.gnil_nil, Zl.zIndex, Zl.zYes, Zl.zRaise0, Zl.zRaise1, Zl.zLenScr, Zl.zDisp, Zl.zPairs, Zl.zStream, Zl.zSortSet, Zl.k1, Zl.k2, Zl.kl1_dat, Zl.kl1_own, Zl.kl2_dat, Zl.view_dat, Zl.view_own, Zl.free_dat, Zl.free_strm, Zl.free_scr, Zl.out_dat, Zl.out_own, Zl.items_list, Zl.items_tuple, Zl.items_str, Zl.tru_bool, Zl.tru_none, Zl.tru_int, Zl.tru_list, Zl.tru_tuple, Zl.lt_int, Zl.le_int, Zl.gt_int, Zl.ge_int, Zl.lt_str, Zl.le_str, Zl.len_list, Zl.len_tuple, Zl.len_strD, Zl.neg_int, Zl.add_int, Zl.add_str, Zl.add_list, Zl.add_tuple, Zl.add_boolI, Zl.sub_boolI, Zl.sub_intB, Zl.str_bool, Zl.sub_int, Zl.mul_int, Zl.mul_tuple, Zl.mod_int, Zl.div_int, Zl.pow_int, Zl.min_int, Zl.max_int, Zl.abs_intD, Zl.ix_list, Zl.ix_tuple, Zl.ix_str, Zl.slD_list, Zl.slD_tuple, Zl.slD_str, Zl.tuple_list, Zl.tuple_tuple, Zl.list_list, Zl.list_tuple, Zl.rev_tuple, Zl.str_int, Zl.lower_str, Zl.upper_str, Zl.toint_bool, Zl.toint_int, Zl.in_list, Zl.in_tuple, Zl.in_str, Zl.isB_bool, Zl.isN_any, Zl.dats_nil, Zl.dats_cons, Option.map_some, Zl.wipeZ, Zl.startZ, List.map_cons, List.map_nil, List.length_cons, List.length_nil, List.replicate_succ, List.replicate_zero, List.cons_append, List.nil_append, List.set_cons_zero, List.set_cons_succ, List.getElem?_cons_zero, List.getElem?_cons_succ, Nat.sub_self, Nat.reduceAdd, Nat.reduceSub, Nat.reduceLT, Nat.reduceLeDiff, Option.some.injEq, exists_eq_left', exists_eq_left, exists_eq, exists_and_left, true_and, and_true, ne_eq, not_false_eq_true, reduceCtorEq, List.cons.injEq, Zl.Z.dat.injEq, Zl.Z.own.injEq, Zl.Z.scr.injEq, PyData.bool.injEq, PyData.int.injEq, PyData.str.injEq, PyData.tuple.injEq, PyData.list.injEq, and_self, if_true, if_false, Bool.false_eq_true, ite_true, ite_false, Bool.not_true, Bool.not_false, Bool.not_eq_true', decide_eq_true_eq, decide_eq_false_iff_not, decide_true, decide_false, List.mem_cons, List.not_mem_nil, or_false, forall_eq_or_imp, forall_eq, implies_true, List.length_set])
section
/-! ZDo: dicts of one's own -/
namespace Zl
open PySem PySem.Spec PyProof.Rows L2 Kb
variable [Tabd]
variable {K : PySem.W.Frag} {W : WX}
/-- something new, one's own from now on -/
theorem En.fresh {F : Fr} {H H1 : Hp} {ρ : Rho} {σ : L2.St} {i : Nat} {p : Addr} {z : Z} (g : Good F H) (e : En K F H ρ σ) (r1 : Rel F.S F.O H H1) (n1 : H p = none) (hi : i < ρ.length) (hz : RZ K ⟨F.S, p :: F.O, p :: F.N⟩ H1 z (.ref p)) :
    En K ⟨F.S, p :: F.O, p :: F.N⟩ H1 (ρ.set i (some z)) (σ.set i (some (.ref p))) := by
  refine ⟨fun j y hj => ?_, fun j1 j2 es1 es2 u n k1 k2 k3 k4 m1 m2 => ?_, by rw [List.length_set, List.length_set, e.len]⟩
  · by_cases c : i = j
    · subst c
      rw [List.getElem?_set_self hi] at hj
      cases hj
      exact ⟨.ref p, List.getElem?_set_self (by rw [← e.len]; exact hi), hz⟩
    · rw [List.getElem?_set_ne c] at hj ⊢
      obtain ⟨v, e1, e2⟩ := e.at_ j y hj
      exact ⟨v, e1, e2.grow g r1 n1⟩
  · have old : ∀ (j : Nat) es, i ≠ j → es.mine → (ρ.set i (some z))[j]? = some (some es) → (σ.set i (some (V.ref p)))[j]? = some (some u) → u ≠ .ref p := fun j es c m hj hs => by
      rw [List.getElem?_set_ne c] at hj hs
      obtain ⟨v, e1, er⟩ := e.at_ j _ hj
      rw [hs] at e1
      cases e1
      intro q
      subst q
      cases es with
      | own es =>
        obtain ⟨l, ys, e2, e3, e4, e5⟩ := er
        cases e2
        rw [n1] at e4
        cases e4
      | ownD es =>
        obtain ⟨l, ys, e2, e3, e4, e5⟩ := er
        cases e2
        rw [n1] at e4
        cases e4
      | _ => exact m
    have self : ∀ (j : Nat), i = j → (σ.set i (some (V.ref p)))[j]? = some (some u) → u = .ref p := fun j c hs => by
      subst c
      rw [List.getElem?_set_self (by rw [← e.len]; exact hi)] at hs
      cases hs
      rfl
    by_cases c1 : i = j1
    · have u1 := self j1 c1 k3
      have c2 : i ≠ j2 := fun z => n (c1.symm.trans z)
      exact old j2 es2 c2 m2 k2 k4 u1
    · by_cases c2 : i = j2
      · exact old j1 es1 c1 m1 k1 k3 (self j2 c2 k4)
      · rw [List.getElem?_set_ne c1] at k1 k3
        rw [List.getElem?_set_ne c2] at k2 k4
        exact e.df j1 j2 es1 es2 u n k1 k2 k3 k4 m1 m2
/-- name = {} -/
def zNewD (i : Nat) : ZS := fun ρ k => i < ρ.length ∧ k.nx (ρ.set i (some (.ownD [])))
theorem tr_newD {i : Nat} : TrS K W (tAsg tDNewK (gName i)) (zNewD i) := fun F0 H0 F ρ σ H k D g s e hz a p np => by
  have r1 : Rel F.S F.O H (upd H p (.dK [])) := .new np
  have hp : Nf (upd H p (.dK [])) p := ⟨_, upd_same, id⟩
  refine a.nx _ ⟨F.S, p :: F.O, p :: F.N⟩ _ _ (g.grow r1 np hp) (s.grow g r1 np) (Le.grow g r1 np) ?_ hz.2
  exact e.fresh g r1 np hz.1 ⟨p, [], rfl, List.mem_cons_self, upd_same, .nil⟩
/-- a dict of one's own is written -/
theorem En.putD {F : Fr} {H : Hp} {ρ : Rho} {σ : L2.St} {i : Nat} {l : Addr} {ds es : List (PyData × PyData)} {ys : List (Key × V)} (g : Good F H) (e : En K F H ρ σ) (h1 : ρ[i]? = some (some (.ownD ds))) (h2 : σ[i]? = some (some (.ref l))) (hl : l ∈ F.N) (h3 : DzKvs K (hid F.O H) ys es) :
    En K F (upd H l (.dK ys)) (ρ.set i (some (.ownD es))) σ := by
  have lo := g.no l hl
  refine ⟨fun j z hj => ?_, fun j1 j2 e1 e2 u n k1 k2 k3 k4 m1 m2 => ?_, by rw [List.length_set, e.len]⟩
  · by_cases c : i = j
    · subst c
      rw [List.getElem?_set_self (List.getElem?_eq_some_iff.mp h1).1] at hj
      cases hj
      exact ⟨.ref l, h2, l, ys, rfl, hl, upd_same, Dz.monoK (Le.own lo) es h3⟩
    · rw [List.getElem?_set_ne c] at hj
      obtain ⟨v, e1, e2⟩ := e.at_ j z hj
      refine ⟨v, e1, ?_⟩
      cases z with
      | dat d => exact Dz.mono (Le.own lo) d e2
      | strm => exact e2
      | own fs =>
        obtain ⟨q, xs, rfl, e3, e4, e5⟩ := e2
        have nq : q ≠ l := fun z => by
          subst z
          exact e.df i j (.ownD ds) (.own fs) (.ref q) c h1 hj h2 e1 trivial trivial
        exact ⟨q, xs, rfl, e3, by rw [upd_ne nq]; exact e4, Dz.monos (Le.own lo) fs e5⟩
      | ownD fs =>
        obtain ⟨q, xs, rfl, e3, e4, e5⟩ := e2
        have nq : q ≠ l := fun z => by
          subst z
          exact e.df i j (.ownD ds) (.ownD fs) (.ref q) c h1 hj h2 e1 trivial trivial
        exact ⟨q, xs, rfl, e3, by rw [upd_ne nq]; exact e4, Dz.monoK (Le.own lo) fs e5⟩
      | exc _ _ => exact e2
      | exf _ _ _ _ _ => exact RZ.le_exf (Le.own lo) e2
      | clo _ => exact RZ.le_clo (Le.own lo) e2
      | scr ns =>
        obtain ⟨a, e3, e4⟩ := e2
        exact ⟨a, e3, (Le.own lo).seqL e4⟩
  · have back : ∀ (j : Nat) (z : Z), z.mine → (ρ.set i (some (Z.ownD es)))[j]? = some (some z) → ∃ z' : Z, z'.mine ∧ ρ[j]? = some (some z') := fun j z m hj => by
      by_cases c : i = j
      · subst c
        exact ⟨.ownD ds, trivial, h1⟩
      · rw [List.getElem?_set_ne c] at hj
        exact ⟨z, m, hj⟩
    obtain ⟨f1, p1, q1⟩ := back j1 e1 m1 k1
    obtain ⟨f2, p2, q2⟩ := back j2 e2 m2 k2
    exact e.df j1 j2 f1 f2 u n q1 q2 k3 k4 p1 p2
theorem DzKvs.len {H : Hp} : ∀ {kvs : List (Key × V)} {ds : List (PyData × PyData)}, DzKvs K H kvs ds → kvs.length = ds.length
  | _, _, .nil => rfl
  | _, _, .cons _ t => congrArg (· + 1) t.len
/-- name[k] = v -/
def zPutD (i : Nat) (zk zval : ZE) : ZS := fun ρ k => ∃ ds, ρ[i]? = some (some (.ownD ds)) ∧ zval ρ (fun v => zk ρ (fun y => ∃ kk d, v = .dat d ∧ y = .dat (kD kk) ∧ ds.length < line ∧ k.nx (ρ.set i (some (.ownD (dkPut kk d ds))))) (k.ex ρ)) (k.ex ρ)
theorem tr_putD {i : Nat} {ty tv : TE} {zk zval : ZE} (hv : Tr K W tv zval) (hk : Tr K W ty zk) : TrS K W (sDPut (tVar i) ty tv) (zPutD i zk zval) := fun F0 H0 F ρ σ H k D g s e hz a => by
  obtain ⟨ds, h1, hz⟩ := hz
  obtain ⟨u, h2, l, xs, rfl, hl, h3, h4⟩ := e.at_ i _ h1
  refine hv F ρ σ H _ _ _ g e hz (fun r v H1 r1 d1 q1 => ?_) fun x C d H1 r1 d1 h1 => a.ex x C d ρ σ F H1 (g.rel r1) (s.rel r1) (g.le r1) (e.rel g r1) d1 h1
  have g1 := g.rel r1
  have e1 := e.rel g r1
  refine ⟨_, h2, ?_⟩
  refine hk F ρ σ H1 _ _ _ g1 e1 q1 (fun t y H2 r2 d2 q2 => ?_) fun x C d H2 r2 d2 h2 => a.ex x C d ρ σ F H2 (g1.rel r2) (s.rel (r1.trans r2)) (g.le (r1.trans r2)) (e1.rel g1 r2) d2 h2
  obtain ⟨kk, d, rfl, rfl, hn, q2⟩ := q2
  have r12 := r1.trans r2
  have g2 := g.rel r12
  have h3' := r12.kp l _ (g.ns l hl) h3
  have h4' := Dz.monoK (g.le r12) ds h4
  obtain rfl := dz_key (show Dz K _ y (kD kk) from d2)
  have dv : Dz K (hid F.O H2) v d := d1.rel g1 r2
  refine ⟨l, _, rfl, .inl ⟨xs, kk, h3', rfl, Nat.lt_of_lt_of_le (by rw [h4.len]; exact hn) (by decide), rfl⟩, ?_⟩
  exact a.nx _ F σ _ (g2.put hl) ((s.rel r12).put hl) ((g.le r12).trans (Le.own (g.no l hl))) ((e.rel g r12).putD g2 h1 h2 hl (h4'.put dv)) q2
/-- name.setdefault(k, x) -/
def zSetdD (i : Nat) (zk zx : ZE) : ZX := fun ρ Q E => ∃ ds, ρ[i]? = some (some (.ownD ds)) ∧ zk ρ (fun y => zx ρ (fun v => ∃ kk d, y = .dat (kD kk) ∧ v = .dat d ∧ ds.length < line ∧
  (∀ o, dkGet kk ds = some o → Q ρ (.dat o)) ∧ (dkGet kk ds = none → Q (ρ.set i (some (.ownD (dkPut kk d ds)))) (.dat d))) (E)) (E)
theorem tr_setdD {i : Nat} {ty tx : TE} {zk zx : ZE} (hk : Tr K W ty zk) (hx : Tr K W tx zx) : TrX K W (tDSetd (tVar i) ty tx) (zSetdD i zk zx) := fun F ρ σ H Qz Ez Q g e hz q x => by
  obtain ⟨ds, h1, hz⟩ := hz
  obtain ⟨u, h2, l, xs, rfl, hl, h3, h4⟩ := e.at_ i _ h1
  refine ⟨_, h2, l, rfl, .inl ⟨xs, .inl h3⟩, ?_⟩
  refine hk F ρ σ H _ _ _ g e hz (fun r v H1 r1 d1 q1 => ?_) x
  have g1 := g.rel r1
  have e1 := e.rel g r1
  refine hx F ρ σ H1 _ _ _ g1 e1 q1 (fun t y H2 r2 d2 q2 => ?_) fun x' C d H2 r2 hx' => x x' C d H2 (r1.trans r2) hx'
  obtain ⟨kk, d, rfl, rfl, hn, qs, qn⟩ := q2
  have r12 := r1.trans r2
  have g2 := g.rel r12
  have e2 := e.rel g r12
  have h3' := r12.kp l _ (g.ns l hl) h3
  have h4' := Dz.monoK (g.le r12) ds h4
  obtain rfl := dz_key (show Dz K _ v (kD kk) from d1)
  refine ⟨xs, kk, h3', rfl, Nat.lt_of_lt_of_le (by rw [h4.len]; exact hn) (by decide), fun w hw => ?_, fun hw => ?_⟩
  · rcases h4'.val kk with ⟨n, _⟩ | ⟨w', o, b1, b2, b3⟩
    · rw [n] at hw
      cases hw
    · rw [b1] at hw
      cases hw
      exact q ρ (.dat o) _ H2 g2 (.of r12) e2 b3 (qs o b2)
  · rcases h4'.val kk with ⟨_, n⟩ | ⟨w', o, b1, b2, b3⟩
    · have dv : Dz K (hid F.O H2) y d := d2
      exact q _ (.dat d) _ _ (g2.put hl) ((RelW.of r12).trans (.put hl)) (e2.putD g2 h1 h2 hl (h4'.put dv)) (Dz.mono (Le.own (g.no l hl)) d dv) (qn n)
    · rw [b1] at hw
      cases hw
/-- the dict is finished: from here on it is read only -/
def zFreezeD (i : Nat) (z : ZS) : ZS := fun ρ k => ∃ ds, ρ[i]? = some (some (.ownD ds)) ∧ z (ρ.set i (some (.dat (.dict ds)))) k
theorem tr_freezeD (i : Nat) {ts : TS} {z : ZS} (h : TrS K W ts z) : TrS K W ts (zFreezeD i z) := fun F0 H0 F ρ σ H k D g s e hz a => by
  obtain ⟨ds, h1, hz⟩ := hz
  obtain ⟨v, h2, l, xs, rfl, hl, h3, h4⟩ := e.at_ i _ h1
  have hi := (List.getElem?_eq_some_iff.mp h1).1
  have l0 : ∀ a ∈ F0.O, a ≠ l := fun a ha q => s.ex0 a ha (by rw [q]; exact s.newN l hl)
  have lS : ∀ a ∈ F.S, a ≠ l := fun a ha q => g.ns l hl (by rw [← q]; exact ha)
  have mO : ∀ a, a ∈ F.O.filter (fun b => decide (b ≠ l)) ↔ a ∈ F.O ∧ a ≠ l := fun a => by simp
  have mN : ∀ a, a ∈ F.N.filter (fun b => decide (b ≠ l)) ↔ a ∈ F.N ∧ a ≠ l := fun a => by simp
  have le : Le (hid F.O H) (hid (F.O.filter (fun b => decide (b ≠ l))) H) := Le.sub fun b hb => ((mO b).mp hb).1
  refine h F0 H0 ⟨F.S, F.O.filter (fun b => decide (b ≠ l)), F.N.filter (fun b => decide (b ≠ l))⟩ _ σ H k D ⟨fun a ha => (mO a).mpr ⟨g.so a ha, lS a ha⟩, fun a ha => ?_, fun a ha => g.ns a ((mN a).mp ha).1, g.st, (fun a ha => g.ex a ((mO a).mp ha).1), g.tS, g.tb.sub fun b hb => ((mO b).mp hb).1⟩
    ⟨fun a ha => (mO a).mpr ⟨s.sub a ha, l0 a ha⟩, s.subS, s.newS, fun a ha => s.newN a ((mN a).mp ha).1, fun a ha => s.newO a ((mO a).mp ha).1, s.kp, s.ex0⟩ ⟨fun j z hj => ?_, fun j1 j2 e1 e2 u n k1 k2 k3 k4 m1 m2 => ?_, by rw [List.length_set, e.len]⟩ hz (a.move le)
  · exact (mO a).mpr ⟨g.no a ((mN a).mp ha).1, ((mN a).mp ha).2⟩
  · by_cases c : i = j
    · subst c
      rw [List.getElem?_set_self hi] at hj
      cases hj
      exact ⟨.ref l, h2, Dz.dic (.inl (hid_some.mpr ⟨fun z => ((mO l).mp z).2 rfl, h3⟩)) (Dz.monoK le ds h4)⟩
    · rw [List.getElem?_set_ne c] at hj
      obtain ⟨v, e1, e2⟩ := e.at_ j z hj
      refine ⟨v, e1, ?_⟩
      cases z with
      | dat d => exact Dz.mono le d e2
      | strm => exact e2
      | own fs =>
        obtain ⟨q, ys, rfl, e3, e4, e5⟩ := e2
        have nq : q ≠ l := fun z => by
          subst z
          exact e.df i j (.ownD ds) (.own fs) (.ref q) c h1 hj h2 e1 trivial trivial
        exact ⟨q, ys, rfl, (mN q).mpr ⟨e3, nq⟩, e4, Dz.monos le fs e5⟩
      | ownD fs =>
        obtain ⟨q, ys, rfl, e3, e4, e5⟩ := e2
        have nq : q ≠ l := fun z => by
          subst z
          exact e.df i j (.ownD ds) (.ownD fs) (.ref q) c h1 hj h2 e1 trivial trivial
        exact ⟨q, ys, rfl, (mN q).mpr ⟨e3, nq⟩, e4, Dz.monoK le fs e5⟩
      | exc _ _ => exact e2
      | exf _ _ _ _ _ => exact RZ.le_exf le e2
      | clo _ => exact RZ.le_clo le e2
      | scr ns =>
        obtain ⟨a, e3, e4⟩ := e2
        exact ⟨a, e3, le.seqL e4⟩
  · have back : ∀ (j : Nat) (z : Z), z.mine → (ρ.set i (some (Z.dat (.dict ds))))[j]? = some (some z) → ρ[j]? = some (some z) := fun j z m hj => by
      by_cases c : i = j
      · subst c
        rw [List.getElem?_set_self hi] at hj
        cases hj
        exact m.elim
      · rw [List.getElem?_set_ne c] at hj
        exact hj
    exact e.df j1 j2 e1 e2 u n (back j1 e1 m1 k1) (back j2 e2 m2 k2) k3 k4 m1 m2
section
variable {X : Cx} {a b e f : Expr} {te ta tb : TE} {ze za zb : ZE} {pos p apos cpos : Pos}
theorem pzs_newD {i : Nat} {x : Str} {pos' : Pos} (hN : X.N.Nodup) (hi : X.N[i]? = some x) (hx : Loc X.env.scope x) (hs : swapsWith (.Dict [] [] p) (some (.Name x pos')) pos.line X.env = pure false := by rfl) (hf : X.fn x = true ∨ X.env.scope.names.lookup x = some .local := by first | exact .inl rfl | exact .inr rfl | assumption) :
    PZS K X W (.Assign [.Name x pos'] (.Dict [] [] p) pos) (tAsg tDNewK (gName i)) (zNewD i) :=
  ⟨ps_set hN hi hx pe_dnewK hs hf, tr_newD⟩
theorem pzs_putD {i : Nat} {x : Str} {p2 pos' : Pos} (hu : X.A.units + 64 < cLine) (hN : X.N[i]? = some x) (hv : Vis X.env.scope x) (hk : PZ K X W a ta za) (he : PZ K X W e te ze) (hd : (x == ("__debug__" : Str)) = false := by decide) (hcd : (x == ("__classdict__" : Str)) = false := by decide)
    (hs : swapsWith e (some (.Subscript (.Name x p2) a pos')) pos.line X.env = pure false := by rfl) :
    PZS K X W (.Assign [.Subscript (.Name x p2) a pos'] e pos) (sDPut (tVar i) ta te) (zPutD i za ze) :=
  ⟨ps_dput (by omega) (pe_var hN hv hd hcd) hk.pe he.pe hs, tr_putD he.tr hk.tr⟩
theorem pzx_setdD {i : Nat} {x : Str} {p2 : Pos} (hN : X.N[i]? = some x) (hv : Vis X.env.scope x) (he : PZ K X W e ta za) (hf : PZ K X W f tb zb) (hd : (x == ("__debug__" : Str)) = false := by decide) (hcd : (x == ("__classdict__" : Str)) = false := by decide)
    (hbase : attributeBase (.Name x p2) "setdefault" X.env (eval (.Name x p2) X.env) = eval (.Name x p2) X.env := by rfl)
    (few : ((backTo cpos (starEach [e, f] X.env)).all (fun x => !x.1) && (backToKw cpos (keywordEach [] X.env)).all (fun x => x.1.isSome)
      && decide (([e, f] : List Expr).length + ([] : List Keyword).length + (if ([] : List Keyword).isEmpty then 0 else 1) < 30)) = true := by rfl)
    (line : (apos.endLine == cpos.line) = true := by rfl) (trees : backTo cpos (starEach [e, f] X.env) = [(false, eval e X.env), (false, eval f X.env)] := by rfl) :
    PZX K X W (.Call (.Attribute (.Name x p2) "setdefault" apos) [e, f] [] cpos) (tDSetd (tVar i) ta tb) (zSetdD i za zb) :=
  ⟨pe_dsetd (pe_var hN hv hd hcd) he.pe hf.pe ⟨hbase, few, line, trees⟩, tr_setdD he.tr hf.tr⟩
variable {ss : List Stmt} {us : TS} {zr : ZS}
theorem pzb_freezeD (i : Nat) (t : PZB K X W ss us zr) : PZB K X W ss us (zFreezeD i zr) := ⟨t.pe, tr_freezeD i t.tr⟩
end
end Zl
end
section
/-! ZLc: comprehensions with two fors -/
namespace Zl
open PySem PySem.Spec PyProof.Rows L2 Kb
variable [Tabd]
variable {K : PySem.W.Frag} {W : WX}
/-- all but the streams and one object stands -/
structure RelB (D : Addr) (S O : List Addr) (H H' : Hp) : Prop where
  kp : ∀ b o, b ∉ S → b ≠ D → H b = some o → H' b = some o
  st : ∀ a ∈ S, a ∉ tabs → StOk H a → StOk H' a
  tb : TabG O H → TabG O H'
theorem RelB.of {D : Addr} {S O : List Addr} {H H' : Hp} (r : Rel S O H H') : RelB D S O H H' := ⟨fun b o n _ e => r.kp b o n e, r.st, r.tb⟩
theorem RelB.trans {D : Addr} {S O : List Addr} {A B C : Hp} (x : RelB D S O A B) (y : RelB D S O B C) : RelB D S O A C := ⟨fun b o n m e => y.kp b o n m (x.kp b o n m e), fun a h t e => y.st a h t (x.st a h t e), fun h => y.tb (x.tb h)⟩
theorem RelB.put {D : Addr} {S O : List Addr} {H : Hp} {o : HO} (n : D ∉ S) (ho : D ∈ O) (ht : D ∉ tabs) : RelB D S O H (upd H D o) :=
  ⟨fun b u _ m e => by rw [upd_ne m]; exact e, fun a h _ e => e.same (upd_ne (fun z => n (by rw [← z]; exact h))), fun h => h.own ho ht⟩
theorem Good.relB {F : Fr} {H H' : Hp} {D : Addr} (g : Good F H) (r : RelB D F.S F.O H H') (h : H' D ≠ none) : Good F H' :=
  ⟨g.so, g.no, g.ns, fun a h t => r.st a h t (g.st a h t), fun a hm => by
    by_cases c : a = D
    · rw [c]; exact h
    · by_cases n : a ∈ F.S
      · by_cases t : a ∈ tabs
        · exact (r.tb g.tb).some t
        · exact (r.st a n t (g.st a n t)).some
      · cases e : H a with
        | none => exact absurd e (g.ex a hm)
        | some o =>
          rw [r.kp a o n c e]
          exact (fun q => (nomatch q)), g.tS, r.tb g.tb⟩
theorem Good.leB {F : Fr} {H H' : Hp} {D : Addr} (g : Good F H) (hO : D ∈ F.O) (r : RelB D F.S F.O H H') : Le (hid F.O H) (hid F.O H') := Le.hid fun b o n e => r.kp b o (fun z => n (g.so b z)) (fun z => n (by rw [z]; exact hO)) e
theorem RZ.relB {F : Fr} {H H' : Hp} {D : Addr} (g : Good F H) (hO : D ∈ F.O) (hN : D ∉ F.N) (r : RelB D F.S F.O H H') {z : Z} {v : V} (h : RZ K F H z v) : RZ K F H' z v := by
  have l := g.leB hO r
  cases z with
  | dat d => exact Dz.mono l d h
  | strm => exact h
  | own ds =>
    obtain ⟨q, xs, e1, e2, e3, e4⟩ := h
    exact ⟨q, xs, e1, e2, r.kp q _ (g.ns q e2) (fun z => hN (by rw [← z]; exact e2)) e3, Dz.monos l ds e4⟩
  | ownD ds =>
    obtain ⟨q, xs, e1, e2, e3, e4⟩ := h
    exact ⟨q, xs, e1, e2, r.kp q _ (g.ns q e2) (fun z => hN (by rw [← z]; exact e2)) e3, Dz.monoK l ds e4⟩
  | exc _ _ => exact h
  | exf _ _ _ _ _ => exact RZ.le_exf l h
  | clo _ => exact RZ.le_clo l h
  | scr ns =>
    obtain ⟨a, e1, e2⟩ := h
    exact ⟨a, e1, l.seqL e2⟩
theorem En.relB {F : Fr} {H H' : Hp} {D : Addr} {ρ : Rho} {σ : L2.St} (g : Good F H) (hO : D ∈ F.O) (hN : D ∉ F.N) (r : RelB D F.S F.O H H') (e : En K F H ρ σ) : En K F H' ρ σ :=
  ⟨fun i z h => by
    obtain ⟨v, h1, h2⟩ := e.at_ i z h
    exact ⟨v, h1, h2.relB g hO hN r⟩, e.df, e.len⟩
def zLc2Go (vs1 : List Nat) (g : ZG) (t : ZT) (a1 : ZI) (g1 : ZG) (t1 : ZT) (e : ZE) (ρ : Rho) : List PyData → List PyData → (List PyData → Prop) → Prop
  | [], acc, Q => Q acc
  | d :: r, acc, Q => g (.dat d) ρ fun ρ2 => t ρ2 (fun b => if b = true then a1 ρ2 (fun ds1 => zLcGo g1 t1 e (wipeZ ρ2 vs1) ds1 acc fun acc' => zLc2Go vs1 g t a1 g1 t1 e ρ r acc' Q) (fun _ => False) else zLc2Go vs1 g t a1 g1 t1 e ρ r acc Q) (fun _ => False)
def zLc2 (vs vs1 : List Nat) (a : ZI) (g : ZG) (t : ZT) (a1 : ZI) (g1 : ZG) (t1 : ZT) (e : ZE) : ZN := fun ρ Q E => a ρ (fun ds => zLc2Go vs1 g t a1 g1 t1 e (wipeZ ρ vs) ds [] Q) E
theorem tr_lc2 {sl sl1 vs vs1 : List Nat} {wi wi1 : TI} {tg tg1 : TG} {tt tt1 : TT} {te : TE} {za za1 : ZI} {zg zg1 : ZG} {zt zt1 : ZT} {ze : ZE} (h : TrI K W wi za) (hg : TrG K sl tg zg) (hs : ∀ i ∈ sl, i ∈ vs) (ht : TrT K WF tt zt) (h1' : TrI K WF wi1 za1) (hg1 : TrG K sl1 tg1 zg1) (hs1 : ∀ i ∈ sl1, i ∈ vs1) (ht1 : TrT K WF tt1 zt1) (he : Tr K WF te ze) :
    TrN K W (tLc2 wi tg tt wi1 tg1 tt1 te vs vs1) (zLc2 vs vs1 za zg zt za1 zg1 zt1 ze) := fun F ρ σ H Qz Ez Q g e hz q x => by
  refine h F ρ σ H _ Ez _ g e hz (fun ds J H1 r1 wk q1 => ?_) x
  intro D nD
  have g1 := g.rel r1
  have e1 := e.rel g r1
  have nD0 := r1.none_back g nD
  have nS : D ∉ F.S := fun z => g1.some z nD
  have nN : D ∉ F.N := fun z => g1.ex D (g1.no D z) nD
  have own : D ∈ D :: F.O := List.mem_cons_self
  refine ⟨fun i m H' => m + i = ds.length ∧ Rel F.S F.O H1 H' ∧ ∃ acc av, H' D = some (.lst av) ∧ DzAll K (hid (D :: F.O) H') av acc ∧ zLc2Go vs1 zg zt za1 zg1 zt1 ze (wipeZ ρ vs) (ds.drop i) acc Qz, ⟨ds.length, rfl, .new nD, [], [], upd_same, .nil, q1⟩, fun i m H' hw => ?_⟩
  obtain ⟨hm, r', acc, av, hD, hav, q'⟩ := hw
  have g' := (g1.rel r').hide (p := D) ⟨_, hD, id⟩
  have l' := Le.grow g1 r' nD
  obtain ⟨w1, w2⟩ := wk _ H' l' g'
  have e' : En K ⟨F.S, D :: F.O, F.N⟩ H' (wipeZ ρ vs) (wipe σ vs) := (e1.hide g1 r' nD).wipe vs
  by_cases hi : i < ds.length
  · have hd : ds[i]? = some ds[i] := List.getElem?_eq_getElem hi
    rw [List.drop_eq_getElem_cons hi] at q'
    obtain ⟨go, yl⟩ := w1 i _ hd
    refine .inr ⟨go, fun H' => m - 1 + (i + 1) = ds.length ∧ Rel F.S F.O H1 H' ∧ ∃ acc av, H' D = some (.lst av) ∧ DzAll K (hid (D :: F.O) H') av acc ∧ zLc2Go vs1 zg zt za1 zg1 zt1 ze (wipeZ ρ vs) (ds.drop (i + 1)) acc Qz, fun H2 h2 => ⟨m - 1, by omega, h2⟩, fun y H3 y3 => ?_⟩
    obtain ⟨r3, d3⟩ := yl y H3 y3
    have nF : Nf H' D := ⟨_, hD, id⟩
    have r3' : Rel F.S (D :: F.O) H' H3 := r3
    refine hg _ _ _ H3 _ y _ _ (g'.rel r3) (e'.rel g' r3) d3 trivial q' fun ρ4 σ4 e4 w4 q4 => ?_
    refine ⟨(w4 vs hs).trans (wipe_wipe vs), ?_⟩
    refine ht _ ρ4 σ4 H3 _ _ _ (g'.rel r3) e4 q4 (fun b H5 r5 q5 => ?_) fun _ _ _ _ _ _ z => z.elim
    have r35 : Rel F.S (D :: F.O) H' H5 := r3'.trans r5
    cases b with
    | false => exact ⟨by omega, r'.trans (r35.unhide nF), acc, av, r35.kp D _ nS hD, Dz.monos (g'.le r35) acc hav, q5⟩
    | true =>
      have g5 := g'.rel r35
      refine h1' _ ρ4 σ4 H5 _ _ _ g5 (e4.rel (g'.rel r3) r5) q5 (fun ds1 J1 H6 r6 wk1 q6 => ?_) fun _ _ _ _ _ _ z => z.elim
      have g6 := g5.rel r6
      have e6 : En K ⟨F.S, D :: F.O, F.N⟩ H6 ρ4 σ4 := (e4.rel (g'.rel r3) r5).rel g5 r6
      have r36 : Rel F.S (D :: F.O) H' H6 := r35.trans r6
      refine ⟨fun j k H7 => k + j = ds1.length ∧ Rel F.S F.O H1 H7 ∧ RelB D F.S (D :: F.O) H6 H7 ∧ ∃ acc av, H7 D = some (.lst av) ∧ DzAll K (hid (D :: F.O) H7) av acc ∧ zLcGo zg1 zt1 ze (wipeZ ρ4 vs1) (ds1.drop j) acc (fun acc' => zLc2Go vs1 zg zt za1 zg1 zt1 ze (wipeZ ρ vs) (ds.drop (i + 1)) acc' Qz),
        ⟨ds1.length, rfl, r'.trans (r36.unhide nF), .of (.refl _ _ _), acc, av, r36.kp D _ nS hD, Dz.monos (g'.le r36) acc hav, q6⟩, fun j k H7 hw7 => ?_⟩
      obtain ⟨hk, r7, b7, acc7, av7, hD7, hav7, q7⟩ := hw7
      have g7 : Good ⟨F.S, D :: F.O, F.N⟩ H7 := g6.relB b7 (by rw [hD7]; exact fun z => (nomatch z))
      have e7 : En K ⟨F.S, D :: F.O, F.N⟩ H7 (wipeZ ρ4 vs1) (wipe σ4 vs1) := (e6.relB g6 own nN b7).wipe vs1
      obtain ⟨x1, x2⟩ := wk1 _ H7 (g6.leB own b7) g7
      by_cases hj : j < ds1.length
      · have hd1 : ds1[j]? = some ds1[j] := List.getElem?_eq_getElem hj
        rw [List.drop_eq_getElem_cons hj] at q7
        obtain ⟨go1, yl1⟩ := x1 j _ hd1
        refine .inr ⟨go1, fun H7 => k - 1 + (j + 1) = ds1.length ∧ Rel F.S F.O H1 H7 ∧ RelB D F.S (D :: F.O) H6 H7 ∧ ∃ acc av, H7 D = some (.lst av) ∧ DzAll K (hid (D :: F.O) H7) av acc ∧ zLcGo zg1 zt1 ze (wipeZ ρ4 vs1) (ds1.drop (j + 1)) acc (fun acc' => zLc2Go vs1 zg zt za1 zg1 zt1 ze (wipeZ ρ vs) (ds.drop (i + 1)) acc' Qz), fun H2 h2 => ⟨k - 1, by omega, h2⟩, fun y H8 y8 => ?_⟩
        obtain ⟨r8, d8⟩ := yl1 y H8 y8
        have nF7 : Nf H7 D := ⟨_, hD7, id⟩
        have r8' : Rel F.S (D :: F.O) H7 H8 := r8
        refine hg1 _ _ _ H8 _ y _ _ (g7.rel r8) (e7.rel g7 r8) d8 trivial q7 fun ρ9 σ9 e9 w9 q9 => ?_
        refine ⟨(w9 vs1 hs1).trans (wipe_wipe vs1), ?_⟩
        refine ht1 _ ρ9 σ9 H8 _ _ _ (g7.rel r8) e9 q9 (fun b H9 r9 q9 => ?_) fun _ _ _ _ _ _ z => z.elim
        have r89 : Rel F.S (D :: F.O) H7 H9 := r8'.trans r9
        cases b with
        | false => exact ⟨by omega, r7.trans (r89.unhide nF7), b7.trans (.of r89), acc7, av7, r89.kp D _ nS hD7, Dz.monos (g7.le r89) acc7 hav7, q9⟩
        | true =>
          refine he _ ρ9 σ9 H9 _ _ _ (g7.rel r89) (e9.rel (g7.rel r8) r9) q9 (fun z v H10 r10 d10 q10 => ?_) fun _ _ _ _ _ _ z => z.elim
          obtain ⟨xd, rfl, hl, q10⟩ := q10
          have r810 : Rel F.S (D :: F.O) H7 H10 := r89.trans r10
          have h10 := r810.kp D _ nS hD7
          have hav10 := Dz.monos (g7.le r810) acc7 hav7
          refine ⟨av7, h10, Nat.lt_of_lt_of_le (by rw [hav7.len]; exact hl) (by decide), by omega, ⟨fun b o nb eb => ?_, fun a ha ta sa => ?_, fun _ => ((g7.rel r810).tb.own own fun t => nS (g.tS D t)).sub fun _ hb => List.mem_cons_of_mem _ hb⟩, (b7.trans (.of r810)).trans (.put nS own fun t => nS (g.tS D t)), acc7 ++ [xd], av7 ++ [v], upd_same, Dz.monos (Le.own own) _ (hav10.app (.cons d10 .nil)), q10⟩
          · rw [upd_ne (ne_of_none eb nD)]
            exact r810.kp b o nb (r7.kp b o nb eb)
          · exact (r810.st a ha ta (r7.st a ha ta sa)).same (upd_ne (fun z => nS (by rw [← z]; exact ha)))
      · have e0 : j = ds1.length := by omega
        subst e0
        rw [List.drop_length] at q7
        exact .inl ⟨x2, by omega, r7, acc7, av7, hD7, hav7, q7⟩
  · have e0 : i = ds.length := by omega
    subst e0
    rw [List.drop_length] at q'
    exact .inl ⟨w2, q acc D av H' (r1.trans r') nD0 hD hav q'⟩
section
variable {X : Cx} {pos : Pos}
theorem pzn_lc2 {sl sl1 vs1 : List Nat} {elt tg iter tg1 iter1 : Expr} {ifs ifs1 : List Expr} {scope : Scope} {own : List (Str × Nat)} {wi wi1 : TI} {zi zi1 : ZI} {g g1 : TG} {zg zg1 : ZG} {tt tt1 : TT} {zt zt1 : ZT} {te : TE} {ze : ZE} (hc : X.calm = true) (hN : X.N.Nodup) (hi : PZI K X W tg iter wi zi) (ok : BlkOk X.N X.env.scope scope own)
    (hg : ∀ (s : Shared) (H : Hp) (C : Addr) (cl : List (Str × Addr)) (fp : List Addr), PZG K (X.blk s H scope (compEnvC scope cl C X.env) fp) sl tg g zg) (ht : ∀ (s : Shared) (H : Hp) (C : Addr) (cl : List (Str × Addr)) (fp : List Addr), PZTs K (X.blk s H scope (compEnvC scope cl C X.env) fp) WF ifs tt zt)
    (hi1 : ∀ (s : Shared) (H : Hp) (C : Addr) (cl : List (Str × Addr)) (fp : List Addr), PZI K (X.blk s H scope (compEnvC scope cl C X.env) fp) WF tg1 iter1 wi1 zi1)
    (hg1 : ∀ (s : Shared) (H : Hp) (C : Addr) (cl : List (Str × Addr)) (fp : List Addr), PZG K (X.blk s H scope (compEnvC scope cl C X.env) fp) sl1 tg1 g1 zg1) (ht1 : ∀ (s : Shared) (H : Hp) (C : Addr) (cl : List (Str × Addr)) (fp : List Addr), PZTs K (X.blk s H scope (compEnvC scope cl C X.env) fp) WF ifs1 tt1 zt1)
    (he : ∀ (s : Shared) (H : Hp) (C : Addr) (cl : List (Str × Addr)) (fp : List Addr), PZ K (X.blk s H scope (compEnvC scope cl C X.env) fp) WF elt te ze) (hv : (vs1.all fun i => (own.map (·.2)).contains i) = true := by rfl) (hsl : (sl.all fun i => (own.map (·.2)).contains i) = true := by rfl) (hsl1 : (sl1.all fun i => vs1.contains i) = true := by rfl)
    (hs : ∀ x, foldedSetIterable iter X.env x = pure x := by intro _; rfl) (hs1 : ∀ env x, foldedSetIterable iter1 env x = pure x := by intro _ _; rfl) (hK : X.K = K := by rfl) :
    PZN K X W (.ListComp elt [⟨tg, iter, ifs, 0⟩, ⟨tg1, iter1, ifs1, 0⟩] scope pos) (tLc2 wi g tt wi1 g1 tt1 te (own.map (·.2)) vs1) (zLc2 (own.map (·.2)) vs1 zi zg zt zi1 zg1 zt1 ze) := by
  subst hK
  exact ⟨pe_lc2 hc hN hi.pe ok (fun i hi => by simpa using List.all_eq_true.mp hv i hi) (fun s H C cl fp => (hg s H C cl fp).pe) (fun s H C cl fp => (ht s H C cl fp).pe) (fun s H C cl fp => (hi1 s H C cl fp).pe) (fun s H C cl fp => (hg1 s H C cl fp).pe) (fun s H C cl fp => (ht1 s H C cl fp).pe) (fun s H C cl fp => (he s H C cl fp).pe) hs hs1,
      tr_lc2 hi.tr (hg X.s_0 X.H_0 0 [] []).tr (fun i hi => by simpa using List.all_eq_true.mp hsl i hi) (ht X.s_0 X.H_0 0 [] []).tr (hi1 X.s_0 X.H_0 0 [] []).tr (hg1 X.s_0 X.H_0 0 [] []).tr (fun i hi => by simpa using List.all_eq_true.mp hsl1 i hi) (ht1 X.s_0 X.H_0 0 [] []).tr (he X.s_0 X.H_0 0 [] []).tr⟩
theorem pzs_setLc2 {i : Nat} {y : Str} {py spos : Pos} {sl sl1 vs1 : List Nat} {elt tg iter tg1 iter1 : Expr} {ifs ifs1 : List Expr} {scope : Scope} {own : List (Str × Nat)} {wi wi1 : TI} {zi zi1 : ZI} {g g1 : TG} {zg zg1 : ZG} {tt tt1 : TT} {zt zt1 : ZT} {te : TE} {ze : ZE} (hc : X.calm = true) (hN : X.N.Nodup) (hy : X.N[i]? = some y) (hyl : X.env.scope.names.lookup y = some .local) (hsw : swapsWith (.ListComp elt [⟨tg, iter, ifs, 0⟩, ⟨tg1, iter1, ifs1, 0⟩] scope pos) (some (.Name y py)) spos.line X.env = pure true) (hi : PZI K X W tg iter wi zi) (ok : BlkOk X.N X.env.scope scope own)
    (hg : ∀ (s : Shared) (H : Hp) (C : Addr) (cl : List (Str × Addr)) (fp : List Addr), PZG K (X.blk s H scope (compEnvC scope cl C X.env) fp) sl tg g zg) (ht : ∀ (s : Shared) (H : Hp) (C : Addr) (cl : List (Str × Addr)) (fp : List Addr), PZTs K (X.blk s H scope (compEnvC scope cl C X.env) fp) WF ifs tt zt)
    (hi1 : ∀ (s : Shared) (H : Hp) (C : Addr) (cl : List (Str × Addr)) (fp : List Addr), PZI K (X.blk s H scope (compEnvC scope cl C X.env) fp) WF tg1 iter1 wi1 zi1)
    (hg1 : ∀ (s : Shared) (H : Hp) (C : Addr) (cl : List (Str × Addr)) (fp : List Addr), PZG K (X.blk s H scope (compEnvC scope cl C X.env) fp) sl1 tg1 g1 zg1) (ht1 : ∀ (s : Shared) (H : Hp) (C : Addr) (cl : List (Str × Addr)) (fp : List Addr), PZTs K (X.blk s H scope (compEnvC scope cl C X.env) fp) WF ifs1 tt1 zt1)
    (he : ∀ (s : Shared) (H : Hp) (C : Addr) (cl : List (Str × Addr)) (fp : List Addr), PZ K (X.blk s H scope (compEnvC scope cl C X.env) fp) WF elt te ze) (hv : (vs1.all fun i => (own.map (·.2)).contains i) = true := by rfl) (hsl : (sl.all fun i => (own.map (·.2)).contains i) = true := by rfl) (hsl1 : (sl1.all fun i => vs1.contains i) = true := by rfl)
    (hs : ∀ x, foldedSetIterable iter X.env x = pure x := by intro _; rfl) (hs1 : ∀ env x, foldedSetIterable iter1 env x = pure x := by intro _ _; rfl) (hK : X.K = K := by rfl) :
    PZS K X W (.Assign [.Name y py] (.ListComp elt [⟨tg, iter, ifs, 0⟩, ⟨tg1, iter1, ifs1, 0⟩] scope pos) spos) (tAsg (tLc2 wi g tt wi1 g1 tt1 te (own.map (·.2)) vs1) (gName i)) (zAsg (zOfN (zLc2 (own.map (·.2)) vs1 zi zg zt zi1 zg1 zt1 ze)) (zName i)) := by
  subst hK
  exact ⟨ps_setLc2 hc hN hy hyl hsw hi.pe ok (fun i hi => by simpa using List.all_eq_true.mp hv i hi) (fun s H C cl fp => (hg s H C cl fp).pe) (fun s H C cl fp => (ht s H C cl fp).pe) (fun s H C cl fp => (hi1 s H C cl fp).pe) (fun s H C cl fp => (hg1 s H C cl fp).pe) (fun s H C cl fp => (ht1 s H C cl fp).pe) (fun s H C cl fp => (he s H C cl fp).pe) hs hs1,
      tr_asg (tr_ofN (tr_lc2 hi.tr (hg X.s_0 X.H_0 0 [] []).tr (fun i hi => by simpa using List.all_eq_true.mp hsl i hi) (ht X.s_0 X.H_0 0 [] []).tr (hi1 X.s_0 X.H_0 0 [] []).tr (hg1 X.s_0 X.H_0 0 [] []).tr (fun i hi => by simpa using List.all_eq_true.mp hsl1 i hi) (ht1 X.s_0 X.H_0 0 [] []).tr (he X.s_0 X.H_0 0 [] []).tr)) tr_name⟩
end
end Zl
end
section
/-! ZTg: try with several clauses; the caught exception's class and its field -/
namespace Zl
open PySem PySem.Spec PyProof.Rows L2 Kb
variable [Tabd]
/-- the caught exception in its slot -/
def excZ (a dd : Addr) (x : Xc) : Z := match x.pay with
  | none => .exc a x.n
  | some (f, pd) => .exf a x.n dd f pd
def dOf (x : Xc) (dd : Addr) : Option Addr := x.pay.map fun _ => dd
theorem excZ_free {a dd : Addr} {x : Xc} : (excZ a dd x).free := by
  unfold excZ
  split <;> exact trivial
/-- a clause in words of data: where the exception's name stands, whom it takes, its suite -/
structure Hz where
  slot : Option Nat
  cau : Str → Bool
  zs : Addr → Addr → Xc → ZS
def Hz.wish (h : Hz) (a dd : Addr) (x : Xc) (ρ : Rho) (k : Kz) : Prop := match h.slot with
  | none => h.zs a dd x ρ ⟨k.nx, k.rt, k.bk, k.ct, fun _ _ => False⟩
  | some i => i < ρ.length ∧ h.zs a dd x (ρ.set i (some (excZ a dd x))) ⟨fun ρ2 => k.nx (ρ2.set i none), k.rt, fun ρ2 => k.bk (ρ2.set i none), fun ρ2 => k.ct (ρ2.set i none), fun _ _ => False⟩
def zHs (k : Kz) : List Hz → Rho → Xc → Prop
  | [], ρ, x => k.ex ρ x
  | h :: r, ρ, x => (h.cau x.n = true → ∀ a dd, h.wish a dd x ρ k) ∧ (h.cau x.n = false → zHs k r ρ x)
def zTryG (names : List Str) (zb : ZS) (hs : List Hz) : ZS := fun ρ k => zb ρ { k with ex := fun ρ' x => x.n ∈ names ∧ zHs k hs ρ' x }
section
variable {K : PySem.W.Frag} {W : WX} {names : List Str}
def tSuiteG (K : PySem.W.Frag) (names : List Str) (ts : Addr → Addr → Xc → TS) (a : Addr) (cls : Value) (d : Option Addr) : TS := fun D σ H => ∃ (x : Xc) (dd : Addr), x.n ∈ names ∧ cls = .ref (clsAt K x.n) ∧ d = dOf x dd ∧ ts a dd x D σ H
inductive TrH (K : PySem.W.Frag) (names : List Str) : List HS → List Hz → Prop
  | nil : TrH K names [] []
  | cons {m : Value → Bool → Prop} {slot : Option Nat} {ts : Addr → Addr → Xc → TS} {cau : Str → Bool} {zs : Addr → Addr → Xc → ZS} {l : List HS} {z : List Hz} (hm : ∀ n ∈ names, m (.ref (clsAt K n)) (cau n)) (ht : ∀ a dd x, x.n ∈ names → TrS K WF (ts a dd x) (zs a dd x)) (r : TrH K names l z) : TrH K names (⟨m, slot, tSuiteG K names ts⟩ :: l) (⟨slot, cau, zs⟩ :: z)
theorem TrH.wg {l : List HS} {z : List Hz} (h : TrH K names l z) : ∀ {F0 F F' : Fr} {H0 H H' : Hp} {k : Kz} {D : Ends} {ρ : Rho} {σ : L2.St} {x : Xc} {C : Value} {d : Option Addr}, Ans K W F0 H0 F H k D → Good F' H' → Si F0 H0 F' H' → Le (hid F.O H) (hid F'.O H') → En K F' H' ρ σ → RX K F' H' x C d → x.n ∈ names → zHs k z ρ x → wG W D l C d σ H' := by
  induction h with
  | nil => exact fun a g s l e r _ hz => a.ex _ _ _ _ _ _ _ g s l e r hz
  | @cons m slot ts cau zs l z hm ht r ih =>
    intro F0 F F' H0 H H' k D ρ σ x C d a g s l e rx hn hz
    obtain ⟨yes, no⟩ := hz
    refine ⟨cau x.n, by rw [rx.1]; exact hm _ hn, fun hc ad na => ?_, fun hc => ih a g s l e rx hn (no hc)⟩
    obtain ⟨rc, rp⟩ := rx
    have key : ∃ dd, d = dOf x dd ∧ RZ K F' H' (excZ ad dd x) (.ref ad) := by
      unfold dOf excZ
      cases hp : x.pay with
      | none =>
        rw [hp] at rp
        exact ⟨0, rp, rfl⟩
      | some y =>
        obtain ⟨f, pd⟩ := y
        rw [hp] at rp
        obtain ⟨dd, u, h1, h2, h3⟩ := rp
        exact ⟨dd, h1, rfl, u, h2, h3⟩
    obtain ⟨dd, hd, rz⟩ := key
    have hw := yes hc ad dd
    have dn : ∀ ρ2 F2 σ2 H2, Good F2 H2 → Si F0 H0 F2 H2 → Le (hid F'.O H') (hid F2.O H2) → En K F2 H2 ρ2 σ2 → k.nx ρ2 → D.nx σ2 H2 := fun ρ2 F2 σ2 H2 g2 s2 l2 e2 q => a.nx _ F2 _ H2 g2 s2 (l.trans l2) e2 q
    cases slot with
    | none =>
      refine ⟨x, dd, hn, rc, hd, ?_⟩
      exact ht ad dd x hn F0 H0 F' _ _ H' _ _ g s e hw ⟨dn, fun ρ2 F2 σ2 H2 g2 s2 l2 e2 q => a.bk _ F2 _ H2 g2 s2 (l.trans l2) e2 q, fun ρ2 F2 σ2 H2 g2 s2 l2 e2 q => a.ct _ F2 _ H2 g2 s2 (l.trans l2) e2 q, a.rt, fun _ _ _ _ _ _ _ _ _ _ _ _ h => h.elim⟩
    | some i =>
      obtain ⟨hi, hw⟩ := hw
      refine ⟨x, dd, hn, rc, hd, ?_⟩
      exact ht ad dd x hn F0 H0 F' _ _ H' _ _ g s (e.set rz excZ_free hi) hw ⟨fun ρ2 F2 σ2 H2 g2 s2 l2 e2 q => a.nx _ F2 _ H2 g2 s2 (l.trans l2) e2.del q, fun ρ2 F2 σ2 H2 g2 s2 l2 e2 q => a.bk _ F2 _ H2 g2 s2 (l.trans l2) e2.del q, fun ρ2 F2 σ2 H2 g2 s2 l2 e2 q => a.ct _ F2 _ H2 g2 s2 (l.trans l2) e2.del q, a.rt, fun _ _ _ _ _ _ _ _ _ _ _ _ h => h.elim⟩
theorem tr_tryG {tb : WX → TS} {zb : ZS} {l : List HS} {z : List Hz} (hb : ∀ W', TrS K W' (tb W') zb) (h : TrH K names l z) : TrS K W (fun D σ H => tb (wG W D l) D σ H) (zTryG names zb z) := fun F0 H0 F ρ σ H k D g s e hz a =>
  hb _ F0 H0 F ρ σ H _ D g s e hz ⟨a.nx, a.bk, a.ct, a.rt, fun x C d ρ' σ' F' H' g' s' l' e' rx hx => h.wg a g' s' l' e' rx hx.1 hx.2⟩
/-! ### the clauses -/
structure PZH (K : PySem.W.Frag) (X : Cx) (names : List Str) (hds : List ExceptHandler) (l : List HS) (z : List Hz) : Prop where
  hg : HG X hds l
  tr : TrH K names l z
variable {X : Cx} {t : Expr} {m : Value → Bool → Prop} {ts : Addr → Addr → Xc → TS} {zs : Addr → Addr → Xc → ZS} {cau : Str → Bool} {b₀ : Stmt} {suite : List Stmt} {pos' pos : Pos} {hds : List ExceptHandler} {l : List HS} {z : List Hz}
abbrev SuiteZ (K : PySem.W.Frag) (X : Cx) (names : List Str) (ss : List Stmt) (ts : Addr → Addr → Xc → TS) (zs : Addr → Addr → Xc → ZS) : Prop := ∀ (a dd : Addr) (x : Xc) (oe : Obj) (pn : List (Addr × Obj)), x.n ∈ names → Zc (.ref (clsAt K x.n)) (dOf x dd) oe → (∃ vs, oe.data = .fields vs) → PZB K (X.suite a ((a, oe) :: pn)) WF ss (ts a dd x) (zs a dd x)
theorem SuiteZ.trs (h : SuiteZ K X names (b₀ :: suite) ts zs) : ∀ a dd x, x.n ∈ names → TrS K WF (ts a dd x) (zs a dd x) := fun a dd x hn => (h a dd x { cls := .ref (clsAt K x.n), dict := dOf x dd, data := .fields #[] } [] hn ⟨rfl, rfl⟩ ⟨_, rfl⟩).tr
theorem SuiteZ.pss (h : SuiteZ K X names (b₀ :: suite) ts zs) (hK : X.K = K) : ∀ (a : Addr) (oe : Obj) (cls : Value) (d : Option Addr) (pn : List (Addr × Obj)), Zc cls d oe → (∃ vs, oe.data = .fields vs) → PSs (X.suite a ((a, oe) :: pn)) (b₀ :: suite) (tSuiteG K names ts a cls d) := fun a oe cls d pn hz hd => ⟨fun pins s σ H D I hh => by
  obtain ⟨x, dd, hn, rfl, rfl, hh⟩ := hh
  exact (h a dd x oe pn hn hz hd).pe.run pins s σ H D I hh⟩
theorem pzh_nil : PZH K X names [] [] [] := ⟨.nil, .nil⟩
theorem pzh_plain (ht : TestG X t m) (hm : ∀ n ∈ names, m (.ref (clsAt K n)) (cau n)) (hs : SuiteZ K X names (b₀ :: suite) ts zs) (r : PZH K X names hds l z) (hK : X.K = K := by rfl) : PZH K X names (.ExceptHandler (some t) none (b₀ :: suite) pos' :: hds) (⟨m, none, tSuiteG K names ts⟩ :: l) (⟨none, cau, zs⟩ :: z) :=
  ⟨.plain ht (hs.pss hK) r.hg, .cons hm hs.trs r.tr⟩
theorem pzh_named {n : Str} {i : Nat} (hi : X.N[i]? = some n) (hln : X.env.kindOf n = some .local) (ht : TestG X t m) (hm : ∀ n ∈ names, m (.ref (clsAt K n)) (cau n)) (hs : SuiteZ K X names (b₀ :: suite) ts zs) (r : PZH K X names hds l z) (hK : X.K = K := by rfl) :
    PZH K X names (.ExceptHandler (some t) (some n) (b₀ :: suite) pos' :: hds) (⟨m, some i, tSuiteG K names ts⟩ :: l) (⟨some i, cau, zs⟩ :: z) :=
  ⟨.named hi hln ht (hs.pss hK) r.hg, .cons hm hs.trs r.tr⟩
/-- except C -/
theorem tgz {x : Str} {np : Pos} {c : Addr} (hm : X.mg x = some (.ref c)) (hg : Gl X x := by rfl) (hdb : (x == ("__debug__" : Str)) = false := by decide) : TestG X (.Name x np) (fun cls b => PySem.W.exmOne X.K cls (.ref c) = some b) := tg_name ⟨hg, hdb, .inl hm⟩
theorem tgz2 {x1 x2 : Str} {n1 n2 np : Pos} {k0 : Nat} {c1 c2 : Addr} (h1 : X.mg x1 = some (.ref c1)) (h2 : X.mg x2 = some (.ref c2)) (hg1 : Gl X x1 := by rfl) (hg2 : Gl X x2 := by rfl) (hd1 : (x1 == ("__debug__" : Str)) = false := by decide) (hd2 : (x2 == ("__debug__" : Str)) = false := by decide)
    (hs1 : starEach [.Name x1 n1, .Name x2 n2] X.env = (false, eval (.Name x1 n1) X.env) :: starEach [.Name x2 n2] X.env := by rfl) (hs2 : starEach [.Name x2 n2] X.env = (false, eval (.Name x2 n2) X.env) :: starEach [] X.env := by rfl) :
    TestG X (.Tuple [.Name x1 n1, .Name x2 n2] k0 np) (fun cls b => PySem.W.exmAny X.K cls [.ref c1, .ref c2] = some b) := tg_two ⟨hg1, hd1, .inl h1⟩ ⟨hg2, hd2, .inl h2⟩ hs1 hs2
theorem pzs_tryG {body : List Stmt} {h₀ : ExceptHandler} {tb : WX → TS} {zb : ZS} (hs : X.stack = X.env :: X.outer) (hf : X.env.frame = some X.env.locals) (hN : X.N.Nodup) (tk : Takes X W)
    (hb : ∀ (W' : WX) (pn : List (Addr × Obj)) (xe : Value → Shared → Prop), Takes (X.tr pn xe) W' → PassesOwn (model X.prog X.w) X.A X.env xe → PZB K (X.tr pn xe) W' body (tb W') zb) (hh : PZH K X names (h₀ :: hds) l z) (hK : X.K = K := by rfl) :
    PZS K X W (.Try body (h₀ :: hds) [] [] pos) (fun D σ H => tb (wG W D l) D σ H) (zTryG names zb z) :=
  ⟨ps_tryG hs hf hN tk (fun W' pn xe t q => (hb W' pn xe t q).pe) hh.hg, tr_tryG (fun W' => (hb W' [] (lookE X) (takes_look hs hf) .looking).tr) hh.tr⟩
/-! ### the caught exception -/
variable {a dd : Addr} {oe : Obj} {pn : List (Addr × Obj)} {x : Xc}
/-- the exception's dict is known -/
def Xd (d : Option Addr) (H : Hp) : Prop := ∀ e, d = some e → ∃ fs, H e = some (.xd fs)
def tIsG (i : Nat) (a : Addr) (d : Option Addr) (b : Bool) : TE := fun σ H Q => σ[i]? = some (some (.ref a)) ∧ Xd d H ∧ Q (.bl b) H
def zIsG (i : Nat) (a dd : Addr) (x : Xc) (b : Bool) : ZE := fun ρ Q _ => ρ[i]? = some (some (excZ a dd x)) ∧ Q (.dat (.bool b))
theorem rz_exc {F : Fr} {H : Hp} {v : V} (h : RZ K F H (excZ a dd x) v) : v = .ref a ∧ Xd (dOf x dd) H := by
  unfold excZ at h
  unfold dOf
  cases hp : x.pay with
  | none =>
    rw [hp] at h
    exact ⟨h, fun e z => nomatch z⟩
  | some y =>
    obtain ⟨f, pd⟩ := y
    rw [hp] at h
    obtain ⟨h1, u, h2, _⟩ := h
    refine ⟨h1, fun e z => ?_⟩
    cases z
    exact ⟨_, (hid_some.mp h2).2⟩
theorem tr_isG {i : Nat} {b : Bool} : Tr K W (tIsG i a (dOf x dd) b) (zIsG i a dd x b) := fun F ρ σ H Qz Ez Q g e hz q _ => by
  obtain ⟨h1, h2⟩ := hz
  obtain ⟨v, e1, e2⟩ := e.at_ i _ h1
  obtain ⟨rfl, hd⟩ := rz_exc e2
  exact ⟨e1, hd, q (.dat (.bool b)) _ H (.refl _ _ _) (Dz.bl b) h2⟩
theorem inst_of {n : Addr} {σ : L2.St} {H : Hp} {s : Shared} {pins : List (Addr × Obj)} {d : Option Addr} (I : Inv (X.suite a ((a, oe) :: pn)) pins σ H s) (hz : Zc (.ref n) d oe) (hf : ∃ vs, oe.data = .fields vs) (hd : Xd d H) : ∃ od, PySem.W.InstAt s.heap a oe n od := by
  obtain ⟨hget, _⟩ := I.pin (a, oe) (List.mem_append.mpr (.inl List.mem_cons_self))
  obtain ⟨vs, hv⟩ := hf
  have no : PySem.W.notCls oe = true := by unfold PySem.W.notCls; rw [hv] <;> rfl
  cases d with
  | none => exact ⟨none, hget, hz.1, no, by rw [hz.2]; trivial⟩
  | some e =>
    obtain ⟨fs, he⟩ := hd e rfl
    obtain ⟨mA, hns, _⟩ := I.hok e _ he
    obtain ⟨od, ho, _⟩ := lookIn_ns hns
    exact ⟨some od, hget, hz.1, no, by rw [hz.2]; exact ho⟩
def rIsG (K : PySem.W.Frag) (D a : Addr) (d : Option Addr) : List V → Hp → VK → Prop := fun xs H Q => Xd d H ∧ ∃ (c : V) (cv : Value) (b : Bool), xs = [.ref a, c] ∧ (∀ u, RelV c u → u = cv) ∧ PySem.W.kitOne K (.ref D) cv = some b ∧ Q (.bl b) H
theorem call_isG {D : Addr} {d : Option Addr} (C : ExcC X.K D) (hz : Zc (.ref D) d oe) (hf : ∃ vs, oe.data = .fields vs) : CallR (X.suite a ((a, oe) :: pn)) (.builtin "isinstance") (rIsG X.K D a d) := by
  intro pins s σ H xs us Q I r h
  obtain ⟨hd, c, cv, b, rfl, one, e, q⟩ := h
  obtain ⟨u1, u2, rfl, r1, r2⟩ := vals2 r
  cases (show u1 = Value.ref a from r1)
  obtain rfl := one _ r2
  obtain ⟨od, J⟩ := inst_of I hz hf hd
  exact PySem.W.kia_one (PySem.W.kitExc C) I.kIn J e (fun z => nomatch z) fun tk => ⟨.bl b, H, I.kept (t' := tk) fun _ _ z => z, rfl, q⟩
theorem pz_isG {i : Nat} {b : Bool} {y c : Str} {v : V} {cv : Value} {p p2 p3 : Pos} (C : ExcC X.K (clsAt K x.n)) (hz : Zc (.ref (clsAt K x.n)) (dOf x dd) oe) (hf : ∃ vs, oe.data = .fields vs) (hm : X.mg "isinstance" = none) (cl : ClsV (X.suite a ((a, oe) :: pn)) c v cv) (e : PySem.W.kitOne K (.ref (clsAt K x.n)) cv = some b)
    (hN : X.N[i]? = some y) (hv : Vis X.env.scope y) (hdb : (y == ("__debug__" : Str)) = false := by decide) (hcd : (y == ("__classdict__" : Str)) = false := by decide) (hg : Gl X "isinstance" := by rfl)
    (he : starEach [.Name y p2, .Name c p3] X.env = (false, eval (.Name y p2) X.env) :: starEach [.Name c p3] X.env := by rfl) (he2 : starEach [.Name c p3] X.env = (false, eval (.Name c p3) X.env) :: starEach [] X.env := by rfl) (hpl : (backTo pos (starEach [.Name c p3] X.env)).any (·.1) = false := by rfl) (hK : X.K = K := by rfl) :
    PZ K (X.suite a ((a, oe) :: pn)) W (.Call (.Name "isinstance" p) [.Name y p2, .Name c p3] [] pos) (tIsG i a (dOf x dd) b) (zIsG i a dd x b) := by
  subst hK
  refine ⟨⟨fun pins s σ H Q I h => ?_⟩, tr_isG⟩
  have pa : PA (X.suite a ((a, oe) :: pn)) [.Name y p2, .Name c p3] (tCons (tVar i) (tCons (tC v) tNil)) := by
    first | exact pa_cons (pe_var hN hv hdb hcd) (pa_cons (cl.pe p3) pa_nil he2) he | exact pa_cons (pe_var hN hv hdb hcd) (pa_cons (cl.pe p3) pa_nil)
  have pe : PE (X.suite a ((a, oe) :: pn)) (.Call (.Name "isinstance" p) [.Name y p2, .Name c p3] [] pos) (tCB (rIsG X.K (clsAt X.K x.n) a (dOf x dd)) (tCons (tVar i) (tCons (tC v) tNil))) := by
    first | exact pe_callB (call_isG C hz hf) hg hm (by decide +kernel) pa (by decide) (by decide) he hpl | exact pe_callB (call_isG C hz hf) hg hm (by decide +kernel) pa (by decide) (by decide)
  exact pe.run pins s σ H Q I ⟨.ref a, h.1, h.2.1, v, cv, b, rfl, cl.one, e, h.2.2⟩
/-- isinstance(e, (A, B)) -/
def tIsG2 (i : Nat) (a : Addr) (d : Option Addr) (b : Bool) (vs : List V) : TE := fun σ H Q => σ[i]? = some (some (.ref a)) ∧ Xd d H ∧ ∀ l, H l = none → Q (.bl b) (upd H l (.tup vs))
theorem tr_isG2 {i : Nat} {b : Bool} {vs : List V} : Tr K W (tIsG2 i a (dOf x dd) b vs) (zIsG i a dd x b) := fun F ρ σ H Qz Ez Q g e hz q _ => by
  obtain ⟨h1, h2⟩ := hz
  obtain ⟨v, e1, e2⟩ := e.at_ i _ h1
  obtain ⟨rfl, hd⟩ := rz_exc e2
  exact ⟨e1, hd, fun l nl => q (.dat (.bool b)) _ _ (.new nl) (Dz.bl b) h2⟩
def rIsGT (K : PySem.W.Frag) (D a : Addr) (d : Option Addr) : List V → Hp → VK → Prop := fun xs H Q => Xd d H ∧ ∃ (p : Addr) (vs : List V) (cvs : List Value) (b : Bool), xs = [.ref a, .ref p] ∧ SqT K H p vs ∧ (∀ us, Vals vs us → us = cvs) ∧ PySem.W.kitAny K (.ref D) cvs = some b ∧ Q (.bl b) H
theorem call_isGT {D : Addr} {d : Option Addr} (C : ExcC X.K D) (hz : Zc (.ref D) d oe) (hf : ∃ vs, oe.data = .fields vs) : CallR (X.suite a ((a, oe) :: pn)) (.builtin "isinstance") (rIsGT X.K D a d) := by
  intro pins s σ H xs us Q I r h
  obtain ⟨hd, p, vs, cvs, b, rfl, ht, one, e, q⟩ := h
  obtain ⟨u1, u2, rfl, r1, r2⟩ := vals2 r
  cases (show u1 = Value.ref a from r1)
  cases (show u2 = Value.ref p from r2)
  obtain ⟨its, rv, ⟨⟨oc, od, oda, osl⟩, ho, hc, n, hdat⟩, _⟩ := I.tuple ht
  obtain rfl := one _ rv
  simp only at hc hdat
  subst hc hdat
  obtain ⟨oi, J⟩ := inst_of I hz hf hd
  exact PySem.W.kia_tup (PySem.W.kitExc C) I.kIn J ho e (fun z => nomatch z) fun tk => ⟨.bl b, H, I.kept (t' := tk) fun _ _ z => z, rfl, q⟩
theorem pz_isG2 {i : Nat} {b : Bool} {y c c' : Str} {v v' : V} {cv cv' : Value} {k0 : Nat} {p p2 p3 p4 p5 : Pos} (C : ExcC X.K (clsAt K x.n)) (hz : Zc (.ref (clsAt K x.n)) (dOf x dd) oe) (hf : ∃ vs, oe.data = .fields vs) (hm : X.mg "isinstance" = none) (cl : ClsV (X.suite a ((a, oe) :: pn)) c v cv) (cl' : ClsV (X.suite a ((a, oe) :: pn)) c' v' cv')
    (e : PySem.W.kitAny K (.ref (clsAt K x.n)) [cv, cv'] = some b) (hN : X.N[i]? = some y) (hv : Vis X.env.scope y) (hdb : (y == ("__debug__" : Str)) = false := by decide) (hcd : (y == ("__classdict__" : Str)) = false := by decide) (hg : Gl X "isinstance" := by rfl)
    (hi : starEach [.Name c p4, .Name c' p5] X.env = (false, eval (.Name c p4) X.env) :: starEach [.Name c' p5] X.env := by rfl) (hi2 : starEach [.Name c' p5] X.env = (false, eval (.Name c' p5) X.env) :: starEach [] X.env := by rfl)
    (he : starEach [.Name y p2, .Tuple [.Name c p4, .Name c' p5] k0 p3] X.env = (false, eval (.Name y p2) X.env) :: starEach [.Tuple [.Name c p4, .Name c' p5] k0 p3] X.env := by rfl)
    (he2 : starEach [.Tuple [.Name c p4, .Name c' p5] k0 p3] X.env = (false, eval (.Tuple [.Name c p4, .Name c' p5] k0 p3) X.env) :: starEach [] X.env := by rfl) (hpl : (backTo pos (starEach [.Tuple [.Name c p4, .Name c' p5] k0 p3] X.env)).any (·.1) = false := by rfl) (hK : X.K = K := by rfl) :
    PZ K (X.suite a ((a, oe) :: pn)) W (.Call (.Name "isinstance" p) [.Name y p2, .Tuple [.Name c p4, .Name c' p5] k0 p3] [] pos) (tIsG2 i a (dOf x dd) b [v, v']) (zIsG i a dd x b) := by
  subst hK
  refine ⟨⟨fun pins s σ H Q I h => ?_⟩, tr_isG2⟩
  have pc : PA (X.suite a ((a, oe) :: pn)) [.Name c p4, .Name c' p5] (tCons (tC v) (tCons (tC v') tNil)) := by
    first | exact pa_cons (cl.pe p4) (pa_cons (cl'.pe p5) pa_nil hi2) hi | exact pa_cons (cl.pe p4) (pa_cons (cl'.pe p5) pa_nil)
  have pa : PA (X.suite a ((a, oe) :: pn)) [.Name y p2, .Tuple [.Name c p4, .Name c' p5] k0 p3] (tCons (tVar i) (tCons (tTup (tCons (tC v) (tCons (tC v') tNil))) tNil)) := by
    first | exact pa_cons (pe_var hN hv hdb hcd) (pa_cons (pe_tup pc) pa_nil he2) he | exact pa_cons (pe_var hN hv hdb hcd) (pa_cons (pe_tup pc) pa_nil)
  have pe : PE (X.suite a ((a, oe) :: pn)) (.Call (.Name "isinstance" p) [.Name y p2, .Tuple [.Name c p4, .Name c' p5] k0 p3] [] pos) (tCB (rIsGT X.K (clsAt X.K x.n) a (dOf x dd)) (tCons (tVar i) (tCons (tTup (tCons (tC v) (tCons (tC v') tNil))) tNil))) := by
    first | exact pe_callB (call_isGT C hz hf) hg hm (by decide +kernel) pa (by decide) (by decide) he hpl | exact pe_callB (call_isGT C hz hf) hg hm (by decide +kernel) pa (by decide) (by decide)
  refine pe.run pins s σ H Q I ⟨.ref a, h.1, by show 2 ≤ sizeLine; decide, fun l nl => ⟨fun e he => ?_, l, [v, v'], [cv, cv'], b, rfl, .inl (.inl upd_same), fun us hu => ?_, e, h.2.2 l nl⟩⟩
  · obtain ⟨fs, hfs⟩ := h.2.1 e he
    exact ⟨fs, by rw [upd_ne (ne_of_none hfs nl)]; exact hfs⟩
  · cases hu with
    | cons r1 t =>
      cases t with
      | cons r2 t =>
        cases t
        rw [cl.one _ r1, cl'.one _ r2]
/-- e.f, the field of the caught exception -/
def zFldG (i : Nat) (a dd : Addr) (x : Xc) (f : Str) : ZE := fun ρ Q _ => ρ[i]? = some (some (excZ a dd x)) ∧ ∃ pd, x.pay = some (f, pd) ∧ Q (.dat pd)
theorem tr_fldG {i : Nat} {f : Str} : Tr K W (tXf a (.ref (clsAt K x.n)) (dOf x dd) (clsAt K x.n) f (tVar i)) (zFldG i a dd x f) := fun F ρ σ H Qz Ez Q g e hz q _ => by
  obtain ⟨h1, pd, hp, h2⟩ := hz
  obtain ⟨v, e1, e2⟩ := e.at_ i _ h1
  unfold excZ at e2
  rw [hp] at e2
  obtain ⟨rfl, u, h3, h4⟩ := e2
  refine ⟨_, e1, rfl, rfl, dd, [(f, u)], u, by unfold dOf; rw [hp]; rfl, (hid_some.mp h3).2, by rw [List.lookup_cons, beq_self_eq_true], q (.dat pd) _ H (.refl _ _ _) h4 h2⟩
theorem xfc_of {D : Addr} (C : ExcC K D) : XfC K D := ⟨C.hg, C.hk, C.hs, C.hd⟩
theorem pz_fldG {i : Nat} {y f : Str} {p2 : Pos} (T : XfC X.K (clsAt K x.n)) (hno : PySem.W.findIn X.K (.ref (clsAt K x.n)) f = some none) (hz : Zc (.ref (clsAt K x.n)) (dOf x dd) oe) (hf : ∃ vs, oe.data = .fields vs) (hN : X.N[i]? = some y) (hv : Vis X.env.scope y) (hdb : (y == ("__debug__" : Str)) = false := by decide) (hcd : (y == ("__classdict__" : Str)) = false := by decide)
    (hb : attributeBase (.Name y p2) f X.env (eval (.Name y p2) X.env) = eval (.Name y p2) X.env := by rfl) (hK : X.K = K := by rfl) : PZ K (X.suite a ((a, oe) :: pn)) W (.Attribute (.Name y p2) f pos) (tXf a (.ref (clsAt K x.n)) (dOf x dd) (clsAt K x.n) f (tVar i)) (zFldG i a dd x f) := by
  subst hK
  exact ⟨pe_xf T hno hz hf (pe_var hN hv hdb hcd) hb, tr_fldG⟩
end
end Zl
end
section
namespace Zl
open PySem PySem.Spec PyProof.Rows L2 Kb
variable [Tabd]
def excNames : List Str := ["InvalidRecord", "InvalidSchema", "UnknownName"]
def excTab : List (Str × List Str) := [("InvalidRecord", ["InvalidRecord", "RecordsError", "ValueError", "Exception", "BaseException", "object"]), ("InvalidSchema", ["InvalidSchema", "RecordsError", "ValueError", "Exception", "BaseException", "object"]), ("UnknownName", ["UnknownName", "KeyError", "LookupError", "Exception", "BaseException", "object"])]
structure TX (K : PySem.W.Frag) (mg : Str → Option Value) (base : Heap) where
  sys : ∃ o, base.get? sysModules = some o
  G_KINDS : GTup K mg "KINDS" [.str "name", .str "number"]
  R_InvalidRecord : RaiseZ K mg "InvalidRecord"
  R_InvalidSchema : RaiseZ K mg "InvalidSchema"
  O_UnknownName : OwnZ K mg "UnknownName" "name"
  g_InvalidRecord : mg "InvalidRecord" = some (.ref (clsAt K "InvalidRecord"))
  g_InvalidSchema : mg "InvalidSchema" = some (.ref (clsAt K "InvalidSchema"))
  g_RecordsError : mg "RecordsError" = some (.ref (clsAt K "RecordsError"))
  g_UnknownName : mg "UnknownName" = some (.ref (clsAt K "UnknownName"))
  X_n : ∀ n ∈ excNames, ExcC K (clsAt K n)
  M_RecordsError : ∀ n ∈ excNames, PySem.W.exmOne K (.ref (clsAt K n)) (.ref (clsAt K "RecordsError")) = some (isSub excTab n "RecordsError")
  M_UnknownName : ∀ n ∈ excNames, PySem.W.exmOne K (.ref (clsAt K n)) (.ref (clsAt K "UnknownName")) = some (isSub excTab n "UnknownName")
  N_name : ∀ n ∈ excNames, PySem.W.findIn K (.ref (clsAt K n)) "name" = some none
  I_InvalidRecord : ∀ n ∈ excNames, PySem.W.kitOne K (.ref (clsAt K n)) (.ref (clsAt K "InvalidRecord")) = some (isSub excTab n "InvalidRecord")
  I_InvalidSchema : ∀ n ∈ excNames, PySem.W.kitOne K (.ref (clsAt K n)) (.ref (clsAt K "InvalidSchema")) = some (isSub excTab n "InvalidSchema")
  I_KeyError : ∀ n ∈ excNames, PySem.W.kitOne K (.ref (clsAt K n)) (.type "KeyError") = some (isSub excTab n "KeyError")
  I_RecordsError : ∀ n ∈ excNames, PySem.W.kitOne K (.ref (clsAt K n)) (.ref (clsAt K "RecordsError")) = some (isSub excTab n "RecordsError")
section
variable {P : Program} {w : World} {K : PySem.W.Frag} {mg : Str → Option Value} {base : Heap}
def zb__is_word_1 : ZS := (zRet (zC (.bool false)))
def zb__is_word_2 : ZS := (zRet (zCB (kL1 dAll) (zCons (zOfN (zLc [4] (zItems (zVar 0)) (zName 4) zYes (zChain (k2 dLe) (k2 dLe) (zVar 2) (zVar 4) (zVar 3)))) zNil)))
def zb__is_word : ZS := (zSeq (zIfS (zOr (zB (zOne (k1 (dTy "str" true)) (zVar 0))) (zNot (zB (zChain (k2 dLe) (k2 dLe) (zC (.int 1)) (zCB (kL1 dLen) (zCons (zVar 0) zNil)) (zVar 1)))))
 zb__is_word_1
 zNext)
 zb__is_word_2)
def w__is_word : ZF := zFnOk 5 zb__is_word
theorem ok__is_word (T : Txt K mg) (TX : TX K mg base) : Fz P w K mg base 1 "_is_word" 4 w__is_word := fnP (N := N__is_word) T.F__is_word sc__is_word T.g__is_word T.b__is_word rfl (fun cdv A outer s H E gA hr tk hp => ⟨_,
 (pzb_cons (pzs_if (PZW.pt (pzw_or (pzt_tyIs op_notTyZ T.m_type T.m_str (pz_var (i := 0) rfl (by first | exact Or.inl rfl | exact Or.inr (Or.inl rfl) | exact Or.inr (Or.inr rfl))) (nomark _)) (pzw_or1 (pzt_not (pzt_chain op_leZ oz_ord op_leZ oz_ord pz_int (pz_B cr_lenZ cz_len T.m_len (pz_cons (pz_var (i := 0) rfl (by first | exact Or.inl rfl | exact Or.inr (Or.inl rfl) | exact Or.inr (Or.inr rfl))) pz_nil) (by decide +kernel)) (pz_var (i := 1) rfl (by first | exact Or.inl rfl | exact Or.inr (Or.inl rfl) | exact Or.inr (Or.inr rfl))))))))
 (pzb_one (pzs_ret pz_bl))
 pzb_nil)
 (pzb_one (pzs_ret (pz_B (cr_all rfl) cz_all T.m_all (pz_cons (PZN.z (pzn_lc (own := [("letter", 4)]) (g := (gName 4)) (tt := tYes) (by rfl) sc__is_word.nd (pzi_seq (pz_var (i := 0) rfl (by first | exact Or.inl rfl | exact Or.inr (Or.inl rfl) | exact Or.inr (Or.inr rfl)))) (blkOk_by (own := [("letter", 4)]) (N := N__is_word) (sc := defScope s__is_word) (by decide +kernel)) (fun _ _ _ _ _ => (pzg_name (i := 4) sc__is_word.nd rfl (.inl rfl))) (fun _ _ _ _ _ => pzts_nil) (fun _ _ _ _ _ => (pz_chain op_leZ oz_ord op_leZ oz_ord (pz_var (i := 2) rfl (by first | exact Or.inl rfl | exact Or.inr (Or.inl rfl) | exact Or.inr (Or.inr rfl))) (pz_var (i := 4) rfl (by first | exact Or.inl rfl | exact Or.inr (Or.inl rfl) | exact Or.inr (Or.inr rfl))) (pz_var (i := 3) rfl (by first | exact Or.inl rfl | exact Or.inr (Or.inl rfl) | exact Or.inr (Or.inr rfl))))))) pz_nil) (by decide +kernel)))))⟩)
def zb_is_name : ZS := (zRet (zCall 4 w__is_word (zCons (zVar 0) (zCons (zC (.int 8)) (zCons (zC (.str "a")) (zCons (zC (.str "z")) zNil))))))
def w_is_name : ZF := zFnOk 1 zb_is_name
theorem ok_is_name (T : Txt K mg) (TX : TX K mg base) : Fz P w K mg base 2 "is_name" 1 w_is_name := fnP (N := N_is_name) T.F_is_name sc_is_name T.g_is_name T.b_is_name rfl (fun cdv A outer s H E gA hr tk hp => ⟨_,
 (pzb_one (pzs_ret (pz_call (ok__is_word T TX) gA hr tk (pz_cons (pz_var (i := 0) rfl (by first | exact Or.inl rfl | exact Or.inr (Or.inl rfl) | exact Or.inr (Or.inr rfl))) (pz_cons (pz_gint ⟨_, T.v_MAX_NAME⟩) (pz_cons pz_str (pz_cons pz_str pz_nil)))))))⟩)
def zb_value_kind_1 : ZS := (zRet (zC (.str "number")))
def zb_value_kind_2 : ZS := (zRet (zC .none))
def zb_value_kind_3 : ZS := (zRet (zC (.str "name")))
def zb_value_kind_4 : ZS := (zSeq (zIfS (zAnd (zB (zOne (k1 (dTy "int" false)) (zVar 0))) (zB (zChain (k2 dLe) (k2 dLe) (zOne (k1 dNeg) (zC (.int 1000000000))) (zVar 0) (zC (.int 1000000000)))))
 zb_value_kind_1
 zNext)
 zb_value_kind_2)
def zb_value_kind : ZS := (zSeq (zIfS (zTru (zCall 1 w_is_name (zCons (zVar 0) zNil)))
 zb_value_kind_3
 zNext)
 zb_value_kind_4)
def w_value_kind : ZF := zFnOk 1 zb_value_kind
theorem ok_value_kind (T : Txt K mg) (TX : TX K mg base) : Fz P w K mg base 3 "value_kind" 1 w_value_kind := fnP (N := N_value_kind) T.F_value_kind sc_value_kind T.g_value_kind T.b_value_kind rfl (fun cdv A outer s H E gA hr tk hp => ⟨_,
 (pzb_cons (pzs_if (pzt_tru (pz_call (ok_is_name T TX) gA hr tk (pz_cons (pz_var (i := 0) rfl (by first | exact Or.inl rfl | exact Or.inr (Or.inl rfl) | exact Or.inr (Or.inr rfl))) pz_nil)))
 (pzb_one (pzs_ret pz_str))
 pzb_nil)
 (pzb_cons (pzs_if (PZW.pt (pzw_and (pzt_tyIs op_isTyZ T.m_type T.m_int (pz_var (i := 0) rfl (by first | exact Or.inl rfl | exact Or.inr (Or.inl rfl) | exact Or.inr (Or.inr rfl))) (nomark _)) (pzw_and1 (pzt_chain op_leZ oz_ord op_leZ oz_ord (pz_neg (pz_gint ⟨_, T.v_MAX_NUMBER⟩)) (pz_var (i := 0) rfl (by first | exact Or.inl rfl | exact Or.inr (Or.inl rfl) | exact Or.inr (Or.inr rfl))) (pz_gint ⟨_, T.v_MAX_NUMBER⟩)))))
 (pzb_one (pzs_ret pz_str))
 pzb_nil)
 (pzb_one (pzs_ret pz_non))))⟩)
def zb_is_integer_below : ZS := (zRet (zAndV (zOne (k1 (dTy "int" false)) (zVar 0)) (zChain (k2 dLe) (k2 dLt) (zC (.int 0)) (zVar 0) (zVar 1))))
def w_is_integer_below : ZF := zFnOk 2 zb_is_integer_below
theorem ok_is_integer_below (T : Txt K mg) (TX : TX K mg base) : Fz P w K mg base 1 "is_integer_below" 2 w_is_integer_below := fnP (N := N_is_integer_below) T.F_is_integer_below sc_is_integer_below T.g_is_integer_below T.b_is_integer_below rfl (fun cdv A outer s H E gA hr tk hp => ⟨_,
 (pzb_one (pzs_ret (pz_and (pz_tyIs op_isTyZ T.m_type T.m_int (pz_var (i := 0) rfl (by first | exact Or.inl rfl | exact Or.inr (Or.inl rfl) | exact Or.inr (Or.inr rfl))) (nomark _)) (pz_one (pz_chain op_leZ oz_ord op_ltZ oz_ord pz_int (pz_var (i := 0) rfl (by first | exact Or.inl rfl | exact Or.inr (Or.inl rfl) | exact Or.inr (Or.inr rfl))) (pz_var (i := 1) rfl (by first | exact Or.inl rfl | exact Or.inr (Or.inl rfl) | exact Or.inr (Or.inr rfl))))))))⟩)
def zb_is_tuple : ZS := (zRet (zAndV (zOne (k1 (dTy "tuple" false)) (zVar 0)) (zChain (k2 dLe) (k2 dLe) (zVar 1) (zCB (kL1 dLen) (zCons (zVar 0) zNil)) (zVar 2))))
def w_is_tuple : ZF := zFnOk 3 zb_is_tuple
theorem ok_is_tuple (T : Txt K mg) (TX : TX K mg base) : Fz P w K mg base 1 "is_tuple" 3 w_is_tuple := fnP (N := N_is_tuple) T.F_is_tuple sc_is_tuple T.g_is_tuple T.b_is_tuple rfl (fun cdv A outer s H E gA hr tk hp => ⟨_,
 (pzb_one (pzs_ret (pz_and (pz_tyIs op_isTyZ T.m_type T.m_tuple (pz_var (i := 0) rfl (by first | exact Or.inl rfl | exact Or.inr (Or.inl rfl) | exact Or.inr (Or.inr rfl))) (nomark _)) (pz_one (pz_chain op_leZ oz_ord op_leZ oz_ord (pz_var (i := 1) rfl (by first | exact Or.inl rfl | exact Or.inr (Or.inl rfl) | exact Or.inr (Or.inr rfl))) (pz_B cr_lenZ cz_len T.m_len (pz_cons (pz_var (i := 0) rfl (by first | exact Or.inl rfl | exact Or.inr (Or.inl rfl) | exact Or.inr (Or.inr rfl))) pz_nil) (by decide +kernel)) (pz_var (i := 2) rfl (by first | exact Or.inl rfl | exact Or.inr (Or.inl rfl) | exact Or.inr (Or.inr rfl))))))))⟩)
def zb_is_ascending : ZS := (zRet (zCB (kL1 dAll) (zCons (zOfN (zLc [1, 2] (zZip (zCons (zVar 0) (zCons (zSl (zVar 0) (zPart (zC (.int 1))) zNoPart) zNil))) (zTupG 2 (zgCons (zName 1) (zgCons (zName 2) zgNil))) zYes (zTwo (k2 dLt) (zVar 1) (zVar 2)))) zNil)))
def w_is_ascending : ZF := zFnOk 3 zb_is_ascending
theorem ok_is_ascending (T : Txt K mg) (TX : TX K mg base) : Fz P w K mg base 1 "is_ascending" 1 w_is_ascending := fnP (N := N_is_ascending) T.F_is_ascending sc_is_ascending T.g_is_ascending T.b_is_ascending rfl (fun cdv A outer s H E gA hr tk hp => ⟨_,
 (pzb_one (pzs_ret (pz_B (cr_all rfl) cz_all T.m_all (pz_cons (PZN.z (pzn_lc (own := [("low", 1), ("high", 2)]) (g := (gTup K 2 (gCons (gName 1) (gCons (gName 2) gNil)))) (tt := tYes) (by rfl) sc_is_ascending.nd (pzi_zip T.m_zip (pz_cons (pz_var (i := 0) rfl (by first | exact Or.inl rfl | exact Or.inr (Or.inl rfl) | exact Or.inr (Or.inr rfl))) (pz_cons (pz_sl (pz_var (i := 0) rfl (by first | exact Or.inl rfl | exact Or.inr (Or.inl rfl) | exact Or.inr (Or.inr rfl))) (pzo_some pz_int) pzo_none) pz_nil))) (blkOk_by (own := [("low", 1), ("high", 2)]) (N := N_is_ascending) (sc := defScope s_is_ascending) (by decide +kernel)) (fun _ _ _ _ _ => (pzg_tup (by rfl) (pzg_cons (pzg_name (i := 1) sc_is_ascending.nd rfl (.inl rfl)) (pzg_cons (pzg_name (i := 2) sc_is_ascending.nd rfl (.inl rfl)) pzg_nil)))) (fun _ _ _ _ _ => pzts_nil) (fun _ _ _ _ _ => (pz_cmp op_ltZ oz_ord (pz_var (i := 1) rfl (by first | exact Or.inl rfl | exact Or.inr (Or.inl rfl) | exact Or.inr (Or.inr rfl))) (pz_var (i := 2) rfl (by first | exact Or.inl rfl | exact Or.inr (Or.inl rfl) | exact Or.inr (Or.inr rfl))) (nomark _))))) pz_nil) (by decide +kernel))))⟩)
def zb_has_kinds : ZS := (zRet (zAndV (zOne (k1 (dTy "tuple" false)) (zVar 0)) (zTwo (k2 (dEq false)) (zCB (kL1 dTuple) (zCons (zOfN (zLc [2] (zItems (zVar 0)) (zName 2) zYes (zCall 1 w_value_kind (zCons (zVar 2) zNil)))) zNil)) (zVar 1))))
def w_has_kinds : ZF := zFnOk 3 zb_has_kinds
theorem ok_has_kinds (T : Txt K mg) (TX : TX K mg base) : Fz P w K mg base 4 "has_kinds" 2 w_has_kinds := fnP (N := N_has_kinds) T.F_has_kinds sc_has_kinds T.g_has_kinds T.b_has_kinds rfl (fun cdv A outer s H E gA hr tk hp => ⟨_,
 (pzb_one (pzs_ret (pz_and (pz_tyIs op_isTyZ T.m_type T.m_tuple (pz_var (i := 0) rfl (by first | exact Or.inl rfl | exact Or.inr (Or.inl rfl) | exact Or.inr (Or.inr rfl))) (nomark _)) (pz_one (pz_cmp (op_eqZ hr.units) oz_eq (pz_BT call_tuple_of cz_tuple T.m_tuple (pz_cons (PZN.z (pzn_lc (own := [("item", 2)]) (g := (gName 2)) (tt := tYes) (by rfl) sc_has_kinds.nd (pzi_seq (pz_var (i := 0) rfl (by first | exact Or.inl rfl | exact Or.inr (Or.inl rfl) | exact Or.inr (Or.inr rfl)))) (blkOk_by (own := [("item", 2)]) (N := N_has_kinds) (sc := defScope s_has_kinds) (by decide +kernel)) (fun _ _ _ _ _ => (pzg_name (i := 2) sc_has_kinds.nd rfl (.inl rfl))) (fun _ _ _ _ _ => pzts_nil) (fun _ _ _ _ _ => (pz_call (ok_value_kind T TX) gA hr takes0 (pz_cons (pz_var (i := 2) rfl (by first | exact Or.inl rfl | exact Or.inr (Or.inl rfl) | exact Or.inr (Or.inr rfl))) pz_nil))))) pz_nil) (by decide +kernel)) (pz_var (i := 1) rfl (by first | exact Or.inl rfl | exact Or.inr (Or.inl rfl) | exact Or.inr (Or.inr rfl))) (nomark _))))))⟩)
def zb__is_table_1 : ZS := (zRet (zC (.bool false)))
def zb__is_table_2 : ZS := (zRet (zAndV (zCB (kL1 dAll) (zCons (zOfN (zLc [4] (zItems (zVar 3)) (zName 4) zYes (zTwo (k2 (dIn false)) (zVar 4) (zC (.tuple [.str "name", .str "number"]))))) zNil)) (zCall 2 w_is_integer_below (zCons (zVar 2) (zCons (zTwo (k2 dAddB) (zCB (kL1 dLen) (zCons (zVar 3) zNil)) (zC (.int 1))) zNil)))))
def zb__is_table_3 : ZS := (zSeq (zIfS (zOr (zNot (zTru (zCall 1 w_is_name (zCons (zVar 1) zNil)))) (zNot (zTru (zCall 3 w_is_tuple (zCons (zVar 3) (zCons (zC (.int 1)) (zCons (zC (.int 4)) zNil)))))))
 zb__is_table_1
 zNext)
 zb__is_table_2)
def zb__is_table_4 : ZS := (zRet (zC (.bool false)))
def zb__is_table_5 : ZS := (zSeq (zAsg (zVar 0) (zTupG 3 (zgCons (zName 1) (zgCons (zName 2) (zgCons (zName 3) zgNil)))))
 zb__is_table_3)
def zb__is_table : ZS := (zSeq (zIfS (zNot (zTru (zCall 3 w_is_tuple (zCons (zVar 0) (zCons (zC (.int 3)) (zCons (zC (.int 3)) zNil))))))
 zb__is_table_4
 zNext)
 zb__is_table_5)
def w__is_table : ZF := zFnOk 5 zb__is_table
theorem ok__is_table (T : Txt K mg) (TX : TX K mg base) : Fz P w K mg base 3 "_is_table" 1 w__is_table := fnP (N := N__is_table) T.F__is_table sc__is_table T.g__is_table T.b__is_table rfl (fun cdv A outer s H E gA hr tk hp => ⟨_,
 (pzb_cons (pzs_if (pzt_not (pzt_tru (pz_call (ok_is_tuple T TX) gA hr tk (pz_cons (pz_var (i := 0) rfl (by first | exact Or.inl rfl | exact Or.inr (Or.inl rfl) | exact Or.inr (Or.inr rfl))) (pz_cons pz_int (pz_cons pz_int pz_nil))))))
 (pzb_one (pzs_ret pz_bl))
 pzb_nil)
 (pzb_cons (pzs_asg (pz_var (i := 0) rfl (by first | exact Or.inl rfl | exact Or.inr (Or.inl rfl) | exact Or.inr (Or.inr rfl))) (pzg_tup (by rfl) (pzg_cons (pzg_name (i := 1) sc__is_table.nd rfl (.inl rfl)) (pzg_cons (pzg_name (i := 2) sc__is_table.nd rfl (.inl rfl)) (pzg_cons (pzg_name (i := 3) sc__is_table.nd rfl (.inl rfl)) pzg_nil)))))
 (pzb_cons (pzs_if (PZW.pt (pzw_or (pzt_not (pzt_tru (pz_call (ok_is_name T TX) gA hr tk (pz_cons (pz_var (i := 1) rfl (by first | exact Or.inl rfl | exact Or.inr (Or.inl rfl) | exact Or.inr (Or.inr rfl))) pz_nil)))) (pzw_or1 (pzt_not (pzt_tru (pz_call (ok_is_tuple T TX) gA hr tk (pz_cons (pz_var (i := 3) rfl (by first | exact Or.inl rfl | exact Or.inr (Or.inl rfl) | exact Or.inr (Or.inr rfl))) (pz_cons pz_int (pz_cons (pz_gint ⟨_, T.v_MAX_COLUMNS⟩) pz_nil)))))))))
 (pzb_one (pzs_ret pz_bl))
 pzb_nil)
 (pzb_one (pzs_ret (pz_and (pz_B (cr_all rfl) cz_all T.m_all (pz_cons (PZN.z (pzn_lc (own := [("kind", 4)]) (g := (gName 4)) (tt := tYes) (by rfl) sc__is_table.nd (pzi_seq (pz_var (i := 3) rfl (by first | exact Or.inl rfl | exact Or.inr (Or.inl rfl) | exact Or.inr (Or.inr rfl)))) (blkOk_by (own := [("kind", 4)]) (N := N__is_table) (sc := defScope s__is_table) (by decide +kernel)) (fun _ _ _ _ _ => (pzg_name (i := 4) sc__is_table.nd rfl (.inl rfl))) (fun _ _ _ _ _ => pzts_nil) (fun _ _ _ _ _ => (pz_cmp (op_inZ hr.units) oz_in (pz_var (i := 4) rfl (by first | exact Or.inl rfl | exact Or.inr (Or.inl rfl) | exact Or.inr (Or.inr rfl))) (pz_gtup TX.G_KINDS) (by rfl))))) pz_nil) (by decide +kernel)) (pz_one (pz_call (ok_is_integer_below T TX) gA hr tk (pz_cons (pz_var (i := 2) rfl (by first | exact Or.inl rfl | exact Or.inr (Or.inl rfl) | exact Or.inr (Or.inr rfl))) (pz_cons (pz_addB (pz_B cr_lenZ cz_len T.m_len (pz_cons (pz_var (i := 3) rfl (by first | exact Or.inl rfl | exact Or.inr (Or.inl rfl) | exact Or.inr (Or.inr rfl))) pz_nil) (by decide +kernel)) pz_int) pz_nil))))))))))⟩)
def zb_is_schema_1 : ZS := (zRet (zC (.bool false)))
def zb_is_schema_2 : ZS := (zRet (zCall 1 w_is_ascending (zCons (zOfN (zLc [1] (zItems (zVar 0)) (zName 1) zYes (zTwo (k2 dIx) (zVar 1) (zC (.int 0))))) zNil)))
def zb_is_schema_3 : ZS := (zRet (zC (.bool false)))
def zb_is_schema_4 : ZS := (zSeq (zIfS (zNot (zTru (zCB (kL1 dAll) (zCons (zOfN (zLc [1] (zItems (zVar 0)) (zName 1) zYes (zCall 1 w__is_table (zCons (zVar 1) zNil)))) zNil))))
 zb_is_schema_1
 zNext)
 zb_is_schema_2)
def zb_is_schema : ZS := (zSeq (zIfS (zNot (zTru (zCall 3 w_is_tuple (zCons (zVar 0) (zCons (zC (.int 1)) (zCons (zC (.int 6)) zNil))))))
 zb_is_schema_3
 zNext)
 zb_is_schema_4)
def w_is_schema : ZF := zFnOk 2 zb_is_schema
theorem ok_is_schema (T : Txt K mg) (TX : TX K mg base) : Fz P w K mg base 4 "is_schema" 1 w_is_schema := fnP (N := N_is_schema) T.F_is_schema sc_is_schema T.g_is_schema T.b_is_schema rfl (fun cdv A outer s H E gA hr tk hp => ⟨_,
 (pzb_cons (pzs_if (pzt_not (pzt_tru (pz_call (ok_is_tuple T TX) gA hr tk (pz_cons (pz_var (i := 0) rfl (by first | exact Or.inl rfl | exact Or.inr (Or.inl rfl) | exact Or.inr (Or.inr rfl))) (pz_cons pz_int (pz_cons (pz_gint ⟨_, T.v_MAX_TABLES⟩) pz_nil))))))
 (pzb_one (pzs_ret pz_bl))
 pzb_nil)
 (pzb_cons (pzs_if (pzt_not (pzt_tru (pz_B (cr_all rfl) cz_all T.m_all (pz_cons (PZN.z (pzn_lc (own := [("entry", 1)]) (g := (gName 1)) (tt := tYes) (by rfl) sc_is_schema.nd (pzi_seq (pz_var (i := 0) rfl (by first | exact Or.inl rfl | exact Or.inr (Or.inl rfl) | exact Or.inr (Or.inr rfl)))) (blkOk_by (own := [("entry", 1)]) (N := N_is_schema) (sc := defScope s_is_schema) (by decide +kernel)) (fun _ _ _ _ _ => (pzg_name (i := 1) sc_is_schema.nd rfl (.inl rfl))) (fun _ _ _ _ _ => pzts_nil) (fun _ _ _ _ _ => (pz_call (ok__is_table T TX) gA hr takes0 (pz_cons (pz_var (i := 1) rfl (by first | exact Or.inl rfl | exact Or.inr (Or.inl rfl) | exact Or.inr (Or.inr rfl))) pz_nil))))) pz_nil) (by decide +kernel))))
 (pzb_one (pzs_ret pz_bl))
 pzb_nil)
 (pzb_one (pzs_ret (pz_call (ok_is_ascending T TX) gA hr tk (pz_cons (PZN.z (pzn_lc (own := [("entry", 1)]) (g := (gName 1)) (tt := tYes) (by rfl) sc_is_schema.nd (pzi_seq (pz_var (i := 0) rfl (by first | exact Or.inl rfl | exact Or.inr (Or.inl rfl) | exact Or.inr (Or.inr rfl)))) (blkOk_by (own := [("entry", 1)]) (N := N_is_schema) (sc := defScope s_is_schema) (by decide +kernel)) (fun _ _ _ _ _ => (pzg_name (i := 1) sc_is_schema.nd rfl (.inl rfl))) (fun _ _ _ _ _ => pzts_nil) (fun _ _ _ _ _ => (pz_ix (pz_var (i := 1) rfl (by first | exact Or.inl rfl | exact Or.inr (Or.inl rfl) | exact Or.inr (Or.inr rfl))) pz_int (fun _ _ => rfl))))) pz_nil))))))⟩)
def zb_check_schema_1 : ZS := (zRaise0 "InvalidSchema")
def zb_check_schema : ZS := (zIfS (zNot (zTru (zCall 1 w_is_schema (zCons (zVar 0) zNil))))
 zb_check_schema_1
 zNext)
def w_check_schema : ZF := zFnOk 1 zb_check_schema
theorem ok_check_schema (T : Txt K mg) (TX : TX K mg base) : Fz P w K mg base 5 "check_schema" 1 w_check_schema := fnP (N := N_check_schema) T.F_check_schema sc_check_schema T.g_check_schema T.b_check_schema rfl (fun cdv A outer s H E gA hr tk hp => ⟨_,
 (pzb_one (pzs_if (pzt_not (pzt_tru (pz_call (ok_is_schema T TX) gA hr tk (pz_cons (pz_var (i := 0) rfl (by first | exact Or.inl rfl | exact Or.inr (Or.inl rfl) | exact Or.inr (Or.inr rfl))) pz_nil))))
 (pzb_one (pzs_raise0 TX.R_InvalidSchema (by rfl) tk))
 pzb_nil))⟩)
def zb_find_table_1 : ZS := (zRet (zVar 2))
def zb_find_table_2 : ZS := (zIfS (zB (zTwo (k2 (dEq false)) (zTwo (k2 dIx) (zVar 2) (zC (.int 0))) (zVar 1)))
 zb_find_table_1
 zNext)
def zb_find_table_3 : ZS := (zRet (zC .none))
def zb_find_table : ZS := (zSeq (zFor (zItems (zVar 0)) (zName 2)
 zb_find_table_2)
 zb_find_table_3)
def w_find_table : ZF := zFnOk 3 zb_find_table
theorem ok_find_table (T : Txt K mg) (TX : TX K mg base) : Fz P w K mg base 1 "find_table" 2 w_find_table := fnP (N := N_find_table) T.F_find_table sc_find_table T.g_find_table T.b_find_table rfl (fun cdv A outer s H E gA hr tk hp => ⟨_,
 (pzb_cons (pzs_for hp (by rfl) (pzi_seq (pz_var (i := 0) rfl (by first | exact Or.inl rfl | exact Or.inr (Or.inl rfl) | exact Or.inr (Or.inr rfl)))) (pzg_name (i := 2) sc_find_table.nd rfl (.inl rfl))
 (pzb_one (pzs_if (pzt_cmp (op_eqZ hr.units) oz_eq (pz_ix (pz_var (i := 2) rfl (by first | exact Or.inl rfl | exact Or.inr (Or.inl rfl) | exact Or.inr (Or.inr rfl))) pz_int (fun _ _ => rfl)) (pz_var (i := 1) rfl (by first | exact Or.inl rfl | exact Or.inr (Or.inl rfl) | exact Or.inr (Or.inr rfl))) (nomark _))
 (pzb_one (pzs_ret (pz_var (i := 2) rfl (by first | exact Or.inl rfl | exact Or.inr (Or.inl rfl) | exact Or.inr (Or.inr rfl)))))
 pzb_nil)))
 (pzb_one (pzs_ret pz_non)))⟩)
def zb_check_table_1 : ZS := (zRaise1 "UnknownName" "name" (zCons (zVar 1) zNil))
def zb_check_table : ZS := (zIfS (zB (zTwo (k2 (dIsN false)) (zCall 2 w_find_table (zCons (zVar 0) (zCons (zVar 1) zNil))) (zC .none)))
 zb_check_table_1
 zNext)
def w_check_table : ZF := zFnOk 2 zb_check_table
theorem ok_check_table (T : Txt K mg) (TX : TX K mg base) : Fz P w K mg base 2 "check_table" 2 w_check_table := fnP (N := N_check_table) T.F_check_table sc_check_table T.g_check_table T.b_check_table rfl (fun cdv A outer s H E gA hr tk hp => ⟨_,
 (pzb_one (pzs_if (pzt_cmp op_isNZ oz_isN (pz_call (ok_find_table T TX) gA hr tk (pz_cons (pz_var (i := 0) rfl (by first | exact Or.inl rfl | exact Or.inr (Or.inl rfl) | exact Or.inr (Or.inr rfl))) (pz_cons (pz_var (i := 1) rfl (by first | exact Or.inl rfl | exact Or.inr (Or.inl rfl) | exact Or.inr (Or.inr rfl))) pz_nil))) pz_non (nomark _))
 (pzb_one (pzs_raise1Z TX.O_UnknownName (by rfl) hr tk (pz_cons (pz_var (i := 1) rfl (by first | exact Or.inl rfl | exact Or.inr (Or.inl rfl) | exact Or.inr (Or.inr rfl))) pz_nil)))
 pzb_nil))⟩)
def zb_check_record_1 : ZS := (zRaise0 "InvalidRecord")
def zb_check_record : ZS := (zIfS (zNot (zTru (zCall 2 w_has_kinds (zCons (zVar 2) (zCons (zTwo (k2 dIx) (zCall 2 w_find_table (zCons (zVar 0) (zCons (zVar 1) zNil))) (zC (.int 2))) zNil)))))
 zb_check_record_1
 zNext)
def w_check_record : ZF := zFnOk 3 zb_check_record
theorem ok_check_record (T : Txt K mg) (TX : TX K mg base) : Fz P w K mg base 5 "check_record" 3 w_check_record := fnP (N := N_check_record) T.F_check_record sc_check_record T.g_check_record T.b_check_record rfl (fun cdv A outer s H E gA hr tk hp => ⟨_,
 (pzb_one (pzs_if (pzt_not (pzt_tru (pz_call (ok_has_kinds T TX) gA hr tk (pz_cons (pz_var (i := 2) rfl (by first | exact Or.inl rfl | exact Or.inr (Or.inl rfl) | exact Or.inr (Or.inr rfl))) (pz_cons (pz_ix (pz_call (ok_find_table T TX) gA hr tk (pz_cons (pz_var (i := 0) rfl (by first | exact Or.inl rfl | exact Or.inr (Or.inl rfl) | exact Or.inr (Or.inr rfl))) (pz_cons (pz_var (i := 1) rfl (by first | exact Or.inl rfl | exact Or.inr (Or.inl rfl) | exact Or.inr (Or.inr rfl))) pz_nil))) pz_int (fun _ _ => rfl)) pz_nil)))))
 (pzb_one (pzs_raise0 TX.R_InvalidRecord (by rfl) tk))
 pzb_nil))⟩)
def zb_table_names_1 : ZS := (zRet (zCB (kL1 dTuple) (zCons (zOfN (zLc [1] (zItems (zVar 0)) (zName 1) zYes (zTwo (k2 dIx) (zVar 1) (zC (.int 0))))) zNil)))
def zb_table_names : ZS := (zSeq (zDrop (zCall 1 w_check_schema (zCons (zVar 0) zNil)))
 zb_table_names_1)
def w_table_names : ZF := zFnOk 2 zb_table_names
theorem ok_table_names (T : Txt K mg) (TX : TX K mg base) : Fz P w K mg base 6 "table_names" 1 w_table_names := fnP (N := N_table_names) T.F_table_names sc_table_names T.g_table_names T.b_table_names rfl (fun cdv A outer s H E gA hr tk hp => ⟨_,
 (pzb_cons (pzs_expr (pz_call (ok_check_schema T TX) gA hr tk (pz_cons (pz_var (i := 0) rfl (by first | exact Or.inl rfl | exact Or.inr (Or.inl rfl) | exact Or.inr (Or.inr rfl))) pz_nil)))
 (pzb_one (pzs_ret (pz_BT call_tuple_of cz_tuple T.m_tuple (pz_cons (PZN.z (pzn_lc (own := [("entry", 1)]) (g := (gName 1)) (tt := tYes) (by rfl) sc_table_names.nd (pzi_seq (pz_var (i := 0) rfl (by first | exact Or.inl rfl | exact Or.inr (Or.inl rfl) | exact Or.inr (Or.inr rfl)))) (blkOk_by (own := [("entry", 1)]) (N := N_table_names) (sc := defScope s_table_names) (by decide +kernel)) (fun _ _ _ _ _ => (pzg_name (i := 1) sc_table_names.nd rfl (.inl rfl))) (fun _ _ _ _ _ => pzts_nil) (fun _ _ _ _ _ => (pz_ix (pz_var (i := 1) rfl (by first | exact Or.inl rfl | exact Or.inr (Or.inl rfl) | exact Or.inr (Or.inr rfl))) pz_int (fun _ _ => rfl))))) pz_nil) (by decide +kernel)))))⟩)
def zb_key_size_1 : ZS := (zRet (zTwo (k2 dIx) (zCall 2 w_find_table (zCons (zVar 0) (zCons (zVar 1) zNil))) (zC (.int 1))))
def zb_key_size_2 : ZS := (zSeq (zDrop (zCall 2 w_check_table (zCons (zVar 0) (zCons (zVar 1) zNil))))
 zb_key_size_1)
def zb_key_size : ZS := (zSeq (zDrop (zCall 1 w_check_schema (zCons (zVar 0) zNil)))
 zb_key_size_2)
def w_key_size : ZF := zFnOk 2 zb_key_size
theorem ok_key_size (T : Txt K mg) (TX : TX K mg base) : Fz P w K mg base 6 "key_size" 2 w_key_size := fnP (N := N_key_size) T.F_key_size sc_key_size T.g_key_size T.b_key_size rfl (fun cdv A outer s H E gA hr tk hp => ⟨_,
 (pzb_cons (pzs_expr (pz_call (ok_check_schema T TX) gA hr tk (pz_cons (pz_var (i := 0) rfl (by first | exact Or.inl rfl | exact Or.inr (Or.inl rfl) | exact Or.inr (Or.inr rfl))) pz_nil)))
 (pzb_cons (pzs_expr (pz_call (ok_check_table T TX) gA hr tk (pz_cons (pz_var (i := 0) rfl (by first | exact Or.inl rfl | exact Or.inr (Or.inl rfl) | exact Or.inr (Or.inr rfl))) (pz_cons (pz_var (i := 1) rfl (by first | exact Or.inl rfl | exact Or.inr (Or.inl rfl) | exact Or.inr (Or.inr rfl))) pz_nil))))
 (pzb_one (pzs_ret (pz_ix (pz_call (ok_find_table T TX) gA hr tk (pz_cons (pz_var (i := 0) rfl (by first | exact Or.inl rfl | exact Or.inr (Or.inl rfl) | exact Or.inr (Or.inr rfl))) (pz_cons (pz_var (i := 1) rfl (by first | exact Or.inl rfl | exact Or.inr (Or.inl rfl) | exact Or.inr (Or.inr rfl))) pz_nil))) pz_int (fun _ _ => rfl))))))⟩)
def zb_column_kinds_1 : ZS := (zRet (zTwo (k2 dIx) (zCall 2 w_find_table (zCons (zVar 0) (zCons (zVar 1) zNil))) (zC (.int 2))))
def zb_column_kinds_2 : ZS := (zSeq (zDrop (zCall 2 w_check_table (zCons (zVar 0) (zCons (zVar 1) zNil))))
 zb_column_kinds_1)
def zb_column_kinds : ZS := (zSeq (zDrop (zCall 1 w_check_schema (zCons (zVar 0) zNil)))
 zb_column_kinds_2)
def w_column_kinds : ZF := zFnOk 2 zb_column_kinds
theorem ok_column_kinds (T : Txt K mg) (TX : TX K mg base) : Fz P w K mg base 6 "column_kinds" 2 w_column_kinds := fnP (N := N_column_kinds) T.F_column_kinds sc_column_kinds T.g_column_kinds T.b_column_kinds rfl (fun cdv A outer s H E gA hr tk hp => ⟨_,
 (pzb_cons (pzs_expr (pz_call (ok_check_schema T TX) gA hr tk (pz_cons (pz_var (i := 0) rfl (by first | exact Or.inl rfl | exact Or.inr (Or.inl rfl) | exact Or.inr (Or.inr rfl))) pz_nil)))
 (pzb_cons (pzs_expr (pz_call (ok_check_table T TX) gA hr tk (pz_cons (pz_var (i := 0) rfl (by first | exact Or.inl rfl | exact Or.inr (Or.inl rfl) | exact Or.inr (Or.inr rfl))) (pz_cons (pz_var (i := 1) rfl (by first | exact Or.inl rfl | exact Or.inr (Or.inl rfl) | exact Or.inr (Or.inr rfl))) pz_nil))))
 (pzb_one (pzs_ret (pz_ix (pz_call (ok_find_table T TX) gA hr tk (pz_cons (pz_var (i := 0) rfl (by first | exact Or.inl rfl | exact Or.inr (Or.inl rfl) | exact Or.inr (Or.inr rfl))) (pz_cons (pz_var (i := 1) rfl (by first | exact Or.inl rfl | exact Or.inr (Or.inl rfl) | exact Or.inr (Or.inr rfl))) pz_nil))) pz_int (fun _ _ => rfl))))))⟩)
def zb_is_record_1 : ZS := (zRet (zCall 2 w_has_kinds (zCons (zVar 2) (zCons (zTwo (k2 dIx) (zCall 2 w_find_table (zCons (zVar 0) (zCons (zVar 1) zNil))) (zC (.int 2))) zNil))))
def zb_is_record_2 : ZS := (zSeq (zDrop (zCall 2 w_check_table (zCons (zVar 0) (zCons (zVar 1) zNil))))
 zb_is_record_1)
def zb_is_record : ZS := (zSeq (zDrop (zCall 1 w_check_schema (zCons (zVar 0) zNil)))
 zb_is_record_2)
def w_is_record : ZF := zFnOk 3 zb_is_record
theorem ok_is_record (T : Txt K mg) (TX : TX K mg base) : Fz P w K mg base 6 "is_record" 3 w_is_record := fnP (N := N_is_record) T.F_is_record sc_is_record T.g_is_record T.b_is_record rfl (fun cdv A outer s H E gA hr tk hp => ⟨_,
 (pzb_cons (pzs_expr (pz_call (ok_check_schema T TX) gA hr tk (pz_cons (pz_var (i := 0) rfl (by first | exact Or.inl rfl | exact Or.inr (Or.inl rfl) | exact Or.inr (Or.inr rfl))) pz_nil)))
 (pzb_cons (pzs_expr (pz_call (ok_check_table T TX) gA hr tk (pz_cons (pz_var (i := 0) rfl (by first | exact Or.inl rfl | exact Or.inr (Or.inl rfl) | exact Or.inr (Or.inr rfl))) (pz_cons (pz_var (i := 1) rfl (by first | exact Or.inl rfl | exact Or.inr (Or.inl rfl) | exact Or.inr (Or.inr rfl))) pz_nil))))
 (pzb_one (pzs_ret (pz_call (ok_has_kinds T TX) gA hr tk (pz_cons (pz_var (i := 2) rfl (by first | exact Or.inl rfl | exact Or.inr (Or.inl rfl) | exact Or.inr (Or.inr rfl))) (pz_cons (pz_ix (pz_call (ok_find_table T TX) gA hr tk (pz_cons (pz_var (i := 0) rfl (by first | exact Or.inl rfl | exact Or.inr (Or.inl rfl) | exact Or.inr (Or.inr rfl))) (pz_cons (pz_var (i := 1) rfl (by first | exact Or.inl rfl | exact Or.inr (Or.inl rfl) | exact Or.inr (Or.inr rfl))) pz_nil))) pz_int (fun _ _ => rfl)) pz_nil)))))))⟩)
def zb_record_key_1 : ZS := (zRet (zSl (zVar 2) zNoPart (zPart (zTwo (k2 dIx) (zCall 2 w_find_table (zCons (zVar 0) (zCons (zVar 1) zNil))) (zC (.int 1))))))
def zb_record_key_2 : ZS := (zSeq (zDrop (zCall 3 w_check_record (zCons (zVar 0) (zCons (zVar 1) (zCons (zVar 2) zNil)))))
 zb_record_key_1)
def zb_record_key_3 : ZS := (zSeq (zDrop (zCall 2 w_check_table (zCons (zVar 0) (zCons (zVar 1) zNil))))
 zb_record_key_2)
def zb_record_key : ZS := (zSeq (zDrop (zCall 1 w_check_schema (zCons (zVar 0) zNil)))
 zb_record_key_3)
def w_record_key : ZF := zFnOk 3 zb_record_key
theorem ok_record_key (T : Txt K mg) (TX : TX K mg base) : Fz P w K mg base 6 "record_key" 3 w_record_key := fnP (N := N_record_key) T.F_record_key sc_record_key T.g_record_key T.b_record_key rfl (fun cdv A outer s H E gA hr tk hp => ⟨_,
 (pzb_cons (pzs_expr (pz_call (ok_check_schema T TX) gA hr tk (pz_cons (pz_var (i := 0) rfl (by first | exact Or.inl rfl | exact Or.inr (Or.inl rfl) | exact Or.inr (Or.inr rfl))) pz_nil)))
 (pzb_cons (pzs_expr (pz_call (ok_check_table T TX) gA hr tk (pz_cons (pz_var (i := 0) rfl (by first | exact Or.inl rfl | exact Or.inr (Or.inl rfl) | exact Or.inr (Or.inr rfl))) (pz_cons (pz_var (i := 1) rfl (by first | exact Or.inl rfl | exact Or.inr (Or.inl rfl) | exact Or.inr (Or.inr rfl))) pz_nil))))
 (pzb_cons (pzs_expr (pz_call (ok_check_record T TX) gA hr tk (pz_cons (pz_var (i := 0) rfl (by first | exact Or.inl rfl | exact Or.inr (Or.inl rfl) | exact Or.inr (Or.inr rfl))) (pz_cons (pz_var (i := 1) rfl (by first | exact Or.inl rfl | exact Or.inr (Or.inl rfl) | exact Or.inr (Or.inr rfl))) (pz_cons (pz_var (i := 2) rfl (by first | exact Or.inl rfl | exact Or.inr (Or.inl rfl) | exact Or.inr (Or.inr rfl))) pz_nil)))))
 (pzb_one (pzs_ret (pz_sl (pz_var (i := 2) rfl (by first | exact Or.inl rfl | exact Or.inr (Or.inl rfl) | exact Or.inr (Or.inr rfl))) pzo_none (pzo_some (pz_ix (pz_call (ok_find_table T TX) gA hr tk (pz_cons (pz_var (i := 0) rfl (by first | exact Or.inl rfl | exact Or.inr (Or.inl rfl) | exact Or.inr (Or.inr rfl))) (pz_cons (pz_var (i := 1) rfl (by first | exact Or.inl rfl | exact Or.inr (Or.inl rfl) | exact Or.inr (Or.inr rfl))) pz_nil))) pz_int (fun _ _ => rfl)))))))))⟩)
def zb__law_pick : ZS := (zRet (zTwo (k2 dIx) (zVar 1) (zCall 2 zDraw (zCons (zVar 0) (zCons (zCB (kL1 dLen) (zCons (zVar 1) zNil)) zNil)))))
def w__law_pick : ZF := zFnOk 2 zb__law_pick
theorem ok__law_pick (T : Txt K mg) (TX : TX K mg base) : Fz P w K mg base 2 "_law_pick" 2 w__law_pick := fnP (N := N__law_pick) T.F__law_pick sc__law_pick T.g__law_pick T.b__law_pick rfl (fun cdv A outer s H E gA hr tk hp => ⟨_,
 (pzb_one (pzs_ret (pz_ix (pz_var (i := 1) rfl (by first | exact Or.inl rfl | exact Or.inr (Or.inl rfl) | exact Or.inr (Or.inr rfl))) (pz_call (ok_draw T) gA hr tk (pz_cons (pz_var (i := 0) rfl (by first | exact Or.inl rfl | exact Or.inr (Or.inl rfl) | exact Or.inr (Or.inr rfl))) (pz_cons (pz_B cr_lenZ cz_len T.m_len (pz_cons (pz_var (i := 1) rfl (by first | exact Or.inl rfl | exact Or.inr (Or.inl rfl) | exact Or.inr (Or.inr rfl))) pz_nil) (by decide +kernel)) pz_nil))) (fun _ _ => rfl))))⟩)
def zb__law_words_1 : ZS := (zRet (zVar 3))
def zb__law_words_2 : ZS := (zAsg (zTwo (k2 dAddB) (zTwo (k2 dIx) (zVar 2) (zTwo (k2 dMod) (zTwo (k2 dAddB) (zIndex (zVar 2) (zTwo (k2 dIx) (zVar 6) (zC (.int 0)))) (zC (.int 1))) (zC (.int 26)))) (zSl (zVar 6) (zPart (zC (.int 1))) zNoPart)) (zName 6))
def zb__law_words_3 : ZS := (zIfS (zB (zTwo (k2 (dIn false)) (zVar 6) (zVar 3)))
 zb__law_words_2
 zNext)
def zb__law_words_4 : ZS := (zAppend 3 (zVar 6))
def zb__law_words_5 : ZS := (zAsg (zSl (zTwo (k2 dAddB) (zTwo (k2 dIx) (zVar 3) (zOne (k1 dNeg) (zC (.int 1)))) (zTwo (k2 dIx) (zVar 2) (zC (.int 0)))) zNoPart (zPart (zVar 4))) (zName 6))
def zb__law_words_6 : ZS := (zSeq (zFor (zRng1 (zCons (zVar 1) zNil)) (zName 7)
 zb__law_words_3)
 zb__law_words_4)
def zb__law_words_7 : ZS := (zAsg (zTwo (k2 dAddB) (zVar 6) (zTwo (k2 dIx) (zVar 2) (zCall 2 zDraw (zCons (zVar 0) (zCons (zC (.int 26)) zNil))))) (zName 6))
def zb__law_words_8 : ZS := (zSeq (zIfS (zAnd (zB (zTwo (k2 (dEq true)) (zVar 3) (zLst zNil))) (zB (zTwo (k2 (dEq false)) (zCall 2 zDraw (zCons (zVar 0) (zCons (zC (.int 4)) zNil))) (zC (.int 0)))))
 zb__law_words_5
 zNext)
 zb__law_words_6)
def zb__law_words_9 : ZS := (zSeq (zFor (zRng1 (zCons (zTwo (k2 dIx) (zLst (zCons (zC (.int 1)) (zCons (zC (.int 2)) (zCons (zC (.int 1)) (zCons (zVar 4) zNil))))) (zCall 2 zDraw (zCons (zVar 0) (zCons (zC (.int 4)) zNil)))) zNil)) (zName 7)
 zb__law_words_7)
 zb__law_words_8)
def zb__law_words_10 : ZS := (zSeq (zAsg (zC (.str "")) (zName 6))
 zb__law_words_9)
def zb__law_words_11 : ZS := (zFreeze 3 zb__law_words_1)
def zb__law_words_12 : ZS := (zSeq (zFor (zRng1 (zCons (zVar 1) zNil)) (zName 5)
 zb__law_words_10)
 zb__law_words_11)
def zb__law_words_13 : ZS := (zSeq (zAsg (zIf (zB (zTwo (k2 (dEq false)) (zTwo (k2 dIx) (zVar 2) (zC (.int 0))) (zC (.str "a")))) (zC (.int 8)) (zC (.int 4))) (zName 4))
 zb__law_words_12)
def zb__law_words : ZS := (zSeq (zNew 3 (zLstN zNil))
 zb__law_words_13)
def w__law_words : ZF := zFnOk 8 zb__law_words
theorem ok__law_words (T : Txt K mg) (TX : TX K mg base) : Fz P w K mg base 2 "_law_words" 3 w__law_words := fnP (N := N__law_words) T.F__law_words sc__law_words T.g__law_words T.b__law_words rfl (fun cdv A outer s H E gA hr tk hp => ⟨_,
 (pzb_cons (pzs_new (i := 3) sc__law_words.nd rfl (.inl rfl) (pzn_lst pz_nil))
 (pzb_cons (pzs_set (i := 4) sc__law_words.nd rfl (.inl rfl) (pz_if (pzt_cmp (op_eqZ hr.units) oz_eq (pz_ix (pz_var (i := 2) rfl (by first | exact Or.inl rfl | exact Or.inr (Or.inl rfl) | exact Or.inr (Or.inr rfl))) pz_int (fun _ _ => rfl)) pz_str (nomark _)) pz_int pz_int))
 (pzb_cons (pzs_for hp (by rfl) (pzi_rng1 T.m_range (pz_cons (pz_var (i := 1) rfl (by first | exact Or.inl rfl | exact Or.inr (Or.inl rfl) | exact Or.inr (Or.inr rfl))) pz_nil)) (pzg_name (i := 5) sc__law_words.nd rfl (.inl rfl))
 (pzb_cons (pzs_set (i := 6) sc__law_words.nd rfl (.inl rfl) pz_str)
 (pzb_cons (pzs_for hp (by rfl) (pzi_rng1 T.m_range (pz_cons (pz_ix (pz_lst (pz_cons pz_int (pz_cons pz_int (pz_cons pz_int (pz_cons (pz_var (i := 4) rfl (by first | exact Or.inl rfl | exact Or.inr (Or.inl rfl) | exact Or.inr (Or.inr rfl))) pz_nil))))) (pz_call (ok_draw T) gA hr tk (pz_cons (pz_var (i := 0) rfl (by first | exact Or.inl rfl | exact Or.inr (Or.inl rfl) | exact Or.inr (Or.inr rfl))) (pz_cons pz_int pz_nil))) (fun _ _ => rfl)) pz_nil)) (pzg_name (i := 7) sc__law_words.nd rfl (.inl rfl))
 (pzb_one (pzs_set (i := 6) sc__law_words.nd rfl (.inl rfl) (pz_addB (pz_var (i := 6) rfl (by first | exact Or.inl rfl | exact Or.inr (Or.inl rfl) | exact Or.inr (Or.inr rfl))) (pz_ix (pz_var (i := 2) rfl (by first | exact Or.inl rfl | exact Or.inr (Or.inl rfl) | exact Or.inr (Or.inr rfl))) (pz_call (ok_draw T) gA hr tk (pz_cons (pz_var (i := 0) rfl (by first | exact Or.inl rfl | exact Or.inr (Or.inl rfl) | exact Or.inr (Or.inr rfl))) (pz_cons pz_int pz_nil))) (fun _ _ => rfl))))))
 (pzb_cons (pzs_if (PZW.pt (pzw_and (pzt_cmp (op_neZ hr.units) oz_eq (pz_var (i := 3) rfl (by first | exact Or.inl rfl | exact Or.inr (Or.inl rfl) | exact Or.inr (Or.inr rfl))) (pz_lst pz_nil) (nomark _)) (pzw_and1 (pzt_cmp (op_eqZ hr.units) oz_eq (pz_call (ok_draw T) gA hr tk (pz_cons (pz_var (i := 0) rfl (by first | exact Or.inl rfl | exact Or.inr (Or.inl rfl) | exact Or.inr (Or.inr rfl))) (pz_cons pz_int pz_nil))) pz_int (nomark _)))))
 (pzb_one (pzs_set (i := 6) sc__law_words.nd rfl (.inl rfl) (pz_sl (pz_addB (pz_ix (pz_var (i := 3) rfl (by first | exact Or.inl rfl | exact Or.inr (Or.inl rfl) | exact Or.inr (Or.inr rfl))) (pz_neg pz_int) (fun _ _ => rfl)) (pz_ix (pz_var (i := 2) rfl (by first | exact Or.inl rfl | exact Or.inr (Or.inl rfl) | exact Or.inr (Or.inr rfl))) pz_int (fun _ _ => rfl))) pzo_none (pzo_some (pz_var (i := 4) rfl (by first | exact Or.inl rfl | exact Or.inr (Or.inl rfl) | exact Or.inr (Or.inr rfl)))))))
 pzb_nil)
 (pzb_cons (pzs_for hp (by rfl) (pzi_rng1 T.m_range (pz_cons (pz_var (i := 1) rfl (by first | exact Or.inl rfl | exact Or.inr (Or.inl rfl) | exact Or.inr (Or.inr rfl))) pz_nil)) (pzg_name (i := 7) sc__law_words.nd rfl (.inl rfl))
 (pzb_one (pzs_if (pzt_cmp (op_inZ hr.units) oz_in (pz_var (i := 6) rfl (by first | exact Or.inl rfl | exact Or.inr (Or.inl rfl) | exact Or.inr (Or.inr rfl))) (pz_var (i := 3) rfl (by first | exact Or.inl rfl | exact Or.inr (Or.inl rfl) | exact Or.inr (Or.inr rfl))) (by rfl))
 (pzb_one (pzs_set (i := 6) sc__law_words.nd rfl (.inl rfl) (pz_addB (pz_ix (pz_var (i := 2) rfl (by first | exact Or.inl rfl | exact Or.inr (Or.inl rfl) | exact Or.inr (Or.inr rfl))) (pz_mod (pz_addB (pz_index (by rfl) tk (pz_var (i := 2) rfl (by first | exact Or.inl rfl | exact Or.inr (Or.inl rfl) | exact Or.inr (Or.inr rfl))) (pz_ix (pz_var (i := 6) rfl (by first | exact Or.inl rfl | exact Or.inr (Or.inl rfl) | exact Or.inr (Or.inr rfl))) pz_int (fun _ _ => rfl))) pz_int) pz_int) (fun _ _ => rfl)) (pz_sl (pz_var (i := 6) rfl (by first | exact Or.inl rfl | exact Or.inr (Or.inl rfl) | exact Or.inr (Or.inr rfl))) (pzo_some pz_int) pzo_none))))
 pzb_nil)))
 (pzb_one (pzs_append (i := 3) rfl (by first | exact .inl rfl | exact .inr (.inl rfl) | exact .inr (.inr rfl)) (pz_var (i := 6) rfl (by first | exact Or.inl rfl | exact Or.inr (Or.inl rfl) | exact Or.inr (Or.inr rfl))) (hpe := fun a b => ps_expr (pe_bm PySem.F.plainAttrs_list PySem.F.slot_list_append PySem.F.type_list_append mt_append a (pa_cons b pa_nil))))))))))
 (pzb_freeze 3 (pzb_one (pzs_ret (pz_var (i := 3) rfl (by first | exact Or.inl rfl | exact Or.inr (Or.inl rfl) | exact Or.inr (Or.inr rfl)))))))))⟩)
def zb__law_names : ZS := (zRet (zCall 3 w__law_words (zCons (zVar 0) (zCons (zVar 1) (zCons (zC (.str "abcdefghijklmnopqrstuvwxyz")) zNil)))))
def w__law_names : ZF := zFnOk 2 zb__law_names
theorem ok__law_names (T : Txt K mg) (TX : TX K mg base) : Fz P w K mg base 3 "_law_names" 2 w__law_names := fnP (N := N__law_names) T.F__law_names sc__law_names T.g__law_names T.b__law_names rfl (fun cdv A outer s H E gA hr tk hp => ⟨_,
 (pzb_one (pzs_ret (pz_call (ok__law_words T TX) gA hr tk (pz_cons (pz_var (i := 0) rfl (by first | exact Or.inl rfl | exact Or.inr (Or.inl rfl) | exact Or.inr (Or.inr rfl))) (pz_cons (pz_var (i := 1) rfl (by first | exact Or.inl rfl | exact Or.inr (Or.inl rfl) | exact Or.inr (Or.inr rfl))) (pz_cons pz_str pz_nil))))))⟩)
def zb__law_numbers_1 : ZS := (zRet (zVar 2))
def zb__law_numbers_2 : ZS := (zAsg (zTwo (k2 dAddB) (zVar 5) (zC (.int 7))) (zName 5))
def zb__law_numbers_3 : ZS := (zIfS (zB (zTwo (k2 (dIn false)) (zVar 5) (zVar 2)))
 zb__law_numbers_2
 zNext)
def zb__law_numbers_4 : ZS := (zAppend 2 (zVar 5))
def zb__law_numbers_5 : ZS := (zAsg (zIf (zB (zTwo (k2 dGt) (zVar 5) (zC (.int 0)))) (zTwo (k2 dSubB) (zVar 5) (zC (.int 1))) (zTwo (k2 dAddB) (zVar 5) (zC (.int 1)))) (zName 5))
def zb__law_numbers_6 : ZS := (zIfS (zB (zTwo (k2 (dIn false)) (zVar 5) (zVar 2)))
 zb__law_numbers_5
 zNext)
def zb__law_numbers_7 : ZS := (zSeq (zFor (zRng1 (zCons (zTwo (k2 dMulA) (zC (.int 2)) (zVar 1)) zNil)) (zName 6)
 zb__law_numbers_3)
 zb__law_numbers_4)
def zb__law_numbers_8 : ZS := (zSeq (zFor (zRng1 (zCons (zVar 1) zNil)) (zName 6)
 zb__law_numbers_6)
 zb__law_numbers_7)
def zb__law_numbers_9 : ZS := (zSeq (zAsg (zTwo (k2 dIx) (zLst (zCons (zC (.int 0)) (zCons (zC (.int 1)) (zCons (zOne (k1 dNeg) (zC (.int 1))) (zCons (zTwo (k2 dPow) (zC (.int 10)) (zC (.int 9))) (zCons (zTwo (k2 dSubB) (zC (.int 0)) (zTwo (k2 dPow) (zC (.int 10)) (zC (.int 9)))) (zCons (zVar 4) zNil))))))) (zCall 2 zDraw (zCons (zVar 0) (zCons (zC (.int 6)) zNil)))) (zName 5))
 zb__law_numbers_8)
def zb__law_numbers_10 : ZS := (zSeq (zAsg (zTwo (k2 dSubB) (zCall 2 zDraw (zCons (zVar 0) (zCons (zTwo (k2 dAddB) (zTwo (k2 dMulA) (zC (.int 2)) (zTwo (k2 dPow) (zC (.int 10)) (zC (.int 9)))) (zC (.int 1))) zNil))) (zTwo (k2 dPow) (zC (.int 10)) (zC (.int 9)))) (zName 4))
 zb__law_numbers_9)
def zb__law_numbers_11 : ZS := (zFreeze 2 zb__law_numbers_1)
def zb__law_numbers_12 : ZS := (zSeq (zFor (zRng1 (zCons (zVar 1) zNil)) (zName 3)
 zb__law_numbers_10)
 zb__law_numbers_11)
def zb__law_numbers : ZS := (zSeq (zNew 2 (zLstN zNil))
 zb__law_numbers_12)
def w__law_numbers : ZF := zFnOk 7 zb__law_numbers
theorem ok__law_numbers (T : Txt K mg) (TX : TX K mg base) : Fz P w K mg base 2 "_law_numbers" 2 w__law_numbers := fnP (N := N__law_numbers) T.F__law_numbers sc__law_numbers T.g__law_numbers T.b__law_numbers rfl (fun cdv A outer s H E gA hr tk hp => ⟨_,
 (pzb_cons (pzs_new (i := 2) sc__law_numbers.nd rfl (.inl rfl) (pzn_lst pz_nil))
 (pzb_cons (pzs_for hp (by rfl) (pzi_rng1 T.m_range (pz_cons (pz_var (i := 1) rfl (by first | exact Or.inl rfl | exact Or.inr (Or.inl rfl) | exact Or.inr (Or.inr rfl))) pz_nil)) (pzg_name (i := 3) sc__law_numbers.nd rfl (.inl rfl))
 (pzb_cons (pzs_set (i := 4) sc__law_numbers.nd rfl (.inl rfl) (pz_subB (pz_call (ok_draw T) gA hr tk (pz_cons (pz_var (i := 0) rfl (by first | exact Or.inl rfl | exact Or.inr (Or.inl rfl) | exact Or.inr (Or.inr rfl))) (pz_cons (pz_addB (pz_mulA pz_int (pz_pow pz_int pz_int)) pz_int) pz_nil))) (pz_pow pz_int pz_int)))
 (pzb_cons (pzs_set (i := 5) sc__law_numbers.nd rfl (.inl rfl) (pz_ix (pz_lst (pz_cons pz_int (pz_cons pz_int (pz_cons (pz_neg pz_int) (pz_cons (pz_pow pz_int pz_int) (pz_cons (pz_subB pz_int (pz_pow pz_int pz_int)) (pz_cons (pz_var (i := 4) rfl (by first | exact Or.inl rfl | exact Or.inr (Or.inl rfl) | exact Or.inr (Or.inr rfl))) pz_nil))))))) (pz_call (ok_draw T) gA hr tk (pz_cons (pz_var (i := 0) rfl (by first | exact Or.inl rfl | exact Or.inr (Or.inl rfl) | exact Or.inr (Or.inr rfl))) (pz_cons pz_int pz_nil))) (fun _ _ => rfl)))
 (pzb_cons (pzs_for hp (by rfl) (pzi_rng1 T.m_range (pz_cons (pz_var (i := 1) rfl (by first | exact Or.inl rfl | exact Or.inr (Or.inl rfl) | exact Or.inr (Or.inr rfl))) pz_nil)) (pzg_name (i := 6) sc__law_numbers.nd rfl (.inl rfl))
 (pzb_one (pzs_if (pzt_cmp (op_inZ hr.units) oz_in (pz_var (i := 5) rfl (by first | exact Or.inl rfl | exact Or.inr (Or.inl rfl) | exact Or.inr (Or.inr rfl))) (pz_var (i := 2) rfl (by first | exact Or.inl rfl | exact Or.inr (Or.inl rfl) | exact Or.inr (Or.inr rfl))) (by rfl))
 (pzb_one (pzs_set (i := 5) sc__law_numbers.nd rfl (.inl rfl) (pz_if (pzt_cmp op_gtZ oz_ord (pz_var (i := 5) rfl (by first | exact Or.inl rfl | exact Or.inr (Or.inl rfl) | exact Or.inr (Or.inr rfl))) pz_int (nomark _)) (pz_subB (pz_var (i := 5) rfl (by first | exact Or.inl rfl | exact Or.inr (Or.inl rfl) | exact Or.inr (Or.inr rfl))) pz_int) (pz_addB (pz_var (i := 5) rfl (by first | exact Or.inl rfl | exact Or.inr (Or.inl rfl) | exact Or.inr (Or.inr rfl))) pz_int))))
 pzb_nil)))
 (pzb_cons (pzs_for hp (by rfl) (pzi_rng1 T.m_range (pz_cons (pz_mulA pz_int (pz_var (i := 1) rfl (by first | exact Or.inl rfl | exact Or.inr (Or.inl rfl) | exact Or.inr (Or.inr rfl)))) pz_nil)) (pzg_name (i := 6) sc__law_numbers.nd rfl (.inl rfl))
 (pzb_one (pzs_if (pzt_cmp (op_inZ hr.units) oz_in (pz_var (i := 5) rfl (by first | exact Or.inl rfl | exact Or.inr (Or.inl rfl) | exact Or.inr (Or.inr rfl))) (pz_var (i := 2) rfl (by first | exact Or.inl rfl | exact Or.inr (Or.inl rfl) | exact Or.inr (Or.inr rfl))) (by rfl))
 (pzb_one (pzs_set (i := 5) sc__law_numbers.nd rfl (.inl rfl) (pz_addB (pz_var (i := 5) rfl (by first | exact Or.inl rfl | exact Or.inr (Or.inl rfl) | exact Or.inr (Or.inr rfl))) pz_int)))
 pzb_nil)))
 (pzb_one (pzs_append (i := 2) rfl (by first | exact .inl rfl | exact .inr (.inl rfl) | exact .inr (.inr rfl)) (pz_var (i := 5) rfl (by first | exact Or.inl rfl | exact Or.inr (Or.inl rfl) | exact Or.inr (Or.inr rfl))) (hpe := fun a b => ps_expr (pe_bm PySem.F.plainAttrs_list PySem.F.slot_list_append PySem.F.type_list_append mt_append a (pa_cons b pa_nil))))))))))
 (pzb_freeze 2 (pzb_one (pzs_ret (pz_var (i := 2) rfl (by first | exact Or.inl rfl | exact Or.inr (Or.inl rfl) | exact Or.inr (Or.inr rfl))))))))⟩)
def zb__law_pool_1 : ZS := (zRet (zDisp (("name", (zVar 1)) :: (("number", (zCall 2 w__law_numbers (zCons (zVar 0) (zCons (zTwo (k2 dAddB) (zC (.int 2)) (zCall 2 zDraw (zCons (zVar 0) (zCons (zC (.int 3)) zNil)))) zNil)))) :: []))))
def zb__law_pool : ZS := (zSeq (zAsg (zCall 2 w__law_names (zCons (zVar 0) (zCons (zTwo (k2 dAddB) (zC (.int 2)) (zCall 2 zDraw (zCons (zVar 0) (zCons (zC (.int 3)) zNil)))) zNil))) (zName 1))
 zb__law_pool_1)
def w__law_pool : ZF := zFnOk 2 zb__law_pool
theorem ok__law_pool (T : Txt K mg) (TX : TX K mg base) : Fz P w K mg base 4 "_law_pool" 1 w__law_pool := fnP (N := N__law_pool) T.F__law_pool sc__law_pool T.g__law_pool T.b__law_pool rfl (fun cdv A outer s H E gA hr tk hp => ⟨_,
 (pzb_cons (pzs_set (i := 1) sc__law_pool.nd rfl (.inl rfl) (pz_call (ok__law_names T TX) gA hr tk (pz_cons (pz_var (i := 0) rfl (by first | exact Or.inl rfl | exact Or.inr (Or.inl rfl) | exact Or.inr (Or.inr rfl))) (pz_cons (pz_addB pz_int (pz_call (ok_draw T) gA hr tk (pz_cons (pz_var (i := 0) rfl (by first | exact Or.inl rfl | exact Or.inr (Or.inl rfl) | exact Or.inr (Or.inr rfl))) (pz_cons pz_int pz_nil)))) pz_nil))))
 (pzb_one (pzs_ret (pz_disp (pzps_cons (pz_var (i := 1) rfl (by first | exact Or.inl rfl | exact Or.inr (Or.inl rfl) | exact Or.inr (Or.inr rfl))) (pzps_cons (pz_call (ok__law_numbers T TX) gA hr tk (pz_cons (pz_var (i := 0) rfl (by first | exact Or.inl rfl | exact Or.inr (Or.inl rfl) | exact Or.inr (Or.inr rfl))) (pz_cons (pz_addB pz_int (pz_call (ok_draw T) gA hr tk (pz_cons (pz_var (i := 0) rfl (by first | exact Or.inl rfl | exact Or.inr (Or.inl rfl) | exact Or.inr (Or.inr rfl))) (pz_cons pz_int pz_nil)))) pz_nil))) pzps_nil))))))⟩)
def zb__law_schema_1 : ZS := (zRet (zCB (kL1 dTuple) (zCons (zVar 3) zNil)))
def zb__law_schema_2 : ZS := (zAppend 3 (zTup (zCons (zVar 4) (zCons (zVar 6) (zCons (zCB (kL1 dTuple) (zCons (zVar 7) zNil)) zNil)))))
def zb__law_schema_3 : ZS := (zSeq (zAsg (zOfN (zLc [8] (zRng1 (zCons (zVar 5) zNil)) (zName 8) zYes (zIf (zB (zTwo (k2 (dEq false)) (zVar 2) (zC (.int 0)))) (zTwo (k2 dIx) (zLst (zCons (zC (.str "name")) (zCons (zC (.str "number")) zNil))) (zCall 2 zDraw (zCons (zVar 0) (zCons (zC (.int 2)) zNil)))) (zC (.str "name"))))) (zName 7))
 zb__law_schema_2)
def zb__law_schema_4 : ZS := (zSeq (zAsg (zCB (kL2 dMin2) (zCons (zVar 5) (zCons (zTwo (k2 dIx) (zLst (zCons (zC (.int 1)) (zCons (zC (.int 1)) (zCons (zC (.int 1)) (zCons (zC (.int 2)) (zCons (zC (.int 1)) (zCons (zC (.int 0)) (zCons (zC (.int 4)) zNil)))))))) (zCall 2 zDraw (zCons (zVar 0) (zCons (zC (.int 7)) zNil)))) zNil))) (zName 6))
 zb__law_schema_3)
def zb__law_schema_5 : ZS := (zSeq (zAsg (zTwo (k2 dIx) (zLst (zCons (zC (.int 2)) (zCons (zC (.int 2)) (zCons (zC (.int 3)) (zCons (zC (.int 2)) (zCons (zC (.int 1)) (zCons (zC (.int 4)) zNil))))))) (zCall 2 zDraw (zCons (zVar 0) (zCons (zC (.int 6)) zNil)))) (zName 5))
 zb__law_schema_4)
def zb__law_schema_6 : ZS := (zFreeze 3 zb__law_schema_1)
def zb__law_schema_7 : ZS := (zSeq (zFor (zItems (zCB (kL1 dSorted) (zCons (zCall 2 w__law_names (zCons (zVar 0) (zCons (zTwo (k2 dAddB) (zC (.int 1)) (zCall 2 zDraw (zCons (zVar 0) (zCons (zVar 1) zNil)))) zNil))) zNil))) (zName 4)
 zb__law_schema_5)
 zb__law_schema_6)
def zb__law_schema_8 : ZS := (zSeq (zNew 3 (zLstN zNil))
 zb__law_schema_7)
def zb__law_schema : ZS := (zSeq (zAsg (zCall 2 zDraw (zCons (zVar 0) (zCons (zC (.int 3)) zNil))) (zName 2))
 zb__law_schema_8)
def w__law_schema : ZF := zFnOk 9 zb__law_schema
theorem ok__law_schema (T : Txt K mg) (TX : TX K mg base) : Fz P w K mg base 4 "_law_schema" 2 w__law_schema := fnP (N := N__law_schema) T.F__law_schema sc__law_schema T.g__law_schema T.b__law_schema rfl (fun cdv A outer s H E gA hr tk hp => ⟨_,
 (pzb_cons (pzs_set (i := 2) sc__law_schema.nd rfl (.inr rfl) (pz_call (ok_draw T) gA hr tk (pz_cons (pz_var (i := 0) rfl (by first | exact Or.inl rfl | exact Or.inr (Or.inl rfl) | exact Or.inr (Or.inr rfl))) (pz_cons pz_int pz_nil))))
 (pzb_cons (pzs_new (i := 3) sc__law_schema.nd rfl (.inl rfl) (pzn_lst pz_nil))
 (pzb_cons (pzs_for hp (by rfl) (pzi_seq (pz_B (cr_sortedZ hr.units TX.sys) cz_sorted T.m_sorted (pz_cons (pz_call (ok__law_names T TX) gA hr tk (pz_cons (pz_var (i := 0) rfl (by first | exact Or.inl rfl | exact Or.inr (Or.inl rfl) | exact Or.inr (Or.inr rfl))) (pz_cons (pz_addB pz_int (pz_call (ok_draw T) gA hr tk (pz_cons (pz_var (i := 0) rfl (by first | exact Or.inl rfl | exact Or.inr (Or.inl rfl) | exact Or.inr (Or.inr rfl))) (pz_cons (pz_var (i := 1) rfl (by first | exact Or.inl rfl | exact Or.inr (Or.inl rfl) | exact Or.inr (Or.inr rfl))) pz_nil)))) pz_nil))) pz_nil) (by decide +kernel))) (pzg_name (i := 4) sc__law_schema.nd rfl (.inl rfl))
 (pzb_cons (pzs_set (i := 5) sc__law_schema.nd rfl (.inl rfl) (pz_ix (pz_lst (pz_cons pz_int (pz_cons pz_int (pz_cons pz_int (pz_cons pz_int (pz_cons pz_int (pz_cons pz_int pz_nil))))))) (pz_call (ok_draw T) gA hr tk (pz_cons (pz_var (i := 0) rfl (by first | exact Or.inl rfl | exact Or.inr (Or.inl rfl) | exact Or.inr (Or.inr rfl))) (pz_cons pz_int pz_nil))) (fun _ _ => rfl)))
 (pzb_cons (pzs_set (i := 6) sc__law_schema.nd rfl (.inl rfl) (pz_B (call_min2 rfl) cz_min2 T.m_min (pz_cons (pz_var (i := 5) rfl (by first | exact Or.inl rfl | exact Or.inr (Or.inl rfl) | exact Or.inr (Or.inr rfl))) (pz_cons (pz_ix (pz_lst (pz_cons pz_int (pz_cons pz_int (pz_cons pz_int (pz_cons pz_int (pz_cons pz_int (pz_cons pz_int (pz_cons pz_int pz_nil)))))))) (pz_call (ok_draw T) gA hr tk (pz_cons (pz_var (i := 0) rfl (by first | exact Or.inl rfl | exact Or.inr (Or.inl rfl) | exact Or.inr (Or.inr rfl))) (pz_cons pz_int pz_nil))) (fun _ _ => rfl)) pz_nil)) (by decide +kernel)))
 (pzb_cons (pzs_setLc (i := 7) (own := [("column", 8)]) (g := (gName 8)) (tt := tYes) (by rfl) sc__law_schema.nd rfl rfl (sw_true rfl rfl rfl (by decide +kernel)) (pzi_rng1 T.m_range (pz_cons (pz_var (i := 5) rfl (by first | exact Or.inl rfl | exact Or.inr (Or.inl rfl) | exact Or.inr (Or.inr rfl))) pz_nil)) (blkOk_by (own := [("column", 8)]) (N := N__law_schema) (sc := defScope s__law_schema) (by decide +kernel)) (fun _ _ _ _ _ => (pzg_name (i := 8) sc__law_schema.nd rfl (.inl rfl))) (fun _ _ _ _ _ => pzts_nil) (fun _ _ _ _ _ => (pz_if (pzt_cmp (op_eqZ hr.units) oz_eq (pz_var (i := 2) rfl (by first | exact Or.inl rfl | exact Or.inr (Or.inl rfl) | exact Or.inr (Or.inr rfl))) pz_int (nomark _)) (pz_ix (pz_lst (pz_cons pz_str (pz_cons pz_str pz_nil))) (pz_call (ok_draw T) gA hr takes0 (pz_cons (pz_var (i := 0) rfl (by first | exact Or.inl rfl | exact Or.inr (Or.inl rfl) | exact Or.inr (Or.inr rfl))) (pz_cons pz_int pz_nil))) (fun _ _ => rfl)) pz_str)))
 (pzb_one (pzs_append (i := 3) rfl (by first | exact .inl rfl | exact .inr (.inl rfl) | exact .inr (.inr rfl)) (pz_tup (pz_cons (pz_var (i := 4) rfl (by first | exact Or.inl rfl | exact Or.inr (Or.inl rfl) | exact Or.inr (Or.inr rfl))) (pz_cons (pz_var (i := 6) rfl (by first | exact Or.inl rfl | exact Or.inr (Or.inl rfl) | exact Or.inr (Or.inr rfl))) (pz_cons (pz_BT call_tuple_of cz_tuple T.m_tuple (pz_cons (pz_var (i := 7) rfl (by first | exact Or.inl rfl | exact Or.inr (Or.inl rfl) | exact Or.inr (Or.inr rfl))) pz_nil) (by decide +kernel)) pz_nil)))) (hpe := fun a b => ps_expr (pe_bm PySem.F.plainAttrs_list PySem.F.slot_list_append PySem.F.type_list_append mt_append a (pa_cons b pa_nil)))))))))
 (pzb_freeze 3 (pzb_one (pzs_ret (pz_BT call_tuple_of cz_tuple T.m_tuple (pz_cons (pz_var (i := 3) rfl (by first | exact Or.inl rfl | exact Or.inr (Or.inl rfl) | exact Or.inr (Or.inr rfl))) pz_nil) (by decide +kernel))))))))⟩)
def zb__law_record : ZS := (zRet (zCB (kL1 dTuple) (zCons (zOfN (zLc [3] (zItems (zVar 1)) (zName 3) zYes (zCall 2 w__law_pick (zCons (zVar 0) (zCons (zDGet (zVar 2) (zVar 3)) zNil))))) zNil)))
def w__law_record : ZF := zFnOk 4 zb__law_record
theorem ok__law_record (T : Txt K mg) (TX : TX K mg base) : Fz P w K mg base 3 "_law_record" 3 w__law_record := fnP (N := N__law_record) T.F__law_record sc__law_record T.g__law_record T.b__law_record rfl (fun cdv A outer s H E gA hr tk hp => ⟨_,
 (pzb_one (pzs_ret (pz_BT call_tuple_of cz_tuple T.m_tuple (pz_cons (PZN.z (pzn_lc (own := [("kind", 3)]) (g := (gName 3)) (tt := tYes) (by rfl) sc__law_record.nd (pzi_seq (pz_var (i := 1) rfl (by first | exact Or.inl rfl | exact Or.inr (Or.inl rfl) | exact Or.inr (Or.inr rfl)))) (blkOk_by (own := [("kind", 3)]) (N := N__law_record) (sc := defScope s__law_record) (by decide +kernel)) (fun _ _ _ _ _ => (pzg_name (i := 3) sc__law_record.nd rfl (.inl rfl))) (fun _ _ _ _ _ => pzts_nil) (fun _ _ _ _ _ => (pz_call (ok__law_pick T TX) gA hr takes0 (pz_cons (pz_var (i := 0) rfl (by first | exact Or.inl rfl | exact Or.inr (Or.inl rfl) | exact Or.inr (Or.inr rfl))) (pz_cons (pz_dget hr.units (pz_var (i := 2) rfl (by first | exact Or.inl rfl | exact Or.inr (Or.inl rfl) | exact Or.inr (Or.inr rfl))) (pz_var (i := 3) rfl (by first | exact Or.inl rfl | exact Or.inr (Or.inl rfl) | exact Or.inr (Or.inr rfl))) (fun _ _ => rfl)) pz_nil)))))) pz_nil) (by decide +kernel))))⟩)
def zb__law_other_1 : ZS := (zRet (zCall 2 w__law_pick (zCons (zVar 0) (zCons (zVar 1) zNil))))
def zb__law_other_2 : ZS := (zSeq (zAsg (zTwo (k2 dAddB) (zVar 1) (zLst (zCons (zC (.str "-1")) (zCons (zTup (zCons (zC (.bool true)) zNil)) (zCons (zTup (zCons (zC .none) zNil)) (zCons (zC (.str "a\n")) (zCons (zC (.str "A\n")) (zCons (zC (.str "ab ")) (zCons (zC (.str "z-")) zNil))))))))) (zName 1))
 zb__law_other_1)
def zb__law_other_3 : ZS := (zSeq (zAsg (zTwo (k2 dAddB) (zVar 1) (zLst (zCons (zTup zNil) (zCons (zLst zNil) (zCons (zC (.dict [])) (zCons (zTup (zCons (zC (.str "a")) zNil)) (zCons (zTup (zCons (zC (.str "name")) zNil)) (zCons (zLst (zCons (zC (.str "name")) zNil)) (zCons (zTup (zCons (zTup zNil) zNil)) (zCons (zDisp (("a", (zC (.int 1))) :: [])) (zCons (zTup (zCons (zC (.int 1)) (zCons (zC (.str "a")) zNil))) (zCons (zTup (zCons (zC (.str "name")) (zCons (zC (.str "number")) zNil))) zNil)))))))))))) (zName 1))
 zb__law_other_2)
def zb__law_other_4 : ZS := (zSeq (zAsg (zTwo (k2 dAddB) (zVar 1) (zLst (zCons (zC (.str "abcdefgh")) (zCons (zC (.str "abcdefghi")) (zCons (zC (.str "ABCD")) (zCons (zC (.str "ABCDE")) (zCons (zC (.str "aB")) (zCons (zC (.str "a1")) (zCons (zC (.str "a b")) (zCons (zC (.str "name")) (zCons (zC (.str "number")) (zCons (zC (.str "none")) zNil)))))))))))) (zName 1))
 zb__law_other_3)
def zb__law_other : ZS := (zSeq (zAsg (zLst (zCons (zC .none) (zCons (zC (.bool true)) (zCons (zC (.bool false)) (zCons (zOne (k1 dNeg) (zC (.int 1))) (zCons (zC (.int 0)) (zCons (zC (.int 1)) (zCons (zC (.int 2)) (zCons (zC (.int 4)) (zCons (zC (.int 5)) (zCons (zTwo (k2 dAddB) (zTwo (k2 dPow) (zC (.int 10)) (zC (.int 9))) (zC (.int 1))) (zCons (zTwo (k2 dSubB) (zTwo (k2 dSubB) (zC (.int 0)) (zTwo (k2 dPow) (zC (.int 10)) (zC (.int 9)))) (zC (.int 1))) (zCons (zTwo (k2 dPow) (zC (.int 10)) (zC (.int 39))) (zCons (zC (.str "")) (zCons (zC (.str "a")) (zCons (zC (.str "A")) zNil)))))))))))))))) (zName 1))
 zb__law_other_4)
def w__law_other : ZF := zFnOk 2 zb__law_other
theorem ok__law_other (T : Txt K mg) (TX : TX K mg base) : Fz P w K mg base 3 "_law_other" 1 w__law_other := fnP (N := N__law_other) T.F__law_other sc__law_other T.g__law_other T.b__law_other rfl (fun cdv A outer s H E gA hr tk hp => ⟨_,
 (pzb_cons (pzs_set (i := 1) sc__law_other.nd rfl (.inl rfl) (pz_lst (pz_cons pz_non (pz_cons pz_bl (pz_cons pz_bl (pz_cons (pz_neg pz_int) (pz_cons pz_int (pz_cons pz_int (pz_cons pz_int (pz_cons pz_int (pz_cons pz_int (pz_cons (pz_addB (pz_pow pz_int pz_int) pz_int) (pz_cons (pz_subB (pz_subB pz_int (pz_pow pz_int pz_int)) pz_int) (pz_cons (pz_pow pz_int pz_int) (pz_cons pz_str (pz_cons pz_str (pz_cons pz_str pz_nil)))))))))))))))))
 (pzb_cons (pzs_set (i := 1) sc__law_other.nd rfl (.inl rfl) (pz_addB (pz_var (i := 1) rfl (by first | exact Or.inl rfl | exact Or.inr (Or.inl rfl) | exact Or.inr (Or.inr rfl))) (pz_lst (pz_cons pz_str (pz_cons pz_str (pz_cons pz_str (pz_cons pz_str (pz_cons pz_str (pz_cons pz_str (pz_cons pz_str (pz_cons pz_str (pz_cons pz_str (pz_cons pz_str pz_nil)))))))))))))
 (pzb_cons (pzs_set (i := 1) sc__law_other.nd rfl (.inl rfl) (pz_addB (pz_var (i := 1) rfl (by first | exact Or.inl rfl | exact Or.inr (Or.inl rfl) | exact Or.inr (Or.inr rfl))) (pz_lst (pz_cons (pz_tup pz_nil) (pz_cons (pz_lst pz_nil) (pz_cons pz_dnew (pz_cons (pz_tup (pz_cons pz_str pz_nil)) (pz_cons (pz_tup (pz_cons pz_str pz_nil)) (pz_cons (pz_lst (pz_cons pz_str pz_nil)) (pz_cons (pz_tup (pz_cons (pz_tup pz_nil) pz_nil)) (pz_cons (pz_disp (pzps_cons pz_int pzps_nil)) (pz_cons (pz_tup (pz_cons pz_int (pz_cons pz_str pz_nil))) (pz_cons (pz_tup (pz_cons pz_str (pz_cons pz_str pz_nil))) pz_nil)))))))))))))
 (pzb_cons (pzs_set (i := 1) sc__law_other.nd rfl (.inl rfl) (pz_addB (pz_var (i := 1) rfl (by first | exact Or.inl rfl | exact Or.inr (Or.inl rfl) | exact Or.inr (Or.inr rfl))) (pz_lst (pz_cons pz_str (pz_cons (pz_tup (pz_cons pz_bl pz_nil)) (pz_cons (pz_tup (pz_cons pz_non pz_nil)) (pz_cons pz_str (pz_cons pz_str (pz_cons pz_str (pz_cons pz_str pz_nil))))))))))
 (pzb_one (pzs_ret (pz_call (ok__law_pick T TX) gA hr tk (pz_cons (pz_var (i := 0) rfl (by first | exact Or.inl rfl | exact Or.inr (Or.inl rfl) | exact Or.inr (Or.inr rfl))) (pz_cons (pz_var (i := 1) rfl (by first | exact Or.inl rfl | exact Or.inr (Or.inl rfl) | exact Or.inr (Or.inr rfl))) pz_nil)))))))))⟩)
def zb__law_changed_1 (self : ZF) : ZS := (zRet (zCall 2 w__law_pick (zCons (zVar 0) (zCons (zLst (zCons (zTwo (k2 dAddB) (zVar 1) (zC (.int 1))) (zCons (zTwo (k2 dSubB) (zVar 1) (zC (.int 1))) (zCons (zTwo (k2 (dEq false)) (zVar 1) (zC (.int 1))) (zCons (zCB (kL1 dStrB) (zCons (zVar 1) zNil)) (zCons (zTwo (k2 dSubB) (zC (.int 0)) (zVar 1)) (zCons (zC (.int 0)) zNil))))))) zNil))))
def zb__law_changed_2 (self : ZF) : ZS := (zRet (zCall 1 w__law_other (zCons (zVar 0) zNil)))
def zb__law_changed_3 (self : ZF) : ZS := (zRet (zCall 2 w__law_pick (zCons (zVar 0) (zCons (zVar 4) zNil))))
def zb__law_changed_4 (self : ZF) : ZS := (zSeq (zAsg (zLst (zCons (zTwo (k2 dAddB) (zVar 1) (zC (.str "a"))) (zCons (zOne (k1 dUpper) (zVar 1)) (zCons (zSl (zVar 1) zNoPart (zPart (zOne (k1 dNeg) (zC (.int 1))))) (zCons (zTwo (k2 dAddB) (zVar 1) (zC (.str "1"))) (zCons (zTup (zCons (zVar 1) zNil)) (zCons (zOne (k1 dLower) (zVar 1)) (zCons (zC (.str "a")) zNil)))))))) (zName 4))
 (zb__law_changed_3 self))
def zb__law_changed_5 (self : ZF) : ZS := (zSeq (zIfS (zAnd (zTru (zOne (k1 (dIsa "int")) (zVar 1))) (zB (zTwo (k2 dGt) (zVar 2) (zC (.int 1)))))
 (zb__law_changed_1 self)
 zNext)
 (zb__law_changed_2 self))
def zb__law_changed_6 (self : ZF) : ZS := (zRet (zCall 2 w__law_pick (zCons (zVar 0) (zCons (zTwo (k2 dAddB) (zVar 4) (zLst (zCons (zTwo (k2 dMulA) (zVar 1) (zC (.int 2))) zNil))) zNil))))
def zb__law_changed_7 (self : ZF) : ZS := (zSeq (zAsg (zLst (zCons (zCB (kL1 dList) (zCons (zVar 1) zNil)) (zCons (zTwo (k2 dAddB) (zVar 1) (zSl (zVar 1) (zPart (zOne (k1 dNeg) (zC (.int 1)))) zNoPart)) (zCons (zSl (zVar 1) zNoPart (zPart (zOne (k1 dNeg) (zC (.int 1))))) (zCons (zOne (k1 dRev) (zVar 1)) (zCons (zTup (zCons (zVar 1) zNil)) (zCons (zTwo (k2 dAddB) (zVar 1) (zTup (zCons (zC (.int 0)) zNil))) (zCons (zSl (zVar 1) (zPart (zC (.int 1))) zNoPart) zNil)))))))) (zName 4))
 (zb__law_changed_6 self))
def zb__law_changed_8 (self : ZF) : ZS := (zSeq (zIfS (zAnd (zTru (zOne (k1 (dIsa "str")) (zVar 1))) (zB (zTwo (k2 dGt) (zVar 2) (zC (.int 1)))))
 (zb__law_changed_4 self)
 zNext)
 (zb__law_changed_5 self))
def zb__law_changed_9 (self : ZF) : ZS := (zRet (zTwo (k2 dAddB) (zTwo (k2 dAddB) (zSl (zVar 1) zNoPart (zPart (zVar 3))) (zTup (zCons (zCall 2 self (zCons (zVar 0) (zCons (zTwo (k2 dIx) (zVar 1) (zVar 3)) zNil))) zNil))) (zSl (zVar 1) (zPart (zTwo (k2 dAddB) (zVar 3) (zC (.int 1)))) zNoPart)))
def zb__law_changed_10 (self : ZF) : ZS := (zSeq (zAsg (zCall 2 zDraw (zCons (zVar 0) (zCons (zCB (kL1 dLen) (zCons (zVar 1) zNil)) zNil))) (zName 3))
 (zb__law_changed_9 self))
def zb__law_changed_11 (self : ZF) : ZS := (zSeq (zIfS (zAnd (zTru (zOne (k1 (dIsa "tuple")) (zVar 1))) (zB (zTwo (k2 dGt) (zVar 2) (zC (.int 0)))))
 (zb__law_changed_7 self)
 zNext)
 (zb__law_changed_8 self))
def zb__law_changed_12 (self : ZF) : ZS := (zSeq (zIfS (zAnd (zTru (zOne (k1 (dIsa "tuple")) (zVar 1))) (zAnd (zB (zTwo (k2 (dEq true)) (zVar 1) (zTup zNil))) (zB (zTwo (k2 dGt) (zVar 2) (zC (.int 2))))))
 (zb__law_changed_10 self)
 zNext)
 (zb__law_changed_11 self))
def zb__law_changed (self : ZF) : ZS := (zSeq (zAsg (zCall 2 zDraw (zCons (zVar 0) (zCons (zC (.int 8)) zNil))) (zName 2))
 (zb__law_changed_12 self))
def w__law_changed : Nat → ZF
  | 0 => fun _ _ _ => False
  | m + 1 => zFnOk 5 (zb__law_changed (w__law_changed m))
theorem ok__law_changed (T : Txt K mg) (TX : TX K mg base) : ∀ m, Fz P w K mg base (4 + m) "_law_changed" 2 (w__law_changed m)
  | 0 => fz_none T.F__law_changed T.g__law_changed T.b__law_changed
  | m + 1 => fnP (k := 4 + m) (N := N__law_changed) T.F__law_changed sc__law_changed T.g__law_changed T.b__law_changed rfl (fun cdv A outer s H E gA hr tk hp => ⟨_,
 (pzb_cons (pzs_set (i := 2) sc__law_changed.nd rfl (.inl rfl) (pz_call (ok_draw T) gA hr tk (pz_cons (pz_var (i := 0) rfl (by first | exact Or.inl rfl | exact Or.inr (Or.inl rfl) | exact Or.inr (Or.inr rfl))) (pz_cons pz_int pz_nil)) (hk := by omega)))
 (pzb_cons (pzs_if (PZW.pt (pzw_and (pzt_tru (pz_isi T.m_isinstance T.m_tuple (pz_var (i := 1) rfl (by first | exact Or.inl rfl | exact Or.inr (Or.inl rfl) | exact Or.inr (Or.inr rfl))))) (pzw_and (pzt_cmp (op_neZ hr.units) oz_eq (pz_var (i := 1) rfl (by first | exact Or.inl rfl | exact Or.inr (Or.inl rfl) | exact Or.inr (Or.inr rfl))) (pz_tup pz_nil) (nomark _)) (pzw_and1 (pzt_cmp op_gtZ oz_ord (pz_var (i := 2) rfl (by first | exact Or.inl rfl | exact Or.inr (Or.inl rfl) | exact Or.inr (Or.inr rfl))) pz_int (nomark _))))))
 (pzb_cons (pzs_set (i := 3) sc__law_changed.nd rfl (.inl rfl) (pz_call (ok_draw T) gA hr tk (pz_cons (pz_var (i := 0) rfl (by first | exact Or.inl rfl | exact Or.inr (Or.inl rfl) | exact Or.inr (Or.inr rfl))) (pz_cons (pz_B cr_lenZ cz_len T.m_len (pz_cons (pz_var (i := 1) rfl (by first | exact Or.inl rfl | exact Or.inr (Or.inl rfl) | exact Or.inr (Or.inr rfl))) pz_nil) (by decide +kernel)) pz_nil)) (hk := by omega)))
 (pzb_one (pzs_ret (pz_addB (pz_addB (pz_sl (pz_var (i := 1) rfl (by first | exact Or.inl rfl | exact Or.inr (Or.inl rfl) | exact Or.inr (Or.inr rfl))) pzo_none (pzo_some (pz_var (i := 3) rfl (by first | exact Or.inl rfl | exact Or.inr (Or.inl rfl) | exact Or.inr (Or.inr rfl))))) (pz_tup (pz_cons (pz_call (ok__law_changed T TX m) gA hr tk (pz_cons (pz_var (i := 0) rfl (by first | exact Or.inl rfl | exact Or.inr (Or.inl rfl) | exact Or.inr (Or.inr rfl))) (pz_cons (pz_ix (pz_var (i := 1) rfl (by first | exact Or.inl rfl | exact Or.inr (Or.inl rfl) | exact Or.inr (Or.inr rfl))) (pz_var (i := 3) rfl (by first | exact Or.inl rfl | exact Or.inr (Or.inl rfl) | exact Or.inr (Or.inr rfl))) (fun _ _ => rfl)) pz_nil)) (hk := by omega)) pz_nil))) (pz_sl (pz_var (i := 1) rfl (by first | exact Or.inl rfl | exact Or.inr (Or.inl rfl) | exact Or.inr (Or.inr rfl))) (pzo_some (pz_addB (pz_var (i := 3) rfl (by first | exact Or.inl rfl | exact Or.inr (Or.inl rfl) | exact Or.inr (Or.inr rfl))) pz_int)) pzo_none)))))
 pzb_nil)
 (pzb_cons (pzs_if (PZW.pt (pzw_and (pzt_tru (pz_isi T.m_isinstance T.m_tuple (pz_var (i := 1) rfl (by first | exact Or.inl rfl | exact Or.inr (Or.inl rfl) | exact Or.inr (Or.inr rfl))))) (pzw_and1 (pzt_cmp op_gtZ oz_ord (pz_var (i := 2) rfl (by first | exact Or.inl rfl | exact Or.inr (Or.inl rfl) | exact Or.inr (Or.inr rfl))) pz_int (nomark _)))))
 (pzb_cons (pzs_set (i := 4) sc__law_changed.nd rfl (.inl rfl) (pz_lst (pz_cons (pz_BT call_list_of cz_list T.m_list (pz_cons (pz_var (i := 1) rfl (by first | exact Or.inl rfl | exact Or.inr (Or.inl rfl) | exact Or.inr (Or.inr rfl))) pz_nil) (by decide +kernel)) (pz_cons (pz_addB (pz_var (i := 1) rfl (by first | exact Or.inl rfl | exact Or.inr (Or.inl rfl) | exact Or.inr (Or.inr rfl))) (pz_sl (pz_var (i := 1) rfl (by first | exact Or.inl rfl | exact Or.inr (Or.inl rfl) | exact Or.inr (Or.inr rfl))) (pzo_some (pz_neg pz_int)) pzo_none)) (pz_cons (pz_sl (pz_var (i := 1) rfl (by first | exact Or.inl rfl | exact Or.inr (Or.inl rfl) | exact Or.inr (Or.inr rfl))) pzo_none (pzo_some (pz_neg pz_int))) (pz_cons (pz_rev (pz_var (i := 1) rfl (by first | exact Or.inl rfl | exact Or.inr (Or.inl rfl) | exact Or.inr (Or.inr rfl)))) (pz_cons (pz_tup (pz_cons (pz_var (i := 1) rfl (by first | exact Or.inl rfl | exact Or.inr (Or.inl rfl) | exact Or.inr (Or.inr rfl))) pz_nil)) (pz_cons (pz_addB (pz_var (i := 1) rfl (by first | exact Or.inl rfl | exact Or.inr (Or.inl rfl) | exact Or.inr (Or.inr rfl))) (pz_tup (pz_cons pz_int pz_nil))) (pz_cons (pz_sl (pz_var (i := 1) rfl (by first | exact Or.inl rfl | exact Or.inr (Or.inl rfl) | exact Or.inr (Or.inr rfl))) (pzo_some pz_int) pzo_none) pz_nil)))))))))
 (pzb_one (pzs_ret (pz_call (ok__law_pick T TX) gA hr tk (pz_cons (pz_var (i := 0) rfl (by first | exact Or.inl rfl | exact Or.inr (Or.inl rfl) | exact Or.inr (Or.inr rfl))) (pz_cons (pz_addB (pz_var (i := 4) rfl (by first | exact Or.inl rfl | exact Or.inr (Or.inl rfl) | exact Or.inr (Or.inr rfl))) (pz_lst (pz_cons (pz_mulA (pz_var (i := 1) rfl (by first | exact Or.inl rfl | exact Or.inr (Or.inl rfl) | exact Or.inr (Or.inr rfl))) pz_int) pz_nil))) pz_nil)) (hk := by omega)))))
 pzb_nil)
 (pzb_cons (pzs_if (PZW.pt (pzw_and (pzt_tru (pz_isi T.m_isinstance T.m_str (pz_var (i := 1) rfl (by first | exact Or.inl rfl | exact Or.inr (Or.inl rfl) | exact Or.inr (Or.inr rfl))))) (pzw_and1 (pzt_cmp op_gtZ oz_ord (pz_var (i := 2) rfl (by first | exact Or.inl rfl | exact Or.inr (Or.inl rfl) | exact Or.inr (Or.inr rfl))) pz_int (nomark _)))))
 (pzb_cons (pzs_set (i := 4) sc__law_changed.nd rfl (.inl rfl) (pz_lst (pz_cons (pz_addB (pz_var (i := 1) rfl (by first | exact Or.inl rfl | exact Or.inr (Or.inl rfl) | exact Or.inr (Or.inr rfl))) pz_str) (pz_cons (pz_upper (pz_var (i := 1) rfl (by first | exact Or.inl rfl | exact Or.inr (Or.inl rfl) | exact Or.inr (Or.inr rfl)))) (pz_cons (pz_sl (pz_var (i := 1) rfl (by first | exact Or.inl rfl | exact Or.inr (Or.inl rfl) | exact Or.inr (Or.inr rfl))) pzo_none (pzo_some (pz_neg pz_int))) (pz_cons (pz_addB (pz_var (i := 1) rfl (by first | exact Or.inl rfl | exact Or.inr (Or.inl rfl) | exact Or.inr (Or.inr rfl))) pz_str) (pz_cons (pz_tup (pz_cons (pz_var (i := 1) rfl (by first | exact Or.inl rfl | exact Or.inr (Or.inl rfl) | exact Or.inr (Or.inr rfl))) pz_nil)) (pz_cons (pz_lower (pz_var (i := 1) rfl (by first | exact Or.inl rfl | exact Or.inr (Or.inl rfl) | exact Or.inr (Or.inr rfl)))) (pz_cons pz_str pz_nil)))))))))
 (pzb_one (pzs_ret (pz_call (ok__law_pick T TX) gA hr tk (pz_cons (pz_var (i := 0) rfl (by first | exact Or.inl rfl | exact Or.inr (Or.inl rfl) | exact Or.inr (Or.inr rfl))) (pz_cons (pz_var (i := 4) rfl (by first | exact Or.inl rfl | exact Or.inr (Or.inl rfl) | exact Or.inr (Or.inr rfl))) pz_nil)) (hk := by omega)))))
 pzb_nil)
 (pzb_cons (pzs_if (PZW.pt (pzw_and (pzt_tru (pz_isi T.m_isinstance T.m_int (pz_var (i := 1) rfl (by first | exact Or.inl rfl | exact Or.inr (Or.inl rfl) | exact Or.inr (Or.inr rfl))))) (pzw_and1 (pzt_cmp op_gtZ oz_ord (pz_var (i := 2) rfl (by first | exact Or.inl rfl | exact Or.inr (Or.inl rfl) | exact Or.inr (Or.inr rfl))) pz_int (nomark _)))))
 (pzb_one (pzs_ret (pz_call (ok__law_pick T TX) gA hr tk (pz_cons (pz_var (i := 0) rfl (by first | exact Or.inl rfl | exact Or.inr (Or.inl rfl) | exact Or.inr (Or.inr rfl))) (pz_cons (pz_lst (pz_cons (pz_addB (pz_var (i := 1) rfl (by first | exact Or.inl rfl | exact Or.inr (Or.inl rfl) | exact Or.inr (Or.inr rfl))) pz_int) (pz_cons (pz_subB (pz_var (i := 1) rfl (by first | exact Or.inl rfl | exact Or.inr (Or.inl rfl) | exact Or.inr (Or.inr rfl))) pz_int) (pz_cons (pz_cmp (op_eqZ hr.units) oz_eq (pz_var (i := 1) rfl (by first | exact Or.inl rfl | exact Or.inr (Or.inl rfl) | exact Or.inr (Or.inr rfl))) pz_int (nomark _)) (pz_cons (pz_BT cr_strB cz_strB T.m_str (pz_cons (pz_var (i := 1) rfl (by first | exact Or.inl rfl | exact Or.inr (Or.inl rfl) | exact Or.inr (Or.inr rfl))) pz_nil) (by decide +kernel)) (pz_cons (pz_subB pz_int (pz_var (i := 1) rfl (by first | exact Or.inl rfl | exact Or.inr (Or.inl rfl) | exact Or.inr (Or.inr rfl)))) (pz_cons pz_int pz_nil))))))) pz_nil)) (hk := by omega))))
 pzb_nil)
 (pzb_one (pzs_ret (pz_call (ok__law_other T TX) gA hr tk (pz_cons (pz_var (i := 0) rfl (by first | exact Or.inl rfl | exact Or.inr (Or.inl rfl) | exact Or.inr (Or.inr rfl))) pz_nil) (hk := by omega)))))))))⟩)
def zb__law_is_word_1 : ZS := (zRet (zC (.bool false)))
def zb__law_is_word_2 : ZS := (zRet (zTwo (k2 (dEq false)) (zOfN (zLc [3] (zItems (zVar 0)) (zName 3) (zB (zTwo (k2 (dIn true)) (zVar 3) (zVar 1))) (zVar 3))) (zLst zNil)))
def zb__law_is_word : ZS := (zSeq (zIfS (zOr (zNot (zTru (zOne (k1 (dIsa "str")) (zVar 0)))) (zNot (zB (zChain (k2 dLe) (k2 dLe) (zC (.int 1)) (zCB (kL1 dLen) (zCons (zVar 0) zNil)) (zVar 2)))))
 zb__law_is_word_1
 zNext)
 zb__law_is_word_2)
def w__law_is_word : ZF := zFnOk 4 zb__law_is_word
theorem ok__law_is_word (T : Txt K mg) (TX : TX K mg base) : Fz P w K mg base 1 "_law_is_word" 3 w__law_is_word := fnP (N := N__law_is_word) T.F__law_is_word sc__law_is_word T.g__law_is_word T.b__law_is_word rfl (fun cdv A outer s H E gA hr tk hp => ⟨_,
 (pzb_cons (pzs_if (PZW.pt (pzw_or (pzt_not (pzt_tru (pz_isi T.m_isinstance T.m_str (pz_var (i := 0) rfl (by first | exact Or.inl rfl | exact Or.inr (Or.inl rfl) | exact Or.inr (Or.inr rfl)))))) (pzw_or1 (pzt_not (pzt_chain op_leZ oz_ord op_leZ oz_ord pz_int (pz_B cr_lenZ cz_len T.m_len (pz_cons (pz_var (i := 0) rfl (by first | exact Or.inl rfl | exact Or.inr (Or.inl rfl) | exact Or.inr (Or.inr rfl))) pz_nil) (by decide +kernel)) (pz_var (i := 2) rfl (by first | exact Or.inl rfl | exact Or.inr (Or.inl rfl) | exact Or.inr (Or.inr rfl))))))))
 (pzb_one (pzs_ret pz_bl))
 pzb_nil)
 (pzb_one (pzs_ret (pz_cmp (op_eqZ hr.units) oz_eq (PZN.z (pzn_lc (own := [("letter", 3)]) (g := (gName 3)) (by rfl) sc__law_is_word.nd (pzi_seq (pz_var (i := 0) rfl (by first | exact Or.inl rfl | exact Or.inr (Or.inl rfl) | exact Or.inr (Or.inr rfl)))) (blkOk_by (own := [("letter", 3)]) (N := N__law_is_word) (sc := defScope s__law_is_word) (by decide +kernel)) (fun _ _ _ _ _ => (pzg_name (i := 3) sc__law_is_word.nd rfl (.inl rfl))) (fun _ _ _ _ _ => (pzts_one (pzt_cmp (op_notInZ hr.units) oz_in (pz_var (i := 3) rfl (by first | exact Or.inl rfl | exact Or.inr (Or.inl rfl) | exact Or.inr (Or.inr rfl))) (pz_var (i := 1) rfl (by first | exact Or.inl rfl | exact Or.inr (Or.inl rfl) | exact Or.inr (Or.inr rfl))) (by rfl)))) (fun _ _ _ _ _ => (pz_var (i := 3) rfl (by first | exact Or.inl rfl | exact Or.inr (Or.inl rfl) | exact Or.inr (Or.inr rfl)))))) (pz_lst pz_nil) (nomark _)))))⟩)
def zb__law_is_whole : ZS := (zRet (zAndV (zOne (k1 (dIsa "int")) (zVar 0)) (zAndV (zNotV (zOne (k1 (dIsa "bool")) (zVar 0))) (zChain (k2 dLe) (k2 dLe) (zVar 1) (zVar 0) (zVar 2)))))
def w__law_is_whole : ZF := zFnOk 3 zb__law_is_whole
theorem ok__law_is_whole (T : Txt K mg) (TX : TX K mg base) : Fz P w K mg base 1 "_law_is_whole" 3 w__law_is_whole := fnP (N := N__law_is_whole) T.F__law_is_whole sc__law_is_whole T.g__law_is_whole T.b__law_is_whole rfl (fun cdv A outer s H E gA hr tk hp => ⟨_,
 (pzb_one (pzs_ret (pz_and (pz_isi T.m_isinstance T.m_int (pz_var (i := 0) rfl (by first | exact Or.inl rfl | exact Or.inr (Or.inl rfl) | exact Or.inr (Or.inr rfl)))) (pz_and (pz_not (pz_isi T.m_isinstance T.m_bool (pz_var (i := 0) rfl (by first | exact Or.inl rfl | exact Or.inr (Or.inl rfl) | exact Or.inr (Or.inr rfl))))) (pz_one (pz_chain op_leZ oz_ord op_leZ oz_ord (pz_var (i := 1) rfl (by first | exact Or.inl rfl | exact Or.inr (Or.inl rfl) | exact Or.inr (Or.inr rfl))) (pz_var (i := 0) rfl (by first | exact Or.inl rfl | exact Or.inr (Or.inl rfl) | exact Or.inr (Or.inr rfl))) (pz_var (i := 2) rfl (by first | exact Or.inl rfl | exact Or.inr (Or.inl rfl) | exact Or.inr (Or.inr rfl)))))))))⟩)
def zb__law_kind_1 : ZS := (zRet (zC (.str "name")))
def zb__law_kind_2 : ZS := (zRet (zIf (zTru (zCall 3 w__law_is_whole (zCons (zVar 0) (zCons (zTwo (k2 dSubB) (zC (.int 0)) (zTwo (k2 dPow) (zC (.int 10)) (zC (.int 9)))) (zCons (zTwo (k2 dPow) (zC (.int 10)) (zC (.int 9))) zNil))))) (zC (.str "number")) (zC .none)))
def zb__law_kind : ZS := (zSeq (zIfS (zTru (zCall 3 w__law_is_word (zCons (zVar 0) (zCons (zC (.str "abcdefghijklmnopqrstuvwxyz")) (zCons (zC (.int 8)) zNil)))))
 zb__law_kind_1
 zNext)
 zb__law_kind_2)
def w__law_kind : ZF := zFnOk 1 zb__law_kind
theorem ok__law_kind (T : Txt K mg) (TX : TX K mg base) : Fz P w K mg base 2 "_law_kind" 1 w__law_kind := fnP (N := N__law_kind) T.F__law_kind sc__law_kind T.g__law_kind T.b__law_kind rfl (fun cdv A outer s H E gA hr tk hp => ⟨_,
 (pzb_cons (pzs_if (pzt_tru (pz_call (ok__law_is_word T TX) gA hr tk (pz_cons (pz_var (i := 0) rfl (by first | exact Or.inl rfl | exact Or.inr (Or.inl rfl) | exact Or.inr (Or.inr rfl))) (pz_cons pz_str (pz_cons pz_int pz_nil)))))
 (pzb_one (pzs_ret pz_str))
 pzb_nil)
 (pzb_one (pzs_ret (pz_if (pzt_tru (pz_call (ok__law_is_whole T TX) gA hr tk (pz_cons (pz_var (i := 0) rfl (by first | exact Or.inl rfl | exact Or.inr (Or.inl rfl) | exact Or.inr (Or.inr rfl))) (pz_cons (pz_subB pz_int (pz_pow pz_int pz_int)) (pz_cons (pz_pow pz_int pz_int) pz_nil))))) pz_str pz_non))))⟩)
def zb__law_is_record_1 : ZS := (zRet (zC (.bool false)))
def zb__law_is_record_2 : ZS := (zRet (zTwo (k2 (dEq false)) (zOfN (zLc [2] (zItems (zVar 1)) (zName 2) zYes (zCall 1 w__law_kind (zCons (zVar 2) zNil)))) (zCB (kL1 dList) (zCons (zVar 0) zNil))))
def zb__law_is_record : ZS := (zSeq (zIfS (zOr (zNot (zTru (zOne (k1 (dIsa "tuple")) (zVar 1)))) (zB (zTwo (k2 (dEq true)) (zCB (kL1 dLen) (zCons (zVar 1) zNil)) (zCB (kL1 dLen) (zCons (zVar 0) zNil)))))
 zb__law_is_record_1
 zNext)
 zb__law_is_record_2)
def w__law_is_record : ZF := zFnOk 3 zb__law_is_record
theorem ok__law_is_record (T : Txt K mg) (TX : TX K mg base) : Fz P w K mg base 3 "_law_is_record" 2 w__law_is_record := fnP (N := N__law_is_record) T.F__law_is_record sc__law_is_record T.g__law_is_record T.b__law_is_record rfl (fun cdv A outer s H E gA hr tk hp => ⟨_,
 (pzb_cons (pzs_if (PZW.pt (pzw_or (pzt_not (pzt_tru (pz_isi T.m_isinstance T.m_tuple (pz_var (i := 1) rfl (by first | exact Or.inl rfl | exact Or.inr (Or.inl rfl) | exact Or.inr (Or.inr rfl)))))) (pzw_or1 (pzt_cmp (op_neZ hr.units) oz_eq (pz_B cr_lenZ cz_len T.m_len (pz_cons (pz_var (i := 1) rfl (by first | exact Or.inl rfl | exact Or.inr (Or.inl rfl) | exact Or.inr (Or.inr rfl))) pz_nil) (by decide +kernel)) (pz_B cr_lenZ cz_len T.m_len (pz_cons (pz_var (i := 0) rfl (by first | exact Or.inl rfl | exact Or.inr (Or.inl rfl) | exact Or.inr (Or.inr rfl))) pz_nil) (by decide +kernel)) (nomark _)))))
 (pzb_one (pzs_ret pz_bl))
 pzb_nil)
 (pzb_one (pzs_ret (pz_cmp (op_eqZ hr.units) oz_eq (PZN.z (pzn_lc (own := [("part", 2)]) (g := (gName 2)) (tt := tYes) (by rfl) sc__law_is_record.nd (pzi_seq (pz_var (i := 1) rfl (by first | exact Or.inl rfl | exact Or.inr (Or.inl rfl) | exact Or.inr (Or.inr rfl)))) (blkOk_by (own := [("part", 2)]) (N := N__law_is_record) (sc := defScope s__law_is_record) (by decide +kernel)) (fun _ _ _ _ _ => (pzg_name (i := 2) sc__law_is_record.nd rfl (.inl rfl))) (fun _ _ _ _ _ => pzts_nil) (fun _ _ _ _ _ => (pz_call (ok__law_kind T TX) gA hr takes0 (pz_cons (pz_var (i := 2) rfl (by first | exact Or.inl rfl | exact Or.inr (Or.inl rfl) | exact Or.inr (Or.inr rfl))) pz_nil))))) (pz_BT call_list_of cz_list T.m_list (pz_cons (pz_var (i := 0) rfl (by first | exact Or.inl rfl | exact Or.inr (Or.inl rfl) | exact Or.inr (Or.inr rfl))) pz_nil) (by decide +kernel)) (nomark _)))))⟩)
def zb__law_bad_table_1 : ZS := (zRet (zCall 2 w__law_pick (zCons (zVar 0) (zCons (zVar 3) zNil))))
def zb__law_bad_table_2 : ZS := (zSeq (zAsg (zLst (zCons (zC .none) (zCons (zC (.int 0)) (zCons (zC (.str "")) (zCons (zTwo (k2 dAddB) (zTwo (k2 dIx) (zVar 2) (zC (.int 0))) (zC (.str "zzzzzzzz"))) (zCons (zOne (k1 dUpper) (zTwo (k2 dIx) (zVar 2) (zC (.int 0)))) (zCons (zTup (zCons (zTwo (k2 dIx) (zVar 2) (zC (.int 0))) zNil)) (zCons (zLst (zCons (zTwo (k2 dIx) (zVar 2) (zC (.int 0))) zNil)) (zCons (zC (.bool true)) (zCons (zTwo (k2 dIx) (zVar 1) (zC (.int 0))) (zCons (zC (.dict [])) zNil))))))))))) (zName 3))
 zb__law_bad_table_1)
def zb__law_bad_table : ZS := (zSeq (zAsg (zOfN (zLc [4] (zItems (zVar 1)) (zName 4) zYes (zTwo (k2 dIx) (zVar 4) (zC (.int 0))))) (zName 2))
 zb__law_bad_table_2)
def w__law_bad_table : ZF := zFnOk 5 zb__law_bad_table
theorem ok__law_bad_table (T : Txt K mg) (TX : TX K mg base) : Fz P w K mg base 3 "_law_bad_table" 2 w__law_bad_table := fnP (N := N__law_bad_table) T.F__law_bad_table sc__law_bad_table T.g__law_bad_table T.b__law_bad_table rfl (fun cdv A outer s H E gA hr tk hp => ⟨_,
 (pzb_cons (pzs_setLc (i := 2) (own := [("table", 4)]) (g := (gName 4)) (tt := tYes) (by rfl) sc__law_bad_table.nd rfl rfl (sw_true rfl rfl rfl (by decide +kernel)) (pzi_seq (pz_var (i := 1) rfl (by first | exact Or.inl rfl | exact Or.inr (Or.inl rfl) | exact Or.inr (Or.inr rfl)))) (blkOk_by (own := [("table", 4)]) (N := N__law_bad_table) (sc := defScope s__law_bad_table) (by decide +kernel)) (fun _ _ _ _ _ => (pzg_name (i := 4) sc__law_bad_table.nd rfl (.inl rfl))) (fun _ _ _ _ _ => pzts_nil) (fun _ _ _ _ _ => (pz_ix (pz_var (i := 4) rfl (by first | exact Or.inl rfl | exact Or.inr (Or.inl rfl) | exact Or.inr (Or.inr rfl))) pz_int (fun _ _ => rfl))))
 (pzb_cons (pzs_set (i := 3) sc__law_bad_table.nd rfl (.inl rfl) (pz_lst (pz_cons pz_non (pz_cons pz_int (pz_cons pz_str (pz_cons (pz_addB (pz_ix (pz_var (i := 2) rfl (by first | exact Or.inl rfl | exact Or.inr (Or.inl rfl) | exact Or.inr (Or.inr rfl))) pz_int (fun _ _ => rfl)) pz_str) (pz_cons (pz_upper (pz_ix (pz_var (i := 2) rfl (by first | exact Or.inl rfl | exact Or.inr (Or.inl rfl) | exact Or.inr (Or.inr rfl))) pz_int (fun _ _ => rfl))) (pz_cons (pz_tup (pz_cons (pz_ix (pz_var (i := 2) rfl (by first | exact Or.inl rfl | exact Or.inr (Or.inl rfl) | exact Or.inr (Or.inr rfl))) pz_int (fun _ _ => rfl)) pz_nil)) (pz_cons (pz_lst (pz_cons (pz_ix (pz_var (i := 2) rfl (by first | exact Or.inl rfl | exact Or.inr (Or.inl rfl) | exact Or.inr (Or.inr rfl))) pz_int (fun _ _ => rfl)) pz_nil)) (pz_cons pz_bl (pz_cons (pz_ix (pz_var (i := 1) rfl (by first | exact Or.inl rfl | exact Or.inr (Or.inl rfl) | exact Or.inr (Or.inr rfl))) pz_int (fun _ _ => rfl)) (pz_cons pz_dnew pz_nil))))))))))))
 (pzb_one (pzs_ret (pz_call (ok__law_pick T TX) gA hr tk (pz_cons (pz_var (i := 0) rfl (by first | exact Or.inl rfl | exact Or.inr (Or.inl rfl) | exact Or.inr (Or.inr rfl))) (pz_cons (pz_var (i := 3) rfl (by first | exact Or.inl rfl | exact Or.inr (Or.inl rfl) | exact Or.inr (Or.inr rfl))) pz_nil)))))))⟩)
def zb__law_error_1 : ZS := (zDrop (zCall 2 w_key_size (zCons (zVar 1) (zCons (zVar 2) zNil))))
def zb__law_error_2 : ZS := (zDrop (zCall 2 w_column_kinds (zCons (zVar 1) (zCons (zVar 2) zNil))))
def zb__law_error_3 : ZS := (zDrop (zCall 3 w_is_record (zCons (zVar 1) (zCons (zVar 2) (zCons (zVar 3) zNil)))))
def zb__law_error_4 : ZS := (zDrop (zCall 3 w_record_key (zCons (zVar 1) (zCons (zVar 2) (zCons (zVar 3) zNil)))))
def zb__law_error_5 : ZS := (zIfS (zB (zTwo (k2 (dEq false)) (zVar 0) (zC (.int 2))))
 zb__law_error_3
 zb__law_error_4)
def zb__law_error_6 : ZS := (zIfS (zB (zTwo (k2 (dEq false)) (zVar 0) (zC (.int 1))))
 zb__law_error_2
 zb__law_error_5)
def zb__law_error_7 : ZS := (zIfS (zB (zTwo (k2 (dEq false)) (zVar 0) (zC (.int 0))))
 zb__law_error_1
 zb__law_error_6)
def zb__law_error_8 (a : Addr) (dd : Addr) (x : Xc) : ZS := (zRet (zIf (zAnd (zTru (zIsG 4 a dd x (isSub excTab x.n "InvalidRecord"))) (zNot (zTru (zIsG 4 a dd x (isSub excTab x.n "InvalidSchema"))))) (zC (.str "record")) (zC (.str "other"))))
def zb__law_error_9 (a : Addr) (dd : Addr) (x : Xc) : ZS := (zRet (zIf (zAnd (zTru (zIsG 4 a dd x (isSub excTab x.n "KeyError"))) (zNot (zTru (zIsG 4 a dd x (isSub excTab x.n "RecordsError"))))) (zTwo (k2 dAddB) (zC (.str "name ")) (zCB (kL1 dRepr) (zCons (zFldG 4 a dd x "name") zNil))) (zC (.str "other"))))
def zb__law_error_10 : ZS := (zRet (zC (.str "returned")))
def zb__law_error : ZS := (zSeq (zTryG excNames zb__law_error_7
 (⟨some 4, (fun n => isSub excTab n "UnknownName"), (fun a dd x => (zb__law_error_9 a dd x))⟩ :: (⟨some 4, (fun n => isSub excTab n "RecordsError"), (fun a dd x => (zb__law_error_8 a dd x))⟩ :: [])))
 zb__law_error_10)
def w__law_error : ZF := zFnOk 5 zb__law_error
theorem ok__law_error (T : Txt K mg) (TX : TX K mg base) : Fz P w K mg base 7 "_law_error" 4 w__law_error := fnP (N := N__law_error) T.F__law_error sc__law_error T.g__law_error T.b__law_error rfl (fun cdv A outer s H E gA hr tk hp => ⟨_,
 (pzb_cons (pzs_tryG (names := excNames) rfl rfl sc__law_error.nd tk (fun W pn xe tk hp => (pzb_one (pzs_if (pzt_cmp (op_eqZ hr.units) oz_eq (pz_var (i := 0) rfl (by first | exact Or.inl rfl | exact Or.inr (Or.inl rfl) | exact Or.inr (Or.inr rfl))) pz_int (nomark _))
 (pzb_one (pzs_expr (pz_call (ok_key_size T TX) gA hr tk (pz_cons (pz_var (i := 1) rfl (by first | exact Or.inl rfl | exact Or.inr (Or.inl rfl) | exact Or.inr (Or.inr rfl))) (pz_cons (pz_var (i := 2) rfl (by first | exact Or.inl rfl | exact Or.inr (Or.inl rfl) | exact Or.inr (Or.inr rfl))) pz_nil)))))
 (pzb_one (pzs_if (pzt_cmp (op_eqZ hr.units) oz_eq (pz_var (i := 0) rfl (by first | exact Or.inl rfl | exact Or.inr (Or.inl rfl) | exact Or.inr (Or.inr rfl))) pz_int (nomark _))
 (pzb_one (pzs_expr (pz_call (ok_column_kinds T TX) gA hr tk (pz_cons (pz_var (i := 1) rfl (by first | exact Or.inl rfl | exact Or.inr (Or.inl rfl) | exact Or.inr (Or.inr rfl))) (pz_cons (pz_var (i := 2) rfl (by first | exact Or.inl rfl | exact Or.inr (Or.inl rfl) | exact Or.inr (Or.inr rfl))) pz_nil)))))
 (pzb_one (pzs_if (pzt_cmp (op_eqZ hr.units) oz_eq (pz_var (i := 0) rfl (by first | exact Or.inl rfl | exact Or.inr (Or.inl rfl) | exact Or.inr (Or.inr rfl))) pz_int (nomark _))
 (pzb_one (pzs_expr (pz_call (ok_is_record T TX) gA hr tk (pz_cons (pz_var (i := 1) rfl (by first | exact Or.inl rfl | exact Or.inr (Or.inl rfl) | exact Or.inr (Or.inr rfl))) (pz_cons (pz_var (i := 2) rfl (by first | exact Or.inl rfl | exact Or.inr (Or.inl rfl) | exact Or.inr (Or.inr rfl))) (pz_cons (pz_var (i := 3) rfl (by first | exact Or.inl rfl | exact Or.inr (Or.inl rfl) | exact Or.inr (Or.inr rfl))) pz_nil))))))
 (pzb_one (pzs_expr (pz_call (ok_record_key T TX) gA hr tk (pz_cons (pz_var (i := 1) rfl (by first | exact Or.inl rfl | exact Or.inr (Or.inl rfl) | exact Or.inr (Or.inr rfl))) (pz_cons (pz_var (i := 2) rfl (by first | exact Or.inl rfl | exact Or.inr (Or.inl rfl) | exact Or.inr (Or.inr rfl))) (pz_cons (pz_var (i := 3) rfl (by first | exact Or.inl rfl | exact Or.inr (Or.inl rfl) | exact Or.inr (Or.inr rfl))) pz_nil)))))))))))))
 (pzh_named (cau := (fun n => isSub excTab n "UnknownName")) (i := 4) rfl rfl (tgz TX.g_UnknownName) TX.M_UnknownName (fun a dd x oe pn hn hz hd => (pzb_one (pzs_ret (pz_if (PZW.pt (pzw_and (pzt_tru (pz_isG (TX.X_n x.n hn) hz hd T.m_isinstance (clsV_ty T.m_KeyError (by decide +kernel)) (TX.I_KeyError x.n hn) rfl (by first | exact Or.inl rfl | exact Or.inr (Or.inl rfl) | exact Or.inr (Or.inr rfl)))) (pzw_and1 (pzt_not (pzt_tru (pz_isG (TX.X_n x.n hn) hz hd T.m_isinstance (clsV_own TX.g_RecordsError) (TX.I_RecordsError x.n hn) rfl (by first | exact Or.inl rfl | exact Or.inr (Or.inl rfl) | exact Or.inr (Or.inr rfl)))))))) (pz_addB pz_str (pz_B (cr_reprZ gA hr.units TX.sys) cz_repr T.m_repr (pz_cons (pz_fldG (xfc_of (TX.X_n x.n hn)) (TX.N_name x.n hn) hz hd rfl (by first | exact Or.inl rfl | exact Or.inr (Or.inl rfl) | exact Or.inr (Or.inr rfl))) pz_nil) (by decide +kernel))) pz_str))))
 (pzh_named (cau := (fun n => isSub excTab n "RecordsError")) (i := 4) rfl rfl (tgz TX.g_RecordsError) TX.M_RecordsError (fun a dd x oe pn hn hz hd => (pzb_one (pzs_ret (pz_if (PZW.pt (pzw_and (pzt_tru (pz_isG (TX.X_n x.n hn) hz hd T.m_isinstance (clsV_own TX.g_InvalidRecord) (TX.I_InvalidRecord x.n hn) rfl (by first | exact Or.inl rfl | exact Or.inr (Or.inl rfl) | exact Or.inr (Or.inr rfl)))) (pzw_and1 (pzt_not (pzt_tru (pz_isG (TX.X_n x.n hn) hz hd T.m_isinstance (clsV_own TX.g_InvalidSchema) (TX.I_InvalidSchema x.n hn) rfl (by first | exact Or.inl rfl | exact Or.inr (Or.inl rfl) | exact Or.inr (Or.inr rfl)))))))) pz_str pz_str))))
 pzh_nil)))
 (pzb_one (pzs_ret pz_str)))⟩)
def zb__law_table_right_1 : ZS := (zRet (zC (.bool false)))
def zb__law_table_right_2 : ZS := (zRet (zC (.bool false)))
def zb__law_table_right_3 : ZS := (zIfS (zB (zTwo (k2 (dEq true)) (zCall 4 w__law_error (zCons (zC (.int 3)) (zCons (zVar 1) (zCons (zVar 3) (zCons (zVar 10) zNil))))) (zIf (zTru (zVar 11)) (zC (.str "returned")) (zC (.str "record")))))
 zb__law_table_right_1
 zNext)
def zb__law_table_right_4 : ZS := (zSeq (zIfS (zB (zTwo (k2 (dEq true)) (zCB (kL1 dRepr) (zCons (zCall 3 w_is_record (zCons (zVar 1) (zCons (zVar 3) (zCons (zVar 10) zNil)))) zNil)) (zCB (kL1 dRepr) (zCons (zVar 11) zNil))))
 zb__law_table_right_2
 zNext)
 zb__law_table_right_3)
def zb__law_table_right_5 : ZS := (zSeq (zAsg (zCall 2 w__law_is_record (zCons (zVar 5) (zCons (zVar 10) zNil))) (zName 11))
 zb__law_table_right_4)
def zb__law_table_right_6 : ZS := (zRet (zC (.bool false)))
def zb__law_table_right_7 : ZS := (zIfS (zB (zTwo (k2 (dEq true)) (zTwo (k2 (dEq false)) (zCall 3 w_record_key (zCons (zVar 1) (zCons (zVar 3) (zCons (zVar 7) zNil)))) (zCall 3 w_record_key (zCons (zVar 1) (zCons (zVar 3) (zCons (zVar 8) zNil))))) (zVar 9)))
 zb__law_table_right_6
 zNext)
def zb__law_table_right_8 : ZS := (zSeq (zAsg (zTwo (k2 (dEq false)) (zOfN (zLc [13] (zRng1 (zCons (zVar 4) zNil)) (zName 13) (zB (zTwo (k2 (dEq true)) (zTwo (k2 dIx) (zVar 7) (zVar 13)) (zTwo (k2 dIx) (zVar 8) (zVar 13)))) (zVar 13))) (zLst zNil)) (zName 9))
 zb__law_table_right_7)
def zb__law_table_right_9 : ZS := (zFor (zItems (zTup (zCons (zCall 2 (w__law_changed 12) (zCons (zVar 0) (zCons (zVar 7) zNil))) (zCons (zCall 1 w__law_other (zCons (zVar 0) zNil)) (zCons (zTwo (k2 dAddB) (zVar 7) (zSl (zVar 7) zNoPart (zPart (zC (.int 1))))) (zCons (zCB (kL1 dList) (zCons (zVar 7) zNil)) zNil)))))) (zName 10)
 zb__law_table_right_5)
def zb__law_table_right_10 : ZS := (zRet (zC (.bool false)))
def zb__law_table_right_11 : ZS := (zSeq (zFor (zItems (zVar 6)) (zName 8)
 zb__law_table_right_8)
 zb__law_table_right_9)
def zb__law_table_right_12 : ZS := (zRet (zC (.bool false)))
def zb__law_table_right_13 : ZS := (zSeq (zIfS (zB (zTwo (k2 (dEq true)) (zCB (kL1 dRepr) (zCons (zCall 3 w_record_key (zCons (zVar 1) (zCons (zVar 3) (zCons (zVar 7) zNil)))) zNil)) (zCB (kL1 dRepr) (zCons (zSl (zVar 7) zNoPart (zPart (zVar 4))) zNil))))
 zb__law_table_right_10
 zNext)
 zb__law_table_right_11)
def zb__law_table_right_14 : ZS := (zSeq (zIfS (zB (zTwo (k2 (dIsB true)) (zCall 3 w_is_record (zCons (zVar 1) (zCons (zVar 3) (zCons (zVar 7) zNil)))) (zC (.bool true))))
 zb__law_table_right_12
 zNext)
 zb__law_table_right_13)
def zb__law_table_right_15 : ZS := (zRet (zC (.bool true)))
def zb__law_table_right_16 : ZS := (zSeq (zFor (zItems (zVar 6)) (zName 7)
 zb__law_table_right_14)
 zb__law_table_right_15)
def zb__law_table_right_17 : ZS := (zRet (zC (.bool false)))
def zb__law_table_right_18 : ZS := (zSeq (zAsg (zOfN (zLc [12] (zRng1 (zCons (zC (.int 4)) zNil)) (zName 12) zYes (zCall 3 w__law_record (zCons (zVar 0) (zCons (zVar 5) (zCons (zVar 2) zNil)))))) (zName 6))
 zb__law_table_right_16)
def zb__law_table_right : ZS := (zSeq (zIfS (zB (zTwo (k2 (dEq true)) (zCB (kL1 dRepr) (zCons (zLst (zCons (zCall 2 w_key_size (zCons (zVar 1) (zCons (zVar 3) zNil))) (zCons (zCall 2 w_column_kinds (zCons (zVar 1) (zCons (zVar 3) zNil))) zNil))) zNil)) (zCB (kL1 dRepr) (zCons (zLst (zCons (zVar 4) (zCons (zVar 5) zNil))) zNil))))
 zb__law_table_right_17
 zNext)
 zb__law_table_right_18)
def w__law_table_right : ZF := zFnOk 14 zb__law_table_right
theorem ok__law_table_right (T : Txt K mg) (TX : TX K mg base) : Fz P w K mg base 17 "_law_table_right" 6 w__law_table_right := fnP (N := N__law_table_right) T.F__law_table_right sc__law_table_right T.g__law_table_right T.b__law_table_right rfl (fun cdv A outer s H E gA hr tk hp => ⟨_,
 (pzb_cons (pzs_if (pzt_cmp (op_neZ hr.units) oz_eq (pz_B (cr_reprZ gA hr.units TX.sys) cz_repr T.m_repr (pz_cons (pz_lst (pz_cons (pz_call (ok_key_size T TX) gA hr tk (pz_cons (pz_var (i := 1) rfl (by first | exact Or.inl rfl | exact Or.inr (Or.inl rfl) | exact Or.inr (Or.inr rfl))) (pz_cons (pz_var (i := 3) rfl (by first | exact Or.inl rfl | exact Or.inr (Or.inl rfl) | exact Or.inr (Or.inr rfl))) pz_nil))) (pz_cons (pz_call (ok_column_kinds T TX) gA hr tk (pz_cons (pz_var (i := 1) rfl (by first | exact Or.inl rfl | exact Or.inr (Or.inl rfl) | exact Or.inr (Or.inr rfl))) (pz_cons (pz_var (i := 3) rfl (by first | exact Or.inl rfl | exact Or.inr (Or.inl rfl) | exact Or.inr (Or.inr rfl))) pz_nil))) pz_nil))) pz_nil) (by decide +kernel)) (pz_B (cr_reprZ gA hr.units TX.sys) cz_repr T.m_repr (pz_cons (pz_lst (pz_cons (pz_var (i := 4) rfl (by first | exact Or.inl rfl | exact Or.inr (Or.inl rfl) | exact Or.inr (Or.inr rfl))) (pz_cons (pz_var (i := 5) rfl (by first | exact Or.inl rfl | exact Or.inr (Or.inl rfl) | exact Or.inr (Or.inr rfl))) pz_nil))) pz_nil) (by decide +kernel)) (nomark _))
 (pzb_one (pzs_ret pz_bl))
 pzb_nil)
 (pzb_cons (pzs_setLc (i := 6) (own := [("turn", 12)]) (g := (gName 12)) (tt := tYes) (by rfl) sc__law_table_right.nd rfl rfl (sw_true rfl rfl rfl (by decide +kernel)) (pzi_rng1 T.m_range (pz_cons pz_int pz_nil)) (blkOk_by (own := [("turn", 12)]) (N := N__law_table_right) (sc := defScope s__law_table_right) (by decide +kernel)) (fun _ _ _ _ _ => (pzg_name (i := 12) sc__law_table_right.nd rfl (.inl rfl))) (fun _ _ _ _ _ => pzts_nil) (fun _ _ _ _ _ => (pz_call (ok__law_record T TX) gA hr takes0 (pz_cons (pz_var (i := 0) rfl (by first | exact Or.inl rfl | exact Or.inr (Or.inl rfl) | exact Or.inr (Or.inr rfl))) (pz_cons (pz_var (i := 5) rfl (by first | exact Or.inl rfl | exact Or.inr (Or.inl rfl) | exact Or.inr (Or.inr rfl))) (pz_cons (pz_var (i := 2) rfl (by first | exact Or.inl rfl | exact Or.inr (Or.inl rfl) | exact Or.inr (Or.inr rfl))) pz_nil))))))
 (pzb_cons (pzs_for hp (by rfl) (pzi_seq (pz_var (i := 6) rfl (by first | exact Or.inl rfl | exact Or.inr (Or.inl rfl) | exact Or.inr (Or.inr rfl)))) (pzg_name (i := 7) sc__law_table_right.nd rfl (.inr rfl))
 (pzb_cons (pzs_if (pzt_cmp op_notBZ oz_isB (pz_call (ok_is_record T TX) gA hr tk (pz_cons (pz_var (i := 1) rfl (by first | exact Or.inl rfl | exact Or.inr (Or.inl rfl) | exact Or.inr (Or.inr rfl))) (pz_cons (pz_var (i := 3) rfl (by first | exact Or.inl rfl | exact Or.inr (Or.inl rfl) | exact Or.inr (Or.inr rfl))) (pz_cons (pz_var (i := 7) rfl (by first | exact Or.inl rfl | exact Or.inr (Or.inl rfl) | exact Or.inr (Or.inr rfl))) pz_nil)))) pz_bl (nomark _))
 (pzb_one (pzs_ret pz_bl))
 pzb_nil)
 (pzb_cons (pzs_if (pzt_cmp (op_neZ hr.units) oz_eq (pz_B (cr_reprZ gA hr.units TX.sys) cz_repr T.m_repr (pz_cons (pz_call (ok_record_key T TX) gA hr tk (pz_cons (pz_var (i := 1) rfl (by first | exact Or.inl rfl | exact Or.inr (Or.inl rfl) | exact Or.inr (Or.inr rfl))) (pz_cons (pz_var (i := 3) rfl (by first | exact Or.inl rfl | exact Or.inr (Or.inl rfl) | exact Or.inr (Or.inr rfl))) (pz_cons (pz_var (i := 7) rfl (by first | exact Or.inl rfl | exact Or.inr (Or.inl rfl) | exact Or.inr (Or.inr rfl))) pz_nil)))) pz_nil) (by decide +kernel)) (pz_B (cr_reprZ gA hr.units TX.sys) cz_repr T.m_repr (pz_cons (pz_sl (pz_var (i := 7) rfl (by first | exact Or.inl rfl | exact Or.inr (Or.inl rfl) | exact Or.inr (Or.inr rfl))) pzo_none (pzo_some (pz_var (i := 4) rfl (by first | exact Or.inl rfl | exact Or.inr (Or.inl rfl) | exact Or.inr (Or.inr rfl))))) pz_nil) (by decide +kernel)) (nomark _))
 (pzb_one (pzs_ret pz_bl))
 pzb_nil)
 (pzb_cons (pzs_for hp (by rfl) (pzi_seq (pz_var (i := 6) rfl (by first | exact Or.inl rfl | exact Or.inr (Or.inl rfl) | exact Or.inr (Or.inr rfl)))) (pzg_name (i := 8) sc__law_table_right.nd rfl (.inr rfl))
 (pzb_cons (pzs_set (i := 9) sc__law_table_right.nd rfl (.inl rfl) (pz_cmp (op_eqZ hr.units) oz_eq (PZN.z (pzn_lc (own := [("at", 13)]) (g := (gName 13)) (by rfl) sc__law_table_right.nd (pzi_rng1 T.m_range (pz_cons (pz_var (i := 4) rfl (by first | exact Or.inl rfl | exact Or.inr (Or.inl rfl) | exact Or.inr (Or.inr rfl))) pz_nil)) (blkOk_by (own := [("at", 13)]) (N := N__law_table_right) (sc := defScope s__law_table_right) (by decide +kernel)) (fun _ _ _ _ _ => (pzg_name (i := 13) sc__law_table_right.nd rfl (.inl rfl))) (fun _ _ _ _ _ => (pzts_one (pzt_cmp (op_neZ hr.units) oz_eq (pz_ix (pz_var (i := 7) rfl (by first | exact Or.inl rfl | exact Or.inr (Or.inl rfl) | exact Or.inr (Or.inr rfl))) (pz_var (i := 13) rfl (by first | exact Or.inl rfl | exact Or.inr (Or.inl rfl) | exact Or.inr (Or.inr rfl))) (fun _ _ => rfl)) (pz_ix (pz_var (i := 8) rfl (by first | exact Or.inl rfl | exact Or.inr (Or.inl rfl) | exact Or.inr (Or.inr rfl))) (pz_var (i := 13) rfl (by first | exact Or.inl rfl | exact Or.inr (Or.inl rfl) | exact Or.inr (Or.inr rfl))) (fun _ _ => rfl)) (nomark _)))) (fun _ _ _ _ _ => (pz_var (i := 13) rfl (by first | exact Or.inl rfl | exact Or.inr (Or.inl rfl) | exact Or.inr (Or.inr rfl)))))) (pz_lst pz_nil) (nomark _)))
 (pzb_one (pzs_if (pzt_cmp (op_neZ hr.units) oz_eq (pz_cmp (op_eqZ hr.units) oz_eq (pz_call (ok_record_key T TX) gA hr tk (pz_cons (pz_var (i := 1) rfl (by first | exact Or.inl rfl | exact Or.inr (Or.inl rfl) | exact Or.inr (Or.inr rfl))) (pz_cons (pz_var (i := 3) rfl (by first | exact Or.inl rfl | exact Or.inr (Or.inl rfl) | exact Or.inr (Or.inr rfl))) (pz_cons (pz_var (i := 7) rfl (by first | exact Or.inl rfl | exact Or.inr (Or.inl rfl) | exact Or.inr (Or.inr rfl))) pz_nil)))) (pz_call (ok_record_key T TX) gA hr tk (pz_cons (pz_var (i := 1) rfl (by first | exact Or.inl rfl | exact Or.inr (Or.inl rfl) | exact Or.inr (Or.inr rfl))) (pz_cons (pz_var (i := 3) rfl (by first | exact Or.inl rfl | exact Or.inr (Or.inl rfl) | exact Or.inr (Or.inr rfl))) (pz_cons (pz_var (i := 8) rfl (by first | exact Or.inl rfl | exact Or.inr (Or.inl rfl) | exact Or.inr (Or.inr rfl))) pz_nil)))) (nomark _)) (pz_var (i := 9) rfl (by first | exact Or.inl rfl | exact Or.inr (Or.inl rfl) | exact Or.inr (Or.inr rfl))) (nomark _))
 (pzb_one (pzs_ret pz_bl))
 pzb_nil))))
 (pzb_one (pzs_for hp (by rfl) (pzi_seq (pz_tup (pz_cons (pz_call (ok__law_changed T TX 12) gA hr tk (pz_cons (pz_var (i := 0) rfl (by first | exact Or.inl rfl | exact Or.inr (Or.inl rfl) | exact Or.inr (Or.inr rfl))) (pz_cons (pz_var (i := 7) rfl (by first | exact Or.inl rfl | exact Or.inr (Or.inl rfl) | exact Or.inr (Or.inr rfl))) pz_nil))) (pz_cons (pz_call (ok__law_other T TX) gA hr tk (pz_cons (pz_var (i := 0) rfl (by first | exact Or.inl rfl | exact Or.inr (Or.inl rfl) | exact Or.inr (Or.inr rfl))) pz_nil)) (pz_cons (pz_addB (pz_var (i := 7) rfl (by first | exact Or.inl rfl | exact Or.inr (Or.inl rfl) | exact Or.inr (Or.inr rfl))) (pz_sl (pz_var (i := 7) rfl (by first | exact Or.inl rfl | exact Or.inr (Or.inl rfl) | exact Or.inr (Or.inr rfl))) pzo_none (pzo_some pz_int))) (pz_cons (pz_BT call_list_of cz_list T.m_list (pz_cons (pz_var (i := 7) rfl (by first | exact Or.inl rfl | exact Or.inr (Or.inl rfl) | exact Or.inr (Or.inr rfl))) pz_nil) (by decide +kernel)) pz_nil)))))) (pzg_name (i := 10) sc__law_table_right.nd rfl (.inl rfl))
 (pzb_cons (pzs_set (i := 11) sc__law_table_right.nd rfl (.inl rfl) (pz_call (ok__law_is_record T TX) gA hr tk (pz_cons (pz_var (i := 5) rfl (by first | exact Or.inl rfl | exact Or.inr (Or.inl rfl) | exact Or.inr (Or.inr rfl))) (pz_cons (pz_var (i := 10) rfl (by first | exact Or.inl rfl | exact Or.inr (Or.inl rfl) | exact Or.inr (Or.inr rfl))) pz_nil))))
 (pzb_cons (pzs_if (pzt_cmp (op_neZ hr.units) oz_eq (pz_B (cr_reprZ gA hr.units TX.sys) cz_repr T.m_repr (pz_cons (pz_call (ok_is_record T TX) gA hr tk (pz_cons (pz_var (i := 1) rfl (by first | exact Or.inl rfl | exact Or.inr (Or.inl rfl) | exact Or.inr (Or.inr rfl))) (pz_cons (pz_var (i := 3) rfl (by first | exact Or.inl rfl | exact Or.inr (Or.inl rfl) | exact Or.inr (Or.inr rfl))) (pz_cons (pz_var (i := 10) rfl (by first | exact Or.inl rfl | exact Or.inr (Or.inl rfl) | exact Or.inr (Or.inr rfl))) pz_nil)))) pz_nil) (by decide +kernel)) (pz_B (cr_reprZ gA hr.units TX.sys) cz_repr T.m_repr (pz_cons (pz_var (i := 11) rfl (by first | exact Or.inl rfl | exact Or.inr (Or.inl rfl) | exact Or.inr (Or.inr rfl))) pz_nil) (by decide +kernel)) (nomark _))
 (pzb_one (pzs_ret pz_bl))
 pzb_nil)
 (pzb_one (pzs_if (pzt_cmp (op_neZ hr.units) oz_eq (pz_call (ok__law_error T TX) gA hr tk (pz_cons pz_int (pz_cons (pz_var (i := 1) rfl (by first | exact Or.inl rfl | exact Or.inr (Or.inl rfl) | exact Or.inr (Or.inr rfl))) (pz_cons (pz_var (i := 3) rfl (by first | exact Or.inl rfl | exact Or.inr (Or.inl rfl) | exact Or.inr (Or.inr rfl))) (pz_cons (pz_var (i := 10) rfl (by first | exact Or.inl rfl | exact Or.inr (Or.inl rfl) | exact Or.inr (Or.inr rfl))) pz_nil))))) (pz_if (pzt_tru (pz_var (i := 11) rfl (by first | exact Or.inl rfl | exact Or.inr (Or.inl rfl) | exact Or.inr (Or.inr rfl)))) pz_str pz_str) (nomark _))
 (pzb_one (pzs_ret pz_bl))
 pzb_nil))))))))))
 (pzb_one (pzs_ret pz_bl)))))⟩)
def zb_law_1 : ZS := (zRet (zC (.bool false)))
def zb_law_2 : ZS := (zRet (zC (.bool false)))
def zb_law_3 : ZS := (zIfS (zB (zTwo (k2 (dEq true)) (zCall 4 w__law_error (zCons (zVar 10) (zCons (zVar 3) (zCons (zVar 6) (zCons (zVar 11) zNil))))) (zTwo (k2 dAddB) (zC (.str "name ")) (zCB (kL1 dRepr) (zCons (zVar 6) zNil)))))
 zb_law_2
 zNext)
def zb_law_4 : ZS := (zSeq (zAsg (zCall 2 w__law_pick (zCons (zVar 2) (zCons (zLst (zCons (zC .none) (zCons (zCall 3 w__law_record (zCons (zVar 2) (zCons (zTwo (k2 dIx) (zTwo (k2 dIx) (zVar 3) (zC (.int 0))) (zC (.int 2))) (zCons (zVar 4) zNil)))) (zCons (zTup zNil) zNil)))) zNil))) (zName 11))
 zb_law_3)
def zb_law_5 : ZS := (zSeq (zAsg (zCall 2 w__law_bad_table (zCons (zVar 2) (zCons (zVar 3) zNil))) (zName 6))
 zb_law_4)
def zb_law_6 : ZS := (zIfS (zB (zTwo (k2 (dEq true)) (zCB (kL1 dRepr) (zCons (zVar 3) zNil)) (zVar 5)))
 zb_law_1
 zNext)
def zb_law_7 : ZS := (zRet (zC (.bool false)))
def zb_law_8 : ZS := (zIfS (zNot (zTru (zCall 6 w__law_table_right (zCons (zVar 2) (zCons (zVar 3) (zCons (zVar 4) (zCons (zVar 7) (zCons (zVar 8) (zCons (zVar 9) zNil)))))))))
 zb_law_7
 zNext)
def zb_law_9 : ZS := (zSeq (zFor (zRng1 (zCons (zC (.int 4)) zNil)) (zName 10)
 zb_law_5)
 zb_law_6)
def zb_law_10 : ZS := (zRet (zC (.bool false)))
def zb_law_11 : ZS := (zSeq (zFor (zItems (zVar 3)) (zTupG 3 (zgCons (zName 7) (zgCons (zName 8) (zgCons (zName 9) zgNil))))
 zb_law_8)
 zb_law_9)
def zb_law_12 : ZS := (zSeq (zIfS (zB (zTwo (k2 (dEq true)) (zCB (kL1 dRepr) (zCons (zCall 1 w_table_names (zCons (zVar 3) zNil)) zNil)) (zCB (kL1 dRepr) (zCons (zCB (kL1 dTuple) (zCons (zOfN (zLc [6] (zItems (zVar 3)) (zName 6) zYes (zTwo (k2 dIx) (zVar 6) (zC (.int 0))))) zNil)) zNil))))
 zb_law_10
 zNext)
 zb_law_11)
def zb_law_13 : ZS := (zSeq (zAsg (zCB (kL1 dRepr) (zCons (zVar 3) zNil)) (zName 5))
 zb_law_12)
def zb_law_14 : ZS := (zSeq (zPar 3 4 (zCons (zCall 2 w__law_schema (zCons (zVar 2) (zCons (zC (.int 6)) zNil))) (zCons (zCall 1 w__law_pool (zCons (zVar 2) zNil)) zNil)))
 zb_law_13)
def zb_law_15 : ZS := (zSeq (zStream 2 (zCons (zVar 0) (zCons (zVar 1) zNil)))
 zb_law_14)
def zb_law_16 : ZS := (zRet (zC (.bool true)))
def zb_law : ZS := (zSeq (zFor (zRng1 (zCons (zCB (kL2 dMax2) (zCons (zC (.int 1)) (zCons (zCB (kL2 dMin2) (zCons (zC (.int 12)) (zCons (zLenScr 0) zNil))) zNil))) zNil)) (zName 1)
 zb_law_15)
 zb_law_16)
def w_law : ZF := zFnOk 12 zb_law
theorem ok_law (T : Txt K mg) (TX : TX K mg base) : Fz P w K mg base 18 "law" 1 w_law := fnP (N := N_law) T.F_law sc_law T.g_law T.b_law rfl (fun cdv A outer s H E gA hr tk hp => ⟨_,
 (pzb_cons (pzs_for hp (by rfl) (pzi_rng1 T.m_range (pz_cons (pz_B (call_max2 rfl) cz_max2 T.m_max (pz_cons pz_int (pz_cons (pz_B (call_min2 rfl) cz_min2 T.m_min (pz_cons pz_int (pz_cons (pz_lenScr (i := 0) T.m_len rfl (by first | exact Or.inl rfl | exact Or.inr (Or.inl rfl) | exact Or.inr (Or.inr rfl))) pz_nil)) (by decide +kernel)) pz_nil)) (by decide +kernel)) pz_nil)) (pzg_name (i := 1) sc_law.nd rfl (.inl rfl))
 (pzb_cons (pzs_stream (i := 2) (ok_stream T) gA hr tk sc_law.nd rfl (.inl rfl) (pz_cons (pz_var (i := 0) rfl (by first | exact Or.inl rfl | exact Or.inr (Or.inl rfl) | exact Or.inr (Or.inr rfl))) (pz_cons (pz_var (i := 1) rfl (by first | exact Or.inl rfl | exact Or.inr (Or.inl rfl) | exact Or.inr (Or.inr rfl))) pz_nil)))
 (pzb_cons (pzs_par (i := 3) (j := 4) (by rfl) sc_law.nd rfl rfl (by decide) rfl rfl (pz_cons (pz_call (ok__law_schema T TX) gA hr tk (pz_cons (pz_var (i := 2) rfl (by first | exact Or.inl rfl | exact Or.inr (Or.inl rfl) | exact Or.inr (Or.inr rfl))) (pz_cons pz_int pz_nil))) (pz_cons (pz_call (ok__law_pool T TX) gA hr tk (pz_cons (pz_var (i := 2) rfl (by first | exact Or.inl rfl | exact Or.inr (Or.inl rfl) | exact Or.inr (Or.inr rfl))) pz_nil)) pz_nil)))
 (pzb_cons (pzs_set (i := 5) sc_law.nd rfl (.inl rfl) (pz_B (cr_reprZ gA hr.units TX.sys) cz_repr T.m_repr (pz_cons (pz_var (i := 3) rfl (by first | exact Or.inl rfl | exact Or.inr (Or.inl rfl) | exact Or.inr (Or.inr rfl))) pz_nil) (by decide +kernel)))
 (pzb_cons (pzs_if (pzt_cmp (op_neZ hr.units) oz_eq (pz_B (cr_reprZ gA hr.units TX.sys) cz_repr T.m_repr (pz_cons (pz_call (ok_table_names T TX) gA hr tk (pz_cons (pz_var (i := 3) rfl (by first | exact Or.inl rfl | exact Or.inr (Or.inl rfl) | exact Or.inr (Or.inr rfl))) pz_nil)) pz_nil) (by decide +kernel)) (pz_B (cr_reprZ gA hr.units TX.sys) cz_repr T.m_repr (pz_cons (pz_BT call_tuple_of cz_tuple T.m_tuple (pz_cons (PZN.z (pzn_lc (own := [("table", 6)]) (g := (gName 6)) (tt := tYes) (by rfl) sc_law.nd (pzi_seq (pz_var (i := 3) rfl (by first | exact Or.inl rfl | exact Or.inr (Or.inl rfl) | exact Or.inr (Or.inr rfl)))) (blkOk_by (own := [("table", 6)]) (N := N_law) (sc := defScope s_law) (by decide +kernel)) (fun _ _ _ _ _ => (pzg_name (i := 6) sc_law.nd rfl (.inl rfl))) (fun _ _ _ _ _ => pzts_nil) (fun _ _ _ _ _ => (pz_ix (pz_var (i := 6) rfl (by first | exact Or.inl rfl | exact Or.inr (Or.inl rfl) | exact Or.inr (Or.inr rfl))) pz_int (fun _ _ => rfl))))) pz_nil) (by decide +kernel)) pz_nil) (by decide +kernel)) (nomark _))
 (pzb_one (pzs_ret pz_bl))
 pzb_nil)
 (pzb_cons (pzs_for hp (by rfl) (pzi_seq (pz_var (i := 3) rfl (by first | exact Or.inl rfl | exact Or.inr (Or.inl rfl) | exact Or.inr (Or.inr rfl)))) (pzg_tup (by rfl) (pzg_cons (pzg_name (i := 7) sc_law.nd rfl (.inl rfl)) (pzg_cons (pzg_name (i := 8) sc_law.nd rfl (.inl rfl)) (pzg_cons (pzg_name (i := 9) sc_law.nd rfl (.inl rfl)) pzg_nil))))
 (pzb_one (pzs_if (pzt_not (pzt_tru (pz_call (ok__law_table_right T TX) gA hr tk (pz_cons (pz_var (i := 2) rfl (by first | exact Or.inl rfl | exact Or.inr (Or.inl rfl) | exact Or.inr (Or.inr rfl))) (pz_cons (pz_var (i := 3) rfl (by first | exact Or.inl rfl | exact Or.inr (Or.inl rfl) | exact Or.inr (Or.inr rfl))) (pz_cons (pz_var (i := 4) rfl (by first | exact Or.inl rfl | exact Or.inr (Or.inl rfl) | exact Or.inr (Or.inr rfl))) (pz_cons (pz_var (i := 7) rfl (by first | exact Or.inl rfl | exact Or.inr (Or.inl rfl) | exact Or.inr (Or.inr rfl))) (pz_cons (pz_var (i := 8) rfl (by first | exact Or.inl rfl | exact Or.inr (Or.inl rfl) | exact Or.inr (Or.inr rfl))) (pz_cons (pz_var (i := 9) rfl (by first | exact Or.inl rfl | exact Or.inr (Or.inl rfl) | exact Or.inr (Or.inr rfl))) pz_nil)))))))))
 (pzb_one (pzs_ret pz_bl))
 pzb_nil)))
 (pzb_cons (pzs_for hp (by rfl) (pzi_rng1 T.m_range (pz_cons pz_int pz_nil)) (pzg_name (i := 10) sc_law.nd rfl (.inl rfl))
 (pzb_cons (pzs_set (i := 6) sc_law.nd rfl (.inl rfl) (pz_call (ok__law_bad_table T TX) gA hr tk (pz_cons (pz_var (i := 2) rfl (by first | exact Or.inl rfl | exact Or.inr (Or.inl rfl) | exact Or.inr (Or.inr rfl))) (pz_cons (pz_var (i := 3) rfl (by first | exact Or.inl rfl | exact Or.inr (Or.inl rfl) | exact Or.inr (Or.inr rfl))) pz_nil))))
 (pzb_cons (pzs_set (i := 11) sc_law.nd rfl (.inl rfl) (pz_call (ok__law_pick T TX) gA hr tk (pz_cons (pz_var (i := 2) rfl (by first | exact Or.inl rfl | exact Or.inr (Or.inl rfl) | exact Or.inr (Or.inr rfl))) (pz_cons (pz_lst (pz_cons pz_non (pz_cons (pz_call (ok__law_record T TX) gA hr tk (pz_cons (pz_var (i := 2) rfl (by first | exact Or.inl rfl | exact Or.inr (Or.inl rfl) | exact Or.inr (Or.inr rfl))) (pz_cons (pz_ix (pz_ix (pz_var (i := 3) rfl (by first | exact Or.inl rfl | exact Or.inr (Or.inl rfl) | exact Or.inr (Or.inr rfl))) pz_int (fun _ _ => rfl)) pz_int (fun _ _ => rfl)) (pz_cons (pz_var (i := 4) rfl (by first | exact Or.inl rfl | exact Or.inr (Or.inl rfl) | exact Or.inr (Or.inr rfl))) pz_nil)))) (pz_cons (pz_tup pz_nil) pz_nil)))) pz_nil))))
 (pzb_one (pzs_if (pzt_cmp (op_neZ hr.units) oz_eq (pz_call (ok__law_error T TX) gA hr tk (pz_cons (pz_var (i := 10) rfl (by first | exact Or.inl rfl | exact Or.inr (Or.inl rfl) | exact Or.inr (Or.inr rfl))) (pz_cons (pz_var (i := 3) rfl (by first | exact Or.inl rfl | exact Or.inr (Or.inl rfl) | exact Or.inr (Or.inr rfl))) (pz_cons (pz_var (i := 6) rfl (by first | exact Or.inl rfl | exact Or.inr (Or.inl rfl) | exact Or.inr (Or.inr rfl))) (pz_cons (pz_var (i := 11) rfl (by first | exact Or.inl rfl | exact Or.inr (Or.inl rfl) | exact Or.inr (Or.inr rfl))) pz_nil))))) (pz_addB pz_str (pz_B (cr_reprZ gA hr.units TX.sys) cz_repr T.m_repr (pz_cons (pz_var (i := 6) rfl (by first | exact Or.inl rfl | exact Or.inr (Or.inl rfl) | exact Or.inr (Or.inr rfl))) pz_nil) (by decide +kernel))) (nomark _))
 (pzb_one (pzs_ret pz_bl))
 pzb_nil)))))
 (pzb_one (pzs_if (pzt_cmp (op_neZ hr.units) oz_eq (pz_B (cr_reprZ gA hr.units TX.sys) cz_repr T.m_repr (pz_cons (pz_var (i := 3) rfl (by first | exact Or.inl rfl | exact Or.inr (Or.inl rfl) | exact Or.inr (Or.inr rfl))) pz_nil) (by decide +kernel)) (pz_var (i := 5) rfl (by first | exact Or.inl rfl | exact Or.inr (Or.inl rfl) | exact Or.inr (Or.inr rfl))) (nomark _))
 (pzb_one (pzs_ret pz_bl))
 pzb_nil)))))))))
 (pzb_one (pzs_ret pz_bl)))⟩)
end
end Zl
end
section
namespace Zl
open PySem PySem.Spec PyProof.Rows L2 Kb
variable [Tabd]
variable [Tabd]
theorem lc_go {i : Nat} {t : ZT} {e : ZE} {ρ : Rho} (hi : i < ρ.length) (p : PyData → Bool) (f : PyData → PyData) : ∀ (ds acc : List PyData) (Q : List PyData → Prop),
    (∀ d ∈ ds, ∀ R : Bool → Prop, R (p d) → t (ρ.set i (some (.dat d))) R (fun _ => False)) → (∀ d ∈ ds, p d = true → ∀ R : Z → Prop, R (.dat (f d)) → e (ρ.set i (some (.dat d))) R (fun _ => False)) → acc.length + ds.length ≤ line → Q (acc ++ (ds.filter p).map f) → zLcGo (zName i) t e ρ ds acc Q
  | [], acc, Q, _, _, _, h => by simpa [zLcGo] using h
  | d :: ds, acc, Q, h1, h2, hl, h => by
    refine ⟨hi, h1 d List.mem_cons_self _ ?_⟩
    rw [List.length_cons] at hl
    cases c : p d with
    | true =>
      rw [if_pos rfl]
      refine h2 d List.mem_cons_self c _ ⟨f d, rfl, by omega, lc_go hi p f ds _ Q (fun x hx => h1 x (List.mem_cons_of_mem _ hx)) (fun x hx => h2 x (List.mem_cons_of_mem _ hx)) (by rw [List.length_append]; simp only [List.length_singleton]; omega) ?_⟩
      rw [List.filter_cons, c, if_pos rfl, List.map_cons] at h
      rwa [List.append_assoc]
    | false =>
      rw [if_neg Bool.false_ne_true]
      refine lc_go hi p f ds _ Q (fun x hx => h1 x (List.mem_cons_of_mem _ hx)) (fun x hx => h2 x (List.mem_cons_of_mem _ hx)) (by omega) ?_
      rw [List.filter_cons, c, if_neg Bool.false_ne_true] at h
      exact h
theorem lc_map {i : Nat} {e : ZE} {ρ : Rho} (hi : i < ρ.length) (f : PyData → PyData) (ds : List PyData) (Q : List PyData → Prop)
    (h2 : ∀ d ∈ ds, ∀ R : Z → Prop, R (.dat (f d)) → e (ρ.set i (some (.dat d))) R (fun _ => False)) (hl : ds.length ≤ line) (h : Q (ds.map f)) : zLcGo (zName i) zYes e ρ ds [] Q := by
  refine lc_go hi (fun _ => true) f ds [] Q (fun _ _ R r => r) (fun d hd _ => h2 d hd) (by simpa using hl) ?_
  have : ds.filter (fun _ => true) = ds := List.filter_eq_self.mpr fun _ _ => rfl
  rwa [this, List.nil_append]
theorem bools_map (p : PyData → Bool) : ∀ ds : List PyData, bools (ds.map fun d => .bool (p d)) = some (ds.map p)
  | [] => rfl
  | d :: ds => by
    show (bools (ds.map fun d => .bool (p d))).map (p d :: ·) = _
    rw [bools_map p ds]
    rfl
theorem all_map (p : PyData → Bool) (ds : List PyData) {Q : Z → Prop} (h : Q (.dat (.bool (ds.all p)))) : dAll (.list (ds.map fun d => .bool (p d))) Q := ⟨_, bools_map p ds, by
  have e : (ds.map p).all id = ds.all p := by rw [List.all_map]; rfl
  rwa [e]⟩
theorem less1 (a b : Nat) : lessL ⟨#[a]⟩ ⟨#[b]⟩ = decide (a < b) := by
  simp [lessL, List.cons_lt_cons_iff]
def isW (lo hi n : Nat) : PyData → Bool
  | .str x => decide (1 ≤ x.length ∧ x.length ≤ n) && x.cps.toList.all fun c => decide (lo ≤ c ∧ c ≤ hi)
  | _ => false
theorem z__is_word {d : PyData} {n lo hi : Nat} (hn : n ≤ 100) (hd : ∀ x, d = .str x → x.length ≤ line) {Q : Z → Prop} {E : Xc → Prop} (h : Q (.dat (.bool (isW lo hi n d)))) : w__is_word [.dat d, .dat (.int n), .dat (.str ⟨#[lo]⟩), .dat (.str ⟨#[hi]⟩)] Q E := by
  unfold w__is_word zFnOk zb__is_word
  walk_at "zs"
  cases d with
  | str x =>
    walk_at "zt"
    walk_at "zs"
    refine ⟨hd x rfl, ?_⟩
    have hs : ((1 ≤ x.length ∧ x.length ≤ n) → Q (.dat (.bool (x.cps.toList.all fun c => decide (lo ≤ c ∧ c ≤ hi))))) ∧ (¬ (1 ≤ x.length ∧ x.length ≤ n) → Q (.dat (.bool false))) := ⟨fun z => by simpa [isW, z] using h, fun z => by simpa [isW, z] using h⟩
    split
    · split
      · unfold zb__is_word_1
        walk_at "zs"
        exact hs.2 (by omega)
      · have hxn : x.cps.toList.length ≤ 100 := by
          have : x.cps.toList.length = x.length := by simp [Str.length]
          omega
        unfold zb__is_word_2
        walk_at "zs"
        refine lc_map (by simp) (fun d => .bool (isW lo hi 1 d)) _ _ (fun d hm R r => ?_) (by rw [List.length_map]; exact Nat.le_trans hxn (by decide)) ?_
        · obtain ⟨c, _, rfl⟩ := List.mem_map.mp hm
          simp only [sign] at r ⊢
          walk_at "zs"
          have e : isW lo hi 1 (.str ⟨#[c]⟩) = decide (lo ≤ c ∧ c ≤ hi) := by simp [isW, Str.length]
          rw [e] at r
          simp only [less1]
          by_cases c1 : c < lo
          · rw [decide_eq_false (fun z => by omega)] at r
            simpa [c1] using r
          · by_cases c2 : hi < c
            · rw [decide_eq_false (fun z => by omega)] at r
              simpa [c1, c2] using r
            · rw [decide_eq_true ⟨by omega, by omega⟩] at r
              simpa [c1, c2] using r
        · refine all_map _ _ ⟨(fun z => nomatch z), ?_⟩
          have := hs.1 (by omega)
          rw [List.all_map]
          have e : (fun c => decide (lo ≤ c ∧ c ≤ hi)) = (isW lo hi 1 ∘ sign) := by
            funext c
            simp [isW, sign, Str.length]
          rwa [e] at this
    · unfold zb__is_word_1
      walk_at "zs"
      exact hs.2 (by omega)
  | _ =>
    walk_at "zt"
    unfold zb__is_word_1
    walk_at "zs"
    exact h
theorem ch_a : ("a" : Str) = ⟨#[97]⟩ := by decide
theorem ch_z : ("z" : Str) = ⟨#[122]⟩ := by decide
theorem ch_A : ("A" : Str) = ⟨#[65]⟩ := by decide
theorem ch_Z : ("Z" : Str) = ⟨#[90]⟩ := by decide
theorem z_is_name {d : PyData} (hd : ∀ x, d = .str x → x.length ≤ line) {Q : Z → Prop} {E : Xc → Prop} (h : Q (.dat (.bool (isW 97 122 8 d)))) : w_is_name [.dat d] Q E := by
  unfold w_is_name zFnOk zb_is_name
  walk_at "zs"
  rw [ch_a, ch_z]
  exact z__is_word (n := 8) (by decide) hd ⟨(fun z => nomatch z), h⟩
def isN (lo hi : Int) : PyData → Bool
  | .int i => decide (lo ≤ i ∧ i ≤ hi)
  | _ => false
def kindD (d : PyData) : PyData := if isW 97 122 8 d = true then .str "name" else if isN (-1000000000) 1000000000 d = true then .str "number" else .none
theorem z_value_kind {d : PyData} (hd : ∀ x, d = .str x → x.length ≤ line) {Q : Z → Prop} {E : Xc → Prop} (h : Q (.dat (kindD d))) : w_value_kind [.dat d] Q E := by
  unfold w_value_kind zFnOk zb_value_kind
  walk_at "zs"
  refine z_is_name hd ?_
  walk_at "zs"
  unfold kindD at h
  split
  · rename_i c
    rw [if_pos c] at h
    unfold zb_value_kind_3
    walk_at "zs"
    exact h
  · rename_i c
    rw [if_neg c] at h
    unfold zb_value_kind_4
    walk_at "zs"
    cases d with
    | int i =>
      walk_at "zt"
      walk_at "zs"
      have e : ∀ b, isN (-1000000000) 1000000000 (.int i) = b → Q (.dat (if b = true then .str "number" else .none)) := fun b q => by
        rw [q] at h
        exact h
      split
      · split
        · rename_i h1 h2
          unfold zb_value_kind_1
          walk_at "zs"
          exact e true (decide_eq_true ⟨h1, h2⟩)
        · rename_i h1 h2
          unfold zb_value_kind_2
          walk_at "zs"
          exact e false (decide_eq_false fun z => h2 z.2)
      · rename_i h1
        unfold zb_value_kind_2
        walk_at "zs"
        exact e false (decide_eq_false fun z => h1 z.1)
    | _ =>
      walk_at "zt"
      unfold zb_value_kind_2
      walk_at "zs"
      exact h
def tupN (m n : Int) : PyData → Bool
  | .tuple ds => decide (m ≤ ds.length ∧ ds.length ≤ n)
  | _ => false
theorem z_is_tuple {d : PyData} {m n : Int} {Q : Z → Prop} {E : Xc → Prop} (h : Q (.dat (.bool (tupN m n d)))) : w_is_tuple [.dat d, .dat (.int m), .dat (.int n)] Q E := by
  unfold w_is_tuple zFnOk zb_is_tuple
  walk_at "zs"
  cases d with
  | tuple ds =>
    walk_at "zt"
    walk_at "zs"
    have e : ∀ b, tupN m n (.tuple ds) = b → Q (.dat (.bool b)) := fun b q => q ▸ h
    split
    · rename_i c1
      refine e _ ?_
      simp [tupN, c1]
    · rename_i c1
      refine e _ ?_
      simp [tupN, c1]
  | _ =>
    walk_at "zt"
    walk_at "zs"
    exact h
theorem z_below {d : PyData} {n : Int} {Q : Z → Prop} {E : Xc → Prop} (h : Q (.dat (.bool (isN 0 (n - 1) d)))) : w_is_integer_below [.dat d, .dat (.int n)] Q E := by
  unfold w_is_integer_below zFnOk zb_is_integer_below
  walk_at "zs"
  cases d with
  | int i =>
    walk_at "zt"
    walk_at "zs"
    have e : ∀ b, isN 0 (n - 1) (.int i) = b → Q (.dat (.bool b)) := fun b q => q ▸ h
    split
    · rename_i c1
      refine e _ ?_
      simp only [isN]
      by_cases c2 : i < n
      · rw [decide_eq_true c2, decide_eq_true ⟨c1, by omega⟩]
      · rw [decide_eq_false c2, decide_eq_false fun z => by omega]
    · rename_i c1
      refine e _ ?_
      simp [isN, c1]
  | _ =>
    walk_at "zt"
    walk_at "zs"
    exact h
variable [Tabd]
mutual
/-- a bound for the text of a value, for its depth and its parts -/
def wt : PyData → Nat
  | .none => 6
  | .bool _ => 6
  | .int i => 10 * i.natAbs.log2 + 30
  | .str x => 10 * x.length + 3
  | .list ds => wts ds + 5
  | .tuple ds => wts ds + 5
  | .dict _ => 100
def wts : List PyData → Nat
  | [] => 0
  | d :: ds => wt d + 2 + wts ds
end
theorem wts_mem : ∀ {ds : List PyData} {d : PyData}, d ∈ ds → wt d + 2 ≤ wts ds
  | [], _, h => by cases h
  | e :: ds, d, h => by
    simp only [wts]
    rcases List.mem_cons.mp h with rfl | h
    · omega
    · have := wts_mem h
      omega
theorem wts_len : ∀ (ds : List PyData), 2 * ds.length ≤ wts ds
  | [] => by simp [wts]
  | e :: ds => by
    have := wts_len ds
    simp only [wts, List.length_cons]
    omega
theorem wt_str {x : Str} {m : Nat} (h : wt (.str x) ≤ m) (hm : m ≤ 10 * line := by decide) : x.length ≤ line := by
  simp only [wt] at h
  omega
def big5 : Nat := 50000
theorem txt_of {d : PyData} (h : wt d ≤ big5) : ∀ x, d = .str x → x.length ≤ line := fun x e => by
  subst e
  exact wt_str h (by decide)
theorem lcg {g : ZG} {t : ZT} {e : ZE} {ρ : Rho} (up : PyData → Rho) (p : PyData → Bool) (f : PyData → PyData) : ∀ (ds acc : List PyData) (Q : List PyData → Prop),
    (∀ d ∈ ds, ∀ R : Rho → Prop, R (up d) → g (.dat d) ρ R) → (∀ d ∈ ds, ∀ R : Bool → Prop, R (p d) → t (up d) R (fun _ => False)) → (∀ d ∈ ds, p d = true → ∀ R : Z → Prop, R (.dat (f d)) → e (up d) R (fun _ => False)) → acc.length + ds.length ≤ line → Q (acc ++ (ds.filter p).map f) → zLcGo g t e ρ ds acc Q
  | [], acc, Q, _, _, _, _, h => by simpa [zLcGo] using h
  | d :: ds, acc, Q, h0, h1, h2, hl, h => by
    refine h0 d List.mem_cons_self _ (h1 d List.mem_cons_self _ ?_)
    rw [List.length_cons] at hl
    have r0 := fun x hx => h0 x (List.mem_cons_of_mem d hx)
    have r1 := fun x hx => h1 x (List.mem_cons_of_mem d hx)
    have r2 := fun x hx => h2 x (List.mem_cons_of_mem d hx)
    cases c : p d with
    | true =>
      rw [if_pos rfl]
      refine h2 d List.mem_cons_self c _ ⟨f d, rfl, by omega, lcg up p f ds _ Q r0 r1 r2 (by rw [List.length_append]; simp only [List.length_singleton]; omega) ?_⟩
      rw [List.filter_cons, c, if_pos rfl, List.map_cons] at h
      rwa [List.append_assoc]
    | false =>
      rw [if_neg Bool.false_ne_true]
      refine lcg up p f ds _ Q r0 r1 r2 (by omega) ?_
      rw [List.filter_cons, c, if_neg Bool.false_ne_true] at h
      exact h
def ascS : List Str → Bool
  | x :: y :: r => lessL x y && ascS (y :: r)
  | _ => true
theorem pairs_all : ∀ xs : List Str, (pairs (xs.map .str) ((xs.map .str).drop 1)).all (fun d => match d with | .tuple [.str a, .str b] => lessL a b | _ => false) = ascS xs
  | [] => rfl
  | [x] => rfl
  | x :: y :: r => by
    have := pairs_all (y :: r)
    simp only [List.map_cons, List.drop_succ_cons, List.drop_zero, pairs, List.all_cons, ascS] at this ⊢
    rw [this]
theorem pairs_mem : ∀ {xs ys : List Str} {d : PyData}, d ∈ pairs (xs.map .str) (ys.map .str) → ∃ a b, d = .tuple [.str a, .str b]
  | [], _, _, h => by simp [pairs] at h
  | x :: xs, [], _, h => by simp [pairs] at h
  | x :: xs, y :: ys, d, h => by
    simp only [List.map_cons, pairs, List.mem_cons] at h
    rcases h with rfl | h
    · exact ⟨x, y, rfl⟩
    · exact pairs_mem h
theorem pairs_le : ∀ (xs ys : List PyData), (pairs xs ys).length ≤ xs.length
  | [], _ => by simp [pairs]
  | x :: xs, [] => by simp [pairs]
  | x :: xs, y :: ys => by
    have := pairs_le xs ys
    simp only [pairs, List.length_cons]
    omega
theorem z_is_ascending {xs : List Str} (hl : xs.length ≤ 1000) {Q : Z → Prop} {E : Xc → Prop} (h : Q (.dat (.bool (ascS xs)))) : w_is_ascending [.dat (.list (xs.map .str))] Q E := by
  unfold w_is_ascending zFnOk zb_is_ascending
  walk_at "zs"
  have e : cutL (xs.map PyData.str) (some 1) none = (xs.map PyData.str).drop 1 := by
    unfold cutL
    rw [show ((1 : Int)) = ((1 : Nat) : Int) from rfl, HT.sIx_nat, HT.sIx_none, List.length_map]
    have : List.drop (min 1 xs.length) (xs.map PyData.str) = (xs.map PyData.str).drop 1 := by
      cases xs with
      | nil => rfl
      | cons a r => simp
    rw [this]
    refine List.take_of_length_le ?_
    rw [List.length_drop, List.length_map]
    omega
  refine ⟨_, _, ⟨rfl, rfl⟩, ?_⟩
  rw [e]
  refine lcg (fun d => match d with | .tuple [a, b] => [some (.dat (.list (xs.map .str))), some (.dat a), some (.dat b)] | _ => []) (fun _ => true) (fun d => .bool (match d with | .tuple [.str a, .str b] => lessL a b | _ => false)) _ _ _ (fun d hd R r => ?_) (fun d hd R r => r) (fun d hd _ R r => ?_) ?_ ?_
  · rw [← List.map_drop] at hd
    obtain ⟨a, b, rfl⟩ := pairs_mem hd
    walk_at "zs"
    exact r
  · rw [← List.map_drop] at hd
    obtain ⟨a, b, rfl⟩ := pairs_mem hd
    walk_at "zs"
    exact r
  · have := pairs_le (xs.map PyData.str) ((xs.map PyData.str).drop 1)
    rw [List.length_map] at this
    simp only [List.length_nil]
    have : (1000 : Nat) ≤ line := by decide
    omega
  · rw [List.nil_append]
    have : ∀ l : List PyData, l.filter (fun _ => true) = l := fun l => List.filter_eq_self.mpr fun _ _ => rfl
    rw [this]
    refine all_map _ _ ⟨(fun z => nomatch z), ?_⟩
    rw [pairs_all]
    exact h
def kindsD (ds : List PyData) : Bool := ds.all fun k => anyEq [.str "name", .str "number"] k
def tableD : PyData → Bool
  | .tuple [a, b, .tuple ks] => (isW 97 122 8 a && decide (1 ≤ ks.length ∧ ks.length ≤ 4)) && (kindsD ks && isN 0 ks.length b)
  | _ => false
theorem kind_ok (k : PyData) : okIn [.str "name", .str "number"] k := fun e he => by
  rcases List.mem_cons.mp he with rfl | he
  · cases k <;> exact ⟨rfl, by decide⟩
  · rw [List.mem_singleton.mp he]
    cases k <;> exact ⟨rfl, by decide⟩
theorem z__is_table {d : PyData} (hw : wt d ≤ big5) {Q : Z → Prop} {E : Xc → Prop} (h : Q (.dat (.bool (tableD d)))) : w__is_table [.dat d] Q E := by
  unfold w__is_table zFnOk zb__is_table
  walk_at "zs"
  refine z_is_tuple ?_
  walk_at "zs"
  have key : ∀ b, tableD d = b → Q (.dat (.bool b)) := fun b q => q ▸ h
  by_cases c : ∃ x y z, d = .tuple [x, y, z]
  · obtain ⟨x, y, z, rfl⟩ := c
    have w1 : wt x ≤ big5 ∧ wt z ≤ big5 := by
      simp only [wt, wts] at hw
      omega
    have t3 : tupN 3 3 (.tuple [x, y, z]) = true := by simp [tupN]
    rw [t3, if_neg Bool.true_eq_false.mp]
    unfold zb__is_table_5
    walk_at "zs"
    unfold zb__is_table_3
    walk_at "zs"
    refine z_is_name (txt_of w1.1) ?_
    walk_at "zs"
    have bad : isW 97 122 8 x = false ∨ tupN 1 4 z = false → tableD (.tuple [x, y, z]) = false := fun hb => by
      cases z with
      | tuple ks =>
        simp only [tableD, tupN] at hb ⊢
        rcases hb with hb | hb
        · rw [hb]; rfl
        · have : decide (1 ≤ ks.length ∧ ks.length ≤ 4) = false := by
            rw [← hb]
            exact decide_eq_decide.mpr ⟨fun q => by omega, fun q => by omega⟩
          rw [this]
          simp
      | _ => rfl
    split
    · rename_i h1
      unfold zb__is_table_1
      walk_at "zs"
      exact key _ (bad (.inl h1))
    · rename_i h1
      refine z_is_tuple ?_
      walk_at "zs"
      split
      · rename_i h2
        unfold zb__is_table_1
        walk_at "zs"
        exact key _ (bad (.inr h2))
      · rename_i h2
        unfold zb__is_table_2
        walk_at "zs"
        cases z with
        | tuple ks =>
          walk_at "zs"
          have hk : 1 ≤ ks.length ∧ ks.length ≤ 4 := by
            simp [tupN] at h2
            omega
          refine lc_map (by simp) (fun k => .bool (anyEq [.str "name", .str "number"] k)) _ _ (fun k hm R r => ?_) (Nat.le_trans hk.2 (by decide)) ?_
          · walk_at "zs"
            exact ⟨kind_ok k, r⟩
          · refine all_map _ _ ?_
            walk_at "zs"
            have e : ∀ b, kindsD ks = b → tableD (.tuple [x, y, .tuple ks]) = (b && isN 0 ks.length y) := fun b q => by
              simp only [tableD, q]
              have w8 : isW 97 122 8 x = true := by simpa using h1
              rw [w8, decide_eq_true hk]
              simp
            split
            · rename_i h3
              refine z_below ⟨(fun z => nomatch z), key _ ?_⟩
              rw [e _ h3]
              simp
            · rename_i h3
              exact key _ (by rw [e _ (Bool.eq_false_iff.mpr h3)]; rfl)
        | _ => exact absurd rfl h2
  · have f1 : tupN 3 3 d = false := by
      cases d with
      | tuple ds =>
        simp only [tupN]
        refine decide_eq_false fun q => c ?_
        match ds, q with
        | [x, y, z], _ => exact ⟨x, y, z, rfl⟩
        | [], q => exact absurd q.1 (by decide)
        | [_], q => exact absurd q.1 (by simp)
        | [_, _], q => exact absurd q.1 (by simp)
        | _ :: _ :: _ :: _ :: r, q => exact absurd q.2 (by simp only [List.length_cons]; omega)
      | _ => rfl
    rw [if_pos f1]
    unfold zb__is_table_4
    walk_at "zs"
    refine key _ ?_
    unfold tableD
    split
    · rename_i a b ks
      exact absurd ⟨_, _, _, rfl⟩ c
    · rfl
def headD : PyData → PyData
  | .tuple (a :: _) => a
  | d => d
def strD : PyData → Str
  | .str x => x
  | _ => ""
def namesD (ts : List PyData) : List Str := ts.map fun t => strD (headD t)
def schemaD : PyData → Bool
  | .tuple ts => decide (1 ≤ ts.length ∧ ts.length ≤ 6) && (ts.all tableD && ascS (namesD ts))
  | _ => false
theorem table_head {d : PyData} (h : tableD d = true) : ∃ x y z, d = .tuple [.str x, y, z] := by
  unfold tableD at h
  split at h
  · rename_i a b ks
    rw [Bool.and_eq_true, Bool.and_eq_true] at h
    cases a with
    | str x => exact ⟨x, b, .tuple ks, rfl⟩
    | _ => exact absurd h.1.1 (by simp [isW])
  · cases h
theorem atI_zero {α : Type} {x : α} {xs : List α} : atI (x :: xs) 0 = some x := by
  have : ixN (x :: xs).length 0 = some 0 := by simp [ixN]
  unfold atI
  rw [this]
  rfl
theorem names_eq : ∀ {ts : List PyData}, ts.all tableD = true → ts.map headD = (namesD ts).map .str
  | [], _ => rfl
  | t :: ts, h => by
    rw [List.all_cons, Bool.and_eq_true] at h
    obtain ⟨x, y, z, rfl⟩ := table_head h.1
    have := names_eq h.2
    unfold namesD at this ⊢
    rw [List.map_cons, List.map_cons, List.map_cons, this]
    rfl
theorem z_is_schema {d : PyData} (hw : wt d ≤ big5) {Q : Z → Prop} {E : Xc → Prop} (h : Q (.dat (.bool (schemaD d)))) : w_is_schema [.dat d] Q E := by
  unfold w_is_schema zFnOk zb_is_schema
  walk_at "zs"
  refine z_is_tuple ?_
  walk_at "zs"
  have key : ∀ b, schemaD d = b → Q (.dat (.bool b)) := fun b q => q ▸ h
  split
  · rename_i h1
    unfold zb_is_schema_3
    walk_at "zs"
    refine key _ ?_
    cases d with
    | tuple ts =>
      simp only [tupN, schemaD] at h1 ⊢
      have : decide (1 ≤ ts.length ∧ ts.length ≤ 6) = false := by
        rw [← h1]
        exact decide_eq_decide.mpr ⟨fun q => by omega, fun q => by omega⟩
      rw [this]
      rfl
    | _ => rfl
  · rename_i h1
    cases d with
    | tuple ts =>
      have hl : 1 ≤ ts.length ∧ ts.length ≤ 6 := by
        simp [tupN] at h1
        omega
      have hm : ∀ t ∈ ts, wt t ≤ big5 := fun t ht => by
        have := wts_mem ht
        simp only [wt] at hw
        omega
      unfold zb_is_schema_4
      walk_at "zs"
      refine lc_map (by simp) (fun t => .bool (tableD t)) _ _ (fun t ht R r => ?_) (Nat.le_trans hl.2 (by decide)) ?_
      · walk_at "zs"
        exact z__is_table (hm t ht) r
      · refine all_map _ _ ?_
        walk_at "zs"
        split
        · rename_i h2
          unfold zb_is_schema_1
          walk_at "zs"
          refine key _ ?_
          simp only [schemaD, h2]
          simp
        · rename_i h2
          have ha : ts.all tableD = true := by simpa using h2
          unfold zb_is_schema_2
          walk_at "zs"
          refine lc_map (by simp) headD _ _ (fun t ht R r => ?_) (Nat.le_trans hl.2 (by decide)) ?_
          · obtain ⟨x, y, z, rfl⟩ := table_head (List.all_eq_true.mp ha t ht)
            walk_at "zs"
            exact ⟨_, atI_zero, r⟩
          · rw [names_eq ha]
            refine z_is_ascending (by unfold namesD; rw [List.length_map]; omega) ⟨(fun z => nomatch z), key _ ?_⟩
            simp only [schemaD, ha, decide_eq_true hl]
            simp
    | _ => exact absurd rfl h1
theorem z_check_bad {d : PyData} (hw : wt d ≤ big5) (hb : schemaD d = false) {Q : Z → Prop} {E : Xc → Prop} (h : E ⟨"InvalidSchema", none⟩) : w_check_schema [.dat d] Q E := by
  unfold w_check_schema zFnOk zb_check_schema
  walk_at "zs"
  refine z_is_schema hw ?_
  rw [hb]
  walk_at "zs"
  unfold zb_check_schema_1
  walk_at "zs"
  exact h
theorem z_table_names_bad {d : PyData} (hw : wt d ≤ big5) (hb : schemaD d = false) {Q : Z → Prop} {E : Xc → Prop} (h : E ⟨"InvalidSchema", none⟩) : w_table_names [.dat d] Q E := by
  unfold w_table_names zFnOk zb_table_names
  walk_at "zs"
  exact z_check_bad hw hb h
theorem z_key_size_bad {d t : PyData} (hw : wt d ≤ big5) (hb : schemaD d = false) {Q : Z → Prop} {E : Xc → Prop} (h : E ⟨"InvalidSchema", none⟩) : w_key_size [.dat d, .dat t] Q E := by
  unfold w_key_size zFnOk zb_key_size
  walk_at "zs"
  exact z_check_bad hw hb h
theorem z_column_kinds_bad {d t : PyData} (hw : wt d ≤ big5) (hb : schemaD d = false) {Q : Z → Prop} {E : Xc → Prop} (h : E ⟨"InvalidSchema", none⟩) : w_column_kinds [.dat d, .dat t] Q E := by
  unfold w_column_kinds zFnOk zb_column_kinds
  walk_at "zs"
  exact z_check_bad hw hb h
theorem z_is_record_bad {d t v : PyData} (hw : wt d ≤ big5) (hb : schemaD d = false) {Q : Z → Prop} {E : Xc → Prop} (h : E ⟨"InvalidSchema", none⟩) : w_is_record [.dat d, .dat t, .dat v] Q E := by
  unfold w_is_record zFnOk zb_is_record
  walk_at "zs"
  exact z_check_bad hw hb h
theorem z_record_key_bad {d t v : PyData} (hw : wt d ≤ big5) (hb : schemaD d = false) {Q : Z → Prop} {E : Xc → Prop} (h : E ⟨"InvalidSchema", none⟩) : w_record_key [.dat d, .dat t, .dat v] Q E := by
  unfold w_record_key zFnOk zb_record_key
  walk_at "zs"
  exact z_check_bad hw hb h
variable [Tabd]
def abcS (lo : Nat) : Str := ⟨((List.range 26).map (lo + ·)).toArray⟩
theorem abc_a : ("abcdefghijklmnopqrstuvwxyz" : Str) = abcS 97 := by decide +kernel
theorem abc_A : ("ABCDEFGHIJKLMNOPQRSTUVWXYZ" : Str) = abcS 65 := by decide +kernel
theorem has_abc (lo c : Nat) : hasStr ⟨#[c]⟩ (abcS lo) = decide (lo ≤ c ∧ c ≤ lo + 25) := by
  have e : hasStr ⟨#[c]⟩ (abcS lo) = decide (c ∈ (abcS lo).cps.toList) := rfl
  rw [e]
  refine decide_eq_decide.mpr ?_
  simp only [abcS, List.mem_map, List.mem_range]
  constructor
  · rintro ⟨i, hi, rfl⟩
    omega
  · intro h
    exact ⟨c - lo, by omega, by omega⟩
theorem eqv_nil : ∀ xs : List PyData, PyData.eqv (.list xs) (.list []) = xs.isEmpty
  | [] => by simp [PyData.eqv, PyData.eqvAll]
  | x :: xs => by simp [PyData.eqv, PyData.eqvAll]
theorem eqOks_nil : ∀ xs : List PyData, eqOks xs [] = true
  | [] => by simp [eqOks]
  | x :: xs => by simp [eqOks]
theorem depAll_le {n : Nat} : ∀ {xs : List PyData}, (∀ x ∈ xs, dep x ≤ n) → depAll xs ≤ n
  | [], _ => by simp [depAll]
  | x :: xs, h => by
    have h1 := h x List.mem_cons_self
    have h2 := depAll_le fun y hy => h y (List.mem_cons_of_mem x hy)
    simp only [depAll]
    omega
/-- [.. for .. if not p] == [] -/
theorem none_left {ds : List PyData} (p : PyData → Bool) (f : PyData → PyData) {neg : Bool} (hd : ∀ d ∈ ds, dep (f d) ≤ 50) {Q : Z → Prop} (h : Q (.dat (.bool (if neg then !(ds.all fun d => !p d) else ds.all fun d => !p d)))) : dEq neg (.list ((ds.filter p).map f)) (.list []) Q := by
  rw [eq_any]
  refine ⟨by simp only [eqOk]; exact eqOks_nil _, fun _ => rfl, ?_, ?_⟩
  · have : depAll ((ds.filter p).map f) ≤ 50 := depAll_le fun x hx => by
      obtain ⟨d, hm, rfl⟩ := List.mem_map.mp hx
      exact hd d (List.mem_filter.mp hm).1
    simp only [dep]
    omega
  · have e : PyData.eqv (.list ((ds.filter p).map f)) (.list []) = ds.all fun d => !p d := by
      rw [eqv_nil]
      clear h
      induction ds with
      | nil => rfl
      | cons d ds ih =>
        rw [List.filter_cons, List.all_cons]
        cases c : p d with
        | true => rfl
        | false =>
          rw [if_neg Bool.false_ne_true]
          simpa using ih fun x hx => hd x (List.mem_cons_of_mem _ hx)
    rw [e]
    exact h
def signOf : PyData → Nat
  | .str x => x.cps.toList.headD 0
  | _ => 0
theorem sign_of (c : Nat) : signOf (.str ⟨#[c]⟩) = c := rfl
theorem z__law_is_word {d : PyData} {n lo : Nat} (hn : n ≤ 100) (hd : ∀ x, d = .str x → x.length ≤ line) {Q : Z → Prop} {E : Xc → Prop} (h : Q (.dat (.bool (isW lo (lo + 25) n d)))) : w__law_is_word [.dat d, .dat (.str (abcS lo)), .dat (.int n)] Q E := by
  unfold w__law_is_word zFnOk zb__law_is_word
  walk_at "zs"
  have key : ∀ b, isW lo (lo + 25) n d = b → Q (.dat (.bool b)) := fun b q => q ▸ h
  cases d with
  | str x =>
    walk_at "zt"
    walk_at "zs"
    refine ⟨hd x rfl, ?_⟩
    have out : ¬ (1 ≤ x.length ∧ x.length ≤ n) → isW lo (lo + 25) n (.str x) = false := fun z => by simp [isW, z]
    split
    · split
      · unfold zb__law_is_word_1
        walk_at "zs"
        exact key _ (out (by omega))
      · have hxn : x.cps.toList.length ≤ 100 := by
          have : x.cps.toList.length = x.length := by simp [Str.length]
          omega
        unfold zb__law_is_word_2
        walk_at "zs"
        refine lc_go (by simp) (fun d => !decide (lo ≤ signOf d ∧ signOf d ≤ lo + 25)) id _ _ _ (fun d hm R r => ?_) (fun d hm _ R r => ?_) (by rw [List.length_map]; exact Nat.le_trans (by simpa using hxn) (by decide)) ?_
        · obtain ⟨c, _, rfl⟩ := List.mem_map.mp hm
          simp only [sign, sign_of] at r ⊢
          walk_at "zs"
          rw [has_abc]
          exact r
        · walk_at "zs"
          exact r
        · rw [List.nil_append]
          refine ⟨Nat.zero_le _, none_left _ _ (fun d hm => ?_) ?_⟩
          · obtain ⟨c, _, rfl⟩ := List.mem_map.mp hm
            exact (by decide : (1 : Nat) ≤ 50)
          · refine ⟨(fun z => nomatch z), key _ ?_⟩
            have hlen : (1 ≤ x.length ∧ x.length ≤ n) := by omega
            simp only [isW, decide_eq_true hlen, Bool.true_and]
            rw [if_neg Bool.false_ne_true, List.all_map]
            congr 1
            funext c
            show decide (lo ≤ c ∧ c ≤ lo + 25) = !(!decide (lo ≤ signOf (sign c) ∧ signOf (sign c) ≤ lo + 25))
            rw [Bool.not_not]
            rfl
    · unfold zb__law_is_word_1
      walk_at "zs"
      exact key _ (out (by omega))
  | _ =>
    walk_at "zt"
    unfold zb__law_is_word_1
    walk_at "zs"
    exact h
theorem z__law_is_whole {d : PyData} {lo hi : Int} {Q : Z → Prop} {E : Xc → Prop} (h : Q (.dat (.bool (isN lo hi d)))) : w__law_is_whole [.dat d, .dat (.int lo), .dat (.int hi)] Q E := by
  unfold w__law_is_whole zFnOk zb__law_is_whole
  walk_at "zs"
  cases d with
  | int i =>
    walk_at "zt"
    walk_at "zs"
    have e : ∀ b, isN lo hi (.int i) = b → Q (.dat (.bool b)) := fun b q => q ▸ h
    split
    · rename_i c1
      refine e _ ?_
      simp [isN, c1]
    · rename_i c1
      refine e _ ?_
      simp [isN, c1]
  | _ =>
    walk_at "zt"
    walk_at "zs"
    exact h
theorem bits10 : (Builtin.Int.intBits 10 : Int) * 9 ≤ 2 ^ 27 := by decide +kernel
theorem ten9 : ((10 : Int) ^ (9 : Int).toNat) = 1000000000 := by decide +kernel
theorem z__law_kind {d : PyData} (hd : ∀ x, d = .str x → x.length ≤ line) {Q : Z → Prop} {E : Xc → Prop} (h : Q (.dat (kindD d))) : w__law_kind [.dat d] Q E := by
  unfold w__law_kind zFnOk zb__law_kind
  walk_at "zs"
  rw [abc_a]
  refine z__law_is_word (n := 8) (by decide) hd ?_
  walk_at "zs"
  unfold kindD at h
  split
  · rename_i c
    rw [if_pos c] at h
    unfold zb__law_kind_1
    walk_at "zs"
    exact h
  · rename_i c
    rw [if_neg c] at h
    unfold zb__law_kind_2
    walk_at "zs"
    rw [ten9]
    refine ⟨by decide, bits10, by decide, bits10, ?_⟩
    refine z__law_is_whole ?_
    walk_at "zs"
    have e0 : (0 : Int) - 1000000000 = -1000000000 := by decide
    rw [e0]
    split
    · rename_i c2
      rw [if_pos c2] at h
      exact h
    · rename_i c2
      rw [if_neg c2] at h
      exact h
theorem kind_name (d : PyData) : PyData.eqv (kindD d) (.str "name") = isW 97 122 8 d := by
  unfold kindD
  by_cases c : isW 97 122 8 d = true
  · rw [if_pos c, c]
    rfl
  · rw [if_neg c, Bool.eq_false_iff.mpr c]
    split
    · rfl
    · rfl
theorem kind_free (d : PyData) : eqOk (kindD d) (.str "name") = true ∧ dep (kindD d) ≤ 60 := by
  unfold kindD
  split
  · exact ⟨rfl, by decide⟩
  · split
    · exact ⟨rfl, by decide⟩
    · exact ⟨rfl, by decide⟩
theorem eq_int {neg : Bool} {i j : Int} {Q : Z → Prop} (h : Q (.dat (.bool (if neg then !decide (i = j) else decide (i = j))))) : dEq neg (.int i) (.int j) Q := by
  rw [eq_any]
  have e : PyData.eqv (.int i) (.int j) = decide (i = j) := by
    simp only [PyData.eqv]
    by_cases c : i = j <;> simp [c]
  exact ⟨rfl, fun _ => rfl, by simp [dep], by rw [e]; exact h⟩
theorem atI_one {α : Type} {x y : α} {xs : List α} : atI (x :: y :: xs) 1 = some y := by
  have : ixN (x :: y :: xs).length 1 = some 1 := by
    simp [ixN]
    omega
  unfold atI
  rw [this]
  rfl
theorem atI_two {α : Type} {x y z : α} {xs : List α} : atI (x :: y :: z :: xs) 2 = some z := by
  have : ixN (x :: y :: z :: xs).length 2 = some 2 := by
    simp [ixN]
    omega
  unfold atI
  rw [this]
  rfl
variable [Tabd]
def leS (x y : Str) : Bool := decide (x.cps.toList ≤ y.cps.toList)
theorem leS_anti {x y : Str} (h : leS x y = true) (k : leS y x = true) : x = y := by
  have := List.le_antisymm (of_decide_eq_true h) (of_decide_eq_true k)
  cases x; cases y
  simpa using this
theorem lessL_iff {x y : Str} : lessL x y = true ↔ leS x y = true ∧ x ≠ y := by
  simp only [lessL, leS, decide_eq_true_eq]
  constructor
  · intro h
    refine ⟨List.le_of_lt h, fun e => ?_⟩
    subst e
    exact List.lt_irrefl _ h
  · rintro ⟨h, n⟩
    rcases Classical.em (x.cps.toList < y.cps.toList) with c | c
    · exact c
    · refine absurd ?_ n
      have : y.cps.toList ≤ x.cps.toList := c
      exact leS_anti (decide_eq_true h) (decide_eq_true this)
theorem leS_trans (x y z : Str) (h : leS x y = true) (k : leS y z = true) : leS x z = true := decide_eq_true (List.le_trans (of_decide_eq_true h) (of_decide_eq_true k))
theorem leS_total (x y : Str) : (leS x y || leS y x) = true := by
  rw [Bool.or_eq_true]
  rcases List.le_total x.cps.toList y.cps.toList with h | h
  · exact .inl (decide_eq_true h)
  · exact .inr (decide_eq_true h)
/-- strictly ascending -/
theorem asc_pair : ∀ {xs : List Str}, ascS xs = true ↔ xs.Pairwise (fun x y => lessL x y = true)
  | [] => by simp [ascS]
  | [x] => by simp [ascS]
  | x :: y :: r => by
    rw [ascS, Bool.and_eq_true, asc_pair]
    constructor
    · rintro ⟨h1, h2⟩
      refine List.pairwise_cons.mpr ⟨fun z hz => ?_, h2⟩
      rcases List.mem_cons.mp hz with rfl | hz
      · exact h1
      · have h3 := (List.pairwise_cons.mp h2).1 z hz
        rw [lessL_iff] at h1 h3 ⊢
        refine ⟨leS_trans _ _ _ h1.1 h3.1, fun e => ?_⟩
        subst e
        exact h1.2 (leS_anti h1.1 h3.1)
    · intro h
      obtain ⟨h1, h2⟩ := List.pairwise_cons.mp h
      exact ⟨h1 y List.mem_cons_self, h2⟩
theorem sort_strs (ys : List Str) : sortD (ys.map .str) = (ys.mergeSort leS).map .str := by
  refine (List.map_mergeSort fun a _ b _ => ?_).symm
  have := PySem.W.dataLe_str (β := PyData) (fun d => strD d)
  show leS a b = PySem.W.dataLe false id (.str a) (.str b)
  have h2 := congrFun (congrFun (PySem.W.dataLe_str (β := Str) id) a) b
  have h3 : PySem.W.dataLe false (fun b : Str => PyData.str (id b)) a b = PySem.W.dataLe false id (PyData.str a) (PyData.str b) := rfl
  rw [← h3, h2]
  rfl
theorem eqv_strs : ∀ {xs ys : List Str}, PyData.eqvAll (xs.map .str) (ys.map .str) = decide (xs = ys)
  | [], [] => by simp [PyData.eqvAll]
  | [], y :: ys => by simp [PyData.eqvAll]
  | x :: xs, [] => by simp [PyData.eqvAll]
  | x :: xs, y :: ys => by
    simp only [List.map_cons, PyData.eqvAll, PyData.eqv, eqv_strs]
    by_cases a : x = y
    · by_cases b : xs = ys
      · simp [a, b]
      · simp [a, b]
    · simp [a]
theorem sorted_set_eq {xs ys : List Str} (nd : ys.Nodup) (m : ∀ y, y ∈ ys ↔ y ∈ xs) : PyData.eqv (.list (xs.map .str)) (.list (sortD (ys.map .str))) = ascS xs := by
  rw [sort_strs]
  show PyData.eqvAll _ _ = _
  rw [eqv_strs]
  have sd : (ys.mergeSort leS).Pairwise (fun a b => leS a b = true) := List.pairwise_mergeSort leS_trans leS_total ys
  have pm : (ys.mergeSort leS).Perm ys := List.mergeSort_perm ys leS
  by_cases c : ascS xs = true
  · rw [c]
    have pw := asc_pair.mp c
    have nx : xs.Nodup := pw.imp fun h e => (lessL_iff.mp h).2 e
    refine decide_eq_true (List.Perm.eq_of_pairwise (le := fun a b => leS a b = true) (fun a b _ _ h k => leS_anti h k) (pw.imp fun h => (lessL_iff.mp h).1) sd ?_)
    refine ((List.perm_ext_iff_of_nodup nx nd).mpr fun y => (m y).symm).trans pm.symm
  · rw [Bool.eq_false_iff.mpr c]
    refine decide_eq_false fun e => c (asc_pair.mpr ?_)
    have nx : xs.Nodup := by
      rw [e]
      exact pm.nodup_iff.mpr nd
    rw [← e] at sd
    exact List.Pairwise.imp_of_mem (fun _ _ h => lessL_iff.mpr h) (sd.and nx)
theorem strs_of {ks : List Key} (h : ∀ k ∈ ks, ∃ x, k = .inr x) : ∃ xs : List Str, ks = xs.map .inr := by
  induction ks with
  | nil => exact ⟨[], rfl⟩
  | cons k ks ih =>
    obtain ⟨x, rfl⟩ := h k List.mem_cons_self
    obtain ⟨xs, e⟩ := ih fun j hj => h j (List.mem_cons_of_mem _ hj)
    exact ⟨x :: xs, by rw [e]; rfl⟩
theorem dep_strs (xs : List Str) : dep (.list (xs.map .str)) ≤ 60 := by
  have : depAll (xs.map PyData.str) ≤ 1 := depAll_le fun x hx => by
    obtain ⟨y, _, rfl⟩ := List.mem_map.mp hx
    simp [dep]
  simp only [dep]
  omega
theorem eqOks_strs : ∀ xs ys : List Str, eqOks (xs.map .str) (ys.map .str) = true
  | [], _ => by simp [eqOks]
  | _ :: _, [] => by simp [eqOks]
  | x :: xs, y :: ys => by
    simp only [List.map_cons, eqOks, eqOks_strs]
    simp [eqOk]
variable [Tabd]
theorem lower_abc : Txt.lower (abcS 65) = abcS 97 := by decide +kernel
theorem len_abc (lo : Nat) : (abcS lo).length = 26 := by simp [abcS, Str.length]
theorem repr_bool (b : Bool) {Q : Z → Prop} (h : Q (.dat (.str (PyData.bool b).shown))) : dRepr (.bool b) Q := by
  cases b
  · exact ⟨by decide, by decide, by decide +kernel, h⟩
  · exact ⟨by decide, by decide, by decide +kernel, h⟩
theorem repr_kind (d : PyData) {Q : Z → Prop} (h : Q (.dat (.str (kindD d).shown))) : dRepr (kindD d) Q := by
  unfold kindD at h ⊢
  split
  · rename_i c
    rw [if_pos c] at h
    exact ⟨by decide, by decide, by decide +kernel, h⟩
  · rename_i c
    rw [if_neg c] at h
    split
    · rename_i c2
      rw [if_pos c2] at h
      exact ⟨by decide, by decide, by decide +kernel, h⟩
    · rename_i c2
      rw [if_neg c2] at h
      exact ⟨by decide, by decide, by decide +kernel, h⟩
theorem eq_same {neg : Bool} {x : Str} {Q : Z → Prop} (h : Q (.dat (.bool (!neg)))) : dEq neg (.str x) (.str x) Q := by
  rw [eq_any]
  refine ⟨rfl, fun _ => rfl, by simp [dep], ?_⟩
  have e : PyData.eqv (.str x) (.str x) = true := by simp [PyData.eqv]
  rw [e]
  cases neg <;> exact h
theorem tab_mem : ("InvalidSchema" : Str) ∈ excNames := by decide
theorem tab_1 : isSub excTab "InvalidSchema" "RecordsError" = true := by decide
theorem tab_2 : isSub excTab "InvalidSchema" "InvalidSchema" = true := by decide
theorem tab_3 : isSub excTab "InvalidSchema" "ValueError" = true := by decide
theorem tab_4 : (isSub excTab "InvalidSchema" "InvalidRecord" || isSub excTab "InvalidSchema" "InvalidQuery") = false := by decide
theorem log_small {n : Nat} (h : n < 2 ^ 40) (h0 : n ≠ 0) : n.log2 < 9000 := Nat.lt_trans ((Nat.log2_lt h0).mpr h) (by decide)
theorem z_pick {ds : List PyData} (h0 : 0 < ds.length) (hl : ds.length ≤ 1000) {Q : Z → Prop} {E : Xc → Prop} (h : ∀ d ∈ ds, Q (.dat d)) : w__law_pick [.strm, .dat (.list ds)] Q E := by
  unfold w__law_pick zFnOk zb__law_pick
  walk_at "zs"
  unfold zDraw
  refine ⟨_, rfl, by omega, log_small (by simp only [Int.natAbs_natCast]; exact Nat.lt_of_le_of_lt hl (by decide)) (by simp only [Int.natAbs_natCast]; omega), fun j j0 j1 => ?_⟩
  walk_at "zs"
  have hj : j.toNat < ds.length := by omega
  have e : atI ds j = some ds[j.toNat] := by
    have : ixN ds.length j = some j.toNat := by
      unfold ixN
      rw [if_pos j0, if_pos (by omega)]
    unfold atI
    rw [this]
    exact List.getElem?_eq_getElem hj
  exact ⟨_, e, h _ (List.getElem_mem hj)⟩
variable [Tabd]
theorem for_inv {g : ZG} {b : ZS} {k : Kz} {ρ : Rho} (I : Nat → Rho → Prop) (ds : List PyData) (h0 : I 0 ρ)
    (step : ∀ (j : Nat) d, ds[j]? = some d → ∀ ρ, I j ρ → ∀ N : Rho → Prop, (∀ ρ', I (j + 1) ρ' → N ρ') → g (.dat d) ρ fun ρ' => b ρ' { k with nx := N, ct := N, bk := k.nx }) (fin : ∀ ρ, I ds.length ρ → k.nx ρ) : zForGo g b ds ρ k := by
  have key : ∀ (n i : Nat) (ρ : Rho), ds.length - i = n → i ≤ ds.length → I i ρ → zForGo g b (ds.drop i) ρ k := by
    intro n
    induction n with
    | zero =>
      intro i ρ hn hi h
      have e : i = ds.length := by omega
      subst e
      rw [List.drop_length]
      exact fin ρ h
    | succ n ih =>
      intro i ρ hn hi h
      have lt : i < ds.length := by omega
      rw [List.drop_eq_getElem_cons lt]
      exact step i _ (List.getElem?_eq_getElem lt) ρ h _ fun ρ' h' => ih (i + 1) ρ' (by omega) lt h'
  have := key ds.length 0 ρ rfl (Nat.zero_le _) h0
  rwa [List.drop_zero] at this
theorem runI_len (lo : Int) (n : Nat) : (runI lo n).length = n := by simp [runI]
theorem runI_get {lo : Int} {n j : Nat} {d : PyData} (h : (runI lo n)[j]? = some d) : j < n ∧ d = .int (lo + j) := by
  unfold runI at h
  rw [List.getElem?_map] at h
  by_cases c : j < n
  · rw [List.getElem?_range c] at h
    cases h
    exact ⟨c, rfl⟩
  · rw [List.getElem?_eq_none (by simpa using c)] at h
    cases h
theorem atI_nat' {α : Type} {xs : List α} {j : Nat} {x : α} (h : xs[j]? = some x) : atI xs (j : Int) = some x := by
  have lt : j < xs.length := (List.getElem?_eq_some_iff.mp h).1
  have : ixN xs.length (j : Int) = some j := by
    unfold ixN
    rw [if_pos (by omega), if_pos (by omega)]
    rfl
  unfold atI
  rw [this]
  exact h
theorem abc_ix {b : Nat} {r : Int} (h0 : 0 ≤ r) (h : r < 26) : atI (abc b).cps.toList r = some (b + r.toNat) := by
  obtain ⟨j, rfl⟩ : ∃ j : Nat, r = (j : Int) := ⟨r.toNat, by omega⟩
  exact atI_nat' (abc_get (by omega))
theorem draw_ok {n : Int} (h0 : 0 < n) (h : n < 2 ^ 40) {Q : Z → Prop} {E : Xc → Prop} (q : ∀ j : Int, 0 ≤ j → j < n → Q (.dat (.int j))) : zDraw [.strm, .dat (.int n)] Q E :=
  ⟨n, rfl, h0, log_small (by omega) (by omega), q⟩
def SW (b : Nat) (t : Int) (xs : List Str) (y5 y6 y7 : Option Z) : Rho := [some .strm, some (.dat (.int t)), some (.dat (.str (abc b))), some (.own (xs.map .str)), some (.dat (.int (longOf b : Nat))), y5, y6, y7]
theorem long8 {b : Nat} : longOf b ≤ 8 := by unfold longOf; split <;> decide
theorem long4 {b : Nat} : 4 ≤ longOf b := by unfold longOf; split <;> decide
theorem cutL_from {α : Type} (xs : List α) (n : Nat) : cutL xs (some (n : Int)) none = xs.drop n := by
  unfold cutL
  rw [HT.sIx_nat, HT.sIx_none]
  by_cases h : n ≤ xs.length
  · rw [Nat.min_eq_left h]
    exact List.take_of_length_le (by rw [List.length_drop]; omega)
  · rw [Nat.min_eq_right (by omega), List.drop_length, List.drop_of_length_le (by omega)]
    simp
theorem cutL_to {α : Type} (xs : List α) (n : Nat) : cutL xs none (some (n : Int)) = xs.take n := by
  unfold cutL
  rw [HT.sIx_nat, HT.sIx_none, List.drop_zero, Nat.sub_zero]
  by_cases h : n ≤ xs.length
  · rw [Nat.min_eq_left h]
  · rw [Nat.min_eq_right (by omega), List.take_of_length_le (Nat.le_refl _), List.take_of_length_le (by omega)]
theorem in_strs (wd : Str) (xs : List Str) : anyEq (xs.map .str) (.str wd) = decide (wd ∈ xs) := by
  unfold anyEq
  rw [List.any_map]
  by_cases c : wd ∈ xs
  · rw [decide_eq_true c]
    exact List.any_eq_true.mpr ⟨wd, c, by simp [PyData.eqv]⟩
  · rw [decide_eq_false c]
    refine List.any_eq_false.mpr fun x hx => ?_
    simp only [Function.comp, PyData.eqv]
    intro e
    exact c (by rw [← beq_iff_eq.mp e]; exact hx)
theorem ok_strs (xs : List Str) (wd : Str) : okIn (xs.map .str) (.str wd) := fun e he => by
  obtain ⟨x, _, rfl⟩ := List.mem_map.mp he
  exact ⟨rfl, by simp [dep]⟩
theorem wordB_len' {b n : Nat} {x : Str} (h : WordB b n x) : x.length ≤ n := by rw [str_len]; exact h.2.1
theorem words_6 {t : Int} {b : Nat} (hb : b = 97 ∨ b = 65) (ht0 : 0 ≤ t) (ht : t ≤ 26) {xs : List Str} (hx : (xs.length : Int) < t) {wd : Str} (hwd : WordB b (longOf b) wd) {y5 y7 : Option Z} {k : Kz} (hk : ∀ w2 y7', WordB b (longOf b) w2 → w2 ∉ xs → k.nx (SW b t (xs ++ [w2]) y5 (some (.dat (.str w2))) y7')) :
    zb__law_words_6 (SW b t xs y5 (some (.dat (.str wd))) y7) k := by
  have hz : (abc b).length ≤ line := by rw [abc_len]; decide
  have l8 := long8 (b := b)
  unfold zb__law_words_6
  simp only [SW]
  walk_at "zs"
  refine ⟨by show -(2 ^ 62) ≤ t; omega, by show t < 2 ^ 62; omega, ?_⟩
  refine for_inv (fun j ρ => ∃ y7 w2, ρ = SW b t xs y5 (some (.dat (.str w2))) y7 ∧ WordB b (longOf b) w2 ∧ (w2 ∉ xs ∨ (w2 = ⟨(rot b wd.cps.toList j).toArray⟩ ∧ ∀ i, i < j → (⟨(rot b wd.cps.toList i).toArray⟩ : Str) ∈ xs))) _ ⟨y7, wd, rfl, hwd, .inr ⟨?_, fun _ h => absurd h (Nat.not_lt_zero _)⟩⟩ ?_ ?_
  · apply str_ext
    rw [rot_zero hwd]
  · rintro j d hd ρ ⟨y7, w2, rfl, hw2, hw⟩ N hN
    obtain ⟨hj, rfl⟩ := runI_get hd
    simp only [SW]
    walk_at "zs"
    unfold zb__law_words_3
    walk_at "zs"
    refine ⟨ok_strs _ _, ?_⟩
    rw [in_strs]
    split
    · rename_i c
      have hin : w2 ∈ xs := by simpa using c
      obtain ⟨rfl, hall⟩ := hw.resolve_left fun z => z hin
      obtain ⟨q, r, hq, el⟩ := word_head hwd
      have e2 : (rot b wd.cps.toList j) = (b + (q + j) % 26) :: r := by
        rw [el]
        show (b + (b + q - b + j) % 26) :: r = _
        rw [show b + q - b = q by omega]
      have hm := Nat.mod_lt (q + j) (show 0 < 26 by decide)
      have hw8 := wordB_len' hw2
      have hz2 : (⟨(rot b wd.cps.toList j).toArray⟩ : Str).length ≤ line := Nat.le_trans (Nat.le_trans hw8 l8) (by decide)
      have e0 : atI (⟨(rot b wd.cps.toList j).toArray⟩ : Str).cps.toList (0 : Int) = some (b + (q + j) % 26) := by
        refine atI_nat' (j := 0) ?_
        show (rot b wd.cps.toList j)[0]? = _
        rw [e2]
        rfl
      unfold zb__law_words_2
      walk_at "zs"
      refine ⟨hz2, _, e0, _, rfl, _, idx_abc hb hm, by decide, hz, _, abc_ix (Int.emod_nonneg _ (by decide)) (Int.emod_lt_of_pos _ (by decide)), ?_⟩
      simp only [sign]
      walk_at "zs"
      rw [show (1 : Int) = ((1 : Nat) : Int) from rfl, cutL_from]
      have er : (((((q + j) % 26 : Nat) : Int) + ((1 : Nat) : Int)) % 26).toNat = (q + (j + 1)) % 26 := by omega
      rw [er]
      have e3 : ((⟨#[b + (q + (j + 1)) % 26]⟩ : Str) ++ (⟨((rot b wd.cps.toList j).drop 1).toArray⟩ : Str)) = ⟨(rot b wd.cps.toList (j + 1)).toArray⟩ := by
        apply str_ext
        rw [cat_cps]
        show [b + (q + (j + 1)) % 26] ++ List.drop 1 (rot b wd.cps.toList j) = rot b wd.cps.toList (j + 1)
        rw [e2, el]
        show _ = (b + (b + q - b + (j + 1)) % 26) :: r
        rw [show b + q - b = q by omega]
        rfl
      rw [e3]
      refine ⟨hz2, ?_, hN _ ⟨_, _, rfl, rot_word hwd, .inr ⟨rfl, fun i hi => ?_⟩⟩⟩
      · have h1 : (⟨((rot b wd.cps.toList j).drop 1).toArray⟩ : Str).length ≤ 8 := by
          have := wordB_len' hw2
          rw [str_len] at this ⊢
          simp only [List.length_drop] at this ⊢
          omega
        have h2 : (⟨#[b + (q + (j + 1)) % 26]⟩ : Str).length = 1 := rfl
        rw [h2]
        exact Nat.le_trans (Nat.add_le_add_left h1 1) (by decide)
      · by_cases hij : i = j
        · rw [hij]
          exact hin
        · exact hall i (by omega)
    · rename_i c
      have hout : w2 ∉ xs := by simpa using c
      exact hN _ ⟨_, w2, rfl, hw2, .inl hout⟩
  · rintro ρ ⟨y7, w2, rfl, hw2, hw⟩
    have hnew : w2 ∉ xs := by
      rcases hw with h | ⟨_, hall⟩
      · exact h
      · rw [runI_len] at hall
        exact (rot_free hwd (t := t.toNat) (by omega) (by omega) hall).elim
    unfold zb__law_words_4
    simp only [SW]
    walk_at "zs"
    refine ⟨?_, ?_⟩
    · rw [List.length_map]
      exact Nat.lt_of_lt_of_le (show xs.length < 26 by omega) (by decide)
    · have := hk w2 y7 hw2 hnew
      simp only [SW, List.map_append, List.map_cons, List.map_nil] at this
      exact this
theorem words_8 {t : Int} {b : Nat} (hb : b = 97 ∨ b = 65) (ht0 : 0 ≤ t) (ht : t ≤ 26) {xs : List Str} (hx : (xs.length : Int) < t) (hW : ∀ x ∈ xs, WordB b (longOf b) x) {wd : Str} (hwd : WordB b (longOf b) wd) {y5 y7 : Option Z} {k : Kz} (hk : ∀ w2 y7', WordB b (longOf b) w2 → w2 ∉ xs → k.nx (SW b t (xs ++ [w2]) y5 (some (.dat (.str w2))) y7')) :
    zb__law_words_8 (SW b t xs y5 (some (.dat (.str wd))) y7) k := by
  have hz : (abc b).length ≤ line := by rw [abc_len]; decide
  have l8 := long8 (b := b)
  have l4 := long4 (b := b)
  have next : ∀ w, WordB b (longOf b) w → zb__law_words_6 (SW b t xs y5 (some (.dat (.str w))) y7) k := fun w hw => words_6 hb ht0 ht hx hw hk
  unfold zb__law_words_8
  simp only [SW]
  walk_at "zs"
  refine ⟨Nat.zero_le _, ?_⟩
  rw [eq_any]
  refine ⟨by simp only [eqOk]; exact eqOks_nil _, fun _ => rfl, dep_strs _, ?_⟩
  walk_at "zs"
  split
  · rename_i c
    rw [Zl.eqv_nil] at c
    refine draw_ok (by decide) (by decide) fun j j0 j4 => ?_
    walk_at "zs"
    refine eq_int ?_
    walk_at "zs"
    split
    · have hne : xs ≠ [] := by
        intro z
        subst z
        exact absurd c (by decide)
      obtain ⟨ys, y, rfl⟩ : ∃ ys y, xs = ys ++ [y] := ⟨xs.dropLast, xs.getLast hne, (List.dropLast_concat_getLast hne).symm⟩
      have hy : WordB b (longOf b) y := hW y (List.mem_append_right _ List.mem_cons_self)
      have hy8 := wordB_len' hy
      have gl : atI ((ys ++ [y]).map PyData.str) (-1) = some (.str y) := by
        have e : ixN ((ys ++ [y]).map PyData.str).length (-1) = some ys.length := by
          unfold ixN
          rw [List.length_map, List.length_append]
          simp
          omega
        unfold atI
        rw [e]
        simp
      unfold zb__law_words_5
      walk_at "zs"
      refine ⟨_, gl, hz, _, abc_ix (by decide) (by decide), ?_⟩
      simp only [sign]
      walk_at "zs"
      rw [cutL_to]
      have hcat : (y ++ (⟨#[b + (0 : Int).toNat]⟩ : Str)).cps.toList = y.cps.toList ++ [b] := by
        rw [cat_cps]
        rfl
      have h1 : (⟨#[b + (0 : Int).toNat]⟩ : Str).length = 1 := rfl
      refine ⟨by rw [h1]; exact Nat.le_trans (show _ ≤ 9 by omega) (by decide), by rw [cat_len, h1]; exact Nat.le_trans (show _ ≤ 9 by omega) (by decide), ?_⟩
      have := next ⟨((y ++ (⟨#[b + (0 : Int).toNat]⟩ : Str)).cps.toList.take (longOf b)).toArray⟩ ?_
      · simp only [SW] at this
        exact this
      · unfold WordB
        show WordC b (longOf b) (List.take (longOf b) _)
        rw [hcat]
        obtain ⟨g1, g2, g3⟩ := hy
        refine ⟨?_, ?_, fun c hc => ?_⟩
        · rw [List.length_take, List.length_append]
          simp only [List.length_cons, List.length_nil]
          omega
        · rw [List.length_take]
          omega
        · rcases List.mem_append.mp (List.mem_of_mem_take hc) with hc | hc
          · exact g3 c hc
          · have := List.mem_singleton.mp hc
            omega
    · have := next wd hwd
      simp only [SW] at this
      exact this
  · have := next wd hwd
    simp only [SW] at this
    exact this
theorem z__law_words {t : Int} {b : Nat} (hb : b = 97 ∨ b = 65) (ht0 : 0 ≤ t) (ht : t ≤ 26) {Q : Z → Prop} {E : Xc → Prop}
    (h : ∀ xs : List Str, (xs.length : Int) = t → (∀ x ∈ xs, WordB b (longOf b) x) → xs.Nodup → Q (.dat (.list (xs.map .str)))) : w__law_words [.strm, .dat (.int t), .dat (.str (abc b))] Q E := by
  have hz : (abc b).length ≤ line := by rw [abc_len]; decide
  unfold w__law_words zFnOk zb__law_words
  walk_at "zs"
  refine ⟨Nat.zero_le _, ?_⟩
  unfold zb__law_words_13
  walk_at "zs"
  refine ⟨hz, _, abc_ix (by decide) (by decide), ?_⟩
  have start : zb__law_words_12 (SW b t [] none none none) ⟨fun _ => Q (.dat .none), fun r => ¬ r = Z.strm ∧ Q r.out, fun _ => False, fun _ => False, fun _ => E⟩ := by
    unfold zb__law_words_12
    simp only [SW]
    walk_at "zs"
    refine ⟨by show -(2 ^ 62) ≤ t; omega, by show t < 2 ^ 62; omega, ?_⟩
    refine for_inv (fun i ρ => ∃ xs y5 y6 y7, ρ = SW b t xs y5 y6 y7 ∧ xs.length = i ∧ (∀ x ∈ xs, WordB b (longOf b) x) ∧ xs.Nodup) _ ⟨[], none, none, none, rfl, rfl, fun _ h => absurd h List.not_mem_nil, List.nodup_nil⟩ ?_ ?_
    · rintro i d hd ρ ⟨xs, y5, y6, y7, rfl, hx, hW, hnd⟩ N hN
      obtain ⟨hi, rfl⟩ := runI_get hd
      simp only [SW]
      walk_at "zs"
      unfold zb__law_words_10
      walk_at "zs"
      unfold zb__law_words_9
      walk_at "zs"
      refine ⟨by decide, draw_ok (by decide) (by decide) fun r r0 r4 => ?_⟩
      walk_at "zs"
      have l8 := long8 (b := b)
      have l4 := long4 (b := b)
      obtain ⟨n, hn, n1, n8⟩ : ∃ n : Nat, atI [PyData.int 1, PyData.int 2, PyData.int 1, PyData.int (longOf b : Nat)] r = some (.int (n : Nat)) ∧ 1 ≤ n ∧ n ≤ longOf b := by
        have hr4 : r = 0 ∨ r = 1 ∨ r = 2 ∨ r = 3 := by omega
        rcases hr4 with rfl | rfl | rfl | rfl
        · exact ⟨1, rfl, by omega, by omega⟩
        · exact ⟨2, rfl, by omega, by omega⟩
        · exact ⟨1, rfl, by omega, by omega⟩
        · exact ⟨longOf b, rfl, by omega, by omega⟩
      refine ⟨_, hn, ?_⟩
      walk_at "zs"
      refine ⟨by show -(2 ^ 62) ≤ ((n : Nat) : Int); omega, by show ((n : Nat) : Int) < 2 ^ 62; omega, ?_⟩
      refine for_inv (fun i' ρ => ∃ y7 wd, ρ = SW b t xs (some (.dat (.int (0 + (i : Nat))))) (some (.dat (.str wd))) y7 ∧ wd.cps.toList.length = i' ∧ ∀ c ∈ wd.cps.toList, b ≤ c ∧ c < b + 26) _ ⟨y7, "", rfl, rfl, fun _ h => absurd h List.not_mem_nil⟩ ?_ ?_
      · rintro q d hq ρ ⟨y7, wd, rfl, w1, w2⟩ N2 hN2
        obtain ⟨hq, rfl⟩ := runI_get hq
        simp only [SW]
        walk_at "zs"
        unfold zb__law_words_7
        walk_at "zs"
        refine draw_ok (by decide) (by decide) fun r2 r20 r26 => ?_
        walk_at "zs"
        refine ⟨hz, _, abc_ix r20 r26, ?_⟩
        simp only [sign]
        walk_at "zs"
        have hq8 : q < 8 := by omega
        have h1 : (⟨#[b + r2.toNat]⟩ : Str).length = 1 := rfl
        refine ⟨?_, hN2 _ ⟨_, _, rfl, ?_, fun c hc => ?_⟩⟩
        · rw [h1, str_len, w1]
          exact Nat.le_trans (show _ ≤ 9 by omega) (by decide)
        · rw [cat_cps, List.length_append, w1]
          rfl
        · rw [cat_cps] at hc
          rcases List.mem_append.mp hc with hc | hc
          · exact w2 c hc
          · have := List.mem_singleton.mp hc
            omega
      · rintro ρ ⟨y7, wd, rfl, w1, w2⟩
        rw [runI_len] at w1
        have hwd : WordB b (longOf b) wd := ⟨by omega, by omega, w2⟩
        refine words_8 hb ht0 ht (by omega) hW hwd fun w3 y7' h3 h4 => hN _ ⟨_, _, _, _, rfl, ?_, ?_, ?_⟩
        · rw [List.length_append, hx]
          rfl
        · intro x hx
          rcases List.mem_append.mp hx with hx | hx
          · exact hW x hx
          · rw [List.mem_singleton.mp hx]
            exact h3
        · exact List.nodup_append.mpr ⟨hnd, List.pairwise_singleton _ _, fun x hx y hy e => h4 (by rw [← List.mem_singleton.mp hy, ← e]; exact hx)⟩
    · rintro ρ ⟨xs, y5, y6, y7, rfl, hx, hW, hnd⟩
      rw [runI_len] at hx
      unfold zb__law_words_11
      simp only [SW]
      walk_at "zs"
      unfold zb__law_words_1
      walk_at "zs"
      exact h xs (by omega) hW hnd
  rw [eq_any]
  refine ⟨rfl, fun _ => rfl, by simp [sign, dep], ?_⟩
  walk_at "zs"
  have e0 : PyData.eqv (sign (b + (0 : Int).toNat)) (.str "a") = decide (b = 97) := by
    rcases hb with rfl | rfl <;> decide
  rw [e0]
  split
  · rename_i c
    have e8 : longOf b = 8 := by
      unfold longOf
      rw [if_pos (by simpa using c)]
    unfold SW at start
    rw [e8] at start
    exact start
  · rename_i c
    have e8 : longOf b = 4 := by
      unfold longOf
      rw [if_neg (by simpa using c)]
    unfold SW at start
    rw [e8] at start
    exact start
variable [Tabd]
theorem abcs_a : ("abcdefghijklmnopqrstuvwxyz" : Str) = abc 97 := by decide +kernel
theorem abcs_A : ("ABCDEFGHIJKLMNOPQRSTUVWXYZ" : Str) = abc 65 := by decide +kernel
theorem z__law_names {t : Int} (ht0 : 0 ≤ t) (ht : t ≤ 26) {Q : Z → Prop} {E : Xc → Prop} (h : ∀ xs : List Str, (xs.length : Int) = t → (∀ x ∈ xs, WordB 97 8 x) → xs.Nodup → Q (.dat (.list (xs.map .str)))) : w__law_names [.strm, .dat (.int t)] Q E := by
  unfold w__law_names zFnOk zb__law_names
  walk_at "zs"
  rw [abcs_a]
  exact z__law_words (.inl rfl) ht0 ht fun xs h1 h2 h3 => ⟨(fun z => nomatch z), h xs h1 h2 h3⟩
def SN (t : Int) (xs : List Int) (y3 y4 y5 y6 : Option Z) : Rho := [some .strm, some (.dat (.int t)), some (.own (xs.map .int)), y3, y4, y5, y6]
theorem ok_ints (xs : List Int) (n : Int) : okIn (xs.map .int) (.int n) := fun e he => by
  obtain ⟨x, _, rfl⟩ := List.mem_map.mp he
  exact ⟨rfl, by simp [dep]⟩
theorem ten18 : (Builtin.Int.intBits 10 : Int) * 9 ≤ 2 ^ 27 := bits10
theorem pick_at {ds : List PyData} {j : Int} (h0 : 0 ≤ j) (h1 : j < ds.length) : ∃ d, atI ds j = some d ∧ d ∈ ds := by
  obtain ⟨n, rfl⟩ : ∃ n : Nat, j = (n : Int) := ⟨j.toNat, by omega⟩
  have lt : n < ds.length := by omega
  exact ⟨ds[n], atI_nat' (List.getElem?_eq_getElem lt), List.getElem_mem lt⟩
theorem numbers_7 {t : Int} (ht0 : 0 ≤ t) (ht : t ≤ 26) {xs : List Int} (hx : (xs.length : Int) < t) {n : Int} (hn : n.natAbs ≤ 1000000100) {y3 y4 y6 : Option Z} {k : Kz} (hk : ∀ (m : Int) y6', m.natAbs ≤ 2000000000 → k.nx (SN t (xs ++ [m]) y3 y4 (some (.dat (.int m))) y6')) :
    zb__law_numbers_7 (SN t xs y3 y4 (some (.dat (.int n))) y6) k := by
  unfold zb__law_numbers_7
  simp only [SN]
  walk_at "zs"
  refine ⟨by have : t.natAbs.log2 < 9000 := by
              by_cases c : t.natAbs = 0
              · rw [c]; decide
              · exact log_small (by omega) c
             have h2 : (2 : Int).natAbs.log2 = 1 := by decide
             omega, by show -(2 ^ 62) ≤ 2 * t; omega, by show 2 * t < 2 ^ 62; omega, ?_⟩
  refine for_inv (fun j ρ => ∃ y6 m, ρ = SN t xs y3 y4 (some (.dat (.int m))) y6 ∧ m.natAbs ≤ 1000000100 + 7 * j) _ ⟨y6, n, rfl, by omega⟩ ?_ ?_
  · rintro j d hd ρ ⟨y6, m, rfl, hm⟩ N hN
    obtain ⟨hj, rfl⟩ := runI_get hd
    simp only [SN]
    walk_at "zs"
    unfold zb__law_numbers_3
    walk_at "zs"
    refine ⟨ok_ints _ _, ?_⟩
    split
    · unfold zb__law_numbers_2
      walk_at "zs"
      exact hN _ ⟨_, _, rfl, by omega⟩
    · exact hN _ ⟨_, _, rfl, by omega⟩
  · rintro ρ ⟨y6, m, rfl, hm⟩
    rw [runI_len] at hm
    unfold zb__law_numbers_4
    simp only [SN]
    walk_at "zs"
    refine ⟨?_, ?_⟩
    · rw [List.length_map]
      exact Nat.lt_of_lt_of_le (show xs.length < 26 by omega) (by decide)
    · have := hk m y6 (by omega)
      simp only [SN, List.map_append, List.map_cons, List.map_nil] at this
      exact this
theorem numbers_8 {t : Int} (ht0 : 0 ≤ t) (ht : t ≤ 26) {xs : List Int} (hx : (xs.length : Int) < t) {n : Int} (hn : n.natAbs ≤ 1000000000) {y3 y4 y6 : Option Z} {k : Kz} (hk : ∀ (m : Int) y6', m.natAbs ≤ 2000000000 → k.nx (SN t (xs ++ [m]) y3 y4 (some (.dat (.int m))) y6')) :
    zb__law_numbers_8 (SN t xs y3 y4 (some (.dat (.int n))) y6) k := by
  unfold zb__law_numbers_8
  simp only [SN]
  walk_at "zs"
  refine ⟨by show -(2 ^ 62) ≤ t; omega, by show t < 2 ^ 62; omega, ?_⟩
  refine for_inv (fun j ρ => ∃ y6 m, ρ = SN t xs y3 y4 (some (.dat (.int m))) y6 ∧ m.natAbs ≤ 1000000000 + j) _ ⟨y6, n, rfl, by omega⟩ ?_ ?_
  · rintro j d hd ρ ⟨y6, m, rfl, hm⟩ N hN
    obtain ⟨hj, rfl⟩ := runI_get hd
    simp only [SN]
    walk_at "zs"
    unfold zb__law_numbers_6
    walk_at "zs"
    refine ⟨ok_ints _ _, ?_⟩
    split
    · unfold zb__law_numbers_5
      walk_at "zs"
      split
      · exact hN _ ⟨_, _, rfl, by omega⟩
      · exact hN _ ⟨_, _, rfl, by omega⟩
    · exact hN _ ⟨_, _, rfl, by omega⟩
  · rintro ρ ⟨y6, m, rfl, hm⟩
    rw [runI_len] at hm
    exact numbers_7 ht0 ht hx (by omega) hk
theorem z__law_numbers {t : Int} (ht0 : 0 ≤ t) (ht : t ≤ 26) {Q : Z → Prop} {E : Xc → Prop} (h : ∀ xs : List Int, (xs.length : Int) = t → (∀ x ∈ xs, x.natAbs ≤ 2000000000) → Q (.dat (.list (xs.map .int)))) : w__law_numbers [.strm, .dat (.int t)] Q E := by
  unfold w__law_numbers zFnOk zb__law_numbers
  walk_at "zs"
  refine ⟨Nat.zero_le _, ?_⟩
  unfold zb__law_numbers_12
  walk_at "zs"
  refine ⟨by show -(2 ^ 62) ≤ t; omega, by show t < 2 ^ 62; omega, ?_⟩
  refine for_inv (fun i ρ => ∃ xs y3 y4 y5 y6, ρ = SN t xs y3 y4 y5 y6 ∧ xs.length = i ∧ ∀ x ∈ xs, x.natAbs ≤ 2000000000) _ ⟨[], none, none, none, none, rfl, rfl, fun _ h => absurd h List.not_mem_nil⟩ ?_ ?_
  · rintro i d hd ρ ⟨xs, y3, y4, y5, y6, rfl, hx, hB⟩ N hN
    obtain ⟨hi, rfl⟩ := runI_get hd
    simp only [SN]
    walk_at "zs"
    unfold zb__law_numbers_10
    walk_at "zs"
    rw [ten9]
    refine ⟨by decide, bits10, by decide, draw_ok (by decide) (by decide) fun r r0 r1 => ?_⟩
    walk_at "zs"
    refine ⟨by decide, bits10, ?_⟩
    unfold zb__law_numbers_9
    walk_at "zs"
    rw [ten9]
    refine ⟨by decide, bits10, by decide, bits10, by decide, draw_ok (by decide) (by decide) fun q q0 q6 => ?_⟩
    walk_at "zs"
    obtain ⟨d, e1, e2⟩ := pick_at (ds := [PyData.int 0, .int 1, .int (-1), .int 1000000000, .int (0 - 1000000000), .int (r - 1000000000)]) q0 (by simpa using q6)
    obtain ⟨n, rfl, hn⟩ : ∃ n, d = .int n ∧ n.natAbs ≤ 1000000000 := by
      simp only [List.mem_cons, List.not_mem_nil, or_false] at e2
      rcases e2 with rfl | rfl | rfl | rfl | rfl | rfl
      · exact ⟨_, rfl, by decide⟩
      · exact ⟨_, rfl, by decide⟩
      · exact ⟨_, rfl, by decide⟩
      · exact ⟨_, rfl, by decide⟩
      · exact ⟨_, rfl, by decide⟩
      · exact ⟨_, rfl, by omega⟩
    refine ⟨_, e1, ?_⟩
    refine numbers_8 ht0 ht (by omega) hn fun m y6' hm => hN _ ⟨_, _, _, _, _, rfl, ?_, fun x hx => ?_⟩
    · rw [List.length_append, hx]
      rfl
    · rcases List.mem_append.mp hx with hx | hx
      · exact hB x hx
      · rw [List.mem_singleton.mp hx]
        exact hm
  · rintro ρ ⟨xs, y3, y4, y5, y6, rfl, hx, hB⟩
    rw [runI_len] at hx
    unfold zb__law_numbers_11
    simp only [SN]
    walk_at "zs"
    unfold zb__law_numbers_1
    walk_at "zs"
    exact h xs (by omega) hB
variable [Tabd]
theorem lc_nd {i : Nat} {e : ZE} {ρ : Rho} (hi : i < ρ.length) (P : PyData → Prop) : ∀ (ds acc : List PyData) (Q : List PyData → Prop), (∀ d ∈ ds, ∀ R : Z → Prop, (∀ x, P x → R (.dat x)) → e (ρ.set i (some (.dat d))) R (fun _ => False)) →
    acc.length + ds.length ≤ line → (∀ xs : List PyData, xs.length = ds.length → (∀ x ∈ xs, P x) → Q (acc ++ xs)) → zLcGo (zName i) zYes e ρ ds acc Q
  | [], acc, Q, _, _, h => by
    have := h [] rfl (fun _ h => absurd h List.not_mem_nil)
    simpa [zLcGo] using this
  | d :: ds, acc, Q, h2, hl, h => by
    rw [List.length_cons] at hl
    refine ⟨hi, ?_⟩
    simp only [zYes, if_true]
    refine h2 d List.mem_cons_self _ fun x px => ⟨x, rfl, by omega, lc_nd hi P ds _ Q (fun y hy => h2 y (List.mem_cons_of_mem _ hy)) (by rw [List.length_append]; simp only [List.length_singleton]; omega) fun xs hx hP => ?_⟩
    rw [List.append_assoc]
    refine h (x :: xs) (by rw [List.length_cons, List.length_cons, hx]) fun y hy => ?_
    rcases List.mem_cons.mp hy with rfl | hy
    · exact px
    · exact hP y hy
theorem alike_strs (xs : List Str) : PySem.W.AllAlike (xs.map PyData.str) ∧ PySem.W.Sortable (xs.map PyData.str) := by
  have := one_alike (ks := xs.map .inr) (js := xs.map .inr) (.inl fun k hk => by
    obtain ⟨x, _, rfl⟩ := List.mem_map.mp hk
    exact ⟨x, rfl⟩) fun _ h => h
  rw [List.map_map] at this
  exact this
theorem sort_ok {xs : List Str} (hl : xs.length ≤ 1000) {Q : Z → Prop} (h : Q (.dat (.list ((xs.mergeSort leS).map .str)))) : dSorted (.list (xs.map .str)) Q := by
  refine ⟨⟨(alike_strs xs).1, (alike_strs xs).2, fun d hd => ?_, by rw [List.length_map]; exact Nat.le_trans hl (by decide)⟩, ?_⟩
  · obtain ⟨x, _, rfl⟩ := List.mem_map.mp hd
    simp [PyData.depth]
  · rw [sort_strs]
    exact h
theorem asc_sort {xs : List Str} (nd : xs.Nodup) : ascS (xs.mergeSort leS) = true := by
  have sd : (xs.mergeSort leS).Pairwise (fun a b => leS a b = true) := List.pairwise_mergeSort leS_trans leS_total xs
  have pm : (xs.mergeSort leS).Perm xs := List.mergeSort_perm xs leS
  exact asc_pair.mpr (List.Pairwise.imp_of_mem (fun _ _ h => lessL_iff.mpr h) (sd.and (pm.nodup_iff.mpr nd)))
/-- a drawn table -/
def TabOk (x : Str) (t : PyData) : Prop := ∃ (key : Int) (ks : List PyData), t = .tuple [.str x, .int key, .tuple ks] ∧ WordB 97 8 x ∧ 0 ≤ key ∧ key ≤ ks.length ∧ 1 ≤ ks.length ∧ ks.length ≤ 4 ∧ ∀ k ∈ ks, k = .str "name" ∨ k = .str "number"
theorem word_isW {x : Str} {lo n : Nat} (h : WordB lo n x) : isW lo (lo + 25) n (.str x) = true := by
  obtain ⟨h1, h2, h3⟩ := h
  rw [← str_len] at h1 h2
  simp only [isW, decide_eq_true (show 1 ≤ x.length ∧ x.length ≤ n from ⟨h1, h2⟩), Bool.true_and]
  refine List.all_eq_true.mpr fun c hc => decide_eq_true ?_
  have := h3 c hc
  omega
theorem TabOk.good {x : Str} {t : PyData} (h : TabOk x t) : tableD t = true := by
  obtain ⟨key, ks, rfl, hw, k0, k1, l1, l4, hk⟩ := h
  have e1 := word_isW hw
  have e2 : kindsD ks = true := List.all_eq_true.mpr fun k hm => by
    rcases hk k hm with rfl | rfl <;> decide
  have e3 : isN 0 ks.length (.int key) = true := decide_eq_true ⟨k0, k1⟩
  simp only [tableD, e2, e3, decide_eq_true (show 1 ≤ ks.length ∧ ks.length ≤ 4 from ⟨l1, l4⟩)]
  simpa using e1
def TabsOk : List Str → List PyData → Prop
  | [], [] => True
  | x :: xs, t :: ts => TabOk x t ∧ TabsOk xs ts
  | _, _ => False
theorem TabsOk.snoc : ∀ {xs : List Str} {ts : List PyData} {x : Str} {t : PyData}, TabsOk xs ts → TabOk x t → TabsOk (xs ++ [x]) (ts ++ [t])
  | [], [], _, _, _, h => ⟨h, trivial⟩
  | _ :: _, _ :: _, _, _, ⟨a, b⟩, h => ⟨a, b.snoc h⟩
  | [], _ :: _, _, _, h, _ => h.elim
  | _ :: _, [], _, _, h, _ => h.elim
theorem TabsOk.all : ∀ {xs : List Str} {ts : List PyData}, TabsOk xs ts → ts.all tableD = true ∧ namesD ts = xs ∧ ts.length = xs.length
  | [], [], _ => ⟨rfl, rfl, rfl⟩
  | x :: xs, t :: ts, ⟨a, b⟩ => by
    obtain ⟨h1, h2, h3⟩ := b.all
    refine ⟨by rw [List.all_cons, a.good, h1]; rfl, ?_, by rw [List.length_cons, List.length_cons, h3]⟩
    obtain ⟨key, ks, rfl, _⟩ := a
    show x :: namesD ts = _
    rw [h2]
  | [], _ :: _, h => h.elim
  | _ :: _, [], h => h.elim
theorem TabOk.wt {x : Str} {t : PyData} (h : TabOk x t) : Zl.wt t ≤ 450 := by
  obtain ⟨key, ks, rfl, hw, k0, k1, l1, l4, hk⟩ := h
  have hx : x.length ≤ 8 := wordB_len' hw
  have h1 : key.natAbs.log2 ≤ 3 := by
    by_cases c : key.natAbs = 0
    · rw [c]; decide
    · have : key.natAbs.log2 < 4 := (Nat.log2_lt c).mpr (by omega)
      omega
  have h2 : ∀ ks : List PyData, (∀ k ∈ ks, k = .str "name" ∨ k = .str "number") → wts ks ≤ 65 * ks.length := fun ks => by
    induction ks with
    | nil => intro _; simp [wts]
    | cons k ks ih =>
      intro hk
      have i := ih fun j hj => hk j (List.mem_cons_of_mem _ hj)
      have w1 : Zl.wt k ≤ 63 := by
        rcases hk k List.mem_cons_self with rfl | rfl <;> decide
      simp only [wts, List.length_cons]
      omega
  have h3 := h2 ks hk
  simp only [Zl.wt, wts]
  omega
theorem TabsOk.wts : ∀ {xs : List Str} {ts : List PyData}, TabsOk xs ts → Zl.wts ts ≤ 452 * ts.length
  | [], [], _ => by simp [Zl.wts]
  | x :: xs, t :: ts, ⟨a, b⟩ => by
    have h1 := a.wt
    have h2 := b.wts
    simp only [Zl.wts, List.length_cons]
    omega
  | [], _ :: _, h => h.elim
  | _ :: _, [], h => h.elim
/-- a schema that is drawn -/
def DrawnSchema (d : PyData) : Prop := ∃ xs ts, d = .tuple ts ∧ TabsOk xs ts ∧ ascS xs = true ∧ 1 ≤ ts.length ∧ ts.length ≤ 6
theorem DrawnSchema.good {d : PyData} (h : DrawnSchema d) : schemaD d = true ∧ wt d ≤ 2800 := by
  obtain ⟨xs, ts, rfl, h1, h2, h3, h4⟩ := h
  obtain ⟨a1, a2, a3⟩ := h1.all
  have w := h1.wts
  refine ⟨?_, ?_⟩
  · simp only [schemaD, a1, a2, h2, decide_eq_true (show 1 ≤ ts.length ∧ ts.length ≤ 6 from ⟨h3, h4⟩)]
    rfl
  · simp only [wt]
    omega
def SS (al : Int) (ts : List PyData) (y4 y5 y6 y7 y8 : Option Z) (m : Int) : Rho := [some .strm, some (.dat (.int m)), some (.dat (.int al)), some (.own ts), y4, y5, y6, y7, y8]
theorem schema_5 {al m : Int} {xs : List Str} {ts : List PyData} (hts : TabsOk xs ts) (hl : ts.length ≤ 6) {x : Str} (hx : WordB 97 8 x) {y5 y6 y7 y8 : Option Z} {k : Kz} (hk : ∀ t z5 z6 z7 z8, TabOk x t → k.nx (SS al (ts ++ [t]) (some (.dat (.str x))) z5 z6 z7 z8 m)) :
    zb__law_schema_5 (SS al ts (some (.dat (.str x))) y5 y6 y7 y8 m) k := by
  unfold zb__law_schema_5
  simp only [SS]
  try walk_at "zs"
  refine ⟨by decide, draw_ok (by decide) (by decide) fun q q0 q6 => ?_⟩
  try walk_at "zs"
  obtain ⟨d, e1, e2⟩ := pick_at (ds := [PyData.int 2, .int 2, .int 3, .int 2, .int 1, .int 4]) q0 (by simpa using q6)
  obtain ⟨w, rfl, w1, w4⟩ : ∃ w : Nat, d = .int w ∧ 1 ≤ w ∧ w ≤ 4 := by
    simp only [List.mem_cons, List.not_mem_nil, or_false] at e2
    rcases e2 with rfl | rfl | rfl | rfl | rfl | rfl
    · exact ⟨2, rfl, by decide, by decide⟩
    · exact ⟨2, rfl, by decide, by decide⟩
    · exact ⟨3, rfl, by decide, by decide⟩
    · exact ⟨2, rfl, by decide, by decide⟩
    · exact ⟨1, rfl, by decide, by decide⟩
    · exact ⟨4, rfl, by decide, by decide⟩
  refine ⟨_, e1, ?_⟩
  try walk_at "zs"
  unfold zb__law_schema_4
  try walk_at "zs"
  refine ⟨by decide, draw_ok (by decide) (by decide) fun p p0 p7 => ?_⟩
  try walk_at "zs"
  obtain ⟨d, f1, f2⟩ := pick_at (ds := [PyData.int 1, .int 1, .int 1, .int 2, .int 1, .int 0, .int 4]) p0 (by simpa using p7)
  obtain ⟨c, rfl, c0⟩ : ∃ c : Int, d = .int c ∧ 0 ≤ c := by
    simp only [List.mem_cons, List.not_mem_nil, or_false] at f2
    rcases f2 with rfl | rfl | rfl | rfl | rfl | rfl | rfl <;> exact ⟨_, rfl, by decide⟩
  refine ⟨_, f1, ?_⟩
  try walk_at "zs"
  unfold zb__law_schema_3
  try walk_at "zs"
  refine ⟨by show -(2 ^ 62) ≤ ((w : Nat) : Int); omega, by show ((w : Nat) : Int) < 2 ^ 62; omega, ?_⟩
  refine lc_nd (by simp) (fun k => k = .str "name" ∨ k = .str "number") _ _ _ (fun d _ R r => ?_) (by rw [runI_len]; simp only [List.length_nil]; exact Nat.le_trans (show _ ≤ 4 by omega) (by decide)) fun ks hks hP => ?_
  · try walk_at "zs"
    refine eq_int ?_
    try walk_at "zs"
    split
    · refine ⟨by decide, draw_ok (by decide) (by decide) fun u u0 u2 => ?_⟩
      try walk_at "zs"
      obtain ⟨d, g1, g2⟩ := pick_at (ds := [PyData.str "name", .str "number"]) u0 (by simpa using u2)
      refine ⟨_, g1, r d ?_⟩
      simpa using g2
    · exact r _ (.inl rfl)
  · rw [runI_len] at hks
    rw [List.nil_append]
    unfold zb__law_schema_2
    try walk_at "zs"
    have key : ∀ c' : Int, c' = (if c < (w : Int) then c else (w : Int)) → TabOk x (.tuple [.str x, .int c', .tuple ks]) := fun c' e => ⟨c', ks, rfl, hx, by rw [e]; split <;> omega, by rw [e]; split <;> omega, by omega, by omega, hP⟩
    refine ⟨by decide, Nat.lt_of_le_of_lt hl (by decide), ?_⟩
    have := fun z5 z6 z7 z8 => hk _ z5 z6 z7 z8 (key _ rfl)
    simp only [SS] at this
    exact this _ _ _ _
theorem take_succ {α : Type} {xs : List α} {i : Nat} {x : α} (h : xs[i]? = some x) : xs.take (i + 1) = xs.take i ++ [x] := by
  rw [List.take_add_one, h]
  rfl
theorem z__law_schema {Q : Z → Prop} {E : Xc → Prop} (h : ∀ d, DrawnSchema d → Q (.dat d)) : w__law_schema [.strm, .dat (.int 6)] Q E := by
  unfold w__law_schema zFnOk zb__law_schema
  walk_at "zs"
  refine draw_ok (by decide) (by decide) fun al a0 a3 => ?_
  walk_at "zs"
  unfold zb__law_schema_8
  walk_at "zs"
  refine ⟨Nat.zero_le _, ?_⟩
  unfold zb__law_schema_7
  walk_at "zs"
  refine draw_ok (by decide) (by decide) fun r r0 r6 => ?_
  walk_at "zs"
  refine z__law_names (by omega) (by omega) fun xs hl hW hnd => ?_
  walk_at "zs"
  refine sort_ok (by omega) ?_
  walk_at "zs"
  have pm : (xs.mergeSort leS).Perm xs := List.mergeSort_perm xs leS
  have hW' : ∀ x ∈ xs.mergeSort leS, WordB 97 8 x := fun x hx => hW x (pm.mem_iff.mp hx)
  have asc := asc_sort hnd
  have hlen : (xs.mergeSort leS).length = xs.length := pm.length_eq
  revert hW' asc hlen
  generalize xs.mergeSort leS = ys
  intro hW' asc hlen
  refine for_inv (fun i ρ => ∃ ts y4 y5 y6 y7 y8, ρ = SS al ts y4 y5 y6 y7 y8 6 ∧ TabsOk (ys.take i) ts) _ ⟨[], none, none, none, none, none, rfl, trivial⟩ ?_ ?_
  · rintro i d hd ρ ⟨ts, y4, y5, y6, y7, y8, rfl, ht⟩ N hN
    rw [List.getElem?_map] at hd
    obtain ⟨x, hx, rfl⟩ := Option.map_eq_some_iff.mp hd
    have hlt := (ht.all).2.2
    simp only [SS]
    walk_at "zs"
    refine schema_5 ht (by rw [hlt, List.length_take]; omega) (hW' x (List.mem_of_getElem? hx)) fun t z5 z6 z7 z8 hok => hN _ ⟨_, _, _, _, _, _, rfl, ?_⟩
    rw [take_succ hx]
    exact ht.snoc hok
  · rintro ρ ⟨ts, y4, y5, y6, y7, y8, rfl, ht⟩
    rw [List.length_map, List.take_length] at ht
    unfold zb__law_schema_6
    simp only [SS]
    walk_at "zs"
    unfold zb__law_schema_1
    walk_at "zs"
    have hlt := ht.all.2.2
    exact h _ ⟨ys, ts, rfl, ht, asc, by omega, by omega⟩
variable [Tabd]
mutual
/-- the whole numbers in it are bounded; a dict in it is one of two -/
def gd (b : Nat) : PyData → Bool
  | .int i => decide (i.natAbs ≤ b)
  | .str x => x.cps.toList.all fun c => decide (c < 128)
  | .list ds => gds b ds
  | .tuple ds => gds b ds
  | .dict kvs => match kvs with
    | [] => true
    | [(.str x, .int i)] => decide (x = "a" ∧ i = 1)
    | _ => false
  | _ => true
def gds (b : Nat) : List PyData → Bool
  | [] => true
  | d :: ds => gd b d && gds b ds
end
theorem gds_iff {b : Nat} : ∀ {ds : List PyData}, gds b ds = true ↔ ∀ d ∈ ds, gd b d = true
  | [] => by simp [gds]
  | d :: ds => by simp [gds, gds_iff]
mutual
/-- the longest row in it -/
def ln : PyData → Nat
  | .list ds => max ds.length (lns ds)
  | .tuple ds => max ds.length (lns ds)
  | _ => 0
def lns : List PyData → Nat
  | [] => 0
  | d :: ds => max (ln d) (lns ds)
end
structure Fit (m b : Nat) (d : PyData) : Prop where
  w : wt d ≤ m
  g : gd b d = true
  n : dep d ≤ 3
  l : ln d ≤ 3
def big40 : Nat := 10 ^ 40
def oth : List PyData := [.none, .bool true, .bool false, .int (-1), .int 0, .int 1, .int 2, .int 4, .int 5, .int (1000000000 + 1), .int (0 - 1000000000 - 1), .int (10 ^ 39), .str "", .str "a", .str "A"] ++
  [.str "abcdefgh", .str "abcdefghi", .str "ABCD", .str "ABCDE", .str "aB", .str "a1", .str "a b", .str "name", .str "number", .str "none"] ++
  [.tuple [], .list [], .dict [], .tuple [.str "a"], .tuple [.str "name"], .list [.str "name"], .tuple [.tuple []], .dict [(.str "a", .int 1)], .tuple [.int 1, .str "a"], .tuple [.str "name", .str "number"]] ++
  [.str "-1", .tuple [.bool true], .tuple [.none], .str "a\n", .str "A\n", .str "ab ", .str "z-"]
theorem oth_fit : ∀ d ∈ oth, wt d ≤ 1400 ∧ gd big40 d = true ∧ dep d ≤ 3 ∧ ln d ≤ 3 := by decide +kernel
theorem ten39 : ((10 : Int) ^ (39 : Int).toNat) = 10 ^ 39 := by decide +kernel
theorem bits39 : (Builtin.Int.intBits 10 : Int) * 39 ≤ 2 ^ 27 := by decide +kernel
theorem z__law_other {Q : Z → Prop} {E : Xc → Prop} (h : ∀ d, Fit 1400 big40 d → Q (.dat d)) : w__law_other [.strm] Q E := by
  unfold w__law_other zFnOk zb__law_other
  walk_at "zs"
  rw [ten9, ten39]
  refine ⟨by decide, bits10, by decide, bits10, by decide, bits39, by decide, ?_⟩
  unfold zb__law_other_4
  walk_at "zs"
  refine ⟨by decide, by decide, ?_⟩
  unfold zb__law_other_3
  walk_at "zs"
  refine ⟨by decide, by decide, by decide, by decide, by decide, by decide, by decide, by decide, by decide, by decide, by decide, ?_⟩
  unfold zb__law_other_2
  walk_at "zs"
  refine ⟨by decide, by decide, by decide, by decide, ?_⟩
  unfold zb__law_other_1
  walk_at "zs"
  refine z_pick (by simp only [List.length_cons, List.length_nil]; decide) (by simp only [List.length_cons, List.length_nil]; decide) fun d hd => ?_
  have := oth_fit d hd
  exact ⟨(fun z => nomatch z), h d ⟨this.1, this.2.1, this.2.2.1, this.2.2.2⟩⟩
variable [Tabd]
/-- what becomes of d -/
structure Near (d : PyData) (b : Nat) (e : PyData) : Prop where
  w : wt e ≤ 3 * wt d + 1400
  g : gd (b + 1) e = true
  n : dep e ≤ dep d + 3
  l : ln e ≤ 2 * ln d + 3
theorem lns_le {n : Nat} : ∀ {xs : List PyData}, (∀ x ∈ xs, ln x ≤ n) → lns xs ≤ n
  | [], _ => by simp [lns]
  | x :: xs, h => by
    have h1 := h x List.mem_cons_self
    have h2 := lns_le fun y hy => h y (List.mem_cons_of_mem x hy)
    simp only [lns]
    omega
theorem ln_mem : ∀ {ds : List PyData} {d : PyData}, d ∈ ds → ln d ≤ lns ds
  | [], _, h => by cases h
  | x :: xs, d, h => by
    simp only [lns]
    rcases List.mem_cons.mp h with rfl | h
    · omega
    · have := ln_mem h
      omega
theorem wts_app : ∀ (xs ys : List PyData), wts (xs ++ ys) = wts xs + wts ys
  | [], ys => by simp [wts]
  | x :: xs, ys => by
    rw [List.cons_append, wts, wts, wts_app xs ys]
    omega
theorem depAll_app : ∀ (xs ys : List PyData), depAll (xs ++ ys) = max (depAll xs) (depAll ys)
  | [], ys => by simp [depAll]
  | x :: xs, ys => by
    rw [List.cons_append, depAll, depAll, depAll_app xs ys]
    omega
theorem gds_app {b : Nat} (xs ys : List PyData) : gds b (xs ++ ys) = (gds b xs && gds b ys) := by
  induction xs with
  | nil => simp [gds]
  | cons x xs ih => simp [gds, ih, Bool.and_assoc]
mutual
theorem gd_mono {b c : Nat} (h : b ≤ c) : ∀ d, gd b d = true → gd c d = true
  | .int i, k => by
    simp only [gd, decide_eq_true_eq] at k ⊢
    omega
  | .list ds, k => by
    simp only [gd] at k ⊢
    exact gds_mono h ds k
  | .tuple ds, k => by
    simp only [gd] at k ⊢
    exact gds_mono h ds k
  | .dict kvs, k => by
    simp only [gd] at k ⊢
    exact k
  | .none, _ => by simp [gd]
  | .bool _, _ => by simp [gd]
  | .str x, k => by
    simp only [gd] at k ⊢
    exact k
theorem gds_mono {b c : Nat} (h : b ≤ c) : ∀ ds, gds b ds = true → gds c ds = true
  | [], _ => by simp [gds]
  | d :: ds, k => by
    simp only [gds, Bool.and_eq_true] at k ⊢
    exact ⟨gd_mono h d k.1, gds_mono h ds k.2⟩
end
theorem wts_sub {xs ys : List PyData} (h : xs.Sublist ys) : wts xs ≤ wts ys := by
  induction h with
  | slnil => exact Nat.le_refl _
  | cons a _ ih => simp only [wts]; omega
  | cons_cons a _ ih => simp only [wts]; omega
theorem depAll_sub {xs ys : List PyData} (h : ∀ x ∈ xs, x ∈ ys) : depAll xs ≤ depAll ys := depAll_le fun x hx => by
  have key : ∀ {ys : List PyData}, x ∈ ys → dep x ≤ depAll ys := by
    intro ys
    induction ys with
    | nil => intro h; cases h
    | cons y ys ih =>
      intro h
      simp only [depAll]
      rcases List.mem_cons.mp h with rfl | h
      · omega
      · have := ih h
        omega
  exact key (h x hx)
theorem gds_sub {b : Nat} {xs ys : List PyData} (h : ∀ x ∈ xs, x ∈ ys) (k : gds b ys = true) : gds b xs = true := gds_iff.mpr fun x hx => gds_iff.mp k x (h x hx)
theorem ch_other {fuel : Nat} {b : Nat} (hb : big40 ≤ b) {d : PyData} {y2 y3 y4 : Option Z} {k : Kz} (h : ∀ e, Near d b e → k.rt (.dat e)) : zb__law_changed_2 (w__law_changed fuel) [some .strm, some (.dat d), y2, y3, y4] k := by
  unfold zb__law_changed_2
  walk_at "zs"
  refine z__law_other fun e he => h e ⟨?_, ?_, ?_, by have := he.l; omega⟩
  · have := he.w
    omega
  · exact gd_mono (by omega) e he.g
  · have := he.n
    omega
def Asc (x : Str) : Prop := ∀ c ∈ x.cps.toList, c < 128
instance (x : Str) : Decidable (Asc x) := inferInstanceAs (Decidable (∀ c ∈ x.cps.toList, c < 128))
theorem gd_str {b : Nat} {x : Str} : gd b (.str x) = true ↔ Asc x := by
  simp only [gd, List.all_eq_true, decide_eq_true_eq]
  exact Iff.rfl
theorem Asc.cat {x y : Str} (h : Asc x) (k : Asc y) : Asc (x ++ y) := fun c hc => by
  rw [cat_cps] at hc
  rcases List.mem_append.mp hc with hc | hc
  · exact h c hc
  · exact k c hc
theorem asc_int (i : Int) : Asc ((toString i : String) : Str) := fun c hc => by
  by_cases h : c < 128
  · exact h
  · exact absurd hc (int_text_free' c ⟨by omega, by omega⟩ i)
theorem near_str {x y : Str} {b : Nat} (h : y.length ≤ 3 * x.length + 100) (ha : Asc y) : Near (.str x) b (.str y) := ⟨by simp only [wt]; omega, gd_str.mpr ha, by simp [dep], by simp [ln]⟩
theorem asc_a : Asc "a" := by decide
theorem asc_1 : Asc "1" := by decide
/-- the text of a number -/
theorem txt_len (i : Int) : (((toString i : String) : Str)).length ≤ i.natAbs.log2 + 2 := by
  have := int_text_length_le (a := i) (k := i.natAbs.log2 + 1) (by omega) (by omega)
  show (Str.ofString (toString i)).length ≤ _
  rw [PySem.ofString_length]
  omega
theorem log_add {a b : Nat} (h : a ≤ b + 1) : a.log2 ≤ b.log2 + 1 := by
  by_cases c : a = 0
  · subst c
    simp
  · refine Nat.lt_succ_iff.mp ((Nat.log2_lt c).mpr ?_)
    have : b < 2 ^ (b.log2 + 1) := Nat.lt_log2_self
    have h2 : (2 : Nat) ^ (b.log2 + 1 + 1) = 2 * 2 ^ (b.log2 + 1) := by rw [Nat.pow_succ]; omega
    rw [Nat.succ_eq_add_one, h2]
    omega
theorem ch_int {fuel : Nat} {b : Nat} (hb : big40 ≤ b) {d : PyData} (hd : (∃ i : Int, d = .int i ∧ i.natAbs ≤ b ∧ i.natAbs.log2 < 1900) ∨ ∃ c, d = .bool c) {y2 y3 y4 : Option Z} {k : Kz} (h : ∀ e, Near d b e → k.rt (.dat e)) : zb__law_changed_1 (w__law_changed fuel) [some .strm, some (.dat d), y2, y3, y4] k := by
  unfold zb__law_changed_1
  walk_at "zs"
  rcases hd with ⟨i, rfl, hi, hl⟩ | ⟨c, rfl⟩
  · walk_at "zs"
    rw [eq_any]
    refine ⟨rfl, fun _ => rfl, by simp [dep], ?_⟩
    walk_at "zs"
    refine ⟨by omega, by decide, z_pick (by simp) (by simp) fun e he => h e ?_⟩
    have l1 : ∀ j : Int, j.natAbs ≤ i.natAbs + 1 → Near (.int i) b (.int j) := fun j hj => ⟨by
      have := log_add hj
      simp only [wt]
      omega, by simp only [gd, decide_eq_true_eq]; omega, by simp [dep], by simp [ln]⟩
    simp only [List.mem_cons, List.not_mem_nil, or_false] at he
    rcases he with rfl | rfl | rfl | rfl | rfl | rfl
    · exact l1 _ (by omega)
    · exact l1 _ (by omega)
    · exact ⟨by simp only [wt]; omega, by simp [gd], by simp [dep], by simp [ln]⟩
    · refine ⟨?_, gd_str.mpr (asc_int i), by simp [dep], by simp [ln]⟩
      have := txt_len i
      simp only [wt]
      omega
    · exact l1 _ (by omega)
    · exact l1 _ (by omega)
  · walk_at "zs"
    rw [eq_any]
    refine ⟨rfl, fun _ => rfl, by simp [dep], ?_⟩
    walk_at "zs"
    refine ⟨by decide, z_pick (by simp) (by simp) fun e he => h e ?_⟩
    have l1 : ∀ j : Int, j.natAbs ≤ 3 → Near (.bool c) b (.int j) := fun j hj => ⟨by
      have : j.natAbs.log2 ≤ 2 := by
        by_cases c : j.natAbs = 0
        · rw [c]; decide
        · have : j.natAbs.log2 < 2 := (Nat.log2_lt c).mpr (by omega)
          omega
      simp only [wt]
      omega, by
      have : 3 ≤ big40 := by decide
      simp only [gd, decide_eq_true_eq]
      omega, by simp [dep], by simp [ln]⟩
    have b2 : ∀ j : Int, bI c = j → True := fun _ _ => trivial
    have bc : bI c = 0 ∨ bI c = 1 := by cases c <;> simp [bI]
    simp only [List.mem_cons, List.not_mem_nil, or_false] at he
    rcases he with rfl | rfl | rfl | rfl | rfl | rfl
    · exact l1 _ (by omega)
    · exact l1 _ (by omega)
    · exact ⟨by simp only [wt]; omega, by simp [gd], by simp [dep], by simp [ln]⟩
    · refine ⟨?_, gd_str.mpr (by cases c <;> decide), by simp [dep], by simp [ln]⟩
      cases c <;> decide
    · exact l1 _ (by omega)
    · exact l1 _ (by omega)
theorem ch_str {fuel : Nat} {b : Nat} {x : Str} (hx : x.length ≤ 5000) (hA : Asc x) {y2 y3 y4 : Option Z} {k : Kz} (h : ∀ e, Near (.str x) b e → k.rt (.dat e)) : zb__law_changed_4 (w__law_changed fuel) [some .strm, some (.dat (.str x)), y2, y3, y4] k := by
  have l5 : (5000 : Nat) + 1 ≤ line := by decide
  unfold zb__law_changed_4
  walk_at "zs"
  have h1 : ("a" : Str).length = 1 := by decide
  have h2 : ("1" : Str).length = 1 := by decide
  refine ⟨by omega, by omega, by omega, by omega, by decide, by omega, by decide, ?_⟩
  unfold zb__law_changed_3
  walk_at "zs"
  refine z_pick (by simp) (by simp) fun e he => h e ?_
  simp only [List.mem_cons, List.not_mem_nil, or_false] at he
  rcases he with rfl | rfl | rfl | rfl | rfl | rfl | rfl
  · exact near_str (by rw [cat_len]; omega) (hA.cat asc_a)
  · refine near_str (by have := len_upper x; omega) ?_
    rw [upper_ascii hA]
    intro c hc
    simp only [Array.toList_map] at hc
    obtain ⟨c', h', rfl⟩ := List.mem_map.mp hc
    have := hA c' h'
    unfold up1
    split <;> omega
  · refine near_str ?_ fun c hc => hA c ((cutL_sub (by exact hc)))
    have : (cutL x.cps.toList none (some (-1))).length ≤ x.length := by
      rw [str_len]
      unfold cutL
      rw [List.length_take, List.length_drop]
      omega
    rw [str_len]
    simp only
    omega
  · exact near_str (by rw [cat_len]; omega) (hA.cat asc_1)
  · refine ⟨?_, by simp only [gd, gds, Bool.and_true]; exact gd_str (b := b + 1).mpr hA, by simp [dep, depAll], by simp [ln, lns]⟩
    simp only [wt, wts]
    omega
  · refine near_str (by have := len_lower x; omega) ?_
    rw [lower_ascii hA]
    intro c hc
    simp only [Array.toList_map] at hc
    obtain ⟨c', h', rfl⟩ := List.mem_map.mp hc
    have := hA c' h'
    unfold lo1
    split <;> omega
  · exact near_str (by omega) asc_a
theorem wts_rev : ∀ xs : List PyData, wts xs.reverse = wts xs
  | [] => rfl
  | x :: xs => by
    rw [List.reverse_cons, wts_app, wts_rev xs]
    simp only [wts]
    omega
theorem cutL_subl {α : Type} (xs : List α) (lo hi : Option Int) : (cutL xs lo hi).Sublist xs := (List.take_sublist _ _).trans (List.drop_sublist _ _)
/-- a tuple made of parts of d, twice at most, and of a little more -/
theorem near_tup {ds es : List PyData} {b : Nat} (gd0 : gd b (.tuple ds) = true) (hw : wts es ≤ 2 * wts ds + 700) (hlen : es.length ≤ 2 * ds.length + 1) (hm : ∀ e ∈ es, e ∈ ds ∨ e = .int 0 ∨ e = .tuple ds) : Near (.tuple ds) b (.tuple es) := by
  have g1 : gds (b + 1) ds = true := by
    simp only [gd] at gd0
    exact gds_mono (by omega) ds gd0
  refine ⟨by simp only [wt]; omega, ?_, ?_, ?_⟩
  · simp only [gd]
    refine gds_iff.mpr fun e he => ?_
    rcases hm e he with h | rfl | rfl
    · exact gds_iff.mp g1 e h
    · simp [gd]
    · simp only [gd]
      exact g1
  · have : depAll es ≤ depAll ds + 1 := depAll_le fun e he => by
      rcases hm e he with h | rfl | rfl
      · have := depAll_sub (xs := [e]) (ys := ds) fun x hx => by rw [List.mem_singleton.mp hx]; exact h
        simp only [depAll] at this
        omega
      · simp [dep]
      · simp [dep]
    simp only [dep]
    omega
  · have : lns es ≤ max ds.length (lns ds) := lns_le fun e he => by
      rcases hm e he with h | rfl | rfl
      · have := ln_mem h
        omega
      · simp [ln]
      · simp only [ln]
        omega
    simp only [ln]
    omega
theorem ch_tup {fuel : Nat} {b : Nat} {ds : List PyData} (hl : ds.length ≤ 1000) (hg : gd b (.tuple ds) = true) {y2 y3 y4 : Option Z} {k : Kz} (h : ∀ e, Near (.tuple ds) b e → k.rt (.dat e)) : zb__law_changed_7 (w__law_changed fuel) [some .strm, some (.dat (.tuple ds)), y2, y3, y4] k := by
  have l5 : (2002 : Nat) ≤ line := by decide
  have c1 := (cutL_subl ds (some (-1)) none).length_le
  unfold zb__law_changed_7
  walk_at "zs"
  refine ⟨by omega, by decide, by decide, by omega, by decide, ?_⟩
  unfold zb__law_changed_6
  walk_at "zs"
  refine ⟨⟨by decide, by decide, hl⟩, by decide, by decide, ?_⟩
  refine z_pick (by simp) (by simp) fun e he => h e ?_
  simp only [List.mem_cons, List.not_mem_nil, or_false] at he
  have cl : ∀ lo hi, (cutL ds lo hi).length ≤ ds.length := fun lo hi => (cutL_subl ds lo hi).length_le
  have sub : ∀ lo hi, wts (cutL ds lo hi) ≤ wts ds ∧ ∀ x ∈ cutL ds lo hi, x ∈ ds := fun lo hi => ⟨wts_sub (cutL_subl ds lo hi), fun x hx => (cutL_subl ds lo hi).subset hx⟩
  rcases he with rfl | rfl | rfl | rfl | rfl | rfl | rfl | rfl
  · refine ⟨by simp only [wt]; omega, ?_, by simp only [dep]; omega, by simp only [ln]; omega⟩
    simp only [gd] at hg ⊢
    exact gds_mono (by omega) ds hg
  · refine near_tup hg ?_ (by first | (rw [List.length_append]; have := cl (some (-1)) none; omega) | (have := cl none (some (-1)); omega) | (have := cl (some 1) none; omega) | (rw [List.length_reverse]; omega) | (simp; done) | (simp; omega)) fun e he => ?_
    · rw [wts_app]
      have := (sub (some (-1)) none).1
      omega
    · rcases List.mem_append.mp he with he | he
      · exact .inl he
      · exact .inl ((sub _ _).2 e he)
  · refine near_tup hg ?_ (by first | (rw [List.length_append]; have := cl (some (-1)) none; omega) | (have := cl none (some (-1)); omega) | (have := cl (some 1) none; omega) | (rw [List.length_reverse]; omega) | (simp; done) | (simp; omega)) fun e he => .inl ((sub _ _).2 e he)
    have := (sub none (some (-1))).1
    omega
  · refine near_tup hg ?_ (by first | (rw [List.length_append]; have := cl (some (-1)) none; omega) | (have := cl none (some (-1)); omega) | (have := cl (some 1) none; omega) | (rw [List.length_reverse]; omega) | (simp; done) | (simp; omega)) fun e he => .inl (List.mem_reverse.mp he)
    have := wts_rev ds
    omega
  · refine near_tup hg ?_ (by first | (rw [List.length_append]; have := cl (some (-1)) none; omega) | (have := cl none (some (-1)); omega) | (have := cl (some 1) none; omega) | (rw [List.length_reverse]; omega) | (simp; done) | (simp; omega)) fun e he => .inr (.inr (List.mem_singleton.mp he))
    simp only [wts, wt]
    omega
  · refine near_tup hg ?_ (by first | (rw [List.length_append]; have := cl (some (-1)) none; omega) | (have := cl none (some (-1)); omega) | (have := cl (some 1) none; omega) | (rw [List.length_reverse]; omega) | (simp; done) | (simp; omega)) fun e he => ?_
    · rw [wts_app]
      have : wts [PyData.int 0] ≤ 40 := by decide
      omega
    · rcases List.mem_append.mp he with he | he
      · exact .inl he
      · exact .inr (.inl (List.mem_singleton.mp he))
  · refine near_tup hg ?_ (by first | (rw [List.length_append]; have := cl (some (-1)) none; omega) | (have := cl none (some (-1)); omega) | (have := cl (some 1) none; omega) | (rw [List.length_reverse]; omega) | (simp; done) | (simp; omega)) fun e he => .inl ((sub _ _).2 e he)
    have := (sub (some 1) none).1
    omega
  · have e2 : (List.replicate (2 : Int).toNat ds).flatten = ds ++ ds := by
      show (List.replicate 2 ds).flatten = _
      simp [List.replicate_succ]
    rw [e2]
    refine near_tup hg ?_ (by first | (rw [List.length_append]; have := cl (some (-1)) none; omega) | (have := cl none (some (-1)); omega) | (have := cl (some 1) none; omega) | (rw [List.length_reverse]; omega) | (simp; done) | (simp; omega)) fun e he => ?_
    · rw [wts_app]
      omega
    · rcases List.mem_append.mp he with he | he
      · exact .inl he
      · exact .inl he
theorem near_put {ds : List PyData} {i : Nat} {d e : PyData} {b : Nat} (hi : ds[i]? = some d) (hg : gd b (.tuple ds) = true) (h : Near d b e) : Near (.tuple ds) b (.tuple (ds.take i ++ [e] ++ ds.drop (i + 1))) := by
  have lt : i < ds.length := (List.getElem?_eq_some_iff.mp hi).1
  have ed : ds = ds.take i ++ d :: ds.drop (i + 1) := by
    have h1 : ds.drop i = d :: ds.drop (i + 1) := by
      rw [List.drop_eq_getElem_cons lt]
      have := (List.getElem?_eq_some_iff.mp hi).2
      rw [this]
    rw [← h1, List.take_append_drop]
  have w0 : wts ds = wts (ds.take i) + (wt d + 2 + wts (ds.drop (i + 1))) := by
    conv => lhs; rw [ed]
    rw [wts_app]
    simp only [wts]
  have d0 : depAll ds = max (depAll (ds.take i)) (max (dep d) (depAll (ds.drop (i + 1)))) := by
    conv => lhs; rw [ed]
    rw [depAll_app]
    simp only [depAll]
  have g1 : gds (b + 1) ds = true := by
    simp only [gd] at hg
    exact gds_mono (by omega) ds hg
  refine ⟨?_, ?_, ?_, ?_⟩
  · have := h.w
    simp only [wt, wts_app, wts]
    omega
  · simp only [gd]
    refine gds_iff.mpr fun x hx => ?_
    rcases List.mem_append.mp hx with hx | hx
    · rcases List.mem_append.mp hx with hx | hx
      · exact gds_iff.mp g1 x (List.mem_of_mem_take hx)
      · rw [List.mem_singleton.mp hx]
        exact h.g
    · exact gds_iff.mp g1 x (List.mem_of_mem_drop hx)
  · have := h.n
    simp only [dep, depAll_app, depAll]
    omega
  · have hm := List.mem_of_getElem? hi
    have h1 := ln_mem hm
    have h2 := h.l
    have : lns (ds.take i ++ [e] ++ ds.drop (i + 1)) ≤ 2 * lns ds + 3 := lns_le fun x hx => by
      rcases List.mem_append.mp hx with hx | hx
      · rcases List.mem_append.mp hx with hx | hx
        · have := ln_mem (List.mem_of_mem_take hx)
          omega
        · rw [List.mem_singleton.mp hx]
          omega
      · have := ln_mem (List.mem_of_mem_drop hx)
        omega
    have hlen : (ds.take i ++ [e] ++ ds.drop (i + 1)).length = ds.length := by
      rw [List.length_append, List.length_append, List.length_take, List.length_drop]
      simp only [List.length_cons, List.length_nil]
      omega
    simp only [ln, hlen]
    omega
theorem dep_mem {ds : List PyData} {d : PyData} (h : d ∈ ds) : dep d ≤ depAll ds := by
  have := depAll_sub (xs := [d]) (ys := ds) fun x hx => by rw [List.mem_singleton.mp hx]; exact h
  simp only [depAll] at this
  omega
theorem log_b {b : Nat} (h : b ≤ 10 ^ 50) {i : Int} (hi : i.natAbs ≤ b) : i.natAbs.log2 < 1900 := by
  by_cases c : i.natAbs = 0
  · rw [c]; decide
  · refine Nat.lt_trans ((Nat.log2_lt c).mpr (show i.natAbs < 2 ^ 200 from Nat.lt_of_le_of_lt (Nat.le_trans hi h) (by decide))) (by decide)
theorem z__law_changed : ∀ (fuel : Nat) {d : PyData} {b : Nat} {Q : Z → Prop} {E : Xc → Prop}, fuel ≤ 50 → big40 ≤ b → b ≤ 10 ^ 50 → dep d ≤ fuel → wt d ≤ 19000 → ln d ≤ 400 → gd b d = true → (∀ e, Near d b e → Q (.dat e)) → w__law_changed fuel [.strm, .dat d] Q E
  | 0, d, b, Q, E, _, _, _, hf, _, _, _, _ => by
    have : 1 ≤ dep d := by cases d <;> simp [dep]
    omega
  | fuel + 1, d, b, Q, E, hfu, hb, hb2, hf, hw, hln, hg, h => by
    unfold w__law_changed zFnOk zb__law_changed
    walk_at "zs"
    refine draw_ok (by decide) (by decide) fun way w0 w8 => ?_
    walk_at "zs"
    unfold zb__law_changed_12
    walk_at "zs"
    have H : ∀ e, Near d b e → ¬ (Z.dat e) = Z.strm ∧ Q (Z.out (.dat e)) := fun e he => ⟨(fun z => nomatch z), h e he⟩
    cases d with
    | tuple ds =>
      have hl : ds.length ≤ 1000 := by
        simp only [ln] at hln
        omega
      have hmem : ∀ x ∈ ds, dep x ≤ fuel ∧ wt x ≤ 19000 ∧ ln x ≤ 400 ∧ gd b x = true := fun x hx => by
        have h1 := dep_mem hx
        have h2 := wts_mem hx
        have h3 := ln_mem hx
        simp only [dep] at hf
        simp only [wt] at hw
        simp only [ln] at hln
        simp only [gd] at hg
        exact ⟨by omega, by omega, by omega, gds_iff.mp hg x hx⟩
      walk_at "zt"
      walk_at "zs"
      rw [eq_any]
      refine ⟨by simp only [eqOk]; exact eqOks_nil _, fun _ => rfl, ?_, ?_⟩
      · omega
      · have t11 : ∀ k : Kz, (∀ e, Near (.tuple ds) b e → k.rt (.dat e)) → zb__law_changed_11 (w__law_changed fuel) [some .strm, some (.dat (.tuple ds)), some (.dat (.int way)), none, none] k := fun k hk => by
          unfold zb__law_changed_11
          walk_at "zs"
          walk_at "zt"
          walk_at "zs"
          split
          · exact ch_tup hl hg hk
          · unfold zb__law_changed_8
            walk_at "zs"
            walk_at "zt"
            walk_at "zs"
            unfold zb__law_changed_5
            walk_at "zs"
            walk_at "zt"
            walk_at "zs"
            exact ch_other hb hk
        walk_at "zs"
        split
        · rename_i hne
          split
          · unfold zb__law_changed_10
            walk_at "zs"
            have hpos : 0 < ds.length := by
              cases ds with
              | nil => exact absurd hne (by decide)
              | cons a r => simp
            refine draw_ok (by omega) (by omega) fun p p0 p1 => ?_
            walk_at "zs"
            unfold zb__law_changed_9
            walk_at "zs"
            obtain ⟨i, rfl⟩ : ∃ i : Nat, p = (i : Int) := ⟨p.toNat, by omega⟩
            have lt : i < ds.length := by omega
            have hi : ds[i]? = some ds[i] := List.getElem?_eq_getElem lt
            obtain ⟨m1, m2, m3, m4⟩ := hmem ds[i] (List.getElem_mem lt)
            rw [cutL_to]
            refine ⟨_, atI_nat' hi, z__law_changed fuel (by omega) hb hb2 m1 m2 m3 m4 fun e he => ?_⟩
            walk_at "zs"
            have e1 : ((i : Int) + 1) = ((i + 1 : Nat) : Int) := by omega
            rw [e1, cutL_from]
            have l5 : (2002 : Nat) ≤ line := by decide
            have q1 : (ds.take i).length ≤ 1000 := by rw [List.length_take]; omega
            have q2 : (ds.drop (i + 1)).length ≤ 1000 := by rw [List.length_drop]; omega
            refine ⟨by decide, by omega, ?_, h _ (near_put hi hg he)⟩
            rw [List.length_append]
            simp only [List.length_cons, List.length_nil]
            omega
          · exact t11 _ H
        · exact t11 _ H
    | str x =>
      walk_at "zt"
      walk_at "zs"
      unfold zb__law_changed_11
      walk_at "zs"
      walk_at "zt"
      walk_at "zs"
      unfold zb__law_changed_8
      walk_at "zs"
      walk_at "zt"
      walk_at "zs"
      split
      · exact ch_str (by simp only [wt] at hw; omega) (gd_str.mp hg) H
      · unfold zb__law_changed_5
        walk_at "zs"
        walk_at "zt"
        walk_at "zs"
        exact ch_other hb H
    | int i =>
      walk_at "zt"
      walk_at "zs"
      unfold zb__law_changed_11
      walk_at "zs"
      walk_at "zt"
      walk_at "zs"
      unfold zb__law_changed_8
      walk_at "zs"
      walk_at "zt"
      walk_at "zs"
      unfold zb__law_changed_5
      walk_at "zs"
      walk_at "zt"
      walk_at "zs"
      split
      · exact ch_int hb (.inl ⟨i, rfl, by simpa [gd] using hg, log_b hb2 (by simpa [gd] using hg)⟩) H
      · exact ch_other hb H
    | bool c =>
      walk_at "zt"
      walk_at "zs"
      unfold zb__law_changed_11
      walk_at "zs"
      walk_at "zt"
      walk_at "zs"
      unfold zb__law_changed_8
      walk_at "zs"
      walk_at "zt"
      walk_at "zs"
      unfold zb__law_changed_5
      walk_at "zs"
      walk_at "zt"
      walk_at "zs"
      split
      · exact ch_int hb (.inr ⟨c, rfl⟩) H
      · exact ch_other hb H
    | _ =>
      walk_at "zt"
      walk_at "zs"
      unfold zb__law_changed_11
      walk_at "zs"
      walk_at "zt"
      walk_at "zs"
      unfold zb__law_changed_8
      walk_at "zs"
      walk_at "zt"
      walk_at "zs"
      unfold zb__law_changed_5
      walk_at "zs"
      walk_at "zt"
      walk_at "zs"
      exact ch_other hb H
variable [Tabd]
/-- what a drawn schema is, for a change -/
structure Small (d : PyData) : Prop where
  w : wt d ≤ 2800
  l : ln d ≤ 6
  g : gd big40 d = true
  n : dep d ≤ 4
theorem TabOk.small {x : Str} {t : PyData} (h : TabOk x t) : ln t ≤ 4 ∧ gd big40 t = true ∧ dep t ≤ 3 := by
  obtain ⟨key, ks, rfl, hw, k0, k1, l1, l4, hk⟩ := h
  have a1 : lns ks ≤ 0 := lns_le fun k hm => by rcases hk k hm with rfl | rfl <;> simp [ln]
  have a2 : gds big40 ks = true := gds_iff.mpr fun k hm => by rcases hk k hm with rfl | rfl <;> decide
  have a3 : depAll ks ≤ 1 := depAll_le fun k hm => by rcases hk k hm with rfl | rfl <;> simp [dep]
  have b4 : 4 ≤ big40 := by decide
  refine ⟨?_, ?_, ?_⟩
  · simp only [ln, lns, List.length_cons, List.length_nil]
    omega
  · have ax : gd big40 (.str x) = true := gd_str.mpr fun c hc => by
      have := hw.2.2 c hc
      omega
    have ak : gd big40 (.int key) = true := by
      simp only [gd, decide_eq_true_eq]
      omega
    have at_ : gd big40 (.tuple ks) = true := by
      simp only [gd]
      exact a2
    have e : gd big40 (.tuple [.str x, .int key, .tuple ks]) = (gd big40 (.str x) && (gd big40 (.int key) && (gd big40 (.tuple ks) && true))) := by simp only [gd, gds]
    rw [e, ax, ak, at_]
    rfl
  · simp only [dep, depAll]
    omega
theorem TabsOk.small : ∀ {xs : List Str} {ts : List PyData}, TabsOk xs ts → lns ts ≤ 4 ∧ gds big40 ts = true ∧ depAll ts ≤ 3
  | [], [], _ => ⟨by simp [lns], by simp [gds], by simp [depAll]⟩
  | x :: xs, t :: ts, ⟨a, b⟩ => by
    obtain ⟨a1, a2, a3⟩ := a.small
    obtain ⟨b1, b2, b3⟩ := b.small
    refine ⟨?_, ?_, ?_⟩
    · simp only [lns]; omega
    · simp only [gds, a2, b2, Bool.and_self]
    · simp only [depAll]; omega
  | [], _ :: _, h => h.elim
  | _ :: _, [], h => h.elim
theorem DrawnSchema.small {d : PyData} (h : DrawnSchema d) : Small d := by
  have hw := h.good.2
  obtain ⟨xs, ts, rfl, h1, h2, h3, h4⟩ := h
  obtain ⟨a1, a2, a3⟩ := h1.small
  exact ⟨hw, by simp only [ln]; omega, by simp only [gd]; exact a2, by simp only [dep]; omega⟩
theorem big_le : big40 ≤ 10 ^ 50 := by decide
theorem change_small {d : PyData} (h : Small d) {Q : Z → Prop} {E : Xc → Prop} (q : ∀ e, Near d big40 e → Q (.dat e)) : w__law_changed 12 [.strm, .dat d] Q E :=
  z__law_changed 12 (by decide) (Nat.le_refl _) big_le (by have := h.n; omega) (by have := h.w; omega) (by have := h.l; omega) h.g q
variable [Tabd]
def rowD (i : Nat) : PyData := .tuple [sign (97 + i), .int 1, .tuple [.str "name"]]
theorem abci_len : ("abcdefghi" : Str).length = 9 := by decide
theorem abci_ix {i : Nat} (h : i < 9) : atI ("abcdefghi" : Str).cps.toList (i : Int) = some (97 + i) := by
  refine atI_nat' ?_
  have : ∀ j : _root_.Fin 9, ("abcdefghi" : Str).cps.toList[j.val]? = some (97 + j.val) := by decide +kernel
  exact this ⟨i, h⟩
theorem rows_schema : ∀ n : _root_.Fin 9, schemaD (.tuple ((List.range n.val).map rowD)) = decide (1 ≤ n.val ∧ n.val ≤ 6) ∧ wt (.tuple ((List.range n.val).map rowD)) ≤ 5000 := by decide +kernel
theorem row_fun (n : Nat) : (runI 0 n).map (fun d => match d with | .int i => rowD i.toNat | _ => .none) = (List.range n).map rowD := by
  unfold runI
  rw [List.map_map]
  refine List.map_congr_left fun i _ => ?_
  show rowD ((0 : Int) + (i : Int)).toNat = rowD i
  congr 1
  omega
def oneD (w : Nat) (key : Int) : PyData := .tuple [.tuple [.str "t", .int key, .tuple (List.replicate w (.str "number"))]]
theorem ones_schema : ∀ (w : _root_.Fin 6) (q : _root_.Fin 8), schemaD (oneD w.val (-1 + (q.val : Int))) = (decide (1 ≤ w.val ∧ w.val ≤ 4) && decide (0 ≤ (-1 + (q.val : Int)) ∧ (-1 + (q.val : Int)) ≤ w.val)) ∧ wt (oneD w.val (-1 + (q.val : Int))) ≤ 5000 := by decide +kernel
theorem flat_one (w : Nat) (x : PyData) : (List.replicate w [x]).flatten = List.replicate w x := by
  induction w with
  | zero => rfl
  | succ n ih => rw [List.replicate_succ, List.flatten_cons, ih, List.replicate_succ]; rfl
def others : List PyData := [.tuple [.str "t", .int 1, .tuple [.str "name", .str "name"]], .tuple [.str "t", .int 2, .tuple [.str "name", .str "name"]], .tuple [.str "t", .int 1, .tuple [.str "number"]], .tuple [.str "s", .int 1, .tuple [.str "name"]]]
theorem others_bad : ∀ d ∈ others, schemaD (.tuple [.tuple [.str "t", .int 1, .tuple [.str "name"]], d]) = false ∧ wt (.tuple [.tuple [.str "t", .int 1, .tuple [.str "name"]], d]) ≤ 5000 := by decide +kernel
variable [Tabd]
mutual
theorem shown_wt {b : Nat} : ∀ d, gd b d = true → d.shown.length ≤ wt d
  | .none, _ => by decide
  | .bool c, _ => by cases c <;> decide
  | .int i, _ => by
    have := txt_len i
    simp only [PyData.shown, wt]
    omega
  | .str x, h => by
    have ha := gd_str.mp h
    have e := PySem.StrLaws.reprText_len x fun c hc => Nat.lt_trans (ha c hc) (by decide)
    have e2 : x.length = x.cps.size := rfl
    simp only [PyData.shown, wt]
    omega
  | .list ds, h => by
    have h1 := showns_wt ds (by simpa only [gd] using h)
    have h2 := listText_len_le (PyData.shownAll ds)
    have h3 := PyData.shownAll_length ds
    simp only [PyData.shown, wt]
    omega
  | .tuple ds, h => by
    have h1 := showns_wt ds (by simpa only [gd] using h)
    have h2 := tupleText_len_le (PyData.shownAll ds)
    have h3 := PyData.shownAll_length ds
    simp only [PyData.shown, wt]
    omega
  | .dict kvs, h => by
    simp only [gd] at h
    split at h
    · decide
    · rw [decide_eq_true_eq] at h
      obtain ⟨rfl, rfl⟩ := h
      decide +kernel
    · cases h
theorem showns_wt {b : Nat} : ∀ ds, gds b ds = true → ((PyData.shownAll ds).map (·.length)).sum + 2 * ds.length ≤ wts ds
  | [], _ => by simp [PyData.shownAll, wts]
  | d :: ds, h => by
    simp only [gds, Bool.and_eq_true] at h
    have h1 := shown_wt d h.1
    have h2 := showns_wt ds h.2
    simp only [PyData.shownAll, List.map_cons, List.sum_cons, List.length_cons, wts]
    omega
end
mutual
theorem showable_gd {b : Nat} (hb : b ≤ 10 ^ 50) : ∀ d, gd b d = true → d.showable = true
  | .none, _ => rfl
  | .bool _, _ => rfl
  | .str _, _ => rfl
  | .int i, h => by
    have hi : i.natAbs ≤ b := by simpa [gd] using h
    have := log_b hb hi
    simp only [PyData.showable, decide_eq_true_eq]
    omega
  | .list ds, h => by
    simp only [gd] at h
    simp only [PyData.showable]
    exact showables_gd hb ds h
  | .tuple ds, h => by
    simp only [gd] at h
    simp only [PyData.showable]
    exact showables_gd hb ds h
  | .dict kvs, h => by
    simp only [gd] at h
    split at h
    · rfl
    · rw [decide_eq_true_eq] at h
      obtain ⟨rfl, rfl⟩ := h
      decide
    · cases h
theorem showables_gd {b : Nat} (hb : b ≤ 10 ^ 50) : ∀ ds, gds b ds = true → PyData.showableAll ds = true
  | [], _ => rfl
  | d :: ds, h => by
    simp only [gds, Bool.and_eq_true] at h
    simp only [PyData.showableAll, Bool.and_eq_true]
    exact ⟨showable_gd hb d h.1, showables_gd hb ds h.2⟩
end
mutual
theorem depth_dep {b : Nat} : ∀ d, gd b d = true → d.depth ≤ dep d
  | .none, _ => by simp [PyData.depth]
  | .bool _, _ => by simp [PyData.depth]
  | .str _, _ => by simp [PyData.depth]
  | .int i, h => by simp [PyData.depth]
  | .list ds, h => by
    have := depths_dep ds (by simpa only [gd] using h)
    simp only [PyData.depth, dep]
    omega
  | .tuple ds, h => by
    have := depths_dep ds (by simpa only [gd] using h)
    simp only [PyData.depth, dep]
    omega
  | .dict kvs, h => by
    simp only [gd] at h
    split at h
    · decide
    · rw [decide_eq_true_eq] at h
      obtain ⟨rfl, rfl⟩ := h
      decide
    · cases h
theorem depths_dep {b : Nat} : ∀ ds, gds b ds = true → PyData.depthAll ds ≤ depAll ds
  | [], _ => by simp [PyData.depthAll]
  | d :: ds, h => by
    simp only [gds, Bool.and_eq_true] at h
    have h1 := depth_dep d h.1
    have h2 := depths_dep ds h.2
    simp only [PyData.depthAll, depAll]
    omega
end
theorem repr_any {b : Nat} (hb : b ≤ 10 ^ 50) {d : PyData} (hg : gd b d = true) (hw : wt d ≤ big5) (hn : dep d ≤ 60) {Q : Z → Prop} (h : Q (.dat (.str d.shown))) : dRepr d Q :=
  ⟨showable_gd hb d hg, Nat.le_trans (depth_dep d hg) hn, Nat.le_trans (shown_wt d hg) (Nat.le_trans hw (by decide)), h⟩
variable [Tabd]
def SL (ns : List Int) (k : Int) (y3 y4 y5 y6 y7 y8 y9 y10 : Option Z) : Rho := [some (.scr ns), some (.dat (.int k)), some .strm, y3, y4, y5, y6, y7, y8, y9, y10]
theorem eq_shown {x : Str} {Q : Z → Prop} (h : Q (.dat (.bool false))) : dEq true (.str x) (.str x) Q := eq_same h
theorem b50 : big40 + 2 ≤ 10 ^ 50 := by decide
/-- the values: one, the same changed, any other -/
structure Val (d : PyData) : Prop where
  w : wt d ≤ 400
  l : ln d ≤ 0
  g : gd big40 d = true
  n : dep d ≤ 1
theorem head_at {xs : List Str} {ts : List PyData} (h : TabsOk xs ts) (h1 : 1 ≤ ts.length) : ∃ x y z r, ts = .tuple [.str x, y, z] :: r := by
  cases ts with
  | nil => simp at h1
  | cons t r =>
    have := h.all.1
    rw [List.all_cons, Bool.and_eq_true] at this
    obtain ⟨x, y, z, rfl⟩ := table_head this.1
    exact ⟨x, y, z, r, rfl⟩
theorem val_word {lo n : Nat} {x : Str} (h : WordB lo n x) (hn : n ≤ 8) (hlo : lo ≤ 97) : Val (.str x) := ⟨by
  have := wordB_len' h
  simp only [wt]
  omega, by simp [ln], gd_str.mpr fun c hc => by
  have := h.2.2 c hc
  omega, by simp [dep]⟩
theorem val_int {i : Int} (h : i.natAbs ≤ 2000000000) : Val (.int i) := ⟨by
  have : i.natAbs.log2 ≤ 31 := by
    by_cases c : i.natAbs = 0
    · rw [c]; decide
    · have : i.natAbs.log2 < 32 := (Nat.log2_lt c).mpr (by omega)
      omega
  simp only [wt]
  omega, by simp [ln], by
  have : 2000000000 ≤ big40 := by decide
  simp only [gd, decide_eq_true_eq]
  omega, by simp [dep]⟩
end Zl
end
section
/-! Y023: drawn numbers, sharper: in the range, all different; tables of a schema; a pool -/
namespace Zl
open PySem PySem.Spec PyProof.Rows L2 Kb
variable [Tabd]
theorem filter_lt {α : Type} {p q : α → Bool} : ∀ {xs : List α}, (∀ x, p x = true → q x = true) → ∀ {m : α}, m ∈ xs → q m = true → p m = false → (xs.filter p).length < (xs.filter q).length
  | [], _, _, h, _, _ => nomatch h
  | x :: xs, hpq, m, h, hq, hp => by
    have le : ∀ ys : List α, (ys.filter p).length ≤ (ys.filter q).length := fun ys => by
      induction ys with
      | nil => exact Nat.le_refl _
      | cons y ys ih =>
        rw [List.filter_cons, List.filter_cons]
        cases c : p y with
        | true => rw [hpq y c, if_pos rfl, if_pos rfl, List.length_cons, List.length_cons]; omega
        | false =>
          rw [if_neg Bool.false_ne_true]
          split
          · rw [List.length_cons]; omega
          · exact ih
    rw [List.filter_cons, List.filter_cons]
    rcases List.mem_cons.mp h with rfl | h
    · rw [hp, hq, if_neg Bool.false_ne_true, if_pos rfl, List.length_cons]
      have := le xs
      omega
    · have := filter_lt hpq h hq hp
      cases c : p x with
      | true => rw [hpq x c, if_pos rfl, if_pos rfl, List.length_cons, List.length_cons]; omega
      | false =>
        rw [if_neg Bool.false_ne_true]
        split
        · rw [List.length_cons]; omega
        · exact this
theorem in_ints (n : Int) (xs : List Int) : anyEq (xs.map .int) (.int n) = decide (n ∈ xs) := by
  unfold anyEq
  rw [List.any_map, Bool.eq_iff_iff]
  simp only [List.any_eq_true, Function.comp, PyData.eqv, decide_eq_true_eq, beq_iff_eq]
  constructor
  · rintro ⟨x, h, rfl⟩
    exact h
  · exact fun h => ⟨n, h, rfl⟩
theorem numbers_7s {t : Int} (ht0 : 0 ≤ t) (ht : t ≤ 26) {xs : List Int} (hx : (xs.length : Int) < t) {n : Int} (hn : n.natAbs ≤ 1000000000) (hn2 : n ∉ xs ∨ n.natAbs ≤ 1) {y3 y4 y6 : Option Z} {k : Kz} (hk : ∀ (m : Int) y6', m.natAbs ≤ 1000000000 → m ∉ xs → k.nx (SN t (xs ++ [m]) y3 y4 (some (.dat (.int m))) y6')) :
    zb__law_numbers_7 (SN t xs y3 y4 (some (.dat (.int n))) y6) k := by
  unfold zb__law_numbers_7
  simp only [SN]
  walk_at "zs"
  refine ⟨by have : t.natAbs.log2 < 9000 := by
              by_cases c : t.natAbs = 0
              · rw [c]; decide
              · exact log_small (by omega) c
             have h2 : (2 : Int).natAbs.log2 = 1 := by decide
             omega, by show -(2 ^ 62) ≤ 2 * t; omega, by show 2 * t < 2 ^ 62; omega, ?_⟩
  refine for_inv (fun j ρ => ∃ y6 m, ρ = SN t xs y3 y4 (some (.dat (.int m))) y6 ∧ m.natAbs ≤ 1000000000 ∧ j ≤ 52 ∧ (m ∉ xs ∨ (-1 ≤ m ∧ m ≤ 1 + 7 * (j : Int) ∧ j ≤ (xs.filter fun x => decide (x < m)).length))) _ ⟨y6, n, rfl, hn, by omega, hn2.imp id fun h => ⟨by omega, by omega, by omega⟩⟩ ?_ ?_
  · rintro j d hd ρ ⟨y6, m, rfl, hm, h52, hm2⟩ N hN
    obtain ⟨hj, rfl⟩ := runI_get hd
    simp only [SN]
    walk_at "zs"
    unfold zb__law_numbers_3
    walk_at "zs"
    refine ⟨ok_ints _ _, ?_⟩
    rw [in_ints]
    by_cases c : m ∈ xs
    · rw [decide_eq_true c, if_pos rfl]
      unfold zb__law_numbers_2
      walk_at "zs"
      obtain ⟨h1, h2, h3⟩ := hm2.resolve_left fun z => z c
      refine hN _ ⟨_, _, rfl, by omega, by omega, .inr ⟨by omega, by omega, ?_⟩⟩
      have := filter_lt (p := fun x => decide (x < m)) (q := fun x => decide (x < m + 7)) (fun x h => by simp only [decide_eq_true_eq] at h ⊢; omega) c (by simp only [decide_eq_true_eq]; omega) (by simp)
      omega
    · rw [decide_eq_false c, if_neg Bool.false_ne_true]
      exact hN _ ⟨_, _, rfl, hm, by omega, .inl c⟩
  · rintro ρ ⟨y6, m, rfl, hm, _, hm2⟩
    rw [runI_len] at hm2
    have hnew : m ∉ xs := by
      rcases hm2 with h | ⟨_, _, h⟩
      · exact h
      · have := List.length_filter_le (fun x => decide (x < m)) xs
        omega
    unfold zb__law_numbers_4
    simp only [SN]
    walk_at "zs"
    refine ⟨?_, ?_⟩
    · rw [List.length_map]
      exact Nat.lt_of_lt_of_le (show xs.length < 26 by omega) (by decide)
    · have := hk m y6 hm hnew
      simp only [SN, List.map_append, List.map_cons, List.map_nil] at this
      exact this
theorem numbers_8s {t : Int} (ht0 : 0 ≤ t) (ht : t ≤ 26) {xs : List Int} (hx : (xs.length : Int) < t) {n : Int} (hn : n.natAbs ≤ 1000000000) {y3 y4 y6 : Option Z} {k : Kz} (hk : ∀ (m : Int) y6', m.natAbs ≤ 1000000000 → m ∉ xs → k.nx (SN t (xs ++ [m]) y3 y4 (some (.dat (.int m))) y6')) :
    zb__law_numbers_8 (SN t xs y3 y4 (some (.dat (.int n))) y6) k := by
  unfold zb__law_numbers_8
  simp only [SN]
  walk_at "zs"
  refine ⟨by show -(2 ^ 62) ≤ t; omega, by show t < 2 ^ 62; omega, ?_⟩
  refine for_inv (fun j ρ => ∃ y6 m, ρ = SN t xs y3 y4 (some (.dat (.int m))) y6 ∧ m.natAbs ≤ 1000000000 ∧ (m ∉ xs ∨ m.natAbs ≤ 1 ∨ j ≤ (xs.filter fun x => decide (m.natAbs < x.natAbs)).length)) _ ⟨y6, n, rfl, hn, .inr (.inr (Nat.zero_le _))⟩ ?_ ?_
  · rintro j d hd ρ ⟨y6, m, rfl, hm, hm2⟩ N hN
    obtain ⟨hj, rfl⟩ := runI_get hd
    simp only [SN]
    walk_at "zs"
    unfold zb__law_numbers_6
    walk_at "zs"
    refine ⟨ok_ints _ _, ?_⟩
    rw [in_ints]
    by_cases c : m ∈ xs
    · rw [decide_eq_true c, if_pos rfl]
      unfold zb__law_numbers_5
      have key : ∀ m' : Int, (m'.natAbs ≤ 1 ∨ m'.natAbs + 1 = m.natAbs) → (m'.natAbs ≤ 1000000000 ∧ (m' ∉ xs ∨ m'.natAbs ≤ 1 ∨ j + 1 ≤ (xs.filter fun x => decide (m'.natAbs < x.natAbs)).length)) := fun m' h => by
        rcases h with h | h
        · exact ⟨by omega, .inr (.inl h)⟩
        · refine ⟨by omega, ?_⟩
          rcases hm2 with z | z | z
          · exact absurd c z
          · exact .inr (.inl (by omega))
          · refine .inr (.inr ?_)
            have := filter_lt (p := fun x : Int => decide (m.natAbs < x.natAbs)) (q := fun x => decide (m'.natAbs < x.natAbs)) (fun x h => by simp only [decide_eq_true_eq] at h ⊢; omega) c (by simp only [decide_eq_true_eq]; omega) (by simp)
            omega
      walk_at "zs"
      split
      · exact hN _ ⟨_, _, rfl, key _ (by omega)⟩
      · exact hN _ ⟨_, _, rfl, key _ (by omega)⟩
    · rw [decide_eq_false c, if_neg Bool.false_ne_true]
      exact hN _ ⟨_, _, rfl, hm, .inl c⟩
  · rintro ρ ⟨y6, m, rfl, hm, hm2⟩
    rw [runI_len] at hm2
    refine numbers_7s ht0 ht hx hm ?_ hk
    rcases hm2 with h | h | h
    · exact .inl h
    · exact .inr h
    · have := List.length_filter_le (fun x : Int => decide (m.natAbs < x.natAbs)) xs
      omega
theorem z__law_numbersS {t : Int} (ht0 : 0 ≤ t) (ht : t ≤ 26) {Q : Z → Prop} {E : Xc → Prop} (h : ∀ xs : List Int, (xs.length : Int) = t → (∀ x ∈ xs, x.natAbs ≤ 1000000000) → xs.Nodup → Q (.dat (.list (xs.map .int)))) : w__law_numbers [.strm, .dat (.int t)] Q E := by
  unfold w__law_numbers zFnOk zb__law_numbers
  walk_at "zs"
  refine ⟨Nat.zero_le _, ?_⟩
  unfold zb__law_numbers_12
  walk_at "zs"
  refine ⟨by show -(2 ^ 62) ≤ t; omega, by show t < 2 ^ 62; omega, ?_⟩
  refine for_inv (fun i ρ => ∃ xs y3 y4 y5 y6, ρ = SN t xs y3 y4 y5 y6 ∧ xs.length = i ∧ (∀ x ∈ xs, x.natAbs ≤ 1000000000) ∧ xs.Nodup) _ ⟨[], none, none, none, none, rfl, rfl, fun _ h => absurd h List.not_mem_nil, List.nodup_nil⟩ ?_ ?_
  · rintro i d hd ρ ⟨xs, y3, y4, y5, y6, rfl, hx, hB, hnd⟩ N hN
    obtain ⟨hi, rfl⟩ := runI_get hd
    simp only [SN]
    walk_at "zs"
    unfold zb__law_numbers_10
    walk_at "zs"
    rw [ten9]
    refine ⟨by decide, bits10, by decide, draw_ok (by decide) (by decide) fun r r0 r1 => ?_⟩
    walk_at "zs"
    refine ⟨by decide, bits10, ?_⟩
    unfold zb__law_numbers_9
    walk_at "zs"
    rw [ten9]
    refine ⟨by decide, bits10, by decide, bits10, by decide, draw_ok (by decide) (by decide) fun q q0 q6 => ?_⟩
    walk_at "zs"
    obtain ⟨d, e1, e2⟩ := pick_at (ds := [PyData.int 0, .int 1, .int (-1), .int 1000000000, .int (0 - 1000000000), .int (r - 1000000000)]) q0 (by simpa using q6)
    obtain ⟨n, rfl, hn⟩ : ∃ n, d = .int n ∧ n.natAbs ≤ 1000000000 := by
      simp only [List.mem_cons, List.not_mem_nil, or_false] at e2
      rcases e2 with rfl | rfl | rfl | rfl | rfl | rfl
      · exact ⟨_, rfl, by decide⟩
      · exact ⟨_, rfl, by decide⟩
      · exact ⟨_, rfl, by decide⟩
      · exact ⟨_, rfl, by decide⟩
      · exact ⟨_, rfl, by decide⟩
      · exact ⟨_, rfl, by omega⟩
    refine ⟨_, e1, ?_⟩
    refine numbers_8s ht0 ht (by omega) hn fun m y6' hm hnew => hN _ ⟨_, _, _, _, _, rfl, ?_, fun x hx => ?_, ?_⟩
    · rw [List.length_append, hx]
      rfl
    · rcases List.mem_append.mp hx with hx | hx
      · exact hB x hx
      · rw [List.mem_singleton.mp hx]
        exact hm
    · rw [List.nodup_append]
      refine ⟨hnd, List.pairwise_singleton _ _, fun a ha b hb e => ?_⟩
      rw [List.mem_singleton] at hb
      exact hnew (by rw [← hb, ← e]; exact ha)
  · rintro ρ ⟨xs, y3, y4, y5, y6, rfl, hx, hB, hnd⟩
    rw [runI_len] at hx
    unfold zb__law_numbers_11
    simp only [SN]
    walk_at "zs"
    unfold zb__law_numbers_1
    walk_at "zs"
    exact h xs (by omega) hB hnd
/-- a pool of values -/
def poolD (ws : List Str) (ns : List Int) : PyData := .dict [(.str "name", .list (ws.map .str)), (.str "number", .list (ns.map .int))]
structure Pool (ws : List Str) (ns : List Int) : Prop where
  w2 : 2 ≤ ws.length
  w4 : ws.length ≤ 4
  ww : ∀ x ∈ ws, WordB 97 8 x
  wn : ws.Nodup
  n2 : 2 ≤ ns.length
  n4 : ns.length ≤ 4
  nn : ∀ i ∈ ns, i.natAbs ≤ 1000000000
  nd : ns.Nodup
theorem z__law_pool {Q : Z → Prop} {E : Xc → Prop} (h : ∀ ws ns, Pool ws ns → Q (.dat (poolD ws ns))) : w__law_pool [.strm] Q E := by
  unfold w__law_pool zFnOk zb__law_pool
  walk_at "zw"
  refine draw_ok (by decide) (by decide) fun a a0 a3 => ?_
  walk_at "zw"
  refine z__law_names (by omega) (by omega) fun ws hl hW hnd => ?_
  walk_at "zw"
  unfold zb__law_pool_1
  walk_at "zw"
  refine draw_ok (by decide) (by decide) fun b b0 b3 => ?_
  walk_at "zw"
  refine z__law_numbersS (by omega) (by omega) fun ns hnl hN hnn => ?_
  exact ⟨_, rfl, h ws ns ⟨by omega, by omega, hW, hnd, by omega, by omega, hN, hnn⟩⟩
/-! ### tables of a schema -/
def tab (t : PyData) : List PyData → PyData
  | [] => .none
  | e :: r => if PyData.eqv (headD e) t = true then e else tab t r
theorem eqOk_str (x : Str) (t : PyData) : eqOk (.str x) t = true := by cases t <;> rfl
theorem find_go {S t : PyData} {k : Kz} : ∀ (xs : List Str) (ts : List PyData) (y : Option Z), TabsOk xs ts → (tab t ts = .none → ∀ y, k.nx [some (.dat S), some (.dat t), y]) → (tab t ts ≠ .none → k.rt (.dat (tab t ts))) →
    zForGo (zName 2) zb_find_table_2 ts [some (.dat S), some (.dat t), y] k
  | _, [], y, _, h1, h2 => h1 rfl y
  | x :: xs, e :: r, y, ⟨h, t'⟩, h1, h2 => by
    obtain ⟨key, ks, rfl, _⟩ := h
    unfold zForGo zb_find_table_2
    walk_at "zw"
    refine ⟨_, rfl, ?_⟩
    rw [eq_any]
    refine ⟨eqOk_str x t, (fun z => nomatch z), by simp [dep], ?_⟩
    walk_at "zw"
    have e : tab t (.tuple [.str x, .int key, .tuple ks] :: r) = if PyData.eqv (.str x) t = true then .tuple [.str x, .int key, .tuple ks] else tab t r := rfl
    rw [e] at h1 h2
    split
    · rename_i c
      rw [if_pos c] at h2
      unfold zb_find_table_1
      walk_at "zw"
      exact h2 (fun z => nomatch z)
    · rename_i c
      rw [if_neg c] at h1 h2
      exact find_go xs r _ t' h1 h2
theorem z_find_table {xs : List Str} {ts : List PyData} {t : PyData} (h : TabsOk xs ts) {Q : Z → Prop} {E : Xc → Prop} (q : Q (.dat (tab t ts))) : w_find_table [.dat (.tuple ts), .dat t] Q E := by
  unfold w_find_table zFnOk zb_find_table
  walk_at "zw"
  refine find_go xs ts none h (fun e y => ?_) fun e => ?_
  · unfold zb_find_table_3
    walk_at "zw"
    rw [e] at q
    exact q
  · exact ⟨(fun z => nomatch z), q⟩
/-- a table's entry, as data -/
structure Ent (x : Str) (key : Nat) (ks : List PyData) : Prop where
  w : WordB 97 8 x
  k : key ≤ ks.length
  l1 : 1 ≤ ks.length
  l4 : ks.length ≤ 4
  kd : ∀ q ∈ ks, q = .str "name" ∨ q = .str "number"
def entD (x : Str) (key : Nat) (ks : List PyData) : PyData := .tuple [.str x, .int key, .tuple ks]
end Zl
end
section
/-! Y024: schemas that are good, records, keys -/
namespace Zl
open PySem PySem.Spec PyProof.Rows L2 Kb
variable [Tabd]
/-- a schema that was drawn -/
structure Sch (xs : List Str) (ts : List PyData) : Prop where
  t : TabsOk xs ts
  a : ascS xs = true
  l1 : 1 ≤ ts.length
  l6 : ts.length ≤ 6
theorem Sch.drawn {xs : List Str} {ts : List PyData} (s : Sch xs ts) : DrawnSchema (.tuple ts) := ⟨xs, ts, rfl, s.t, s.a, s.l1, s.l6⟩
theorem Sch.good {xs : List Str} {ts : List PyData} (s : Sch xs ts) : schemaD (.tuple ts) = true ∧ wt (.tuple ts) ≤ 2800 := s.drawn.good
theorem Sch.big {xs : List Str} {ts : List PyData} (s : Sch xs ts) : wt (.tuple ts) ≤ big5 := Nat.le_trans s.good.2 (by decide)
theorem z_check_good {xs : List Str} {ts : List PyData} (s : Sch xs ts) {Q : Z → Prop} {E : Xc → Prop} (h : Q (.dat .none)) : w_check_schema [.dat (.tuple ts)] Q E := by
  unfold w_check_schema zFnOk zb_check_schema
  walk_at "zs"
  refine z_is_schema s.big ?_
  rw [s.good.1]
  walk_at "zs"
  exact h
theorem TabsOk.get : ∀ {xs : List Str} {ts : List PyData} {i : Nat} {t : PyData}, TabsOk xs ts → ts[i]? = some t → ∃ x, xs[i]? = some x ∧ TabOk x t
  | [], [], i, t, _, e => by simp at e
  | x :: xs, t' :: ts, 0, t, ⟨h, _⟩, e => by
    simp at e
    subst e
    exact ⟨x, rfl, h⟩
  | x :: xs, t' :: ts, i + 1, t, ⟨_, h⟩, e => by
    obtain ⟨y, h1, h2⟩ := TabsOk.get h (i := i) (by simpa using e)
    exact ⟨y, by simpa using h1, h2⟩
theorem asc_nodup {xs : List Str} (h : ascS xs = true) : xs.Nodup := by
  refine (asc_pair.mp h).imp fun {a b} e => ?_
  exact (lessL_iff.mp e).2
theorem tab_here {x : Str} {t : PyData} : ∀ {xs : List Str} {ts : List PyData} {i : Nat}, TabsOk xs ts → xs.Nodup → ts[i]? = some t → xs[i]? = some x → tab (.str x) ts = t
  | [], [], i, _, _, e, _ => by simp at e
  | y :: xs, t' :: ts, 0, ⟨⟨key, ks, h0, _⟩, _⟩, _, e, f => by
    simp at e f
    subst e f h0
    have e2 : tab (.str y) (.tuple [.str y, .int key, .tuple ks] :: ts) = if PyData.eqv (.str y) (.str y) = true then .tuple [.str y, .int key, .tuple ks] else tab (.str y) ts := rfl
    rw [e2, if_pos (by simp [PyData.eqv])]
  | y :: xs, t' :: ts, i + 1, ⟨⟨key, ks, h0, _⟩, h⟩, nd, e, f => by
    have e' : ts[i]? = some t := by simpa using e
    have f' : xs[i]? = some x := by simpa using f
    have n1 := List.nodup_cons.mp nd
    have ne : y ≠ x := fun z => n1.1 (by rw [z]; exact List.mem_of_getElem? f')
    subst h0
    have e2 : tab (.str x) (.tuple [.str y, .int key, .tuple ks] :: ts) = if PyData.eqv (.str y) (.str x) = true then .tuple [.str y, .int key, .tuple ks] else tab (.str x) ts := rfl
    rw [e2, if_neg (by simp [PyData.eqv, ne])]
    exact tab_here h n1.2 e' f'
theorem tab_none {t : PyData} : ∀ {xs : List Str} {ts : List PyData}, TabsOk xs ts → (∀ x ∈ xs, PyData.eqv (.str x) t = false) → tab t ts = .none
  | [], [], _, _ => rfl
  | x :: xs, t' :: ts, ⟨⟨key, ks, h0, _⟩, h⟩, hn => by
    subst h0
    have e2 : tab t (.tuple [.str x, .int key, .tuple ks] :: ts) = if PyData.eqv (.str x) t = true then .tuple [.str x, .int key, .tuple ks] else tab t ts := rfl
    rw [e2, hn x List.mem_cons_self, if_neg Bool.false_ne_true]
    exact tab_none h fun y hy => hn y (List.mem_cons_of_mem _ hy)
/-- the table t of the schema is named x, has that key and these columns -/
structure At (xs : List Str) (ts : List PyData) (x : Str) (key : Nat) (ks : List PyData) : Prop where
  s : Sch xs ts
  e : tab (.str x) ts = entD x key ks
  t : Ent x key ks
theorem Sch.at {xs : List Str} {ts : List PyData} {i : Nat} {t : PyData} (s : Sch xs ts) (e : ts[i]? = some t) : ∃ x key ks, t = entD x key ks ∧ At xs ts x key ks := by
  obtain ⟨x, hx, h⟩ := s.t.get e
  have h1 := tab_here s.t (asc_nodup s.a) e hx
  obtain ⟨key, ks, rfl, w, k0, k1, k2, k3, k4⟩ := h
  obtain ⟨n, rfl⟩ : ∃ n : Nat, key = n := ⟨key.toNat, by omega⟩
  exact ⟨x, n, ks, rfl, s, h1, ⟨w, by omega, k2, k3, k4⟩⟩
section
variable {xs : List Str} {ts : List PyData} {x : Str} {key : Nat} {ks : List PyData}
theorem z_check_table (a : At xs ts x key ks) {Q : Z → Prop} {E : Xc → Prop} (h : Q (.dat .none)) : w_check_table [.dat (.tuple ts), .dat (.str x)] Q E := by
  unfold w_check_table zFnOk zb_check_table
  walk_at "zw"
  refine z_find_table a.s.t ?_
  rw [a.e]
  unfold entD
  walk_at "zw"
  exact h
theorem z_check_table_bad {t : PyData} (s : Sch xs ts) (h0 : tab t ts = .none) {Q : Z → Prop} {E : Xc → Prop} (h : E ⟨"UnknownName", some ("name", t)⟩) : w_check_table [.dat (.tuple ts), .dat t] Q E := by
  unfold w_check_table zFnOk zb_check_table
  walk_at "zw"
  refine z_find_table s.t ?_
  rw [h0]
  walk_at "zw"
  unfold zb_check_table_1
  walk_at "zw"
  exact h
theorem z_key_size (a : At xs ts x key ks) {Q : Z → Prop} {E : Xc → Prop} (h : Q (.dat (.int key))) : w_key_size [.dat (.tuple ts), .dat (.str x)] Q E := by
  unfold w_key_size zFnOk zb_key_size
  walk_at "zw"
  refine z_check_good a.s ?_
  unfold zb_key_size_2
  walk_at "zw"
  refine z_check_table a ?_
  unfold zb_key_size_1
  walk_at "zw"
  refine z_find_table a.s.t ?_
  rw [a.e]
  unfold entD
  walk_at "zw"
  exact ⟨_, atI_one, h⟩
theorem z_column_kinds (a : At xs ts x key ks) {Q : Z → Prop} {E : Xc → Prop} (h : Q (.dat (.tuple ks))) : w_column_kinds [.dat (.tuple ts), .dat (.str x)] Q E := by
  unfold w_column_kinds zFnOk zb_column_kinds
  walk_at "zw"
  refine z_check_good a.s ?_
  unfold zb_column_kinds_2
  walk_at "zw"
  refine z_check_table a ?_
  unfold zb_column_kinds_1
  walk_at "zw"
  refine z_find_table a.s.t ?_
  rw [a.e]
  unfold entD
  walk_at "zw"
  exact ⟨_, atI_two, h⟩
/-! ### records -/
def recD (ks : List PyData) : PyData → Bool
  | .tuple vs => PyData.eqvAll (vs.map kindD) ks
  | _ => false
theorem kind_flat (d : PyData) : (kindD d = .none ∨ kindD d = .str "name" ∨ kindD d = .str "number") := by
  unfold kindD
  split
  · exact .inr (.inl rfl)
  · split
    · exact .inr (.inr rfl)
    · exact .inl rfl
theorem kinds_ok : ∀ (vs ks : List PyData), (∀ q ∈ ks, q = .str "name" ∨ q = .str "number") → eqOks (vs.map kindD) ks = true
  | [], ks, _ => by cases ks <;> rfl
  | v :: vs, [], _ => rfl
  | v :: vs, q :: ks, h => by
    have e : eqOk (kindD v) q = true := by
      rcases kind_flat v with e | e | e <;> rw [e] <;> rcases h q List.mem_cons_self with r | r <;> rw [r] <;> rfl
    show (eqOk (kindD v) q && eqOks (vs.map kindD) ks) = true
    rw [e, kinds_ok vs ks fun z hz => h z (List.mem_cons_of_mem _ hz)]
    rfl
theorem kinds_dep (vs : List PyData) : depAll (vs.map kindD) ≤ 1 := depAll_le fun d hd => by
  obtain ⟨v, _, rfl⟩ := List.mem_map.mp hd
  rcases kind_flat v with e | e | e <;> rw [e] <;> simp [dep]
theorem z_has_kinds {d : PyData} (hk : ∀ q ∈ ks, q = .str "name" ∨ q = .str "number") (hw : wt d ≤ big5) {Q : Z → Prop} {E : Xc → Prop} (h : Q (.dat (.bool (recD ks d)))) : w_has_kinds [.dat d, .dat (.tuple ks)] Q E := by
  unfold w_has_kinds zFnOk zb_has_kinds
  walk_at "zw"
  cases d with
  | tuple vs =>
    have hl : vs.length ≤ line := by
      have := wts_len vs
      simp only [wt] at hw
      have h5 : big5 ≤ line := by decide
      omega
    walk_at "zu"
    walk_at "zw"
    refine lc_map (by simp) kindD _ _ (fun v hv R r => ?_) hl ?_
    · have hv2 := wts_mem hv
      simp only [wt] at hw
      walk_at "zw"
      exact z_value_kind (txt_of (by omega)) r
    · rw [eq_any]
      refine ⟨kinds_ok _ _ hk, (fun z => nomatch z), ?_, ?_⟩
      · simp only [dep]
        have := kinds_dep vs
        omega
      · walk_at "zw"
        exact h
  | _ =>
    walk_at "zu"
    walk_at "zw"
    exact h
theorem z_is_record (a : At xs ts x key ks) {d : PyData} (hw : wt d ≤ big5) {Q : Z → Prop} {E : Xc → Prop} (h : Q (.dat (.bool (recD ks d)))) : w_is_record [.dat (.tuple ts), .dat (.str x), .dat d] Q E := by
  unfold w_is_record zFnOk zb_is_record
  walk_at "zw"
  refine z_check_good a.s ?_
  unfold zb_is_record_2
  walk_at "zw"
  refine z_check_table a ?_
  unfold zb_is_record_1
  walk_at "zw"
  refine z_find_table a.s.t ?_
  rw [a.e]
  unfold entD
  walk_at "zw"
  refine ⟨_, atI_two, ?_⟩
  exact z_has_kinds a.t.kd hw ⟨(fun z => nomatch z), h⟩
theorem z_check_record (a : At xs ts x key ks) {d : PyData} (hw : wt d ≤ big5) {Q : Z → Prop} {E : Xc → Prop} (h : if recD ks d = true then Q (.dat .none) else E ⟨"InvalidRecord", none⟩) : w_check_record [.dat (.tuple ts), .dat (.str x), .dat d] Q E := by
  unfold w_check_record zFnOk zb_check_record
  walk_at "zw"
  refine z_find_table a.s.t ?_
  rw [a.e]
  unfold entD
  walk_at "zw"
  refine ⟨_, atI_two, ?_⟩
  refine z_has_kinds a.t.kd hw ?_
  cases e : recD ks d with
  | true =>
    rw [e, if_pos rfl] at h
    walk_at "zw"
    exact h
  | false =>
    rw [e, if_neg Bool.false_ne_true] at h
    walk_at "zw"
    unfold zb_check_record_1
    walk_at "zw"
    exact h
/-- the record's key, or an error -/
theorem z_record_key (a : At xs ts x key ks) {d : PyData} (hw : wt d ≤ big5) {Q : Z → Prop} {E : Xc → Prop} (h : match d with | .tuple vs => if recD ks d = true then Q (.dat (.tuple (vs.take key))) else E ⟨"InvalidRecord", none⟩ | _ => E ⟨"InvalidRecord", none⟩) : w_record_key [.dat (.tuple ts), .dat (.str x), .dat d] Q E := by
  unfold w_record_key zFnOk zb_record_key
  walk_at "zw"
  refine z_check_good a.s ?_
  unfold zb_record_key_3
  walk_at "zw"
  refine z_check_table a ?_
  unfold zb_record_key_2
  walk_at "zw"
  refine z_check_record a hw ?_
  cases d with
  | tuple vs =>
    simp only at h
    split
    · rename_i c
      rw [if_pos c] at h
      unfold zb_record_key_1
      walk_at "zw"
      refine z_find_table a.s.t ?_
      rw [a.e]
      unfold entD
      walk_at "zw"
      refine ⟨_, atI_one, ?_⟩
      walk_at "zw"
      rw [cutL_to]
      exact h
    · rename_i c
      rw [if_neg c] at h
      exact h
  | _ => exact h
end
end Zl
end
section
/-! Y025: records that are drawn, the law's own check, tables that are none, errors -/
namespace Zl
open PySem PySem.Spec PyProof.Rows L2 Kb
variable [Tabd]
def All2 (P : PyData → PyData → Prop) : List PyData → List PyData → Prop
  | [], [] => True
  | x :: xs, y :: ys => P x y ∧ All2 P xs ys
  | _, _ => False
theorem All2.len {P : PyData → PyData → Prop} : ∀ {xs ys : List PyData}, All2 P xs ys → xs.length = ys.length
  | [], [], _ => rfl
  | x :: xs, y :: ys, ⟨_, h⟩ => congrArg (· + 1) h.len
  | [], _ :: _, h => h.elim
  | _ :: _, [], h => h.elim
theorem All2.right {P : PyData → PyData → Prop} {R : PyData → Prop} (k : ∀ x y, P x y → R y) : ∀ {xs ys : List PyData}, All2 P xs ys → ∀ y ∈ ys, R y
  | [], [], _, y, h => nomatch h
  | x :: xs, z :: ys, ⟨a, b⟩, y, h => by
    rcases List.mem_cons.mp h with rfl | h
    · exact k _ _ a
    · exact b.right k y h
  | [], _ :: _, h, _, _ => h.elim
  | _ :: _, [], h, _, _ => h.elim
/-- a comprehension whose items are drawn, each for its place -/
theorem lc_rel {i : Nat} {e : ZE} {ρ : Rho} (hi : i < ρ.length) (P : PyData → PyData → Prop) : ∀ (ds acc : List PyData) (Q : List PyData → Prop), (∀ d ∈ ds, ∀ R : Z → Prop, (∀ x, P d x → R (.dat x)) → e (ρ.set i (some (.dat d))) R (fun _ => False)) →
    acc.length + ds.length ≤ line → (∀ xs : List PyData, All2 P ds xs → Q (acc ++ xs)) → zLcGo (zName i) zYes e ρ ds acc Q
  | [], acc, Q, _, _, h => by
    have := h [] trivial
    simpa [zLcGo] using this
  | d :: ds, acc, Q, h2, hl, h => by
    rw [List.length_cons] at hl
    refine ⟨hi, ?_⟩
    simp only [zYes, if_true]
    refine h2 d List.mem_cons_self _ fun x px => ⟨x, rfl, by omega, lc_rel hi P ds _ Q (fun y hy => h2 y (List.mem_cons_of_mem _ hy)) (by rw [List.length_append]; simp only [List.length_singleton]; omega) fun xs hx => ?_⟩
    rw [List.append_assoc]
    exact h (x :: xs) ⟨px, hx⟩
/-- a value of a kind -/
def Vk (k v : PyData) : Prop := (k = .str "name" ∧ ∃ x, v = .str x ∧ WordB 97 8 x) ∨ (k = .str "number" ∧ ∃ i : Int, v = .int i ∧ i.natAbs ≤ 1000000000)
theorem not_word_int {i : Int} {lo hi n : Nat} : isW lo hi n (.int i) = false := rfl
theorem Vk.kind {k v : PyData} (h : Vk k v) : kindD v = k := by
  rcases h with ⟨rfl, x, rfl, hx⟩ | ⟨rfl, i, rfl, hi⟩
  · unfold kindD
    rw [if_pos (word_isW hx)]
  · unfold kindD
    rw [not_word_int, if_neg Bool.false_ne_true, if_pos]
    simp only [isN, decide_eq_true_eq]
    omega
theorem Vk.val {k v : PyData} (h : Vk k v) : Val v := by
  rcases h with ⟨_, x, rfl, hx⟩ | ⟨_, i, rfl, hi⟩
  · exact val_word hx (by decide) (by decide)
  · exact val_int (by omega)
theorem vk_kinds : ∀ {ks vs : List PyData}, All2 Vk ks vs → vs.map kindD = ks
  | [], [], _ => rfl
  | k :: ks, v :: vs, ⟨a, b⟩ => by rw [List.map_cons, a.kind, vk_kinds b]
  | [], _ :: _, h => h.elim
  | _ :: _, [], h => h.elim
theorem eqv_strs' : ∀ ks : List PyData, (∀ q ∈ ks, q = .str "name" ∨ q = .str "number") → PyData.eqvAll ks ks = true
  | [], _ => rfl
  | k :: ks, h => by
    have e : PyData.eqv k k = true := by rcases h k List.mem_cons_self with rfl | rfl <;> decide
    show (PyData.eqv k k && PyData.eqvAll ks ks) = true
    rw [e, eqv_strs' ks fun z hz => h z (List.mem_cons_of_mem _ hz)]
    rfl
theorem rec_ok {ks vs : List PyData} (hk : ∀ q ∈ ks, q = .str "name" ∨ q = .str "number") (h : All2 Vk ks vs) : recD ks (.tuple vs) = true := by
  show PyData.eqvAll (vs.map kindD) ks = true
  rw [vk_kinds h]
  exact eqv_strs' ks hk
theorem wts_le {n : Nat} : ∀ {xs : List PyData}, (∀ x ∈ xs, wt x ≤ n) → wts xs ≤ (n + 2) * xs.length
  | [], _ => by simp [wts]
  | x :: xs, h => by
    have h1 := h x List.mem_cons_self
    have h2 := wts_le (fun y hy => h y (List.mem_cons_of_mem _ hy))
    have e : (n + 2) * (x :: xs).length = (n + 2) * xs.length + (n + 2) := by rw [List.length_cons, Nat.mul_succ]
    rw [e]
    simp only [wts]
    omega
theorem rec_small {ks vs : List PyData} (l4 : ks.length ≤ 4) (h : All2 Vk ks vs) : Small (.tuple vs) ∧ ln (.tuple vs) ≤ 4 ∧ dep (.tuple vs) ≤ 2 ∧ wt (.tuple vs) ≤ 1700 := by
  have hv : ∀ v ∈ vs, Val v := h.right (R := Val) fun _ _ z => z.val
  have hl := h.len
  have h1 := wts_le fun v hv' => (hv v hv').w
  have h2 : (400 + 2) * vs.length ≤ 402 * 4 := Nat.mul_le_mul_left _ (by omega)
  have h3 : lns vs ≤ 0 := lns_le fun v hv' => (hv v hv').l
  have h4 : depAll vs ≤ 1 := depAll_le fun v hv' => (hv v hv').n
  have a1 : wt (.tuple vs) ≤ 1700 := by simp only [wt]; omega
  have a2 : ln (.tuple vs) ≤ 4 := by simp only [ln]; omega
  have a3 : dep (.tuple vs) ≤ 2 := by simp only [dep]; omega
  exact ⟨⟨by omega, by omega, by simp only [gd]; exact gds_iff.mpr fun v hv' => (hv v hv').g, by omega⟩, a2, a3, a1⟩
theorem z__law_record {ws : List Str} {ns : List Int} (P : Pool ws ns) {ks : List PyData} (hk : ∀ q ∈ ks, q = .str "name" ∨ q = .str "number") (l4 : ks.length ≤ 4) {Q : Z → Prop} {E : Xc → Prop} (h : ∀ vs, All2 Vk ks vs → Q (.dat (.tuple vs))) : w__law_record [.strm, .dat (.tuple ks), .dat (poolD ws ns)] Q E := by
  have p1 := P.w2
  have p2 := P.w4
  have p3 := P.n2
  have p4 := P.n4
  unfold w__law_record zFnOk zb__law_record
  walk_at "zw"
  refine lc_rel (by simp) Vk _ _ _ (fun d hd R r => ?_) (by simp only [List.length_nil]; exact Nat.le_trans (show 0 + ks.length ≤ 4 by omega) (by decide)) fun vs hv => ?_
  · unfold poolD
    rcases hk d hd with rfl | rfl
    · walk_at "zw"
      refine ⟨_, rfl, z_pick (by simp; omega) (by simp; omega) fun v hv => ?_⟩
      obtain ⟨x, hx, rfl⟩ := List.mem_map.mp hv
      exact r _ (.inl ⟨rfl, x, rfl, P.ww x hx⟩)
    · walk_at "zw"
      refine ⟨_, rfl, z_pick (by simp; omega) (by simp; omega) fun v hv => ?_⟩
      obtain ⟨x, hx, rfl⟩ := List.mem_map.mp hv
      exact r _ (.inr ⟨rfl, x, rfl, P.nn x hx⟩)
  · walk_at "zw"
    exact h vs hv
/-! ### the law's check -/
theorem eqvAll_len : ∀ {xs ys : List PyData}, PyData.eqvAll xs ys = true → xs.length = ys.length
  | [], [], _ => rfl
  | x :: xs, y :: ys, h => by
    have h : (PyData.eqv x y && PyData.eqvAll xs ys) = true := h
    rw [Bool.and_eq_true] at h
    exact congrArg (· + 1) (eqvAll_len h.2)
  | [], _ :: _, h => nomatch h
  | _ :: _, [], h => nomatch h
theorem rec_len {ks vs : List PyData} (h : vs.length ≠ ks.length) : recD ks (.tuple vs) = false := by
  cases e : recD ks (.tuple vs) with
  | false => rfl
  | true =>
    have := eqvAll_len (show PyData.eqvAll (vs.map kindD) ks = true from e)
    rw [List.length_map] at this
    exact absurd this h
theorem z__law_is_record {ks : List PyData} {d : PyData} (hk : ∀ q ∈ ks, q = .str "name" ∨ q = .str "number") (hl : ks.length ≤ 4) (hw : wt d ≤ big5) {Q : Z → Prop} {E : Xc → Prop} (h : Q (.dat (.bool (recD ks d)))) : w__law_is_record [.dat (.tuple ks), .dat d] Q E := by
  unfold w__law_is_record zFnOk zb__law_is_record
  walk_at "zw"
  cases d with
  | tuple vs =>
    have hlv : vs.length ≤ line := by
      have := wts_len vs
      simp only [wt] at hw
      have h5 : big5 ≤ line := by decide
      omega
    walk_at "zu"
    walk_at "zw"
    refine eq_int ?_
    walk_at "zw"
    split
    · rename_i c
      unfold zb__law_is_record_1
      walk_at "zw"
      rw [rec_len (fun e => by simp [e] at c)] at h
      exact h
    · rename_i c
      unfold zb__law_is_record_2
      walk_at "zw"
      refine lc_map (by simp) kindD _ _ (fun v hv R r => ?_) hlv ?_
      · have hv2 := wts_mem hv
        simp only [wt] at hw
        walk_at "zw"
        exact z__law_kind (txt_of (by omega)) r
      · rw [eq_any]
        refine ⟨kinds_ok _ _ hk, (fun z => nomatch z), ?_, ?_⟩
        · simp only [dep]
          have := kinds_dep vs
          omega
        · walk_at "zw"
          exact h
  | _ =>
    walk_at "zu"
    walk_at "zw"
    unfold zb__law_is_record_1
    walk_at "zw"
    exact h
end Zl
end
section
/-! Y026: errors told -/
namespace Zl
open PySem PySem.Spec PyProof.Rows L2 Kb
variable [Tabd]
theorem tb_1 : ("UnknownName" : Str) ∈ excNames := by decide
theorem tb_2 : ("InvalidRecord" : Str) ∈ excNames := by decide
theorem tb_3 : isSub excTab "UnknownName" "UnknownName" = true := by decide
theorem tb_4 : isSub excTab "UnknownName" "KeyError" = true := by decide
theorem tb_5 : isSub excTab "UnknownName" "RecordsError" = false := by decide
theorem tb_6 : isSub excTab "InvalidRecord" "UnknownName" = false := by decide
theorem tb_7 : isSub excTab "InvalidRecord" "RecordsError" = true := by decide
theorem tb_8 : isSub excTab "InvalidRecord" "InvalidRecord" = true := by decide
theorem tb_9 : isSub excTab "InvalidRecord" "InvalidSchema" = false := by decide
abbrev hzs : List Hz := [⟨some 4, fun n => isSub excTab n "UnknownName", fun a dd x => zb__law_error_9 a dd x⟩, ⟨some 4, fun n => isSub excTab n "RecordsError", fun a dd x => zb__law_error_8 a dd x⟩]
/-- no table of that name -/
theorem exc_name {y0 y1 y2 y3 : Option Z} {t : PyData} {k : Kz} (hs : dRepr t fun z => z = .dat (.str t.shown)) (hl : t.shown.length + 5 ≤ line) (h : k.rt (.dat (.str ("name " ++ t.shown)))) :
    (Xc.mk "UnknownName" (some ("name", t))).n ∈ excNames ∧ zHs k hzs [y0, y1, y2, y3, none] ⟨"UnknownName", some ("name", t)⟩ := by
  refine ⟨tb_1, fun _ a dd => ⟨by simp, ?_⟩, fun z => ?_⟩
  · unfold zb__law_error_9
    obtain ⟨r1, r2, r3, _⟩ := hs
    have e5 : ("name " : Str).length = 5 := by decide
    walk_at "zw"
    simp only [zIsG, zFldG, tb_4, tb_5]
    walk_at "zw"
    refine ⟨t, rfl, r1, r2, r3, ?_⟩
    walk_at "zw"
    exact ⟨by omega, h⟩
  · have z : isSub excTab "UnknownName" "UnknownName" = false := z
    rw [tb_3] at z
    cases z
theorem exc_rec {y0 y1 y2 y3 : Option Z} {k : Kz} (h : k.rt (.dat (.str "record"))) : (Xc.mk "InvalidRecord" none).n ∈ excNames ∧ zHs k hzs [y0, y1, y2, y3, none] ⟨"InvalidRecord", none⟩ := by
  refine ⟨tb_2, fun z => ?_, fun _ => ⟨fun _ a dd => ⟨by simp, ?_⟩, fun z => ?_⟩⟩
  · have z : isSub excTab "InvalidRecord" "UnknownName" = true := z
    rw [tb_6] at z
    cases z
  · unfold zb__law_error_8
    walk_at "zw"
    simp only [zIsG, tb_8, tb_9]
    walk_at "zw"
    exact h
  · have z : isSub excTab "InvalidRecord" "RecordsError" = false := z
    rw [tb_7] at z
    cases z
section
variable {xs : List Str} {ts : List PyData} {t : PyData}
theorem z_key_size_bad' (s : Sch xs ts) (h0 : tab t ts = .none) {Q : Z → Prop} {E : Xc → Prop} (h : E ⟨"UnknownName", some ("name", t)⟩) : w_key_size [.dat (.tuple ts), .dat t] Q E := by
  unfold w_key_size zFnOk zb_key_size
  walk_at "zw"
  refine z_check_good s ?_
  unfold zb_key_size_2
  walk_at "zw"
  exact z_check_table_bad s h0 h
theorem z_column_kinds_bad' (s : Sch xs ts) (h0 : tab t ts = .none) {Q : Z → Prop} {E : Xc → Prop} (h : E ⟨"UnknownName", some ("name", t)⟩) : w_column_kinds [.dat (.tuple ts), .dat t] Q E := by
  unfold w_column_kinds zFnOk zb_column_kinds
  walk_at "zw"
  refine z_check_good s ?_
  unfold zb_column_kinds_2
  walk_at "zw"
  exact z_check_table_bad s h0 h
theorem z_is_record_bad' {v : PyData} (s : Sch xs ts) (h0 : tab t ts = .none) {Q : Z → Prop} {E : Xc → Prop} (h : E ⟨"UnknownName", some ("name", t)⟩) : w_is_record [.dat (.tuple ts), .dat t, .dat v] Q E := by
  unfold w_is_record zFnOk zb_is_record
  walk_at "zw"
  refine z_check_good s ?_
  unfold zb_is_record_2
  walk_at "zw"
  exact z_check_table_bad s h0 h
theorem z_record_key_bad' {v : PyData} (s : Sch xs ts) (h0 : tab t ts = .none) {Q : Z → Prop} {E : Xc → Prop} (h : E ⟨"UnknownName", some ("name", t)⟩) : w_record_key [.dat (.tuple ts), .dat t, .dat v] Q E := by
  unfold w_record_key zFnOk zb_record_key
  walk_at "zw"
  refine z_check_good s ?_
  unfold zb_record_key_3
  walk_at "zw"
  exact z_check_table_bad s h0 h
theorem z__law_error_name {way : Nat} (hw : way < 4) {v : PyData} (s : Sch xs ts) (h0 : tab t ts = .none) (hs : dRepr t fun z => z = .dat (.str t.shown)) (hl : t.shown.length + 5 ≤ line) {Q : Z → Prop} {E : Xc → Prop} (h : Q (.dat (.str ("name " ++ t.shown)))) : w__law_error [.dat (.int way), .dat (.tuple ts), .dat t, .dat v] Q E := by
  unfold w__law_error zFnOk zb__law_error
  walk_at "zw"
  unfold zTryG zb__law_error_7
  walk_at "zw"
  refine eq_int ?_
  walk_at "zw"
  have fin : ∀ k : Kz, k.rt = (fun r => ¬ r = Z.strm ∧ Q r.out) → k.rt (.dat (.str ("name " ++ t.shown))) := fun k e => by rw [e]; exact ⟨(fun z => nomatch z), h⟩
  split
  · unfold zb__law_error_1
    walk_at "zw"
    exact z_key_size_bad' s h0 (exc_name hs hl (fin _ rfl))
  · unfold zb__law_error_6
    walk_at "zw"
    refine eq_int ?_
    walk_at "zw"
    split
    · unfold zb__law_error_2
      walk_at "zw"
      exact z_column_kinds_bad' s h0 (exc_name hs hl (fin _ rfl))
    · unfold zb__law_error_5
      walk_at "zw"
      refine eq_int ?_
      walk_at "zw"
      split
      · unfold zb__law_error_3
        walk_at "zw"
        exact z_is_record_bad' s h0 (exc_name hs hl (fin _ rfl))
      · unfold zb__law_error_4
        walk_at "zw"
        exact z_record_key_bad' s h0 (exc_name hs hl (fin _ rfl))
theorem z__law_error_rec {x : Str} {key : Nat} {ks : List PyData} (a : At xs ts x key ks) {v : PyData} (hw : wt v ≤ big5) {Q : Z → Prop} {E : Xc → Prop} (h : Q (.dat (.str (if recD ks v = true then "returned" else "record")))) : w__law_error [.dat (.int 3), .dat (.tuple ts), .dat (.str x), .dat v] Q E := by
  unfold w__law_error zFnOk zb__law_error
  walk_at "zw"
  unfold zTryG zb__law_error_7
  walk_at "zw"
  refine eq_int ?_
  rw [show decide ((3 : Int) = 0) = false from rfl]
  walk_at "zw"
  unfold zb__law_error_6
  walk_at "zw"
  refine eq_int ?_
  rw [show decide ((3 : Int) = 1) = false from rfl]
  walk_at "zw"
  unfold zb__law_error_5
  walk_at "zw"
  refine eq_int ?_
  rw [show decide ((3 : Int) = 2) = false from rfl]
  walk_at "zw"
  unfold zb__law_error_4
  walk_at "zw"
  refine z_record_key a hw ?_
  have bad : recD ks v = false → ∀ k : Kz, k.rt = (fun r => ¬ r = Z.strm ∧ Q r.out) → k.rt (.dat (.str "record")) := fun e k e2 => by
    rw [e, if_neg Bool.false_ne_true] at h
    rw [e2]
    exact ⟨(fun z => nomatch z), h⟩
  cases v with
  | tuple vs =>
    simp only
    split
    · rename_i c
      rw [if_pos c] at h
      unfold zb__law_error_10
      walk_at "zw"
      exact h
    · rename_i c
      exact exc_rec (bad (Bool.eq_false_iff.mpr c) _ rfl)
  | _ => exact exc_rec (bad rfl _ rfl)
end
end Zl
end
section
/-! Y027: what is no table; a table is right -/
namespace Zl
open PySem PySem.Spec PyProof.Rows L2 Kb
variable [Tabd]
/-- what is no table's name -/
structure BadT (xs : List Str) (ts : List PyData) (t : PyData) : Prop where
  n : tab t ts = .none
  g : gd big40 t = true
  w : wt t ≤ 1000
  d : dep t ≤ 4
theorem BadT.repr {xs : List Str} {ts : List PyData} {t : PyData} (b : BadT xs ts t) : dRepr t fun z => z = .dat (.str t.shown) := repr_any big_le b.g (Nat.le_trans b.w (by decide)) (by have := b.d; omega) rfl
theorem BadT.len {xs : List Str} {ts : List PyData} {t : PyData} (b : BadT xs ts t) : t.shown.length + 5 ≤ line := by
  have h1 := shown_wt t b.g
  have h2 := b.w
  have h3 : (2000 : Nat) ≤ line := by decide
  omega
theorem word_ne {x y : Str} {b n : Nat} (h : WordB b n x) (k : ∀ c ∈ y.cps.toList, ¬ (b ≤ c ∧ c < b + 26)) : x ≠ y := fun e => by
  subst e
  obtain ⟨h1, _, h3⟩ := h
  cases q : x.cps.toList with
  | nil => rw [q] at h1; simp at h1
  | cons c r =>
    have hc : c ∈ x.cps.toList := by rw [q]; exact List.mem_cons_self
    exact k c hc (h3 c hc)
theorem none_of {xs : List Str} {ts : List PyData} {t : PyData} (s : Sch xs ts) (h : ∀ x ∈ xs, PyData.eqv (.str x) t = false) : tab t ts = .none := tab_none s.t h
theorem TabsOk.words : ∀ {xs : List Str} {ts : List PyData}, TabsOk xs ts → ∀ x ∈ xs, WordB 97 8 x
  | [], [], _, x, h => nomatch h
  | x :: xs, t :: ts, ⟨⟨_, _, _, w, _⟩, b⟩, y, h => by
    rcases List.mem_cons.mp h with rfl | h
    · exact w
    · exact b.words y h
theorem z__law_bad_table {xs : List Str} {ts : List PyData} (s : Sch xs ts) {Q : Z → Prop} {E : Xc → Prop} (h : ∀ t, BadT xs ts t → Q (.dat t)) : w__law_bad_table [.strm, .dat (.tuple ts)] Q E := by
  unfold w__law_bad_table zFnOk zb__law_bad_table
  have l6 := s.l6
  have l1 := s.l1
  obtain ⟨x0, hx0, t0, ht0, r, hr, e0⟩ : ∃ x0, xs[0]? = some x0 ∧ ∃ t0, ts[0]? = some t0 ∧ ∃ r, namesD ts = x0 :: r ∧ True := by
    cases ts with
    | nil => simp at l1
    | cons t r =>
      have hn := s.t.all.2.1
      cases xs with
      | nil => exact s.t.elim
      | cons x xs => exact ⟨x, rfl, t, rfl, xs, hn, trivial⟩
  have w0 : WordB 97 8 x0 := s.t.words x0 (List.mem_of_getElem? hx0)
  have len0 := wordB_len' w0
  have hA : ∀ c ∈ x0.cps.toList, c < 128 := fun c hc => by
    have := w0.2.2 c hc
    omega
  walk_at "zw"
  refine lc_map (by simp) headD _ _ (fun d hd R r => ?_) (Nat.le_trans l6 (by decide)) ?_
  · obtain ⟨x, y, z, rfl⟩ := table_head (List.all_eq_true.mp s.t.all.1 d hd)
    walk_at "zw"
    exact ⟨_, atI_zero, r⟩
  · rw [names_eq s.t.all.1, hr]
    unfold zb__law_bad_table_2
    walk_at "zw"
    refine ⟨_, atI_zero, ?_⟩
    have e8 : ("zzzzzzzz" : Str).length = 8 := by decide
    have l100 : (100 : Nat) ≤ line := by decide
    obtain ⟨i0, key, ks, rfl, a0⟩ := s.at ht0
    have a1 : ∀ i : Int, atI (PyData.str x0 :: r.map .str) 0 = some (.str x0) := fun _ => atI_zero
    have hts : atI ts 0 = some (entD i0 key ks) := by
      cases ts with
      | nil => simp at l1
      | cons t r' =>
        simp at ht0
        rw [ht0]
        exact atI_zero
    walk_at "zw"
    refine ⟨by omega, _, atI_zero, ?_⟩
    walk_at "zw"
    refine ⟨by omega, _, atI_zero, by decide, _, atI_zero, by decide, _, hts, by decide, ?_⟩
    unfold zb__law_bad_table_1
    walk_at "zw"
    refine z_pick (by simp) (by simp) fun t ht => ⟨(fun z => nomatch z), h t ?_⟩
    simp only [List.mem_cons, List.not_mem_nil, or_false] at ht
    have asc0 : Asc x0 := hA
    rcases ht with rfl | rfl | rfl | rfl | rfl | rfl | rfl | rfl | rfl | rfl
    · exact ⟨none_of s fun _ _ => rfl, by decide, by decide, by decide⟩
    · exact ⟨none_of s fun _ _ => rfl, by decide, by decide, by decide⟩
    · exact ⟨none_of s fun x hx => decide_eq_false (word_ne (s.t.words x hx) (by decide)), by decide, by decide, by decide⟩
    · refine ⟨none_of s fun x hx => decide_eq_false fun e => ?_, gd_str.mpr (asc0.cat (by decide)), ?_, by simp [dep]⟩
      · have := wordB_len' (s.t.words x hx)
        have l1 : 1 ≤ x0.length := by rw [str_len]; exact w0.1
        rw [e, cat_len] at this
        omega
      · simp only [wt]
        rw [cat_len]
        omega
    · refine ⟨none_of s fun x hx => decide_eq_false (word_ne (s.t.words x hx) fun c hc => ?_), gd_str.mpr ?_, ?_, by simp [dep]⟩
      · rw [upper_ascii hA] at hc
        simp only [Array.toList_map] at hc
        obtain ⟨c', h', rfl⟩ := List.mem_map.mp hc
        have := w0.2.2 c' h'
        unfold up1
        split <;> omega
      · rw [upper_ascii hA]
        intro c hc
        simp only [Array.toList_map] at hc
        obtain ⟨c', h', rfl⟩ := List.mem_map.mp hc
        have := hA c' h'
        unfold up1
        split <;> omega
      · have := len_upper x0
        simp only [wt]
        omega
    · refine ⟨none_of s fun _ _ => rfl, by simp only [gd, gds, Bool.and_true]; exact gd_str (b := big40).mpr asc0, ?_, by simp [dep, depAll]⟩
      simp only [wt, wts]
      omega
    · refine ⟨none_of s fun _ _ => rfl, by simp only [gd, gds, Bool.and_true]; exact gd_str (b := big40).mpr asc0, ?_, by simp [dep, depAll]⟩
      simp only [wt, wts]
      omega
    · exact ⟨none_of s fun _ _ => rfl, by decide, by decide, by decide⟩
    · have ok : TabOk i0 (entD i0 key ks) := ⟨key, ks, rfl, a0.t.w, by omega, by have := a0.t.k; omega, a0.t.l1, a0.t.l4, a0.t.kd⟩
      have sm := ok.small
      have := ok.wt
      exact ⟨none_of s fun _ _ => rfl, sm.2.1, by omega, by omega⟩
    · exact ⟨none_of s fun _ _ => rfl, by decide, by decide, by decide⟩
/-! ### keys compared -/
theorem eqvAll_iff : ∀ {xs ys : List PyData}, PyData.eqvAll xs ys = true ↔ xs.length = ys.length ∧ ∀ i, i < xs.length → PyData.eqv (xs.getD i .none) (ys.getD i .none) = true
  | [], [] => by simp [PyData.eqvAll]
  | [], _ :: _ => by simp [PyData.eqvAll]
  | _ :: _, [] => by simp [PyData.eqvAll]
  | x :: xs, y :: ys => by
    have e : PyData.eqvAll (x :: xs) (y :: ys) = (PyData.eqv x y && PyData.eqvAll xs ys) := rfl
    rw [e, Bool.and_eq_true, eqvAll_iff]
    constructor
    · rintro ⟨h1, h2, h3⟩
      refine ⟨by simp [h2], fun i hi => ?_⟩
      cases i with
      | zero => simpa using h1
      | succ i => simpa using h3 i (by simpa using hi)
    · rintro ⟨h1, h2⟩
      refine ⟨by simpa using h2 0 (by simp), by simpa using h1, fun i hi => ?_⟩
      simpa using h2 (i + 1) (by simpa using hi)
def neAt (vs us : List PyData) : PyData → Bool
  | .int i => !PyData.eqv (vs.getD i.toNat .none) (us.getD i.toNat .none)
  | _ => false
theorem keys_eq {vs us : List PyData} {key : Nat} (h1 : key ≤ vs.length) (h2 : key ≤ us.length) : PyData.eqvAll (vs.take key) (us.take key) = ((runI 0 key).filter (neAt vs us)).isEmpty := by
  rw [Bool.eq_iff_iff, eqvAll_iff, List.isEmpty_iff, List.filter_eq_nil_iff]
  constructor
  · rintro ⟨_, h⟩ d hd
    obtain ⟨j, hj⟩ := List.mem_iff_getElem?.mp hd
    obtain ⟨hj2, rfl⟩ := runI_get hj
    have := h j (by rw [List.length_take]; omega)
    simp only [List.getD_eq_getElem?_getD, List.getElem?_take, hj2, if_true] at this
    have e : ((0 : Int) + (j : Int)).toNat = j := by omega
    simp only [neAt, e, List.getD_eq_getElem?_getD, this]
    decide
  · intro h
    refine ⟨by rw [List.length_take, List.length_take]; omega, fun i hi => ?_⟩
    have hi2 : i < key := by rw [List.length_take] at hi; omega
    have hm : PyData.int (0 + (i : Int)) ∈ runI 0 key := by
      unfold runI
      exact List.mem_map.mpr ⟨i, List.mem_range.mpr hi2, rfl⟩
    have := h _ hm
    have e : ((0 : Int) + (i : Int)).toNat = i := by omega
    simp only [neAt, e, Bool.not_eq_true', Bool.not_eq_false] at this
    simp only [List.getD_eq_getElem?_getD, List.getElem?_take, hi2, if_true] at this ⊢
    exact this
theorem vk_flat {k v : PyData} (h : Vk k v) (u : PyData) : eqOk v u = true ∧ dep v ≤ 1 := by
  rcases h with ⟨_, x, rfl, _⟩ | ⟨_, i, rfl, _⟩
  · exact ⟨eqOk_str _ _, by simp [dep]⟩
  · exact ⟨by cases u <;> rfl, by simp [dep]⟩
theorem eqOks_vk : ∀ {ks vs : List PyData}, All2 Vk ks vs → ∀ us : List PyData, eqOks vs us = true
  | [], [], _, us => by cases us <;> rfl
  | k :: ks, v :: vs, ⟨a, b⟩, [] => rfl
  | k :: ks, v :: vs, ⟨a, b⟩, u :: us => by
    show (eqOk v u && eqOks vs us) = true
    rw [(vk_flat a u).1, eqOks_vk b us]
    rfl
  | [], _ :: _, h, _ => h.elim
  | _ :: _, [], h, _ => h.elim
theorem All2.take {P : PyData → PyData → Prop} : ∀ {xs ys : List PyData} (n : Nat), All2 P xs ys → All2 P (xs.take n) (ys.take n)
  | _, _, 0, _ => by simp [All2]
  | [], [], n + 1, _ => by simp [All2]
  | x :: xs, y :: ys, n + 1, ⟨a, b⟩ => ⟨a, b.take n⟩
  | [], _ :: _, _ + 1, h => h.elim
  | _ :: _, [], _ + 1, h => h.elim
end Zl
end
section
/-! Y028: a table is right -/
namespace Zl
open PySem PySem.Spec PyProof.Rows L2 Kb
variable [Tabd]
section
variable {xs : List Str} {ts : List PyData} {ws : List Str} {ns : List Int} {x : Str} {key : Nat} {ks : List PyData}
def ST (ts : List PyData) (ws : List Str) (ns : List Int) (x : Str) (key : Nat) (ks : List PyData) (y6 y7 y8 y9 y10 y11 y12 y13 : Option Z) : Rho := [some .strm, some (.dat (.tuple ts)), some (.dat (poolD ws ns)), some (.dat (.str x)), some (.dat (.int key)), some (.dat (.tuple ks)), y6, y7, y8, y9, y10, y11, y12, y13]
theorem bool_shown (a : Bool) : ∃ s : Str, (PyData.bool a).shown = s ∧ True := ⟨_, rfl, trivial⟩
theorem right_5 (a : At xs ts x key ks) {d : PyData} (hw : wt d ≤ big5) {y6 y7 y8 y9 y11 y12 y13 : Option Z} {k : Kz} (h : ∀ y11, k.nx (ST ts ws ns x key ks y6 y7 y8 y9 (some (.dat d)) y11 y12 y13)) : zb__law_table_right_5 (ST ts ws ns x key ks y6 y7 y8 y9 (some (.dat d)) y11 y12 y13) k := by
  unfold zb__law_table_right_5
  simp only [ST] at h ⊢
  walk_at "zw"
  refine z__law_is_record a.t.kd a.t.l4 hw ?_
  walk_at "zw"
  unfold zb__law_table_right_4
  walk_at "zw"
  refine z_is_record a hw ?_
  walk_at "zw"
  refine repr_bool _ ?_
  walk_at "zw"
  refine repr_bool _ ?_
  walk_at "zw"
  refine eq_same ?_
  walk_at "zw"
  unfold zb__law_table_right_3
  walk_at "zw"
  refine z__law_error_rec a hw ?_
  cases e : recD ks d with
  | true =>
    walk_at "zw"
    refine eq_same ?_
    walk_at "zw"
    exact h _
  | false =>
    walk_at "zw"
    refine eq_same ?_
    walk_at "zw"
    exact h _
theorem right_8 (a : At xs ts x key ks) {vs us : List PyData} (hv : All2 Vk ks vs) (hu : All2 Vk ks us) {y6 y9 y10 y11 y12 y13 : Option Z} {k : Kz} (h : ∀ y9, k.nx (ST ts ws ns x key ks y6 (some (.dat (.tuple vs))) (some (.dat (.tuple us))) y9 y10 y11 y12 y13)) : zb__law_table_right_8 (ST ts ws ns x key ks y6 (some (.dat (.tuple vs))) (some (.dat (.tuple us))) y9 y10 y11 y12 y13) k := by
  have kl := a.t.k
  have k4 := a.t.l4
  have lv := hv.len
  have lu := hu.len
  have l4 : (4 : Nat) ≤ line := by decide
  unfold zb__law_table_right_8
  simp only [ST] at h ⊢
  walk_at "zw"
  refine ⟨by show -(2 ^ 62) ≤ (key : Int); omega, by show (key : Int) < 2 ^ 62; omega, ?_⟩
  refine lc_go (by simp) (neAt vs us) id _ _ _ (fun d hd R r => ?_) (fun d hd c R r => ?_) (by rw [runI_len]; simp only [List.length_nil]; omega) ?_
  · obtain ⟨j, hj⟩ := List.mem_iff_getElem?.mp hd
    obtain ⟨hj2, rfl⟩ := runI_get hj
    have hj3 : j < key := by omega
    have ev : vs[j]? = some (vs.getD j .none) := by rw [List.getD_eq_getElem?_getD, List.getElem?_eq_getElem (by omega)]; rfl
    have eu : us[j]? = some (us.getD j .none) := by rw [List.getD_eq_getElem?_getD, List.getElem?_eq_getElem (by omega)]; rfl
    have ez : ((0 : Int) + (j : Int)) = (j : Int) := by omega
    rw [ez] at r ⊢
    walk_at "zw"
    refine ⟨_, atI_nat' ev, _, atI_nat' eu, ?_⟩
    rw [eq_any]
    obtain ⟨q, hq⟩ : ∃ q, Vk q (vs.getD j .none) := by
      have := hv.right (R := fun v => ∃ q, Vk q v) (fun q v h => ⟨q, h⟩) _ (List.mem_of_getElem? ev)
      exact this
    obtain ⟨f1, f2⟩ := vk_flat hq (us.getD j .none)
    refine ⟨f1, fun _ => ?_, by omega, ?_⟩
    · have := hu.right (R := fun v => isDict v = false) (fun q v h => by rcases h with ⟨_, x, rfl, _⟩ | ⟨_, i, rfl, _⟩ <;> rfl) _ (List.mem_of_getElem? eu)
      exact this
    · walk_at "zw"
      simp only [neAt, Int.toNat_natCast] at r
      exact r
  · walk_at "zw"
    exact r
  · have e0 : ((runI 0 (key : Int).toNat).filter (neAt vs us)).map id = (runI 0 key).filter (neAt vs us) := by rw [List.map_id, Int.toNat_natCast]
    have sub : ∀ d ∈ (runI 0 key).filter (neAt vs us), ∃ i, d = .int i := fun d hd => by
      obtain ⟨j, hj⟩ := List.mem_iff_getElem?.mp (List.mem_filter.mp hd).1
      obtain ⟨_, rfl⟩ := runI_get hj
      exact ⟨_, rfl⟩
    rw [List.nil_append, e0]
    refine ⟨Nat.zero_le _, ?_⟩
    rw [eq_any]
    refine ⟨eqOks_nil _, (fun z => nomatch z), ?_, ?_⟩
    · have : depAll ((runI 0 key).filter (neAt vs us)) ≤ 1 := depAll_le fun d hd => by
        obtain ⟨i, rfl⟩ := sub d hd
        simp [dep]
      simp only [dep]
      omega
    · rw [eqv_nil]
      walk_at "zw"
      unfold zb__law_table_right_7
      walk_at "zw"
      have rv := rec_ok a.t.kd hv
      have ru := rec_ok a.t.kd hu
      have bv : wt (.tuple vs) ≤ big5 := Nat.le_trans (rec_small k4 hv).2.2.2 (by decide)
      have bu : wt (.tuple us) ≤ big5 := Nat.le_trans (rec_small k4 hu).2.2.2 (by decide)
      refine z_record_key a bv ?_
      simp only [rv, if_true]
      walk_at "zw"
      refine z_record_key a bu ?_
      simp only [ru, if_true]
      walk_at "zw"
      rw [eq_any]
      refine ⟨eqOks_vk (hv.take key) _, (fun z => nomatch z), ?_, ?_⟩
      · have := (rec_small (by rw [List.length_take]; omega) (hv.take key)).2.2.1
        omega
      · walk_at "zw"
        have e1 : PyData.eqv (.tuple (vs.take key)) (.tuple (us.take key)) = PyData.eqvAll (vs.take key) (us.take key) := rfl
        rw [e1, keys_eq (by omega) (by omega), eq_any]
        refine ⟨rfl, (fun _ => rfl), by simp [dep], ?_⟩
        have e2 : ∀ b : Bool, PyData.eqv (.bool b) (.bool b) = true := fun b => by cases b <;> rfl
        rw [e2]
        walk_at "zw"
        exact h _
theorem shown_same {neg : Bool} {a b : Str} (e : a = b) {Q : Z → Prop} (h : Q (.dat (.bool (!neg)))) : dEq neg (.str a) (.str b) Q := by
  subst e
  exact eq_same h
theorem right_14 (a : At xs ts x key ks) {vs : List PyData} (hv : All2 Vk ks vs) {rs : List PyData} (hr : ∀ r ∈ rs, ∃ us, r = .tuple us ∧ All2 Vk ks us) {y8 y9 y10 y11 y12 y13 : Option Z} {k : Kz}
    (h : ∀ y8 y9 y10 y11 y13, k.nx (ST ts ws ns x key ks (some (.dat (.list rs))) (some (.dat (.tuple vs))) y8 y9 y10 y11 y12 y13)) : zb__law_table_right_14 (ST ts ws ns x key ks (some (.dat (.list rs))) (some (.dat (.tuple vs))) y8 y9 y10 y11 y12 y13) k := by
  have kl := a.t.k
  have k4 := a.t.l4
  have lv := hv.len
  have rv := rec_ok a.t.kd hv
  obtain ⟨sm, sl, sd, sw⟩ := rec_small k4 hv
  have bv : wt (.tuple vs) ≤ big5 := Nat.le_trans sw (by decide)
  have l100 : (100 : Nat) ≤ line := by decide
  unfold zb__law_table_right_14
  simp only [ST] at h ⊢
  walk_at "zw"
  refine z_is_record a bv ?_
  rw [rv]
  walk_at "zw"
  unfold zb__law_table_right_13
  walk_at "zw"
  refine z_record_key a bv ?_
  simp only [rv, if_true]
  walk_at "zw"
  obtain ⟨s2, _, d2, w2⟩ := rec_small (ks := ks.take key) (vs := vs.take key) (by rw [List.length_take]; omega) (hv.take key)
  have rp : ∀ {Q : Z → Prop}, Q (.dat (.str (PyData.tuple (vs.take key)).shown)) → dRepr (.tuple (vs.take key)) Q := fun q => repr_any big_le s2.g (Nat.le_trans w2 (by decide)) (by omega) q
  refine rp ?_
  walk_at "zw"
  rw [cutL_to]
  refine rp ?_
  walk_at "zw"
  refine eq_same ?_
  walk_at "zw"
  unfold zb__law_table_right_11
  walk_at "zw"
  refine for_inv (fun _ ρ => ∃ y8 y9 y13, ρ = ST ts ws ns x key ks (some (.dat (.list rs))) (some (.dat (.tuple vs))) y8 y9 y10 y11 y12 y13) _ ⟨y8, y9, y13, rfl⟩ ?_ ?_
  · rintro j d hd ρ ⟨y8, y9, y13, rfl⟩ N hN
    obtain ⟨us, rfl, hu⟩ := hr d (List.mem_of_getElem? hd)
    simp only [ST]
    walk_at "zw"
    have := right_8 (ws := ws) (ns := ns) a hv hu (y6 := some (.dat (.list rs))) (y9 := y9) (y10 := y10) (y11 := y11) (y12 := y12) (y13 := y13) (k := { k with nx := N, ct := N, bk := fun ρ' => zb__law_table_right_9 ρ' k }) fun y9 => hN _ ⟨_, _, _, rfl⟩
    simp only [ST] at this
    exact this
  · rintro ρ ⟨y8, y9, y13, rfl⟩
    unfold zb__law_table_right_9
    simp only [ST]
    walk_at "zw"
    refine change_small sm fun e he => ?_
    walk_at "zw"
    refine z__law_other fun f hf => ?_
    walk_at "zw"
    have e1 : cutL vs none (some 1) = vs.take 1 := cutL_to vs 1
    have e2 : (vs ++ cutL vs none (some 1)).length ≤ line := by
      rw [e1, List.length_append, List.length_take]
      omega
    rw [e1] at e2 ⊢
    refine ⟨by first | exact e2 | (rw [List.length_append] at e2; exact e2), ?_⟩
    refine ⟨by decide, ?_⟩
    have wv := wts_len vs
    have hs : ∀ t ∈ [e, f, .tuple (vs ++ vs.take 1), .list vs], wt t ≤ big5 := fun t ht => by
      have h5 : (50000 : Nat) = big5 := rfl
      have a1 := he.w
      have a2 := hf.w
      have a3 := wts_app vs (vs.take 1)
      have a4 := wts_sub (List.take_sublist 1 vs)
      have a5 : wts vs + 5 ≤ 1700 := by simpa only [wt] using sw
      simp only [List.mem_cons, List.not_mem_nil, or_false] at ht
      rcases ht with rfl | rfl | rfl | rfl
      · omega
      · omega
      · simp only [wt]
        omega
      · simp only [wt]
        omega
    refine for_inv (fun _ ρ => ∃ y10 y11, ρ = ST ts ws ns x key ks (some (.dat (.list rs))) (some (.dat (.tuple vs))) y8 y9 y10 y11 y12 y13) _ ⟨y10, y11, rfl⟩ ?_ ?_
    · rintro j t ht ρ ⟨y10, y11, rfl⟩ N hN
      simp only [ST]
      walk_at "zw"
      have := right_5 (ws := ws) (ns := ns) a (hs t (List.mem_of_getElem? ht)) (y6 := some (.dat (.list rs))) (y7 := some (.dat (.tuple vs))) (y8 := y8) (y9 := y9) (y11 := y11) (y12 := y12) (y13 := y13) (k := { k with nx := N, ct := N, bk := k.nx }) fun y11 => hN _ ⟨_, _, rfl⟩
      simp only [ST] at this
      exact this
    · rintro ρ ⟨y10, y11, rfl⟩
      exact h _ _ _ _ _
theorem z__law_table_right (a : At xs ts x key ks) (P : Pool ws ns) {Q : Z → Prop} {E : Xc → Prop} (h : Q (.dat (.bool true))) : w__law_table_right [.strm, .dat (.tuple ts), .dat (poolD ws ns), .dat (.str x), .dat (.int key), .dat (.tuple ks)] Q E := by
  have k4 := a.t.l4
  unfold w__law_table_right zFnOk zb__law_table_right
  walk_at "zw"
  refine z_key_size a ?_
  walk_at "zw"
  refine z_column_kinds a ?_
  walk_at "zw"
  refine ⟨by decide, ?_⟩
  have kg : gds big40 ks = true := gds_iff.mpr fun q hq => by rcases a.t.kd q hq with rfl | rfl <;> decide
  have kd : depAll ks ≤ 1 := depAll_le fun q hq => by rcases a.t.kd q hq with rfl | rfl <;> simp [dep]
  have kw : wts ks ≤ 100 * 4 := by
    have h1 := wts_le (n := 98) (xs := ks) fun q hq => by rcases a.t.kd q hq with rfl | rfl <;> decide
    have h2 : (98 + 2) * ks.length ≤ 100 * 4 := Nat.mul_le_mul_left _ k4
    omega
  have hg : gd big40 (.list [.int key, .tuple ks]) = true := by
    have b : 4 ≤ big40 := by decide
    have kk := a.t.k
    have : gd big40 (.int (key : Int)) = true := by
      simp only [gd, decide_eq_true_eq]
      omega
    simp only [gd, gds] at this ⊢
    rw [this, kg]
    rfl
  have rp : ∀ {Q : Z → Prop}, Q (.dat (.str (PyData.list [.int key, .tuple ks]).shown)) → dRepr (.list [.int key, .tuple ks]) Q := fun q => repr_any big_le hg (by
    have lg : ((key : Int)).natAbs.log2 ≤ 4 := by
      have kk := a.t.k
      have : (key : Int).natAbs ≤ 4 := by omega
      by_cases c : (key : Int).natAbs = 0
      · rw [c]; decide
      · have := (Nat.log2_lt c).mpr (show (key : Int).natAbs < 2 ^ 3 by omega)
        omega
    simp only [wt, wts]
    have : (50000 : Nat) = big5 := rfl
    omega) (by simp only [dep, depAll]; omega) q
  refine rp ?_
  walk_at "zw"
  refine ⟨by decide, rp ?_⟩
  walk_at "zw"
  refine eq_same ?_
  walk_at "zw"
  unfold zb__law_table_right_18
  walk_at "zw"
  refine ⟨by decide, by decide, ?_⟩
  refine lc_nd (by simp) (fun r => ∃ us, r = .tuple us ∧ All2 Vk ks us) _ _ _ (fun d hd R r => ?_) (by rw [runI_len]; decide) fun rs _ hr => ?_
  · walk_at "zw"
    exact z__law_record P a.t.kd k4 fun vs hv => r _ ⟨vs, rfl, hv⟩
  · rw [List.nil_append]
    unfold zb__law_table_right_16
    walk_at "zw"
    refine for_inv (fun _ ρ => ∃ y7 y8 y9 y10 y11 y13, ρ = ST ts ws ns x key ks (some (.dat (.list rs))) y7 y8 y9 y10 y11 none y13) _ ⟨none, none, none, none, none, none, rfl⟩ ?_ ?_
    · rintro j d hd ρ ⟨y7, y8, y9, y10, y11, y13, rfl⟩ N hN
      obtain ⟨vs, rfl, hv⟩ := hr d (List.mem_of_getElem? hd)
      simp only [ST]
      walk_at "zw"
      have := fun k0 hk0 => right_14 (ws := ws) (ns := ns) a hv hr (y8 := y8) (y9 := y9) (y10 := y10) (y11 := y11) (y12 := none) (y13 := y13) (k := k0) hk0
      simp only [ST] at this
      exact this _ fun y8 y9 y10 y11 y13 => hN _ ⟨_, _, _, _, _, _, rfl⟩
    · rintro ρ ⟨y7, y8, y9, y10, y11, y13, rfl⟩
      unfold zb__law_table_right_15
      simp only [ST]
      walk_at "zw"
      exact h
end
end Zl
end
section
/-! Y029: the law holds at every script -/
namespace Zl
open PySem PySem.Spec PyProof.Rows L2 Kb
variable [Tabd]
def SLw (ns : List Int) (k : Int) (ts : List PyData) (ws : List Str) (is : List Int) (y5 y6 y7 y8 y9 y10 y11 : Option Z) : Rho := [some (.scr ns), some (.dat (.int k)), some .strm, some (.dat (.tuple ts)), some (.dat (poolD ws is)), y5, y6, y7, y8, y9, y10, y11]
theorem names_repr {xs : List Str} {ts : List PyData} (s : Sch xs ts) {Q : Z → Prop} (h : Q (.dat (.str (PyData.tuple (xs.map .str)).shown))) : dRepr (.tuple (xs.map .str)) Q := by
  have hw := s.t.words
  have hl := s.t.all.2.2
  have l6 := s.l6
  refine repr_any big_le ?_ ?_ ?_ h
  · simp only [gd]
    exact gds_iff.mpr fun d hd => by
      obtain ⟨x, hx, rfl⟩ := List.mem_map.mp hd
      exact (val_word (hw x hx) (by decide) (by decide)).g
  · have h1 := wts_le (n := 400) (xs := xs.map .str) fun d hd => by
      obtain ⟨x, hx, rfl⟩ := List.mem_map.mp hd
      exact (val_word (hw x hx) (by decide) (by decide)).w
    have h2 : (400 + 2) * (xs.map PyData.str).length ≤ 402 * 6 := Nat.mul_le_mul_left _ (by rw [List.length_map]; omega)
    have h5 : (50000 : Nat) = big5 := rfl
    simp only [wt]
    omega
  · have : depAll (xs.map .str) ≤ 1 := depAll_le fun d hd => by
      obtain ⟨x, hx, rfl⟩ := List.mem_map.mp hd
      simp [dep]
    simp only [dep]
    omega
theorem z_table_names {xs : List Str} {ts : List PyData} (s : Sch xs ts) {Q : Z → Prop} {E : Xc → Prop} (h : Q (.dat (.tuple (xs.map .str)))) : w_table_names [.dat (.tuple ts)] Q E := by
  unfold w_table_names zFnOk zb_table_names
  walk_at "zw"
  refine z_check_good s ?_
  unfold zb_table_names_1
  walk_at "zw"
  refine lc_map (by simp) headD _ _ (fun d hd R r => ?_) (Nat.le_trans s.l6 (by decide)) ?_
  · obtain ⟨x, y, z, rfl⟩ := table_head (List.all_eq_true.mp s.t.all.1 d hd)
    walk_at "zw"
    exact ⟨_, atI_zero, r⟩
  · rw [names_eq s.t.all.1, s.t.all.2.1]
    exact h
theorem law_5 {ns : List Int} {k : Int} {xs : List Str} {ts : List PyData} {ws : List Str} {is : List Int} (s : Sch xs ts) (P : Pool ws is) {way : Nat} (hw : way < 4) {y5 y6 y7 y8 y9 y11 : Option Z} {kk : Kz}
    (h : ∀ y6 y11, kk.nx (SLw ns k ts ws is y5 y6 y7 y8 y9 (some (.dat (.int way))) y11)) : zb_law_5 (SLw ns k ts ws is y5 y6 y7 y8 y9 (some (.dat (.int way))) y11) kk := by
  unfold zb_law_5
  simp only [SLw] at h ⊢
  walk_at "zw"
  refine z__law_bad_table s fun t ht => ?_
  walk_at "zw"
  unfold zb_law_4
  walk_at "zw"
  obtain ⟨x0, key, ks, e0, a0⟩ : ∃ x key ks, ts[0]? = some (entD x key ks) ∧ At xs ts x key ks := by
    have l1 := s.l1
    have e : ts[0]? = some (ts[0]'(by omega)) := List.getElem?_eq_getElem (by omega)
    obtain ⟨x, key, ks, e2, a⟩ := s.at e
    exact ⟨x, key, ks, by rw [e, e2], a⟩
  have hts : atI ts 0 = some (entD x0 key ks) := by
    cases ts with
    | nil => simp at e0
    | cons t r =>
      simp at e0
      rw [e0]
      exact atI_zero
  refine ⟨_, hts, ?_⟩
  unfold entD
  walk_at "zw"
  refine ⟨_, atI_two, ?_⟩
  refine z__law_record P a0.t.kd a0.t.l4 fun vs hv => ?_
  walk_at "zw"
  refine ⟨by decide, by decide, ?_⟩
  refine z_pick (by simp) (by simp) fun v _ => ?_
  walk_at "zw"
  unfold zb_law_3
  walk_at "zw"
  obtain ⟨r1, r2, r3, _⟩ := ht.repr
  have l5 := ht.len
  have e5 : ("name " : Str).length = 5 := by decide
  refine z__law_error_name hw s ht.n ht.repr ht.len ?_
  walk_at "zw"
  refine ⟨r1, r2, r3, ?_⟩
  walk_at "zw"
  refine ⟨by omega, eq_same ?_⟩
  walk_at "zw"
  exact h _ _
theorem law_11 {ns : List Int} {k : Int} {xs : List Str} {ts : List PyData} {ws : List Str} {is : List Int} (s : Sch xs ts) (P : Pool ws is) {y6 y7 y8 y9 y10 y11 : Option Z} {kk : Kz}
    (h : ∀ y6 y7 y8 y9 y10 y11, kk.nx (SLw ns k ts ws is (some (.dat (.str (PyData.tuple ts).shown))) y6 y7 y8 y9 y10 y11)) : zb_law_11 (SLw ns k ts ws is (some (.dat (.str (PyData.tuple ts).shown))) y6 y7 y8 y9 y10 y11) kk := by
  unfold zb_law_11
  simp only [SLw]
  walk_at "zw"
  refine for_inv (fun _ ρ => ∃ y7 y8 y9, ρ = SLw ns k ts ws is (some (.dat (.str (PyData.tuple ts).shown))) y6 y7 y8 y9 y10 y11) _ ⟨y7, y8, y9, rfl⟩ ?_ ?_
  · rintro j d hd ρ ⟨y7, y8, y9, rfl⟩ N hN
    obtain ⟨x, key, ks, rfl, a⟩ := s.at hd
    simp only [SLw]
    unfold entD
    walk_at "zw"
    unfold zb_law_8
    walk_at "zw"
    refine z__law_table_right a P ?_
    walk_at "zw"
    exact hN _ ⟨_, _, _, rfl⟩
  · rintro ρ ⟨y7, y8, y9, rfl⟩
    unfold zb_law_9
    simp only [SLw]
    walk_at "zw"
    refine ⟨by decide, by decide, ?_⟩
    refine for_inv (fun _ ρ => ∃ y6 y10 y11, ρ = SLw ns k ts ws is (some (.dat (.str (PyData.tuple ts).shown))) y6 y7 y8 y9 y10 y11) _ ⟨y6, y10, y11, rfl⟩ ?_ ?_
    · rintro j d hd ρ ⟨y6, y10, y11, rfl⟩ N hN
      obtain ⟨hj, rfl⟩ := runI_get hd
      simp only [SLw]
      walk_at "zw"
      have ez : ((0 : Int) + (j : Int)) = (j : Int) := by omega
      rw [ez]
      have := fun k0 hk0 => law_5 (ns := ns) (k := k) s P (way := j) (by omega) (y5 := some (.dat (.str (PyData.tuple ts).shown))) (y6 := y6) (y7 := y7) (y8 := y8) (y9 := y9) (y11 := y11) (kk := k0) hk0
      simp only [SLw] at this
      exact this _ fun y6 y11 => hN _ ⟨_, _, _, rfl⟩
    · rintro ρ ⟨y6, y10, y11, rfl⟩
      unfold zb_law_6
      simp only [SLw]
      walk_at "zw"
      have sm := s.drawn.small
      refine repr_any big_le sm.g s.big (by have := sm.n; omega) ?_
      walk_at "zw"
      refine eq_same ?_
      walk_at "zw"
      exact h _ _ _ _ _ _
theorem law_15 {ns : List Int} {k : Int} (hk : 0 ≤ k) {y2 y3 y4 y5 y6 y7 y8 y9 y10 y11 : Option Z} {kk : Kz} (h : ∀ y2 y3 y4 y5 y6 y7 y8 y9 y10 y11, kk.nx [some (.scr ns), some (.dat (.int k)), y2, y3, y4, y5, y6, y7, y8, y9, y10, y11]) : zb_law_15 [some (.scr ns), some (.dat (.int k)), y2, y3, y4, y5, y6, y7, y8, y9, y10, y11] kk := by
  unfold zb_law_15
  walk_at "zw"
  refine ⟨_, _, ⟨rfl, rfl⟩, hk, ?_⟩
  unfold zb_law_14
  walk_at "zw"
  refine z__law_schema fun d hd => ?_
  obtain ⟨xs, ts, rfl, s1, s2, s3, s4⟩ := hd
  have s : Sch xs ts := ⟨s1, s2, s3, s4⟩
  refine z__law_pool fun ws is P => ?_
  refine ⟨_, _, ⟨rfl, rfl⟩, trivial, trivial, ?_⟩
  unfold zb_law_13
  walk_at "zw"
  have sm := s.drawn.small
  refine repr_any big_le sm.g s.big (by have := sm.n; omega) ?_
  walk_at "zw"
  unfold zb_law_12
  walk_at "zw"
  refine z_table_names s ?_
  walk_at "zw"
  refine names_repr s ?_
  walk_at "zw"
  refine lc_map (by simp) headD _ _ (fun d hd R r => ?_) (Nat.le_trans s.l6 (by decide)) ?_
  · obtain ⟨x, y, z, rfl⟩ := table_head (List.all_eq_true.mp s.t.all.1 d hd)
    walk_at "zw"
    exact ⟨_, atI_zero, r⟩
  · rw [names_eq s.t.all.1, s.t.all.2.1]
    refine names_repr s ?_
    walk_at "zw"
    refine eq_same ?_
    walk_at "zw"
    have := law_11 (ns := ns) (k := k) s P (y6 := y6) (y7 := y7) (y8 := y8) (y9 := y9) (y10 := y10) (y11 := y11) (kk := kk) fun y6 y7 y8 y9 y10 y11 => h _ _ _ _ _ _ _ _ _ _
    simp only [SLw] at this
    exact this
/-- the law holds at every script -/
theorem z_law {ns : List Int} (hn : ns.length ≤ 1000000) {Q : Z → Prop} {E : Xc → Prop} (h : Q (.dat (.bool true))) : w_law [.scr ns] Q E := by
  unfold w_law zFnOk zb_law
  walk_at "zw"
  refine ⟨?_, ?_, ?_⟩
  · show -(2 ^ 62) ≤ _
    split <;> omega
  · show _ < (2 : Int) ^ 62
    split <;> split <;> omega
  · refine for_inv (fun _ ρ => ∃ k y2 y3 y4 y5 y6 y7 y8 y9 y10 y11, ρ = [some (.scr ns), k, y2, y3, y4, y5, y6, y7, y8, y9, y10, y11]) _ ⟨_, _, _, _, _, _, _, _, _, _, _, rfl⟩ ?_ ?_
    · rintro j d hd ρ ⟨k, y2, y3, y4, y5, y6, y7, y8, y9, y10, y11, rfl⟩ N hN
      obtain ⟨hj, rfl⟩ := runI_get hd
      walk_at "zw"
      exact law_15 (by omega) fun _ _ _ _ _ _ _ _ _ _ => hN _ ⟨_, _, _, _, _, _, _, _, _, _, _, rfl⟩
    · rintro ρ ⟨k, y2, y3, y4, y5, y6, y7, y8, y9, y10, y11, rfl⟩
      unfold zb_law_16
      walk_at "zw"
      exact h
end Zl
end
section
namespace Zl
open PySem PySem.Spec PyProof.Rows L2 Kb PySem.Kx PySem.HandSPX
/-- a text without lambdas -/
instance noTabs : Tabd := ⟨[]⟩
variable {K : PySem.W.Frag}
/-- the law's own call: it answers true and lets no error out -/
theorem law_sp {H : Hp} {a : Addr} {ns : List Int} (hn : ns.length ≤ 1000000) (hS : SqL K H a (ns.map V.int)) : spZ K 1 w_law [.ref a] H (fun v _ => v = .bl true) fun _ _ _ => False := by
  have hh : hid [] H = H := by funext b; simp [hid]
  refine ⟨⟨[], [], []⟩, [.scr ns], fun r => r = .dat (.bool true), fun _ => False, rfl, rfl, ?_, .cons ⟨a, rfl, ?_⟩ .nil, z_law hn rfl, ?_, ?_⟩
  · have no : ∀ {a : Addr}, a ∈ (tabs : List Addr) → False := fun {a} h => by
      have h : a ∈ ([] : List Addr) := h
      cases h
    exact ⟨fun _ h => (nomatch h), fun _ h => (nomatch h), fun _ h => (nomatch h), fun _ h => (nomatch h), fun _ h => (nomatch h), fun _ h => (no h).elim, fun p h => (no (tabs_mem h)).elim⟩
  · show SqL K (hid [] H) a _
    rw [hh]; exact hS
  · rintro r v H' _ h rfl
    have h : Dz K (hid [] H') v (.bool true) := h
    cases h; rfl
  · intro _ _ _ _ _ _ f
    exact f
section
variable {P : Program} {w : World} {mg : Str → Option Value} {base : Heap}
theorem fnL {x : Str} {st : Stmt} {f : Addr} {fd : FuncData} {N ps : List Str} {k n : Nat} {zb : ZS} (F : L2.Fun K x x st f fd) (S : FnScope N ps (defScope st)) (g : mg x = some (.ref f)) (b : Binds K fd ps []) (hn : ps.length = n)
    (hbody : ∀ (cdv : Value) (A : Around) (outer : List Env) (s : Shared) (H : Hp) (E : XK), (A.deeper (envOfC x (defScope st) s.heap.objs.size f cdv)).guards = some [] → Room k (A.deeper (envOfC x (defScope st) s.heap.objs.size f cdv)) →
      Takes (cxOf (L2.CX P w) P w K mg base N x (defScope st) f cdv A outer s H E) (fun cls d _ H => E cls d H) → PassesOwn (model P w) (A.deeper (envOfC x (defScope st) s.heap.objs.size f cdv)) (envOfC x (defScope st) s.heap.objs.size f cdv) (cxOf (L2.CX P w) P w K mg base N x (defScope st) f cdv A outer s H E).xe →
      ∃ t, PZB K (cxOf (L2.CX P w) P w K mg base N x (defScope st) f cdv A outer s H E) (fun cls d _ H => E cls d H) (defBody st) t zb) : FnG P w K mg base (L2.CX P w) (k + 1) f fd ps (spZ K n (zFnOk N.length zb)) := by
  subst hn
  refine fnZ F S fun cdv A outer s H E gA hr tk hp => ?_
  obtain ⟨t, B⟩ := hbody cdv A outer s H E gA hr tk hp
  exact ⟨t, B.pe, B.tr⟩
theorem fn_law (T : Txt K mg) (TX : TX K mg base) : FnG P w K mg base (L2.CX P w) 18 T.a_law T.f_law ["script"] (spZ K 1 w_law) := fnL (N := N_law) T.F_law sc_law T.g_law T.b_law rfl (fun cdv A outer s H E gA hr tk hp => ⟨_,
 (pzb_cons (pzs_for hp (by rfl) (pzi_rng1 T.m_range (pz_cons (pz_B (call_max2 rfl) cz_max2 T.m_max (pz_cons pz_int (pz_cons (pz_B (call_min2 rfl) cz_min2 T.m_min (pz_cons pz_int (pz_cons (pz_lenScr (i := 0) T.m_len rfl (by first | exact Or.inl rfl | exact Or.inr (Or.inl rfl) | exact Or.inr (Or.inr rfl))) pz_nil)) (by decide +kernel)) pz_nil)) (by decide +kernel)) pz_nil)) (pzg_name (i := 1) sc_law.nd rfl (.inl rfl))
 (pzb_cons (pzs_stream (i := 2) (ok_stream T) gA hr tk sc_law.nd rfl (.inl rfl) (pz_cons (pz_var (i := 0) rfl (by first | exact Or.inl rfl | exact Or.inr (Or.inl rfl) | exact Or.inr (Or.inr rfl))) (pz_cons (pz_var (i := 1) rfl (by first | exact Or.inl rfl | exact Or.inr (Or.inl rfl) | exact Or.inr (Or.inr rfl))) pz_nil)))
 (pzb_cons (pzs_par (i := 3) (j := 4) (by rfl) sc_law.nd rfl rfl (by decide) rfl rfl (pz_cons (pz_call (ok__law_schema T TX) gA hr tk (pz_cons (pz_var (i := 2) rfl (by first | exact Or.inl rfl | exact Or.inr (Or.inl rfl) | exact Or.inr (Or.inr rfl))) (pz_cons pz_int pz_nil))) (pz_cons (pz_call (ok__law_pool T TX) gA hr tk (pz_cons (pz_var (i := 2) rfl (by first | exact Or.inl rfl | exact Or.inr (Or.inl rfl) | exact Or.inr (Or.inr rfl))) pz_nil)) pz_nil)))
 (pzb_cons (pzs_set (i := 5) sc_law.nd rfl (.inl rfl) (pz_B (cr_reprZ gA hr.units TX.sys) cz_repr T.m_repr (pz_cons (pz_var (i := 3) rfl (by first | exact Or.inl rfl | exact Or.inr (Or.inl rfl) | exact Or.inr (Or.inr rfl))) pz_nil) (by decide +kernel)))
 (pzb_cons (pzs_if (pzt_cmp (op_neZ hr.units) oz_eq (pz_B (cr_reprZ gA hr.units TX.sys) cz_repr T.m_repr (pz_cons (pz_call (ok_table_names T TX) gA hr tk (pz_cons (pz_var (i := 3) rfl (by first | exact Or.inl rfl | exact Or.inr (Or.inl rfl) | exact Or.inr (Or.inr rfl))) pz_nil)) pz_nil) (by decide +kernel)) (pz_B (cr_reprZ gA hr.units TX.sys) cz_repr T.m_repr (pz_cons (pz_BT call_tuple_of cz_tuple T.m_tuple (pz_cons (PZN.z (pzn_lc (own := [("table", 6)]) (g := (gName 6)) (tt := tYes) (by rfl) sc_law.nd (pzi_seq (pz_var (i := 3) rfl (by first | exact Or.inl rfl | exact Or.inr (Or.inl rfl) | exact Or.inr (Or.inr rfl)))) (blkOk_by (own := [("table", 6)]) (N := N_law) (sc := defScope s_law) (by decide +kernel)) (fun _ _ _ _ _ => (pzg_name (i := 6) sc_law.nd rfl (.inl rfl))) (fun _ _ _ _ _ => pzts_nil) (fun _ _ _ _ _ => (pz_ix (pz_var (i := 6) rfl (by first | exact Or.inl rfl | exact Or.inr (Or.inl rfl) | exact Or.inr (Or.inr rfl))) pz_int (fun _ _ => rfl))))) pz_nil) (by decide +kernel)) pz_nil) (by decide +kernel)) (nomark _))
 (pzb_one (pzs_ret pz_bl))
 pzb_nil)
 (pzb_cons (pzs_for hp (by rfl) (pzi_seq (pz_var (i := 3) rfl (by first | exact Or.inl rfl | exact Or.inr (Or.inl rfl) | exact Or.inr (Or.inr rfl)))) (pzg_tup (by rfl) (pzg_cons (pzg_name (i := 7) sc_law.nd rfl (.inl rfl)) (pzg_cons (pzg_name (i := 8) sc_law.nd rfl (.inl rfl)) (pzg_cons (pzg_name (i := 9) sc_law.nd rfl (.inl rfl)) pzg_nil))))
 (pzb_one (pzs_if (pzt_not (pzt_tru (pz_call (ok__law_table_right T TX) gA hr tk (pz_cons (pz_var (i := 2) rfl (by first | exact Or.inl rfl | exact Or.inr (Or.inl rfl) | exact Or.inr (Or.inr rfl))) (pz_cons (pz_var (i := 3) rfl (by first | exact Or.inl rfl | exact Or.inr (Or.inl rfl) | exact Or.inr (Or.inr rfl))) (pz_cons (pz_var (i := 4) rfl (by first | exact Or.inl rfl | exact Or.inr (Or.inl rfl) | exact Or.inr (Or.inr rfl))) (pz_cons (pz_var (i := 7) rfl (by first | exact Or.inl rfl | exact Or.inr (Or.inl rfl) | exact Or.inr (Or.inr rfl))) (pz_cons (pz_var (i := 8) rfl (by first | exact Or.inl rfl | exact Or.inr (Or.inl rfl) | exact Or.inr (Or.inr rfl))) (pz_cons (pz_var (i := 9) rfl (by first | exact Or.inl rfl | exact Or.inr (Or.inl rfl) | exact Or.inr (Or.inr rfl))) pz_nil)))))))))
 (pzb_one (pzs_ret pz_bl))
 pzb_nil)))
 (pzb_cons (pzs_for hp (by rfl) (pzi_rng1 T.m_range (pz_cons pz_int pz_nil)) (pzg_name (i := 10) sc_law.nd rfl (.inl rfl))
 (pzb_cons (pzs_set (i := 6) sc_law.nd rfl (.inl rfl) (pz_call (ok__law_bad_table T TX) gA hr tk (pz_cons (pz_var (i := 2) rfl (by first | exact Or.inl rfl | exact Or.inr (Or.inl rfl) | exact Or.inr (Or.inr rfl))) (pz_cons (pz_var (i := 3) rfl (by first | exact Or.inl rfl | exact Or.inr (Or.inl rfl) | exact Or.inr (Or.inr rfl))) pz_nil))))
 (pzb_cons (pzs_set (i := 11) sc_law.nd rfl (.inl rfl) (pz_call (ok__law_pick T TX) gA hr tk (pz_cons (pz_var (i := 2) rfl (by first | exact Or.inl rfl | exact Or.inr (Or.inl rfl) | exact Or.inr (Or.inr rfl))) (pz_cons (pz_lst (pz_cons pz_non (pz_cons (pz_call (ok__law_record T TX) gA hr tk (pz_cons (pz_var (i := 2) rfl (by first | exact Or.inl rfl | exact Or.inr (Or.inl rfl) | exact Or.inr (Or.inr rfl))) (pz_cons (pz_ix (pz_ix (pz_var (i := 3) rfl (by first | exact Or.inl rfl | exact Or.inr (Or.inl rfl) | exact Or.inr (Or.inr rfl))) pz_int (fun _ _ => rfl)) pz_int (fun _ _ => rfl)) (pz_cons (pz_var (i := 4) rfl (by first | exact Or.inl rfl | exact Or.inr (Or.inl rfl) | exact Or.inr (Or.inr rfl))) pz_nil)))) (pz_cons (pz_tup pz_nil) pz_nil)))) pz_nil))))
 (pzb_one (pzs_if (pzt_cmp (op_neZ hr.units) oz_eq (pz_call (ok__law_error T TX) gA hr tk (pz_cons (pz_var (i := 10) rfl (by first | exact Or.inl rfl | exact Or.inr (Or.inl rfl) | exact Or.inr (Or.inr rfl))) (pz_cons (pz_var (i := 3) rfl (by first | exact Or.inl rfl | exact Or.inr (Or.inl rfl) | exact Or.inr (Or.inr rfl))) (pz_cons (pz_var (i := 6) rfl (by first | exact Or.inl rfl | exact Or.inr (Or.inl rfl) | exact Or.inr (Or.inr rfl))) (pz_cons (pz_var (i := 11) rfl (by first | exact Or.inl rfl | exact Or.inr (Or.inl rfl) | exact Or.inr (Or.inr rfl))) pz_nil))))) (pz_addB pz_str (pz_B (cr_reprZ gA hr.units TX.sys) cz_repr T.m_repr (pz_cons (pz_var (i := 6) rfl (by first | exact Or.inl rfl | exact Or.inr (Or.inl rfl) | exact Or.inr (Or.inr rfl))) pz_nil) (by decide +kernel))) (nomark _))
 (pzb_one (pzs_ret pz_bl))
 pzb_nil)))))
 (pzb_one (pzs_if (pzt_cmp (op_neZ hr.units) oz_eq (pz_B (cr_reprZ gA hr.units TX.sys) cz_repr T.m_repr (pz_cons (pz_var (i := 3) rfl (by first | exact Or.inl rfl | exact Or.inr (Or.inl rfl) | exact Or.inr (Or.inr rfl))) pz_nil) (by decide +kernel)) (pz_var (i := 5) rfl (by first | exact Or.inl rfl | exact Or.inr (Or.inl rfl) | exact Or.inr (Or.inr rfl))) (nomark _))
 (pzb_one (pzs_ret pz_bl))
 pzb_nil)))))))))
 (pzb_one (pzs_ret pz_bl)))⟩)
end
def chkTX (K : PySem.W.Frag) : Bool :=
  okCls K "InvalidRecord" &&
  okCls K "InvalidSchema" &&
  okCls K "RecordsError" &&
  okCls K "UnknownName" &&
  okPlain K "InvalidRecord" &&
  okPlain K "InvalidSchema" &&
  decide (PySem.W.subIn K (.ref (clsAt K "InvalidRecord")) (.type "BaseException") = some true) &&
  decide (PySem.W.subIn K (.ref (clsAt K "InvalidSchema")) (.type "BaseException") = some true) &&
  (excNames.all fun n => decide (PySem.W.exmOne K (.ref (clsAt K n)) (.ref (clsAt K "RecordsError")) = some (isSub excTab n "RecordsError"))) &&
  (excNames.all fun n => decide (PySem.W.exmOne K (.ref (clsAt K n)) (.ref (clsAt K "UnknownName")) = some (isSub excTab n "UnknownName"))) &&
  (excNames.all fun n => decide (PySem.W.findIn K (.ref (clsAt K n)) "name" = some none)) &&
  (excNames.all fun n => decide (PySem.W.kitOne K (.ref (clsAt K n)) (.ref (clsAt K "InvalidRecord")) = some (isSub excTab n "InvalidRecord"))) &&
  (excNames.all fun n => decide (PySem.W.kitOne K (.ref (clsAt K n)) (.ref (clsAt K "InvalidSchema")) = some (isSub excTab n "InvalidSchema"))) &&
  (excNames.all fun n => decide (PySem.W.kitOne K (.ref (clsAt K n)) (.type "KeyError") = some (isSub excTab n "KeyError"))) &&
  (excNames.all fun n => decide (PySem.W.kitOne K (.ref (clsAt K n)) (.ref (clsAt K "RecordsError")) = some (isSub excTab n "RecordsError")))
theorem tx_of {K : PySem.W.Frag} {h : Heap} {mg : Str → Option Value} {base : Heap} (X : K.In h) (G : h.Ns mainGlobals mg) (c : chkTX K = true) (sy : ∃ o, base.get? sysModules = some o) (vG_KINDS : GTup K mg "KINDS" [.str "name", .str "number"]) (vO_UnknownName : OwnZ K mg "UnknownName" "name") : TX K mg base := by
  unfold chkTX at c
  simp only [Bool.and_eq_true, decide_eq_true_eq, List.all_eq_true] at c
  obtain ⟨⟨⟨⟨⟨⟨⟨⟨⟨⟨⟨⟨⟨⟨c1, c2⟩, c3⟩, c4⟩, c5⟩, c6⟩, c7⟩, c8⟩, c9⟩, c10⟩, c11⟩, c12⟩, c13⟩, c14⟩, c15⟩ := c
  have e1 := clsOk_of X G c1
  have e2 := clsOk_of X G c2
  have e3 := clsOk_of X G c3
  have e4 := clsOk_of X G c4
  have xn : ∀ n ∈ excNames, ExcC K (clsAt K n) := by
    intro n hn
    simp only [excNames, List.mem_cons, List.not_mem_nil, or_false] at hn
    rcases hn with rfl | rfl | rfl
    · exact e1.e
    · exact e2.e
    · exact e4.e
  exact { sys := sy, G_KINDS := vG_KINDS, R_InvalidRecord := ⟨e1.g, c5, e1.k, c7, e1.t⟩, R_InvalidSchema := ⟨e2.g, c6, e2.k, c8, e2.t⟩, O_UnknownName := vO_UnknownName, g_InvalidRecord := e1.g, g_InvalidSchema := e2.g, g_RecordsError := e3.g, g_UnknownName := e4.g, X_n := xn, M_RecordsError := c9, M_UnknownName := c10, N_name := c11, I_InvalidRecord := c12, I_InvalidSchema := c13, I_KeyError := c14, I_RecordsError := c15 }
theorem own_n {K : PySem.W.Frag} {h : Heap} {mg : Str → Option Value} {x f qual : Str} {B B2 newId : String} {bmB : List Value} {C fI : Addr} (X : K.In h) (G : h.Ns mainGlobals mg) (E : okCls K x = true) (L : Line B newId bmB) (S : StoreFacts B2 bmB "object.__setattr__" "object")
    (tl : PySem.W.excTail bmB bmB = true) (nm : FName f) {cn q : Str} {N : Addr} {bs : List Value} {sn : List Str} {sub : List Value} {ab : Bool} {col : Option Bool} {dd : Option Addr} {m0 m1 m2 m3 m5 : Option Value} {od1 an1 : Option Addr} {sl1 : Array (Option Value)} {oc1 dc1 pm1 cd1 ct1 : Value} {p1 p2 q1 q2 q3 q4 : Pos}
    (aC : PySem.W.nsIn K mainGlobals x = some (some (.ref C))) (xL : K.lookup C = some (excClassObj cn q C N bs bmB true sn sub ab col dd m0 m1 m2 m3 m5 newId)) (sa : PySem.W.findIn K (.ref C) "__setattr__" = some (some (.builtin "object.__setattr__")))
    (nb : PySem.W.findIn K (.ref C) f = some none) (tk : PySem.W.takerIn K C f = some none) (a1 : PySem.W.findIn K (.ref C) "__init__" = some (some (.ref fI))) (t1 : PySem.W.typeIn K (.ref fI) = some (.type "function"))
    (l1 : K.lookup fI = some ⟨oc1, od1, .func (PySem.W.fnOf "__init__" qual (iA f p1 p2) (iB f q1 q2 q3 q4) (iS f) .none .none dc1 pm1 an1 cd1 ct1), sl1⟩) (c1 : PySem.W.codeIn K cd1 qual = true) : OwnZ K mg x f := by
  have E := clsOk_of X G E
  have e := (PySem.W.mg_of X G aC).symm.trans E.g
  have e2 : C = clsAt K x := Value.ref.inj (Option.some.inj e)
  subst e2
  exact ⟨qual, B, B2, newId, bmB, fI, { gC := E.g, line := L, sto := S, cls := ⟨cn, q, N, bs, sn, sub, ab, col, dd, m0, m1, m2, m3, m5, xL⟩, sa := sa, noN := nb, tk := tk, iC := a1, tI := t1, kC := E.k, tyC := E.t, ec := E.e, fn := ⟨oc1, od1, dc1, pm1, an1, cd1, ct1, sl1, p1, p2, q1, q2, q3, q4, l1, c1⟩, tail := tl, nm := nm }⟩
theorem gt_KINDS {K : PySem.W.Frag} {h : Heap} {mg : Str → Option Value} {p : Addr} {dd : Option Addr} {sl : Array (Option Value)} {n : Nat} {u0 u1 : Nat} (X : K.In h) (G : h.Ns mainGlobals mg) (aK : PySem.W.nsIn K mainGlobals "KINDS" = some (some (.ref p)))
    (lK : K.lookup p = some ⟨.type "tuple", dd, .seq #[.str "name" u0, .str "number" u1] n, sl⟩) : GTup K mg "KINDS" [.str "name", .str "number"] :=
  ⟨p, PySem.W.mg_of X G aK, fun H => .tup (xs := [.str "name", .str "number"]) (.inr ⟨_, _, _, lK, rfl, rfl, (show 2 ≤ sizeLine by decide), .cons (a := V.str "name") ⟨u0, rfl⟩ (.cons (a := V.str "number") ⟨u1, rfl⟩ (.nil))⟩) (.cons (.str _) (.cons (.str _) (.nil)))⟩
/-- what walkS asks for, from the text's facts -/
theorem law_endS {P : Program} {w : World} {K : PySem.W.Frag} {mg : Str → Option Value} {fa : Addr} (hmg : mg "law" = some (.ref fa)) (T : Txt K mg) (X : ∀ base : Heap, K.In base → base.Ns mainGlobals mg → (∃ o, base.get? sysModules = some o) → TX K mg base) :
    ∃ fd : FuncData, (∀ (s : Shared) (u : Value), BindsTo s fd ⟨[u], []⟩ [("script", u)]) ∧ ∀ base : Heap, K.In base → base.Ns mainGlobals mg → (∃ o, base.get? sysModules = some o) → FnG P w K mg base (L2.CX P w) 18 fa fd ["script"] (spZ K 1 w_law) := by
  have e := T.g_law.symm.trans hmg
  have e2 : T.a_law = fa := Value.ref.inj (Option.some.inj e)
  rw [← e2]
  refine ⟨T.f_law, fun s u => ?_, fun base hb hns hs => fn_law T (X base hb hns hs)⟩
  obtain ⟨oc, od, kV, doc, pm, an, cdv, ct, osl, ef, lk, hcd⟩ := T.F_law.ex
  rw [ef]
  exact .of_eq rfl
theorem finTX {P : Program} {w : World} {K : PySem.W.Frag} {h : Heap} {mg : Str → Option Value} {fa : Addr} (X : K.In h) (G : h.Ns mainGlobals mg) (hmg : mg "law" = some (.ref fa)) (c : chkTX K = true) (vG_KINDS : GTup K mg "KINDS" [.str "name", .str "number"]) (vO_UnknownName : OwnZ K mg "UnknownName" "name") (N : Nonempty (Txt K mg)) :
    ∃ fd : FuncData, (∀ (s : Shared) (u : Value), BindsTo s fd ⟨[u], []⟩ [("script", u)]) ∧ ∀ base : Heap, K.In base → base.Ns mainGlobals mg → (∃ o, base.get? sysModules = some o) → FnG P w K mg base (L2.CX P w) 18 fa fd ["script"] (spZ K 1 w_law) := by
  obtain ⟨T⟩ := N
  exact law_endS hmg T fun base hb hns hs => tx_of hb hns c hs vG_KINDS vO_UnknownName
theorem no_CX {P : Program} {w : World} {H : Hp} {s : Shared} {e : Value} {s' : Shared} (h : L2.CX P w [] H s (fun _ _ _ => False) e s') : False := by
  obtain ⟨_, _, _, _, _, _, _, _, _, _, _, _, f⟩ := h
  exact f
end Zl
end
end
section
open PySem PySem.W PyProof.Rows PySem.HandSPX
set_option maxHeartbeats 0 in
theorem PySem.Challenge.cw_rightrecord_k02_whole_records_and_keys_holds : PySem.Challenge.rw_rightrecord_k02_whole_records_and_keys.Holds := by
  w_on; o_law; k_head; (case hw => w_witness2)
  k_fill
  refine L2.walkS (l := PySem.Challenge.rw_rightrecord_k02_whole_records_and_keys) (k := 18) (x := "script") (CX := fun w => L2.CX PySem.Challenge.rw_rightrecord_k02_whole_records_and_keys.prog w) (sp := fun w => Zl.spZ _ 1 Zl.w_law) rfl (by decide) rfl ⟨rfl, by decide, by decide⟩ (by decide +kernel) (fun w h Y => PySem.W.kIn_of Y) ?F (fun _ _ a ns hl _ hS => Zl.law_sp (Nat.le_trans hl (by decide)) hS) (fun _ _ _ _ _ h => Zl.no_CX h)
  case F =>
    intro w mg fa h KX G hmg
    refine' Zl.finTX KX G hmg ?w7c ?w7G_KINDS ?w7O_UnknownName ?w7N
    case w7c => kernel_rfl
    case w7G_KINDS =>
      refine' Zl.gt_KINDS KX G ?w7aKINDS ?w7lKINDS
      (case w7aKINDS => k_is); (case w7lKINDS => k_is)
    case w7O_UnknownName =>
      refine' Zl.own_n KX G ?w7UnknownNameoc PySem.HandSPX.line_key PySem.HandSPX.keyStore (by decide +kernel) PySem.Kx.fName ?w7UnknownNameaC ?w7UnknownNamexL ?w7UnknownNamesa ?w7UnknownNamenb ?w7UnknownNametk ?w7UnknownNamea1 ?w7UnknownNamet1 ?w7UnknownNamel1 ?w7UnknownNamec1
      (case w7UnknownNameoc => kernel_rfl); (case w7UnknownNameaC => k_is); (case w7UnknownNamexL => k_is); (case w7UnknownNamesa => k_is); (case w7UnknownNamenb => k_is); (case w7UnknownNametk => k_is); (case w7UnknownNamea1 => k_is); (case w7UnknownNamet1 => k_is); (case w7UnknownNamel1 => k_is); (case w7UnknownNamec1 => k_is)
    case w7N =>
      refine' Kb.all_mk KX G ?w7a0 ?w7l0 ?w7c0 ?w7k0 ?w7a1 ?w7l1 ?w7c1 ?w7k1 ?w7a2 ?w7l2 ?w7c2 ?w7k2 ?w7a3 ?w7l3 ?w7c3 ?w7k3 ?w7a4 ?w7l4 ?w7c4 ?w7k4 ?w7a5 ?w7l5 ?w7c5 ?w7k5 ?w7a6 ?w7l6 ?w7c6 ?w7k6 ?w7a7 ?w7l7 ?w7c7 ?w7k7 ?w7a8 ?w7l8 ?w7c8 ?w7k8 ?w7a9 ?w7l9 ?w7c9 ?w7k9 ?w7a10 ?w7l10 ?w7c10 ?w7k10 ?w7a11 ?w7l11 ?w7c11 ?w7k11 ?w7a12 ?w7l12 ?w7c12 ?w7k12 ?w7a13 ?w7l13 ?w7c13 ?w7k13 ?w7a14 ?w7l14 ?w7c14 ?w7k14 ?w7a15 ?w7l15 ?w7c15 ?w7k15 ?w7a16 ?w7l16 ?w7c16 ?w7k16 ?w7a17 ?w7l17 ?w7c17 ?w7k17 ?w7a18 ?w7l18 ?w7c18 ?w7k18 ?w7a19 ?w7l19 ?w7c19 ?w7k19 ?w7a20 ?w7l20 ?w7c20 ?w7k20 ?w7a21 ?w7l21 ?w7c21 ?w7k21 ?w7a22 ?w7l22 ?w7c22 ?w7k22 ?w7a23 ?w7l23 ?w7c23 ?w7k23 ?w7a24 ?w7l24 ?w7c24 ?w7k24 ?w7a25 ?w7l25 ?w7c25 ?w7k25 ?w7a26 ?w7l26 ?w7c26 ?w7k26 ?w7a27 ?w7l27 ?w7c27 ?w7k27 ?w7a28 ?w7l28 ?w7c28 ?w7k28 ?w7a29 ?w7l29 ?w7c29 ?w7k29 ?w7a30 ?w7l30 ?w7c30 ?w7k30 ?w7a31 ?w7l31 ?w7c31 ?w7k31 ?w7a32 ?w7l32 ?w7c32 ?w7k32 ?w7a33 ?w7l33 ?w7c33 ?w7k33 ?w7a34 ?w7l34 ?w7c34 ?w7k34 ?w7a35 ?w7l35 ?w7c35 ?w7k35 ?w7a36 ?w7l36 ?w7c36 ?w7k36 ?w7z_KeyError ?w7z_abs ?w7z_all ?w7z_bool ?w7z_int ?w7z_isinstance ?w7z_len ?w7z_list ?w7z_max ?w7z_min ?w7z_range ?w7z_repr ?w7z_sorted ?w7z_str ?w7z_tuple ?w7z_type ?w7z_zip ?w7y_MAX_COLUMNS ?w7y_MAX_NAME ?w7y_MAX_NUMBER ?w7y_MAX_TABLES
      (case w7a0 => k_is); (case w7l0 => k_is); (case w7c0 => k_is); (case w7k0 => k_is); (case w7a1 => k_is); (case w7l1 => k_is)
      (case w7c1 => k_is); (case w7k1 => k_is); (case w7a2 => k_is); (case w7l2 => k_is); (case w7c2 => k_is); (case w7k2 => k_is)
      (case w7a3 => k_is); (case w7l3 => k_is); (case w7c3 => k_is); (case w7k3 => k_is); (case w7a4 => k_is); (case w7l4 => k_is)
      (case w7c4 => k_is); (case w7k4 => k_is); (case w7a5 => k_is); (case w7l5 => k_is); (case w7c5 => k_is); (case w7k5 => k_is)
      (case w7a6 => k_is); (case w7l6 => k_is); (case w7c6 => k_is); (case w7k6 => k_is); (case w7a7 => k_is); (case w7l7 => k_is)
      (case w7c7 => k_is); (case w7k7 => k_is); (case w7a8 => k_is); (case w7l8 => k_is); (case w7c8 => k_is); (case w7k8 => k_is)
      (case w7a9 => k_is); (case w7l9 => k_is); (case w7c9 => k_is); (case w7k9 => k_is); (case w7a10 => k_is); (case w7l10 => k_is)
      (case w7c10 => k_is); (case w7k10 => k_is); (case w7a11 => k_is); (case w7l11 => k_is); (case w7c11 => k_is); (case w7k11 => k_is)
      (case w7a12 => k_is); (case w7l12 => k_is); (case w7c12 => k_is); (case w7k12 => k_is); (case w7a13 => k_is); (case w7l13 => k_is)
      (case w7c13 => k_is); (case w7k13 => k_is); (case w7a14 => k_is); (case w7l14 => k_is); (case w7c14 => k_is); (case w7k14 => k_is)
      (case w7a15 => k_is); (case w7l15 => k_is); (case w7c15 => k_is); (case w7k15 => k_is); (case w7a16 => k_is); (case w7l16 => k_is)
      (case w7c16 => k_is); (case w7k16 => k_is); (case w7a17 => k_is); (case w7l17 => k_is); (case w7c17 => k_is); (case w7k17 => k_is)
      (case w7a18 => k_is); (case w7l18 => k_is); (case w7c18 => k_is); (case w7k18 => k_is); (case w7a19 => k_is); (case w7l19 => k_is)
      (case w7c19 => k_is); (case w7k19 => k_is); (case w7a20 => k_is); (case w7l20 => k_is); (case w7c20 => k_is); (case w7k20 => k_is)
      (case w7a21 => k_is); (case w7l21 => k_is); (case w7c21 => k_is); (case w7k21 => k_is); (case w7a22 => k_is); (case w7l22 => k_is)
      (case w7c22 => k_is); (case w7k22 => k_is); (case w7a23 => k_is); (case w7l23 => k_is); (case w7c23 => k_is); (case w7k23 => k_is)
      (case w7a24 => k_is); (case w7l24 => k_is); (case w7c24 => k_is); (case w7k24 => k_is); (case w7a25 => k_is); (case w7l25 => k_is)
      (case w7c25 => k_is); (case w7k25 => k_is); (case w7a26 => k_is); (case w7l26 => k_is); (case w7c26 => k_is); (case w7k26 => k_is)
      (case w7a27 => k_is); (case w7l27 => k_is); (case w7c27 => k_is); (case w7k27 => k_is); (case w7a28 => k_is); (case w7l28 => k_is)
      (case w7c28 => k_is); (case w7k28 => k_is); (case w7a29 => k_is); (case w7l29 => k_is); (case w7c29 => k_is); (case w7k29 => k_is)
      (case w7a30 => k_is); (case w7l30 => k_is); (case w7c30 => k_is); (case w7k30 => k_is); (case w7a31 => k_is); (case w7l31 => k_is)
      (case w7c31 => k_is); (case w7k31 => k_is); (case w7a32 => k_is); (case w7l32 => k_is); (case w7c32 => k_is); (case w7k32 => k_is)
      (case w7a33 => k_is); (case w7l33 => k_is); (case w7c33 => k_is); (case w7k33 => k_is); (case w7a34 => k_is); (case w7l34 => k_is)
      (case w7c34 => k_is); (case w7k34 => k_is); (case w7a35 => k_is); (case w7l35 => k_is); (case w7c35 => k_is); (case w7k35 => k_is)
      (case w7a36 => k_is); (case w7l36 => k_is); (case w7c36 => k_is); (case w7k36 => k_is); (case w7z_KeyError => k_is); (case w7z_abs => k_is)
      (case w7z_all => k_is); (case w7z_bool => k_is); (case w7z_int => k_is); (case w7z_isinstance => k_is); (case w7z_len => k_is); (case w7z_list => k_is)
      (case w7z_max => k_is); (case w7z_min => k_is); (case w7z_range => k_is); (case w7z_repr => k_is); (case w7z_sorted => k_is); (case w7z_str => k_is)
      (case w7z_tuple => k_is); (case w7z_type => k_is); (case w7z_zip => k_is); (case w7y_MAX_COLUMNS => k_is); (case w7y_MAX_NAME => k_is); (case w7y_MAX_NUMBER => k_is)
      (case w7y_MAX_TABLES => k_is)
end
