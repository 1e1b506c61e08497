import PyProof.Rows.All
import Wide.All
import OpenK.AllK
import Wide.FinOn
import PySem.Challenge.RW_rightrecord_k00_errors
import HandS.ForMost
import HandS.ForExc
import HandS.Wide
import HandS.Codes
import HandS.StrMore
import HandS.TryMany
import HandS.ExcValue
import HandS.ExcIs
import HandS.IsInst
import HandS.Sort
import HandS.Conv
import HandS.TupAny
import KE.KExcInit
import HandS.ExcInit
import HandS.SetFor
import HandS.Style
import PyProof.ReprLen
import HandS.RaiseMore
set_option Elab.async false
set_option linter.all false
set_option maxRecDepth 100000
set_option maxHeartbeats 4000000
section
namespace Kb
open PySem PySem.Spec PyProof.Rows L2
open C8 (pss_cut)
/-! ### a stream of draws -/
/-- the stream's list stands at a -/
def StOk (H : Hp) (a : Addr) : Prop := ∃ g m c : Int, H a = some (.lst [.int g, .int m, .int c])
/-- all but the stream's list is as it was; the list is a stream's still -/
def Ev (a : Addr) (H H' : Hp) : Prop := (∀ b o, b ≠ a → H b = some o → H' b = some o) ∧ StOk H' a
theorem Ev.rfl' {a : Addr} {H : Hp} (h : StOk H a) : Ev a H H := ⟨fun _ _ _ e => e, h⟩
theorem Ev.trans {a : Addr} {H H1 H2 : Hp} (x : Ev a H H1) (y : Ev a H1 H2) : Ev a H H2 := ⟨fun b o n e => y.1 b o n (x.1 b o n e), y.2⟩
theorem Ev.put {a : Addr} {H : Hp} {g m c : Int} : Ev a H (upd H a (.lst [.int g, .int m, .int c])) := ⟨fun b o n e => by rw [upd_ne n]; exact e, g, m, c, upd_same⟩
theorem StOk.new {a p : Addr} {H : Hp} {o : HO} (h : StOk H a) (np : H p = none) : StOk (upd H p o) a := by
  obtain ⟨g, m, c, e⟩ := h
  exact ⟨g, m, c, by rw [upd_ne (ne_of_none e np)]; exact e⟩
theorem Ev.new {a p : Addr} {H : Hp} {o : HO} (h : StOk H a) (np : H p = none) : Ev a H (upd H p o) := ⟨fun b u n e => by rw [upd_ne (ne_of_none e np)]; exact e, h.new np⟩
theorem StOk.ne {a p : Addr} {H : Hp} (h : StOk H a) (np : H p = none) : p ≠ a := by
  obtain ⟨g, m, c, e⟩ := h
  exact (ne_of_none e np).symm
/-! ### numbers -/
def CPowW (i j : Int) : Prop := 0 ≤ j ∧ (Builtin.Int.intBits i : Int) * j ≤ 2 ^ 27
section
variable {X : Cx}
theorem op_powW : OpR X (binaryOp .Pow) (rI CPowW fun i j => .int (i ^ j.toNat)) := opI fun _ _ _ _ _ _ _ hc q => pow_int hc.1 hc.2 q
end
theorem pow_bits : (Builtin.Int.intBits (10 ^ 60) : Int) * 12 ≤ 2 ^ 27 := by decide +kernel
theorem pow_one : (Builtin.Int.intBits 10 : Int) * 60 ≤ 2 ^ 27 := by decide +kernel
theorem pow_two : (Builtin.Int.intBits 10 : Int) * 18 ≤ 2 ^ 27 := by decide +kernel
theorem pow_three : (Builtin.Int.intBits 10 : Int) * 9 ≤ 2 ^ 27 := by decide +kernel
theorem modk {j : Int} (h : 0 < j) : 0 < j := h
theorem divk {i j : Int} (h : 0 < j) (h2 : j.natAbs.log2 < 9000) : CDivW i j := ⟨h, h2⟩
theorem atI_of {ns : List V} {k : Int} {v : V} (h0 : 0 ≤ k) (h : ns[k.toNat]? = some v) : atI ns k = some v := by
  obtain ⟨j, e⟩ : ∃ j : Nat, k = (j : Int) := ⟨k.toNat, by omega⟩
  subst e
  exact atI_nat h
end Kb
end
section
namespace Kb
open PySem PySem.Spec PyProof.Rows L2
/-! ### words -/
/-- the twenty-six signs from b on -/
def abc (b : Nat) : Str := ⟨((List.range 26).map (b + ·)).toArray⟩
def longOf (b : Nat) : Nat := if b = 97 then 8 else 4
/-- a word of such signs, by its codes -/
def WordC (b n : Nat) (l : List Nat) : Prop := 1 ≤ l.length ∧ l.length ≤ n ∧ ∀ c ∈ l, b ≤ c ∧ c < b + 26
def WordB (b n : Nat) (x : Str) : Prop := WordC b n x.cps.toList
theorem str_len (x : Str) : x.length = x.cps.toList.length := by
  show x.cps.size = _
  simp
theorem str_ext {x y : Str} (h : x.cps.toList = y.cps.toList) : x = y := by
  obtain ⟨a⟩ := x
  obtain ⟨b⟩ := y
  congr 1
  exact Array.ext' h
theorem abc_get {b : Nat} {k : Nat} (h : k < 26) : (abc b).cps.toList[k]? = some (b + k) := by
  unfold abc
  simp [h]
theorem abc_len {b : Nat} : (abc b).length = 26 := by
  show ((List.range 26).map (b + ·)).toArray.size = 26
  simp
theorem abc_cps_len {b : Nat} : (abc b).cps.toList.length = 26 := by
  rw [← str_len]; exact abc_len
theorem idx97 : ∀ k : _root_.Fin 26, Txt.index0 (abc 97) ⟨#[97 + k.val]⟩ = some k.val := by decide +kernel
theorem idx65 : ∀ k : _root_.Fin 26, Txt.index0 (abc 65) ⟨#[65 + k.val]⟩ = some k.val := by decide +kernel
theorem idx_abc {b k : Nat} (hb : b = 97 ∨ b = 65) (h : k < 26) : Txt.index0 (abc b) ⟨#[b + k]⟩ = some k := by
  rcases hb with rfl | rfl
  · exact idx97 ⟨k, h⟩
  · exact idx65 ⟨k, h⟩
theorem cat_cps (x y : Str) : (x ++ y).cps.toList = x.cps.toList ++ y.cps.toList := by
  show (x.cps ++ y.cps).toList = _
  simp
theorem cat_len (x y : Str) : (x ++ y).length = x.length + y.length := by
  rw [str_len, str_len, str_len, cat_cps, List.length_append]
/-- the first sign goes round -/
def rot (b : Nat) (l : List Nat) (j : Nat) : List Nat := match l with
  | [] => []
  | c :: r => (b + (c - b + j) % 26) :: r
theorem rot_word {b n j : Nat} {l : List Nat} (h : WordC b n l) : WordC b n (rot b l j) := by
  cases l with
  | nil => exact h
  | cons c r =>
    obtain ⟨h1, h2, h3⟩ := h
    refine ⟨h1, h2, fun d hd => ?_⟩
    rcases List.mem_cons.mp hd with e | hd
    · have := Nat.mod_lt (c - b + j) (show 0 < 26 by decide)
      omega
    · exact h3 d (List.mem_cons_of_mem _ hd)
theorem rot_zero {b n : Nat} {l : List Nat} (h : WordC b n l) : rot b l 0 = l := by
  cases l with
  | nil => rfl
  | cons c r =>
    have h3 := h.2.2 c List.mem_cons_self
    show (b + (c - b + 0) % 26) :: r = c :: r
    rw [Nat.mod_eq_of_lt (by omega), show b + (c - b + 0) = c by omega]
theorem rot_inj {b n i j : Nat} {l : List Nat} (h : WordC b n l) (hi : i < 26) (hj : j < 26) (e : rot b l i = rot b l j) : i = j := by
  cases l with
  | nil => exact absurd h.1 (by decide)
  | cons c r =>
    have h3 := h.2.2 c List.mem_cons_self
    have e1 : b + (c - b + i) % 26 = b + (c - b + j) % 26 := (List.cons.inj e).1
    omega
theorem nodup_le {α : Type} [DecidableEq α] : ∀ {l m : List α}, l.Nodup → (∀ x ∈ l, x ∈ m) → l.length ≤ m.length
  | [], _, _, _ => Nat.zero_le _
  | a :: l, m, nd, h => by
    have hm : a ∈ m := h a List.mem_cons_self
    have nd' := List.nodup_cons.mp nd
    have := nodup_le (l := l) (m := m.erase a) nd'.2 fun x hx => by
      have hxa : x ≠ a := fun e => nd'.1 (e ▸ hx)
      exact (List.mem_erase_of_ne hxa).mpr (h x (List.mem_cons_of_mem _ hx))
    rw [List.length_erase_of_mem hm] at this
    have pos : 0 < m.length := List.length_pos_of_mem hm
    rw [List.length_cons]
    omega
/-- a word that goes round as often as there are words more than one meets a place that is free -/
theorem rot_free {b n t : Nat} {l : List Nat} {xs : List Str} (h : WordC b n l) (ht : t ≤ 26) (hx : xs.length < t) (all : ∀ i, i < t → (⟨(rot b l i).toArray⟩ : Str) ∈ xs) : False := by
  have nd : ((List.range t).map fun i => (⟨(rot b l i).toArray⟩ : Str)).Nodup := by
    refine List.pairwise_map.mpr ?_
    refine (List.pairwise_lt_range (n := t)).imp_of_mem ?_
    intro i j hi hj hij e
    have e1 : rot b l i = rot b l j := by
      have e2 : (rot b l i).toArray = (rot b l j).toArray := Str.mk.inj e
      simpa using e2
    have := rot_inj h (by have := List.mem_range.mp hi; omega) (by have := List.mem_range.mp hj; omega) e1
    omega
  have := nodup_le nd (m := xs) fun x hx => by
    obtain ⟨i, hi, rfl⟩ := List.mem_map.mp hx
    exact all i (List.mem_range.mp hi)
  rw [List.length_map, List.length_range] at this
  omega
/-! ### lists of texts in the heap -/
theorem flat_strs (xs : List Str) : (xs.map V.str).all flatV = true := by
  rw [List.all_map]
  exact List.all_eq_true.mpr fun _ _ => rfl
theorem inV_strs (x : Str) (xs : List Str) : inV (.str x) (xs.map V.str) = decide (x ∈ xs) := by
  unfold inV
  rw [List.any_map]
  induction xs with
  | nil => rfl
  | cons y r ih =>
    rw [List.any_cons, ih]
    have e : (eqV · (.str x)) (V.str y) = decide (y = x) := by
      show (y == x) = decide (y = x)
      exact Bool.beq_eq_decide_eq y x
    show ((eqV · (.str x)) (V.str y) || _) = _
    rw [e, ← Bool.decide_or]
    refine decide_eq_decide.mpr ?_
    rw [List.mem_cons]
    exact or_congr_left eq_comm
theorem dpAll_strs {K : PySem.W.Frag} {H : Hp} : ∀ xs : List Str, DpAll K H (xs.map V.str) (xs.map PyData.str)
  | [] => .nil
  | x :: xs => .cons (.str x) (dpAll_strs xs)
/-- all signs of a text are signs -/
def Signs (x : Str) : Prop := PyData.strOk x = true
theorem signs_of {x : Str} (h : ∀ c ∈ x.cps.toList, c < 1114112) : Signs x := by
  unfold Signs PyData.strOk
  rw [← Array.all_toList]
  exact List.all_eq_true.mpr fun c hc => decide_eq_true (h c hc)
theorem WordB.signs {b n : Nat} {x : Str} (h : WordB b n x) (hb : b ≤ 97) : Signs x := signs_of fun c hc => by
  have := h.2.2 c hc
  omega
theorem canLay_strs : ∀ {xs : List Str}, (∀ x ∈ xs, Signs x) → PyData.canLayAll0 (xs.map PyData.str) = true
  | [], _ => by simp [PyData.canLayAll0]
  | x :: xs, h => by
    have h1 : PyData.strOk x = true := h x List.mem_cons_self
    have h2 := canLay_strs (xs := xs) fun y hy => h y (List.mem_cons_of_mem _ hy)
    simp only [List.map_cons, PyData.canLayAll0, PyData.canLay0, h1, h2, Bool.and_self]
theorem depth_strs : ∀ xs : List Str, PyData.depthAll (xs.map PyData.str) ≤ 1
  | [] => by simp [PyData.depthAll]
  | x :: xs => by
    have := depth_strs xs
    simp only [List.map_cons, PyData.depthAll, PyData.depth]
    omega
theorem shaped_strs {xs : List Str} (h : ∀ x ∈ xs, Signs x) : SeqAt.shaped (.list (xs.map PyData.str)) = true := by
  have h1 := depth_strs xs
  have h2 : PyData.depth (.list (xs.map PyData.str)) ≤ 64 := by
    show PyData.depth (PyData.list (xs.map PyData.str)) ≤ 64
    simp only [PyData.depth]
    omega
  unfold SeqAt.shaped
  rw [decide_eq_true h2, Bool.and_true]
  simp only [PyData.canLay0]
  exact canLay_strs h
theorem shaped_empty : SeqAt.shaped (.list []) = true := by decide +kernel
theorem eqv_nil (xs : List PyData) : PyData.eqv (.list xs) (.list []) = xs.isEmpty := by
  cases xs <;> simp [PyData.eqv, PyData.eqvAll]
theorem cut_to (z : Str) (n : Nat) : (cutS z none (some (n : Int))).cps.toList = z.cps.toList.take n := by
  unfold cutS
  rw [HT.sIx_none, HT.sIx_nat]
  simp only [List.drop_zero, Nat.sub_zero]
  rw [str_len]
  by_cases h : n ≤ z.cps.toList.length
  · rw [Nat.min_eq_left h]
  · rw [Nat.min_eq_right (by omega), List.take_of_length_le (Nat.le_refl _), List.take_of_length_le (show z.cps.toList.length ≤ n by omega)]
theorem cut_from (z : Str) (n : Nat) : (cutS z (some (n : Int)) none).cps.toList = z.cps.toList.drop n := by
  unfold cutS
  rw [HT.sIx_none, HT.sIx_nat]
  show ((z.cps.toList.drop _).take _) = _
  rw [str_len]
  by_cases h : n ≤ z.cps.toList.length
  · rw [Nat.min_eq_left h, List.take_of_length_le (by rw [List.length_drop]; omega)]
  · rw [Nat.min_eq_right (by omega), List.drop_of_length_le (Nat.le_refl _), List.drop_of_length_le (by omega), List.take_nil]
theorem cut_one (z : Str) : (cutS z (some 1) none).cps.toList = z.cps.toList.drop 1 := cut_from z 1
theorem word_head {b n : Nat} {l : List Nat} (h : WordC b n l) : ∃ k r, k < 26 ∧ l = (b + k) :: r := by
  cases l with
  | nil => exact absurd h.1 (by decide)
  | cons c r =>
    have h3 := h.2.2 c List.mem_cons_self
    exact ⟨c - b, r, by omega, by rw [show b + (c - b) = c by omega]⟩
end Kb
end
section
namespace Kb
open PySem PySem.Spec PyProof.Rows L2
open C8 (pss_cut)
def topS (i : Nat) : Stmt := PySem.Challenge.pw_rightrecord_k00_errors.main.body.getD i (.Pass ⟨0, 0, 0, 0⟩)
abbrev s__law_stream : Stmt := topS 26
abbrev N__law_stream : List Str := ["script", "at", "cell", "great", "mixed"]
theorem sc__law_stream : FnScope N__law_stream ["script", "at"] (defScope s__law_stream) := ⟨rfl, rfl, rfl, by decide +kernel, rfl, by decide +kernel, by decide +kernel⟩
abbrev s__law_draw : Stmt := topS 27
abbrev N__law_draw : List Str := ["stream", "total", "found", "one", "two"]
theorem sc__law_draw : FnScope N__law_draw ["stream", "total"] (defScope s__law_draw) := ⟨rfl, rfl, rfl, by decide +kernel, rfl, by decide +kernel, by decide +kernel⟩
abbrev s__law_words : Stmt := topS 28
abbrev N__law_words : List Str := ["stream", "total", "letters", "found", "longest", "at", "word", "turn"]
theorem sc__law_words : FnScope N__law_words ["stream", "total", "letters"] (defScope s__law_words) := ⟨rfl, rfl, rfl, by decide +kernel, rfl, by decide +kernel, by decide +kernel⟩
abbrev s__law_names : Stmt := topS 29
abbrev N__law_names : List Str := ["stream", "total"]
theorem sc__law_names : FnScope N__law_names ["stream", "total"] (defScope s__law_names) := ⟨rfl, rfl, rfl, by decide +kernel, rfl, by decide +kernel, by decide +kernel⟩
abbrev s__law_marks : Stmt := topS 30
abbrev N__law_marks : List Str := ["error", "found"]
theorem sc__law_marks : FnScope N__law_marks ["error"] (defScope s__law_marks) := ⟨rfl, rfl, rfl, by decide +kernel, rfl, by decide +kernel, by decide +kernel⟩
abbrev s__law_with_message : Stmt := topS 31
abbrev N__law_with_message : List Str := ["text", "found"]
theorem sc__law_with_message : FnScope N__law_with_message ["text"] (defScope s__law_with_message) := ⟨rfl, rfl, rfl, by decide +kernel, rfl, by decide +kernel, by decide +kernel⟩
abbrev s__law_with_value : Stmt := topS 32
abbrev N__law_with_value : List Str := ["value", "group", "limit", "cycle", "one", "two", "three", "four", "five", "found"]
theorem sc__law_with_value : FnScope N__law_with_value ["value", "group", "limit", "cycle"] (defScope s__law_with_value) := ⟨rfl, rfl, rfl, by decide +kernel, rfl, by decide +kernel, by decide +kernel⟩
abbrev s__law_others : Stmt := topS 33
abbrev N__law_others : List Str := ["error", "some"]
theorem sc__law_others : FnScope N__law_others ["error"] (defScope s__law_others) := ⟨rfl, rfl, rfl, by decide +kernel, rfl, by decide +kernel, by decide +kernel⟩
abbrev s__law_caught : Stmt := topS 34
abbrev N__law_caught : List Str := ["way", "text"]
theorem sc__law_caught : FnScope N__law_caught ["way", "text"] (defScope s__law_caught) := ⟨rfl, rfl, rfl, by decide +kernel, rfl, by decide +kernel, by decide +kernel⟩
abbrev s_law : Stmt := topS 35
abbrev N_law : List Str := ["script", "k", "stream", "text", "value", "at", "error", "group", "limit", "cycle", "due", "kept", "right", "way", "number"]
theorem sc_law : FnScope N_law ["script"] (defScope s_law) := ⟨rfl, rfl, rfl, by decide +kernel, rfl, by decide +kernel, by decide +kernel⟩
structure Txt (K : PySem.W.Frag) (mg : Str → Option Value) where
  a__law_stream : Addr
  f__law_stream : FuncData
  F__law_stream : L2.Fun K "_law_stream" "_law_stream" s__law_stream a__law_stream f__law_stream
  g__law_stream : mg "_law_stream" = some (.ref a__law_stream)
  b__law_stream : Binds K f__law_stream ["script", "at"] []
  a__law_draw : Addr
  f__law_draw : FuncData
  F__law_draw : L2.Fun K "_law_draw" "_law_draw" s__law_draw a__law_draw f__law_draw
  g__law_draw : mg "_law_draw" = some (.ref a__law_draw)
  b__law_draw : Binds K f__law_draw ["stream", "total"] []
  a__law_words : Addr
  f__law_words : FuncData
  F__law_words : L2.Fun K "_law_words" "_law_words" s__law_words a__law_words f__law_words
  g__law_words : mg "_law_words" = some (.ref a__law_words)
  b__law_words : Binds K f__law_words ["stream", "total", "letters"] []
  a__law_names : Addr
  f__law_names : FuncData
  F__law_names : L2.Fun K "_law_names" "_law_names" s__law_names a__law_names f__law_names
  g__law_names : mg "_law_names" = some (.ref a__law_names)
  b__law_names : Binds K f__law_names ["stream", "total"] []
  a__law_marks : Addr
  f__law_marks : FuncData
  F__law_marks : L2.Fun K "_law_marks" "_law_marks" s__law_marks a__law_marks f__law_marks
  g__law_marks : mg "_law_marks" = some (.ref a__law_marks)
  b__law_marks : Binds K f__law_marks ["error"] []
  a__law_with_message : Addr
  f__law_with_message : FuncData
  F__law_with_message : L2.Fun K "_law_with_message" "_law_with_message" s__law_with_message a__law_with_message f__law_with_message
  g__law_with_message : mg "_law_with_message" = some (.ref a__law_with_message)
  b__law_with_message : Binds K f__law_with_message ["text"] []
  a__law_with_value : Addr
  f__law_with_value : FuncData
  F__law_with_value : L2.Fun K "_law_with_value" "_law_with_value" s__law_with_value a__law_with_value f__law_with_value
  g__law_with_value : mg "_law_with_value" = some (.ref a__law_with_value)
  b__law_with_value : Binds K f__law_with_value ["value", "group", "limit", "cycle"] []
  a__law_others : Addr
  f__law_others : FuncData
  F__law_others : L2.Fun K "_law_others" "_law_others" s__law_others a__law_others f__law_others
  g__law_others : mg "_law_others" = some (.ref a__law_others)
  b__law_others : Binds K f__law_others ["error"] []
  a__law_caught : Addr
  f__law_caught : FuncData
  F__law_caught : L2.Fun K "_law_caught" "_law_caught" s__law_caught a__law_caught f__law_caught
  g__law_caught : mg "_law_caught" = some (.ref a__law_caught)
  b__law_caught : Binds K f__law_caught ["way", "text"] []
  a_law : Addr
  f_law : FuncData
  F_law : L2.Fun K "law" "law" s_law a_law f_law
  g_law : mg "law" = some (.ref a_law)
  b_law : Binds K f_law ["script"] []
  m_IndexError : mg "IndexError" = none
  m_KeyError : mg "KeyError" = none
  m_LookupError : mg "LookupError" = none
  m_OverflowError : mg "OverflowError" = none
  m_RuntimeError : mg "RuntimeError" = none
  m_ValueError : mg "ValueError" = none
  m_abs : mg "abs" = none
  m_enumerate : mg "enumerate" = none
  m_int : mg "int" = none
  m_isinstance : mg "isinstance" = none
  m_len : mg "len" = none
  m_max : mg "max" = none
  m_min : mg "min" = none
  m_range : mg "range" = none
  m_repr : mg "repr" = none
theorem all_mk {K : PySem.W.Frag} {h : Heap} {mg : Str → Option Value} (X : K.In h) (G : h.Ns mainGlobals mg)
    {f0 : Addr} {od0 an0 : Option Addr} {sl0 : Array (Option Value)} {oc0 kV0 dc0 pm0 cd0 ct0 : Value}
    {f1 : Addr} {od1 an1 : Option Addr} {sl1 : Array (Option Value)} {oc1 kV1 dc1 pm1 cd1 ct1 : Value}
    {f2 : Addr} {od2 an2 : Option Addr} {sl2 : Array (Option Value)} {oc2 kV2 dc2 pm2 cd2 ct2 : Value}
    {f3 : Addr} {od3 an3 : Option Addr} {sl3 : Array (Option Value)} {oc3 kV3 dc3 pm3 cd3 ct3 : Value}
    {f4 : Addr} {od4 an4 : Option Addr} {sl4 : Array (Option Value)} {oc4 kV4 dc4 pm4 cd4 ct4 : Value}
    {f5 : Addr} {od5 an5 : Option Addr} {sl5 : Array (Option Value)} {oc5 kV5 dc5 pm5 cd5 ct5 : Value}
    {f6 : Addr} {od6 an6 : Option Addr} {sl6 : Array (Option Value)} {oc6 kV6 dc6 pm6 cd6 ct6 : Value}
    {f7 : Addr} {od7 an7 : Option Addr} {sl7 : Array (Option Value)} {oc7 kV7 dc7 pm7 cd7 ct7 : Value}
    {f8 : Addr} {od8 an8 : Option Addr} {sl8 : Array (Option Value)} {oc8 kV8 dc8 pm8 cd8 ct8 : Value}
    {f9 : Addr} {od9 an9 : Option Addr} {sl9 : Array (Option Value)} {oc9 kV9 dc9 pm9 cd9 ct9 : Value}
    (a0 : PySem.W.nsIn K mainGlobals "_law_stream" = some (some (.ref f0))) (l0 : K.lookup f0 = some ⟨oc0, od0, .func (PySem.W.fnOf "_law_stream" "_law_stream" (defArgs s__law_stream) (defBody s__law_stream) (defScope s__law_stream) .none kV0 dc0 pm0 an0 cd0 ct0), sl0⟩) (c0 : PySem.W.codeIn K cd0 "_law_stream" = true) (k0 : PySem.W.keepIn K (.ref f0) = true)
    (a1 : PySem.W.nsIn K mainGlobals "_law_draw" = some (some (.ref f1))) (l1 : K.lookup f1 = some ⟨oc1, od1, .func (PySem.W.fnOf "_law_draw" "_law_draw" (defArgs s__law_draw) (defBody s__law_draw) (defScope s__law_draw) .none kV1 dc1 pm1 an1 cd1 ct1), sl1⟩) (c1 : PySem.W.codeIn K cd1 "_law_draw" = true) (k1 : PySem.W.keepIn K (.ref f1) = true)
    (a2 : PySem.W.nsIn K mainGlobals "_law_words" = some (some (.ref f2))) (l2 : K.lookup f2 = some ⟨oc2, od2, .func (PySem.W.fnOf "_law_words" "_law_words" (defArgs s__law_words) (defBody s__law_words) (defScope s__law_words) .none kV2 dc2 pm2 an2 cd2 ct2), sl2⟩) (c2 : PySem.W.codeIn K cd2 "_law_words" = true) (k2 : PySem.W.keepIn K (.ref f2) = true)
    (a3 : PySem.W.nsIn K mainGlobals "_law_names" = some (some (.ref f3))) (l3 : K.lookup f3 = some ⟨oc3, od3, .func (PySem.W.fnOf "_law_names" "_law_names" (defArgs s__law_names) (defBody s__law_names) (defScope s__law_names) .none kV3 dc3 pm3 an3 cd3 ct3), sl3⟩) (c3 : PySem.W.codeIn K cd3 "_law_names" = true) (k3 : PySem.W.keepIn K (.ref f3) = true)
    (a4 : PySem.W.nsIn K mainGlobals "_law_marks" = some (some (.ref f4))) (l4 : K.lookup f4 = some ⟨oc4, od4, .func (PySem.W.fnOf "_law_marks" "_law_marks" (defArgs s__law_marks) (defBody s__law_marks) (defScope s__law_marks) .none kV4 dc4 pm4 an4 cd4 ct4), sl4⟩) (c4 : PySem.W.codeIn K cd4 "_law_marks" = true) (k4 : PySem.W.keepIn K (.ref f4) = true)
    (a5 : PySem.W.nsIn K mainGlobals "_law_with_message" = some (some (.ref f5))) (l5 : K.lookup f5 = some ⟨oc5, od5, .func (PySem.W.fnOf "_law_with_message" "_law_with_message" (defArgs s__law_with_message) (defBody s__law_with_message) (defScope s__law_with_message) .none kV5 dc5 pm5 an5 cd5 ct5), sl5⟩) (c5 : PySem.W.codeIn K cd5 "_law_with_message" = true) (k5 : PySem.W.keepIn K (.ref f5) = true)
    (a6 : PySem.W.nsIn K mainGlobals "_law_with_value" = some (some (.ref f6))) (l6 : K.lookup f6 = some ⟨oc6, od6, .func (PySem.W.fnOf "_law_with_value" "_law_with_value" (defArgs s__law_with_value) (defBody s__law_with_value) (defScope s__law_with_value) .none kV6 dc6 pm6 an6 cd6 ct6), sl6⟩) (c6 : PySem.W.codeIn K cd6 "_law_with_value" = true) (k6 : PySem.W.keepIn K (.ref f6) = true)
    (a7 : PySem.W.nsIn K mainGlobals "_law_others" = some (some (.ref f7))) (l7 : K.lookup f7 = some ⟨oc7, od7, .func (PySem.W.fnOf "_law_others" "_law_others" (defArgs s__law_others) (defBody s__law_others) (defScope s__law_others) .none kV7 dc7 pm7 an7 cd7 ct7), sl7⟩) (c7 : PySem.W.codeIn K cd7 "_law_others" = true) (k7 : PySem.W.keepIn K (.ref f7) = true)
    (a8 : PySem.W.nsIn K mainGlobals "_law_caught" = some (some (.ref f8))) (l8 : K.lookup f8 = some ⟨oc8, od8, .func (PySem.W.fnOf "_law_caught" "_law_caught" (defArgs s__law_caught) (defBody s__law_caught) (defScope s__law_caught) .none kV8 dc8 pm8 an8 cd8 ct8), sl8⟩) (c8 : PySem.W.codeIn K cd8 "_law_caught" = true) (k8 : PySem.W.keepIn K (.ref f8) = true)
    (a9 : PySem.W.nsIn K mainGlobals "law" = some (some (.ref f9))) (l9 : K.lookup f9 = some ⟨oc9, od9, .func (PySem.W.fnOf "law" "law" (defArgs s_law) (defBody s_law) (defScope s_law) .none kV9 dc9 pm9 an9 cd9 ct9), sl9⟩) (c9 : PySem.W.codeIn K cd9 "law" = true) (k9 : PySem.W.keepIn K (.ref f9) = true)
    (z_IndexError : PySem.W.nsIn K mainGlobals "IndexError" = some none)
    (z_KeyError : PySem.W.nsIn K mainGlobals "KeyError" = some none)
    (z_LookupError : PySem.W.nsIn K mainGlobals "LookupError" = some none)
    (z_OverflowError : PySem.W.nsIn K mainGlobals "OverflowError" = some none)
    (z_RuntimeError : PySem.W.nsIn K mainGlobals "RuntimeError" = some none)
    (z_ValueError : PySem.W.nsIn K mainGlobals "ValueError" = some none)
    (z_abs : PySem.W.nsIn K mainGlobals "abs" = some none)
    (z_enumerate : PySem.W.nsIn K mainGlobals "enumerate" = some none)
    (z_int : PySem.W.nsIn K mainGlobals "int" = some none)
    (z_isinstance : PySem.W.nsIn K mainGlobals "isinstance" = some none)
    (z_len : PySem.W.nsIn K mainGlobals "len" = some none)
    (z_max : PySem.W.nsIn K mainGlobals "max" = some none)
    (z_min : PySem.W.nsIn K mainGlobals "min" = some none)
    (z_range : PySem.W.nsIn K mainGlobals "range" = some none)
    (z_repr : PySem.W.nsIn K mainGlobals "repr" = some none) : Nonempty (Txt K mg) :=
  ⟨{
    a__law_stream := f0
    f__law_stream := _
    F__law_stream := fun_mk (st := s__law_stream) l0 c0 k0
    g__law_stream := PySem.W.mg_of X G a0
    b__law_stream := (fun_mk (st := s__law_stream) l0 c0 k0).binds (ps := ["script", "at"]) fun _ _ _ _ _ _ us hl => match us, hl with | [_, _], _ => rfl
    a__law_draw := f1
    f__law_draw := _
    F__law_draw := fun_mk (st := s__law_draw) l1 c1 k1
    g__law_draw := PySem.W.mg_of X G a1
    b__law_draw := (fun_mk (st := s__law_draw) l1 c1 k1).binds (ps := ["stream", "total"]) fun _ _ _ _ _ _ us hl => match us, hl with | [_, _], _ => rfl
    a__law_words := f2
    f__law_words := _
    F__law_words := fun_mk (st := s__law_words) l2 c2 k2
    g__law_words := PySem.W.mg_of X G a2
    b__law_words := (fun_mk (st := s__law_words) l2 c2 k2).binds (ps := ["stream", "total", "letters"]) fun _ _ _ _ _ _ us hl => match us, hl with | [_, _, _], _ => rfl
    a__law_names := f3
    f__law_names := _
    F__law_names := fun_mk (st := s__law_names) l3 c3 k3
    g__law_names := PySem.W.mg_of X G a3
    b__law_names := (fun_mk (st := s__law_names) l3 c3 k3).binds (ps := ["stream", "total"]) fun _ _ _ _ _ _ us hl => match us, hl with | [_, _], _ => rfl
    a__law_marks := f4
    f__law_marks := _
    F__law_marks := fun_mk (st := s__law_marks) l4 c4 k4
    g__law_marks := PySem.W.mg_of X G a4
    b__law_marks := (fun_mk (st := s__law_marks) l4 c4 k4).binds (ps := ["error"]) fun _ _ _ _ _ _ us hl => match us, hl with | [_], _ => rfl
    a__law_with_message := f5
    f__law_with_message := _
    F__law_with_message := fun_mk (st := s__law_with_message) l5 c5 k5
    g__law_with_message := PySem.W.mg_of X G a5
    b__law_with_message := (fun_mk (st := s__law_with_message) l5 c5 k5).binds (ps := ["text"]) fun _ _ _ _ _ _ us hl => match us, hl with | [_], _ => rfl
    a__law_with_value := f6
    f__law_with_value := _
    F__law_with_value := fun_mk (st := s__law_with_value) l6 c6 k6
    g__law_with_value := PySem.W.mg_of X G a6
    b__law_with_value := (fun_mk (st := s__law_with_value) l6 c6 k6).binds (ps := ["value", "group", "limit", "cycle"]) fun _ _ _ _ _ _ us hl => match us, hl with | [_, _, _, _], _ => rfl
    a__law_others := f7
    f__law_others := _
    F__law_others := fun_mk (st := s__law_others) l7 c7 k7
    g__law_others := PySem.W.mg_of X G a7
    b__law_others := (fun_mk (st := s__law_others) l7 c7 k7).binds (ps := ["error"]) fun _ _ _ _ _ _ us hl => match us, hl with | [_], _ => rfl
    a__law_caught := f8
    f__law_caught := _
    F__law_caught := fun_mk (st := s__law_caught) l8 c8 k8
    g__law_caught := PySem.W.mg_of X G a8
    b__law_caught := (fun_mk (st := s__law_caught) l8 c8 k8).binds (ps := ["way", "text"]) fun _ _ _ _ _ _ us hl => match us, hl with | [_, _], _ => rfl
    a_law := f9
    f_law := _
    F_law := fun_mk (st := s_law) l9 c9 k9
    g_law := PySem.W.mg_of X G a9
    b_law := (fun_mk (st := s_law) l9 c9 k9).binds (ps := ["script"]) fun _ _ _ _ _ _ us hl => match us, hl with | [_], _ => rfl
    m_IndexError := PySem.W.mg_none_of X G z_IndexError
    m_KeyError := PySem.W.mg_none_of X G z_KeyError
    m_LookupError := PySem.W.mg_none_of X G z_LookupError
    m_OverflowError := PySem.W.mg_none_of X G z_OverflowError
    m_RuntimeError := PySem.W.mg_none_of X G z_RuntimeError
    m_ValueError := PySem.W.mg_none_of X G z_ValueError
    m_abs := PySem.W.mg_none_of X G z_abs
    m_enumerate := PySem.W.mg_none_of X G z_enumerate
    m_int := PySem.W.mg_none_of X G z_int
    m_isinstance := PySem.W.mg_none_of X G z_isinstance
    m_len := PySem.W.mg_none_of X G z_len
    m_max := PySem.W.mg_none_of X G z_max
    m_min := PySem.W.mg_none_of X G z_min
    m_range := PySem.W.mg_none_of X G z_range
    m_repr := PySem.W.mg_none_of X G z_repr }⟩
end Kb
end
section
namespace Kb
open PySem PySem.Spec PyProof.Rows L2
open C8 (pss_cut)
section
variable {P : Program} {w : World} {K : PySem.W.Frag} {mg : Str → Option Value} {base : Heap}
def sp__law_stream (K : PySem.W.Frag) : Sp := fun vs H Q _ => ∃ (a : Addr) (ns : List Int) (k : Int), vs = [.ref a, .int k] ∧ SqL K H a (ns.map V.int) ∧ 0 ≤ k ∧
  ∀ H' p, Same H H' → H p = none → StOk H' p → Q (.ref p) H'
theorem ok__law_stream (T : Txt K mg) : FnOk P w K mg base CX0 1 T.a__law_stream T.f__law_stream ["script", "at"] (sp__law_stream K) := by
  refine T.F__law_stream.ok sc__law_stream (fun vs H Q E h => ?_) (fun cdv A outer s H vs Q E hr h => ?_)
  · obtain ⟨a, ns, k, rfl, _⟩ := h
    rfl
  · obtain ⟨a, ns, k, rfl, hS, hk, q⟩ := h
    refine ⟨_, (pss_cons (ps_set (i := 2) sc__law_stream.nd rfl (.inl rfl) (pe_op op_add (pe_op op_mul pe_int (pv 1)) pe_int))
 (pss_cut (ps_if (pt_cmpR op_lt (pv 1) (pe_callB call_len_seq (by rfl) T.m_len (by decide +kernel) (pa_cons (pv 0) pa_nil)) (nomark _))
 (pss_one (ps_set (i := 2) sc__law_stream.nd rfl (.inl rfl) (pe_ix ix_list (pv 0) (pv 1) (fun _ _ => rfl))))
 pss_nil)
 (pss_cons (ps_set (i := 3) sc__law_stream.nd rfl (.inl rfl) (pe_op op_mod (pe_callB call_abs (by rfl) T.m_abs (by decide +kernel) (pa_cons (pv 2) pa_nil)) (pe_op op_powW (pe_op op_powW pe_int pe_int) pe_int)))
 (pss_cons (ps_set (i := 4) sc__law_stream.nd rfl (.inl rfl) (pe_op op_mod (pe_op op_add (pe_op op_add (pe_op op_add (pe_op op_mul (pe_op op_mod (pv 3) pe_int) pe_int) (pe_op op_mul pe_int (pv 1))) (pe_op op_mul pe_int (pe_callTy call_int1 (by rfl) T.m_int (by decide +kernel) (pa_cons (pe_cmpR op_lt (pv 2) pe_int (nomark _)) pa_nil)))) pe_int) pe_int))
 (pss_one (ps_ret (pe_lst (pa_cons (pe_callB (call_max2 rfl) (by rfl) T.m_max (by decide +kernel) (pa_cons pe_int (pa_cons (pe_op op_sub (pv 3) (pe_op op_powW pe_int pe_int)) pa_nil))) (pa_cons (pv 4) (pa_cons pe_int pa_nil)))))))))), ?_⟩
    -- cell
    refine ⟨_, rfl, _, _, rfl, rfl, .inl ⟨by decide, by decide⟩, _, _, rfl, rfl, fun σ H1 => ∃ c : Int, σ = [some (.ref a), some (.int k), some (.int c), none, none] ∧ H1 = H, ?_, ?_⟩
    · refine ⟨_, rfl, _, rfl, _, _, rfl, .inl hS, _, _, rfl, rfl, _, rfl, ite2 (fun c => ?_) (fun c => ?_)⟩
      · have hc := of_decide_eq_true c
        have hl : k.toNat < ns.length := by
          rw [List.length_map] at hc
          omega
        have ha : atI (ns.map V.int) k = some (.int ns[k.toNat]) := by
          exact atI_of hk (by rw [List.getElem?_map, List.getElem?_eq_getElem hl]; rfl)
        exact ⟨_, rfl, _, rfl, _, _, _, _, rfl, rfl, hS, ha, _, rfl, rfl⟩
      · exact ⟨_, rfl, rfl⟩
    · rintro σ H1 ⟨c, rfl, rfl⟩
      refine ⟨_, rfl, _, rfl, _, _, rfl, rfl, ⟨by decide, pow_one⟩, _, _, rfl, rfl, ⟨by decide, pow_bits⟩, _, _, rfl, rfl, modk (by decide +kernel), ?_⟩
      refine ⟨_, rfl, _, _, rfl, rfl, modk (by decide), _, _, rfl, rfl, .inr ⟨by decide, by decide⟩, _, rfl, _, _, rfl, rfl, .inl ⟨by decide, by decide⟩, _, _, rfl, rfl, _, rfl, _, _, rfl, rfl, .inr ⟨_, rfl, ?_⟩⟩
      refine ⟨_, _, rfl, rfl, .inl ⟨by decide, by decide⟩, _, _, rfl, rfl, _, _, rfl, rfl, _, _, rfl, rfl, modk (by decide), ?_⟩
      refine ⟨_, rfl, _, _, rfl, rfl, ⟨by decide, pow_two⟩, _, _, rfl, rfl, _, _, rfl, _, rfl, (show 3 ≤ sizeLine by decide), fun p np => ?_⟩
      exact q _ p (fun b o e => by rw [upd_ne (ne_of_none e np)]; exact e) np ⟨_, _, _, upd_same⟩
def sp__law_draw : Sp := fun vs H Q _ => ∃ (a : Addr) (n : Int), vs = [.ref a, .int n] ∧ StOk H a ∧ 0 < n ∧ n.natAbs.log2 < 9000 ∧
  ∀ H' (r : Int), Ev a H H' → 0 ≤ r → r < n → Q (.int r) H'
theorem ok__law_draw (T : Txt K mg) : FnOk P w K mg base CX0 1 T.a__law_draw T.f__law_draw ["stream", "total"] sp__law_draw := by
  refine T.F__law_draw.ok sc__law_draw (fun vs H Q E h => ?_) (fun cdv A outer s H vs Q E hr h => ?_)
  · obtain ⟨a, n, rfl, _⟩ := h
    rfl
  · obtain ⟨a, n, rfl, ⟨g, m, c, hS⟩, hn, hn2, q⟩ := h
    have e0 : atI [V.int g, V.int m, V.int c] 0 = some (.int g) := rfl
    refine ⟨_, (pss_cons (ps_if (pt_cmpR op_gt (pe_ix ix_list (pv 0) pe_int (fun _ _ => rfl)) pe_int (nomark _))
 (pss_cons (ps_set (i := 2) sc__law_draw.nd rfl (.inl rfl) (pe_op op_mod (pe_ix ix_list (pv 0) pe_int (fun _ _ => rfl)) (pv 1)))
 (pss_cons (ps_asg (pe_op op_fdivW (pe_ix ix_list (pv 0) pe_int (fun _ _ => rfl)) (pv 1)) (pg_sub (pv 0) pe_int set_list))
 (pss_one (ps_ret (pv 2)))))
 pss_nil)
 (pss_cons (ps_asg (pe_op op_add (pe_ix ix_list (pv 0) pe_int (fun _ _ => rfl)) pe_int) (pg_sub (pv 0) pe_int set_list))
 (pss_cons (ps_set (i := 3) sc__law_draw.nd rfl (.inl rfl) (pe_op op_mod (pe_op op_add (pe_ix ix_list (pv 0) pe_int (fun _ _ => rfl)) (pe_op op_mul pe_int (pe_ix ix_list (pv 0) pe_int (fun _ _ => rfl)))) pe_int))
 (pss_cons (ps_set (i := 4) sc__law_draw.nd rfl (.inl rfl) (pe_op op_mod (pe_op op_add (pe_op op_mul (pe_op op_mod (pe_op op_mul (pv 3) (pv 3)) pe_int) (pv 3)) (pe_op op_mul pe_int (pe_ix ix_list (pv 0) pe_int (fun _ _ => rfl)))) pe_int))
 (pss_one (ps_ret (pe_op op_mod (pe_op op_fdivW (pv 4) pe_int) (pv 1)))))))), ?_⟩
    refine ⟨_, rfl, _, _, _, _, rfl, rfl, .of hS, e0, _, _, rfl, rfl, _, rfl, ite2 (fun c => ?_) (fun c => ?_)⟩
    · refine ⟨_, rfl, _, _, _, _, rfl, rfl, .of hS, e0, _, rfl, _, _, rfl, rfl, hn, ?_⟩
      refine ⟨_, rfl, _, _, _, _, rfl, rfl, .of hS, e0, _, rfl, _, _, rfl, rfl, ⟨hn, hn2⟩, _, rfl, _, _, _, 0, rfl, rfl, hS, rfl, ?_⟩
      refine ⟨_, rfl, ?_⟩
      exact q _ _ .put (Int.emod_nonneg _ (by omega)) (Int.emod_lt_of_pos _ hn)
    · refine ⟨_, rfl, _, _, _, _, rfl, rfl, .of hS, rfl, _, _, rfl, rfl, _, rfl, _, _, _, 2, rfl, rfl, hS, rfl, ?_⟩
      refine ⟨_, rfl, _, _, _, _, rfl, rfl, .of upd_same, rfl, _, rfl, _, _, _, _, rfl, rfl, .of upd_same, rfl, _, _, rfl, rfl, .inl ⟨by decide, by decide⟩, _, _, rfl, rfl, _, _, rfl, rfl, by show (0 : Int) < 2305843009213693951; decide, ?_⟩
      have hb : ∀ x : Int, 0 ≤ x % 2305843009213693951 ∧ x % 2305843009213693951 < 2305843009213693951 := fun x => ⟨Int.emod_nonneg _ (by decide), Int.emod_lt_of_pos _ (by decide)⟩
      have hb2 : ∀ x : Int, 0 ≤ x % 2305843009213693921 ∧ x % 2305843009213693921 < 2305843009213693921 := fun x => ⟨Int.emod_nonneg _ (by decide), Int.emod_lt_of_pos _ (by decide)⟩
      refine ⟨_, rfl, _, rfl, _, _, rfl, rfl, .inl ⟨Int.lt_of_lt_of_le (by decide) (hb _).1, Int.lt_trans (hb _).2 (by decide)⟩, _, _, rfl, rfl, by show (0 : Int) < 2305843009213693921; decide, _, rfl, _, _, rfl, rfl, .inl ⟨Int.lt_of_lt_of_le (by decide) (hb2 _).1, Int.lt_trans (hb2 _).2 (by decide)⟩, _, rfl, _, _, _, _, rfl, rfl, .of upd_same, rfl, _, _, rfl, rfl, .inl ⟨by decide, by decide⟩, _, _, rfl, rfl, _, _, rfl, rfl, by show (0 : Int) < 2305843009213693907; decide, ?_⟩
      refine ⟨_, rfl, _, _, rfl, rfl, ⟨by show (0 : Int) < 4096; decide, by show (4096 : Int).natAbs.log2 < 9000; decide⟩, _, rfl, _, _, rfl, rfl, hn, ?_⟩
      exact q _ _ .put (Int.emod_nonneg _ (by omega)) (Int.emod_lt_of_pos _ hn)
end
end Kb
end
section
namespace Kb
open PySem PySem.Spec PyProof.Rows L2
open C8 (pss_cut)
theorem Ev.at {a f : Addr} {H H' : Hp} {o : HO} (e : Ev a H H') (n : f ≠ a) (h : H f = some o) : H' f = some o := e.1 f o n h
/-- an object that was not there at the beginning is changed -/
theorem Ev.updF {a f : Addr} {H H' : Hp} {o : HO} (e : Ev a H H') (n : H f = none) (fa : f ≠ a) : Ev a H (upd H' f o) :=
  ⟨fun b u nb h => by rw [upd_ne (ne_of_none h n)]; exact e.1 b u nb h, by
    obtain ⟨g, m, c, z⟩ := e.2
    exact ⟨g, m, c, by rw [upd_ne (Ne.symm fa)]; exact z⟩⟩
theorem Ev.newF {a p : Addr} {H H' : Hp} {o : HO} (e : Ev a H H') (np : H' p = none) : Ev a H (upd H' p o) := e.trans (.new e.2 np)
section
variable {P : Program} {w : World} {K : PySem.W.Frag} {mg : Str → Option Value} {base : Heap}
/-- what is known of the words while they are made -/
structure WInv (a f : Addr) (b : Nat) (H0 : Hp) (xs : List Str) (H : Hp) : Prop where
  ev : Ev a H0 H
  at_ : H f = some (.lst (xs.map V.str))
  ok : ∀ x ∈ xs, WordB b (longOf b) x
  nd : xs.Nodup
theorem WInv.draw {a f : Addr} {b : Nat} {H0 H H' : Hp} {xs : List Str} (W : WInv a f b H0 xs H) (fa : f ≠ a) (e : Ev a H H') : WInv a f b H0 xs H' :=
  ⟨W.ev.trans e, e.at fa W.at_, W.ok, W.nd⟩
theorem WInv.new {a f p : Addr} {b : Nat} {H0 H : Hp} {xs : List Str} {o : HO} (W : WInv a f b H0 xs H) (np : H p = none) : WInv a f b H0 xs (upd H p o) :=
  ⟨W.ev.newF np, by rw [upd_ne (ne_of_none W.at_ np)]; exact W.at_, W.ok, W.nd⟩
def sp__law_words : Sp := fun vs H Q _ => ∃ (a : Addr) (t : Int) (b : Nat), vs = [.ref a, .int t, .str (abc b)] ∧ (b = 97 ∨ b = 65) ∧ StOk H a ∧ 0 ≤ t ∧ t ≤ 26 ∧
  ∀ (H' : Hp) (p : Addr) (xs : List Str), Ev a H H' → H p = none → H' p = some (.lst (xs.map V.str)) → (xs.length : Int) = t → (∀ x ∈ xs, WordB b (longOf b) x) → xs.Nodup → Q (.ref p) H'
theorem wordB_len {b n : Nat} {x : Str} (h : WordB b n x) : x.length ≤ n := by rw [str_len]; exact h.2.1
theorem long_le {b : Nat} : longOf b ≤ 8 := by unfold longOf; split <;> decide
theorem long_ge {b : Nat} : 4 ≤ longOf b := by unfold longOf; split <;> decide
theorem sz {n m : Nat} (h : n ≤ m) (hm : m ≤ sizeLine := by decide) : n ≤ sizeLine := Nat.le_trans h hm
theorem abc_at {b : Nat} {r : Int} (h0 : 0 ≤ r) (h : r < 26) : atI (abc b).cps.toList r = some (b + r.toNat) := by
  obtain ⟨j, e⟩ : ∃ j : Nat, r = (j : Int) := ⟨r.toNat, by omega⟩
  subst e
  exact atI_nat (abc_get (by omega))
theorem one_cps {c : Nat} : (⟨#[c]⟩ : Str).cps.toList = [c] := rfl
theorem ok__law_words (T : Txt K mg) : FnOk P w K mg base CX0 2 T.a__law_words T.f__law_words ["stream", "total", "letters"] sp__law_words := by
  refine T.F__law_words.ok sc__law_words (fun vs H Q E h => ?_) (fun cdv A outer s H vs Q E hr h => ?_)
  · obtain ⟨a, t, b, rfl, _⟩ := h
    rfl
  · obtain ⟨a, t, b, rfl, hb, hS, ht0, ht, q⟩ := h
    have hb97 : b ≤ 97 := by omega
    refine ⟨_, (pss_cons (ps_set (i := 3) sc__law_words.nd rfl (.inl rfl) (pe_lst pa_nil))
 (pss_cut (ps_set (i := 4) sc__law_words.nd rfl (.inl rfl) (pe_ifExp (pt_cmpR op_eq (pe_ix ix_str (pv 2) pe_int (fun _ _ => rfl)) pe_str (nomark _)) pe_int pe_int))
 (pss_cons (ps_for PassesOwn.never rfl (pi_range1 (by rfl) T.m_range (pa_cons (pv 1) pa_nil)) (pg_name (i := 5) sc__law_words.nd rfl (.inl rfl))
 (pss_cons (ps_set (i := 6) sc__law_words.nd rfl (.inl rfl) pe_str)
 (pss_cut (ps_for PassesOwn.never rfl (pi_range1 (by rfl) T.m_range (pa_cons (pe_ix ix_list (pe_lst (pa_cons pe_int (pa_cons pe_int (pa_cons pe_int (pa_cons (pv 4) pa_nil))))) (pe_call (ok__law_draw T) hr (by rfl) T.g__law_draw T.F__law_draw.kp T.b__law_draw .nil pass0 (pa_cons (pv 0) (pa_cons pe_int pa_nil))) (fun _ _ => rfl)) pa_nil)) (pg_name (i := 7) sc__law_words.nd rfl (.inl rfl))
 (pss_one (ps_set (i := 6) sc__law_words.nd rfl (.inl rfl) (pe_op op_add_str (pv 6) (pe_ix ix_str (pv 2) (pe_call (ok__law_draw T) hr (by rfl) T.g__law_draw T.F__law_draw.kp T.b__law_draw .nil pass0 (pa_cons (pv 0) (pa_cons pe_int pa_nil))) (fun _ _ => rfl))))))
 (pss_cut (ps_if (PW.pt (pw_and (pt_cmpR (op_neD hr.units) (pv 3) (pe_lst pa_nil) (nomark _)) (pw_and1 (pt_cmpR op_eq (pe_call (ok__law_draw T) hr (by rfl) T.g__law_draw T.F__law_draw.kp T.b__law_draw .nil pass0 (pa_cons (pv 0) (pa_cons pe_int pa_nil))) pe_int (nomark _)))))
 (pss_one (ps_set (i := 6) sc__law_words.nd rfl (.inl rfl) (pe_slice sl_str (pe_op op_add_str (pe_ix ix_list (pv 3) (pe_un un_neg pe_int) (fun _ _ => rfl)) (pe_ix ix_str (pv 2) pe_int (fun _ _ => rfl))) po_none (po_some (pv 4)))))
 pss_nil)
 (pss_cut (ps_for PassesOwn.never rfl (pi_range1 (by rfl) T.m_range (pa_cons (pv 1) pa_nil)) (pg_name (i := 7) sc__law_words.nd rfl (.inl rfl))
 (pss_one (ps_if (pt_cmpR op_in_seq (pv 6) (pv 3) (by rfl))
 (pss_one (ps_set (i := 6) sc__law_words.nd rfl (.inl rfl) (pe_op op_add_str (pe_ix ix_str (pv 2) (pe_op op_mod (pe_op op_add (pe_bmS PySem.F.plainAttrs_str PySem.F.slot_str_index PySem.F.type_str_index (mt_indexX (W := fun _ _ _ _ => False) rfl takes0) (pv 2) (pa_cons (pe_ix ix_str (pv 6) pe_int (fun _ _ => rfl)) pa_nil)) pe_int) pe_int) (fun _ _ => rfl)) (pe_slice sl_str (pv 6) (po_some pe_int) po_none))))
 pss_nil)))
 (pss_one (ps_expr (pe_bm PySem.F.plainAttrs_list PySem.F.slot_list_append PySem.F.type_list_append mt_append (pv 3) (pa_cons (pv 6) pa_nil)))))))))
 (pss_one (ps_ret (pv 3)))))), ?_⟩
    -- found = []
    refine ⟨Nat.zero_le _, fun f nf => ?_⟩
    have fa : f ≠ a := hS.ne nf
    have W0 : WInv a f b H [] (upd H f (.lst [])) := ⟨.new hS nf, upd_same, fun _ h => (nomatch h), List.nodup_nil⟩
    have hz : (abc b).length ≤ sizeLine := by rw [abc_len]; decide
    -- longest = 8 if letters[0] == 'a' else 4
    refine ⟨fun σ H1 => σ = [some (.ref a), some (.int t), some (.str (abc b)), some (.ref f), some (.int (longOf b : Nat)), none, none, none] ∧ H1 = upd H f (.lst []), ?_, ?_⟩
    · refine ⟨_, rfl, _, _, _, rfl, rfl, hz, abc_at (by decide) (by decide), rfl, _, rfl, ?_⟩
      rcases hb with rfl | rfl
      · exact ⟨rfl, rfl⟩
      · exact ⟨rfl, rfl⟩
    rintro σ1 H1 ⟨rfl, rfl⟩
    -- for at in range(total)
    refine ⟨_, rfl, _, rfl, by omega, by omega, ?_⟩
    refine for_range (n := t.toNat) (fun i σ H1 => ∃ y5 y6 y7 xs, σ = [some (.ref a), some (.int t), some (.str (abc b)), some (.ref f), some (.int (longOf b : Nat)), y5, y6, y7] ∧ WInv a f b H xs H1 ∧ xs.length = i) ⟨none, none, none, [], rfl, W0, rfl⟩ ?_ ?_
    · rintro i σ1 H1 hi ⟨y5, y6, y7, xs, rfl, W, hx⟩
      -- word = ''; the first loop
      have hlong := long_le (b := b)
      have hlong4 := long_ge (b := b)
      have hxs26 : xs.length < 26 := by omega
      refine ⟨fun σ H2 => ∃ y5 y7 wd, σ = [some (.ref a), some (.int t), some (.str (abc b)), some (.ref f), some (.int (longOf b : Nat)), y5, some (.str wd), y7] ∧ WordB b (longOf b) wd ∧ WInv a f b H xs H2, ?_, ?_⟩
      · refine ⟨_, rfl, (show 4 ≤ sizeLine by decide), fun p np => ?_⟩
        have W1 := W.new (o := .lst [.int 1, .int 2, .int 1, .int (longOf b : Nat)]) np
        refine ⟨_, rfl, a, 4, rfl, W1.ev.2, by decide, by decide, fun H2 r e2 r0 r4 => ?_⟩
        have pa : p ≠ a := W.ev.2.ne np
        have hp : H2 p = some (.lst [.int 1, .int 2, .int 1, .int (longOf b : Nat)]) := e2.at pa upd_same
        have W2 := W1.draw fa e2
        obtain ⟨n, hn, h1, h8⟩ : ∃ n : Nat, atI [V.int 1, V.int 2, V.int 1, V.int (longOf b : Nat)] r = some (.int (n : Nat)) ∧ 1 ≤ n ∧ n ≤ longOf b := by
          have hr4 : r = 0 ∨ r = 1 ∨ r = 2 ∨ r = 3 := by omega
          rcases hr4 with rfl | rfl | rfl | rfl
          · exact ⟨1, rfl, by omega, by omega⟩
          · exact ⟨2, rfl, by omega, by omega⟩
          · exact ⟨1, rfl, by omega, by omega⟩
          · exact ⟨longOf b, rfl, by omega, by omega⟩
        refine ⟨_, _, _, _, rfl, rfl, .of hp, hn, _, rfl, by omega, by omega, ?_⟩
        refine for_range (n := n) (fun i σ H3 => ∃ y5 y7 wd, σ = [some (.ref a), some (.int t), some (.str (abc b)), some (.ref f), some (.int (longOf b : Nat)), y5, some (.str wd), y7] ∧ (wd.cps.toList.length = i ∧ ∀ c ∈ wd.cps.toList, b ≤ c ∧ c < b + 26) ∧ WInv a f b H xs H3) ⟨_, _, _, rfl, ⟨rfl, fun _ h => (nomatch h)⟩, W2⟩ ?_ ?_
        · rintro k σ1 H3 hk ⟨y5, y7, wd, rfl, ⟨hw1, hw2⟩, W3⟩
          refine ⟨_, rfl, _, rfl, _, rfl, a, 26, rfl, W3.ev.2, by decide, by decide, fun H4 r e4 r0 r26 => ?_⟩
          refine ⟨_, _, _, rfl, rfl, hz, abc_at r0 r26, _, _, rfl, rfl, ?_, ?_⟩
          · refine sz (m := 9) ?_
            rw [str_len, str_len, one_cps, hw1]
            show k + 1 ≤ 9
            omega
          · refine ⟨_, _, _, rfl, ⟨?_, fun c hc => ?_⟩, W3.draw fa e4⟩
            · rw [cat_cps, List.length_append, one_cps, hw1]
              rfl
            · rw [cat_cps, one_cps] at hc
              rcases List.mem_append.mp hc with hc | hc
              · exact hw2 c hc
              · have := List.mem_singleton.mp hc
                omega
        · rintro σ1 H3 ⟨y5, y7, wd, rfl, ⟨hw1, hw2⟩, W3⟩
          exact ⟨_, _, _, rfl, ⟨by omega, by omega, hw2⟩, W3⟩
      · rintro σ1 H2 ⟨y5, y7, wd, rfl, hwd, W2⟩
        -- if found != [] and draw == 0
        refine ⟨fun σ H2 => ∃ y5 y7 wd, σ = [some (.ref a), some (.int t), some (.str (abc b)), some (.ref f), some (.int (longOf b : Nat)), y5, some (.str wd), y7] ∧ WordB b (longOf b) wd ∧ WInv a f b H xs H2, ?_, ?_⟩
        · refine ⟨_, rfl, Nat.zero_le _, fun p np => ?_⟩
          have W3 := W2.new (o := .lst []) np
          refine ⟨_, _, .lst (.of W3.at_) (dpAll_strs xs), .lst (.of upd_same) .nil, shaped_strs fun x hx => (W.ok x hx).signs hb97, shaped_empty, _, rfl, ite2 (fun c => ?_) (fun c => ?_)⟩
          · rw [eqv_nil] at c
            refine ⟨_, rfl, a, 4, rfl, W3.ev.2, by decide, by decide, fun H4 r e4 r0 r4 => ?_⟩
            have W4 := W3.draw fa e4
            refine ⟨rfl, _, rfl, ite2 (fun c2 => ?_) (fun c2 => ?_)⟩
            · have hne : xs ≠ [] := by
                intro z
                subst z
                exact absurd c (by decide)
              obtain ⟨ys, y, rfl⟩ : ∃ ys y, xs = ys ++ [y] := ⟨xs.dropLast, xs.getLast hne, (List.dropLast_concat_getLast hne).symm⟩
              have hy : WordB b (longOf b) y := W.ok y (List.mem_append_right _ List.mem_cons_self)
              have gl : atI ((ys ++ [y]).map V.str) (-1) = some (.str y) := by
                rw [List.map_append]
                exact atI_last _ _
              have hy8 := wordB_len hy
              have hcat : (y ++ (⟨#[b + (0 : Int).toNat]⟩ : Str)).cps.toList = y.cps.toList ++ [b] := by
                rw [cat_cps]
                rfl
              have hcl : (y ++ (⟨#[b + (0 : Int).toNat]⟩ : Str)).length = y.cps.toList.length + 1 := by
                rw [str_len, hcat, List.length_append]
                rfl
              refine ⟨_, rfl, _, rfl, _, _, _, _, rfl, rfl, .of W4.at_, gl, _, rfl, _, _, _, rfl, rfl, hz, abc_at (by decide) (by decide), _, _, rfl, rfl, ?_, ?_⟩
              · refine sz (m := 9) ?_
                show y.length + 1 ≤ 9
                omega
              · refine ⟨_, rfl, _, rfl, _, rfl, ?_, ?_⟩
                · refine sz (m := 9) ?_
                  rw [hcl]
                  rw [str_len] at hy8
                  omega
                · refine ⟨_, _, _, rfl, ?_, W4⟩
                  unfold WordB
                  rw [cut_to, hcat]
                  obtain ⟨g1, g2, g3⟩ := hy
                  refine ⟨?_, ?_, fun c hc => ?_⟩
                  · rw [List.length_take, List.length_append]
                    simp only [List.length_cons, List.length_nil]
                    omega
                  · rw [List.length_take]
                    omega
                  · rcases List.mem_append.mp (List.mem_of_mem_take hc) with hc | hc
                    · exact g3 c hc
                    · have := List.mem_singleton.mp hc
                      omega
            · exact ⟨_, _, _, rfl, hwd, W4⟩
          · exact ⟨_, _, _, rfl, hwd, W3⟩
        · rintro σ1 H3 ⟨y5, y7, wd, rfl, hwd, W3⟩
          -- the word goes round
          refine ⟨fun σ H2 => ∃ y5 y7 wd, σ = [some (.ref a), some (.int t), some (.str (abc b)), some (.ref f), some (.int (longOf b : Nat)), y5, some (.str wd), y7] ∧ WordB b (longOf b) wd ∧ wd ∉ xs ∧ WInv a f b H xs H2, ?_, ?_⟩
          · refine ⟨_, rfl, _, rfl, by omega, by omega, ?_⟩
            refine for_range (n := t.toNat) (fun j σ H2 => ∃ y5 y7 w2, σ = [some (.ref a), some (.int t), some (.str (abc b)), some (.ref f), some (.int (longOf b : Nat)), y5, some (.str w2), y7] ∧ WordB b (longOf b) w2 ∧ WInv a f b H xs H2 ∧ (w2 ∉ xs ∨ (w2 = ⟨(rot b wd.cps.toList j).toArray⟩ ∧ ∀ i, i < j → (⟨(rot b wd.cps.toList i).toArray⟩ : Str) ∈ xs))) ⟨_, _, wd, rfl, hwd, W3, .inr ⟨?_, fun i h => absurd h (Nat.not_lt_zero i)⟩⟩ ?_ ?_
            · apply str_ext
              rw [rot_zero hwd]
            · rintro j σ1 H4 hj ⟨y5, y7, w2, rfl, hw2, W4, hw⟩
              refine ⟨_, rfl, _, rfl, _, _, rfl, .inl (.of W4.at_), rfl, flat_strs xs, _, rfl, ?_⟩
              rw [inV_strs]
              refine ite2 (fun c => ?_) (fun c => ?_)
              · have hin : w2 ∈ xs := of_decide_eq_true c
                obtain ⟨rfl, hall⟩ := hw.resolve_left fun z => z hin
                obtain ⟨k, r, hk, el⟩ := word_head hwd
                have e2 : (rot b wd.cps.toList j) = (b + (k + j) % 26) :: r := by
                  rw [el]
                  show (b + (b + k - b + j) % 26) :: r = _
                  rw [show b + k - b = k by omega]
                have hm := Nat.mod_lt (k + j) (show 0 < 26 by decide)
                have hw8 := wordB_len hw2
                have hz2 : (⟨(rot b wd.cps.toList j).toArray⟩ : Str).length ≤ sizeLine := sz (m := 8) (by omega)
                have e0 : atI (⟨(rot b wd.cps.toList j).toArray⟩ : Str).cps.toList (0 : Int) = some (b + (k + j) % 26) := by
                  refine atI_nat (j := 0) ?_
                  show (rot b wd.cps.toList j)[0]? = _
                  rw [e2]
                  rfl
                refine ⟨_, rfl, _, rfl, rfl, _, rfl, _, _, _, rfl, rfl, hz2, e0, _, _, rfl, rfl, fun i ei => ?_, fun en => ?_⟩
                · rw [idx_abc hb hm] at ei
                  cases ei
                  have hmm := Nat.mod_lt ((k + j) % 26 + 1) (show 0 < 26 by decide)
                  refine ⟨_, _, rfl, rfl, _, _, rfl, rfl, modk (by decide), _, _, _, rfl, rfl, hz, abc_at (Int.emod_nonneg _ (by decide)) (Int.emod_lt_of_pos _ (by decide)), _, rfl, _, rfl, _, rfl, hz2, _, _, rfl, rfl, ?_, ?_⟩
                  · refine sz (m := 9) ?_
                    have := cutS_length (⟨(rot b wd.cps.toList j).toArray⟩ : Str) (some 1) none
                    show 1 + _ ≤ 9
                    omega
                  · have er : (((((k + j) % 26 : Nat) : Int) + 1) % 26).toNat = (k + (j + 1)) % 26 := by omega
                    rw [er]
                    have e3 : ((⟨#[b + (k + (j + 1)) % 26]⟩ : Str) ++ cutS (⟨(rot b wd.cps.toList j).toArray⟩ : Str) (some 1) none) = ⟨(rot b wd.cps.toList (j + 1)).toArray⟩ := by
                      apply str_ext
                      rw [cat_cps, cut_one]
                      show [b + (k + (j + 1)) % 26] ++ List.drop 1 (rot b wd.cps.toList j) = rot b wd.cps.toList (j + 1)
                      rw [e2, el]
                      show _ = (b + (b + k - b + (j + 1)) % 26) :: r
                      rw [show b + k - b = k by omega]
                      rfl
                    rw [e3]
                    refine ⟨_, _, _, rfl, rot_word hwd, W4, .inr ⟨rfl, fun i hi => ?_⟩⟩
                    by_cases hij : i = j
                    · rw [hij]
                      exact hin
                    · exact hall i (by omega)
                · rw [idx_abc hb hm] at en
                  cases en
              · exact ⟨_, _, _, rfl, hw2, W4, .inl fun z => c (decide_eq_true z)⟩
            · rintro σ1 H4 ⟨y5, y7, w2, rfl, hw2, W4, hw⟩
              refine ⟨_, _, _, rfl, hw2, ?_, W4⟩
              rcases hw with h | ⟨_, hall⟩
              · exact h
              · exact (rot_free hwd (t := t.toNat) (by omega) (by omega) hall).elim
          · rintro σ1 H4 ⟨y5, y7, wd, rfl, hwd, hnew, W4⟩
            refine ⟨_, rfl, .inl ⟨rfl, _, .of W4.at_⟩, _, rfl, f, _, _, rfl, rfl, W4.at_, ?_, ?_⟩
            · rw [List.length_map]
              exact small1000 (by omega)
            · refine ⟨_, _, _, xs ++ [wd], rfl, ⟨W4.ev.updF nf fa, by rw [upd_same, List.map_append]; rfl, fun x hx => ?_, ?_⟩, ?_⟩
              · rcases List.mem_append.mp hx with hx | hx
                · exact W4.ok x hx
                · rw [List.mem_singleton.mp hx]
                  exact hwd
              · exact List.nodup_append.mpr ⟨W4.nd, List.pairwise_singleton _ _, fun x hx y hy e => hnew (by rw [← List.mem_singleton.mp hy, ← e]; exact hx)⟩
              · rw [List.length_append, hx]
                rfl
    · rintro σ1 H1 ⟨y5, y6, y7, xs, rfl, W, hx⟩
      refine ⟨_, rfl, ?_⟩
      exact q _ f xs W.ev nf W.at_ (by omega) W.ok W.nd
theorem abc97 : ("abcdefghijklmnopqrstuvwxyz" : Str) = abc 97 := by decide +kernel
def sp__law_names : Sp := fun vs H Q _ => ∃ (a : Addr) (t : Int), vs = [.ref a, .int t] ∧ StOk H a ∧ 0 ≤ t ∧ t ≤ 26 ∧
  ∀ (H' : Hp) (p : Addr) (xs : List Str), Ev a H H' → H p = none → H' p = some (.lst (xs.map V.str)) → (xs.length : Int) = t → (∀ x ∈ xs, WordB 97 8 x) → xs.Nodup → Q (.ref p) H'
theorem ok__law_names (T : Txt K mg) : FnOk P w K mg base CX0 3 T.a__law_names T.f__law_names ["stream", "total"] sp__law_names := by
  refine T.F__law_names.ok sc__law_names (fun vs H Q E h => ?_) (fun cdv A outer s H vs Q E hr h => ?_)
  · obtain ⟨a, t, rfl, _⟩ := h
    rfl
  · obtain ⟨a, t, rfl, hS, ht0, ht, q⟩ := h
    refine ⟨_, (pss_one (ps_ret (pe_call (ok__law_words T) hr (by rfl) T.g__law_words T.F__law_words.kp T.b__law_words .nil pass0 (pa_cons (pv 0) (pa_cons (pv 1) (pa_cons pe_str pa_nil)))))), ?_⟩
    refine ⟨_, rfl, _, rfl, a, t, 97, by rw [abc97] <;> rfl, .inl rfl, hS, ht0, ht, ?_⟩
    exact q
end
end Kb
end
section
namespace PySem.HandSPX
open PySem.F Builtin Builtin.ObjectAttr
theorem keyStore : StoreFacts "KeyError" [.type "KeyError", .type "LookupError", .type "Exception", .type "BaseException", .type "object"] "object.__setattr__" "object" where
  mro := by kernel_rfl
  slot := .of (owner := "object") (n := "__setattr__") (by rw [typeLookup_type, builtinLookup_eq_fast] <;> kernel_rfl) (by decide +kernel) (by decide +kernel) (by decide +kernel) (.inl (by decide +kernel)) (by rw [isSubtype_type] <;> kernel_rfl)
  entry := entry_object_sa
  kind := by decide +kernel
  split := by decide +kernel
  hasOwner := by decide +kernel
  args := fun _ _ _ => by unfold argsOk <;> kernel_rfl
  passes := fun _ => by kernel_rfl
/-! ### making an exception of an own class: by what its __new__ asks of the class's line alone -/
/-- what the maker newId, which B brings, asks of the classes bm behind an own class -/
structure Line (B newId : String) (bm : List Value) : Prop where
  f : ∃ initId l, ExcBaseFacts B newId initId l
  b : bm.contains (.type B) = true
  a : bm.contains (.type "AttributeError") = false
  n : bm.contains (.type "NameError") = false
section
variable {prog : Program} {w : World} {A : Around} {E : Value → Shared → Prop} {R : Result → Shared → Prop} {M : Model} {h : Heap} {g : Array GenState} {d : Drawn} {t : Nat} {os : OsState}
variable {nm qn : Str} {C N : Addr} {bs bm : List Value} {hdct : Bool} {sn : List Str} {sub : List Value} {ab : Bool} {col : Option Bool} {dd : Option Addr} {k0 k1 k2 k3 k5 : Option Value} {B newId : String}
theorem Line.check (L : Line B newId bm) {rest : List Value} {Q : Unit → Shared → Prop} (hC : h.get? C = some (excClassObj nm qn C N bs bm hdct sn sub ab col dd k0 k1 k2 k3 k5 newId)) (hq : Q () ⟨h, g, d, t, os⟩) :
    wpAny M A (checkBuiltinCall newId ⟨.ref C :: rest, []⟩) Q E ⟨h, g, d, t, os⟩ := by
  obtain ⟨i, l, G⟩ := L.f
  have in1 : (Value.ref C :: bm).contains (.type B) = true := by rw [List.contains_cons, L.b, Bool.or_true]
  have far := G.noStar
  simp only [checkBuiltinCall, G.newKind, G.newSplit, G.newRow]
  repeat (first
    | refine wpAny_loadPart_at hC ?_
    | (refine wpAny_isSubtype_exc hC ?_; rw [in1])
    | refine wpAny_staticBase_exc hC ?_
    | refine wpAny_madeBy_exc hC ?_
    | simp only [bne_self_eq_false, Bool.false_eq_true, if_false]
    | wp_step)
  exact hq
theorem Line.new (L : Line B newId bm) {rest : List Value} (hC : h.get? C = some (excClassObj nm qn C N bs bm hdct sn sub ab col dd k0 k1 k2 k3 k5 newId)) (hrest : rest.length ≤ sizeLine)
    (hq : R (.ok (.ret (.ref (h.objs.size + 1)))) ⟨(h.push (W.kdv_tup rest)).push (excO C h.objs.size), g, d, t, os⟩) : codeAny (model prog w) A (.builtin newId ⟨.ref C :: rest, []⟩) R ⟨h, g, d, t, os⟩ := by
  obtain ⟨i, l, G⟩ := L.f
  have far := G.ends
  have in1 : (Value.ref C :: bm).contains (.type B) = true := by rw [List.contains_cons, L.b, Bool.or_true]
  have in2 : (Value.ref C :: bm).contains (.type "AttributeError") = false := by rw [List.contains_cons, L.a] <;> rfl
  have in3 : (Value.ref C :: bm).contains (.type "NameError") = false := by rw [List.contains_cons, L.n] <;> rfl
  refine codeAny_builtinAt G.entry ?_
  unfold Builtin.«BaseException.__new__»
  refine wpAt_bind ?_
  show wpAt _ _ _ (stack >>= _) _ _ _
  refine wpAt_bind (wpAt_stack fun p below => wpAt_of_wpAny ?_)
  wp_walk
  refine wpAt_of_wpAny ?_
  rw [G.owner]
  repeat (first
    | with_reducible refine wpAny_madeHere_exc G.canon hC ?_
    | with_reducible refine wpAny_loadPart_at hC ?_
    | (with_reducible refine wpAny_isSubtype_exc hC ?_; first | rw [in1] | rw [in2] | rw [in3])
    | wp_step)
  show R _ _
  rw [Heap.size_push]
  exact hq
theorem Line.made (L : Line B newId bm) {rest : List Value} {fI : Addr} {Q : Fin → Shared → Prop} (hC : h.get? C = some (excClassObj nm qn C N bs bm hdct sn sub ab col dd k0 k1 k2 k3 k5 newId))
    (hi : W.Looks (model prog w) h (typeLookup (.ref C) "__init__") (some (.ref fI))) (hb : ∀ self, W.Looks (model prog w) h (bindSpecial (.ref fI) self) (.ref fI, [self])) (hrest : rest.length ≤ sizeLine)
    (hq : codeAny (model prog w) A (.call (.ref fI) ⟨.ref (h.objs.size + 1) :: rest, []⟩) (fun r s' => match r with | .ok (.ret v) => v = .none ∧ Q (.done (.ret (.ref (h.objs.size + 1)))) s' | .ok _ => False | .error e => E e s')
      ⟨(h.push (W.kdv_tup rest)).push (excO C h.objs.size), g, d, t, os⟩) : wpAny (model prog w) A (Builtin.«type.__call__» ⟨.ref C :: rest, []⟩) Q E ⟨h, g, d, t, os⟩ := by
  obtain ⟨i, l, G⟩ := id L.f
  repeat (first
    | with_reducible refine wpAny_loadPart_at hC ?_
    | with_reducible refine wpAny_madeBy_exc hC ?_
    | wp_step)
  refine codeAny_call_builtin_code (Code.quiet_builtin _ G.quiet) (L.check hC ?_)
  refine L.new hC hrest ?_
  show wpAny _ _ _ _ _ _
  have kp : ∀ b o, h.get? b = some o → ((h.push (W.kdv_tup rest)).push (excO C h.objs.size)).get? b = some o := fun b o e => Heap.get?_push_of_some _ (Heap.get?_push_of_some _ e)
  have hC1 := kp _ _ hC
  have gt : ((h.push (W.kdv_tup rest)).push (excO C h.objs.size)).get? (h.objs.size + 1) = some (excO C h.objs.size) := by heap_get
  have inC : (Value.ref C :: bm).contains (.ref C) = true := by simp
  have i1 := hi.keeps kp
  have b1 := (hb (.ref (h.objs.size + 1))).keeps kp
  unfold isInstance
  repeat (first
    | with_reducible refine wpAny_loadPart_at gt ?_
    | (with_reducible refine wpAny_isSubtype_exc hC1 ?_; rw [inC])
    | wp_step)
  show wpAny _ _ (typeLookup (.ref C) _) _ _ _
  refine i1.at (wpAny_holding (wpAny_bind (b1.at (wpAny_bind (wpAny_call (codeAny_mono hq fun r s' z => ?_))))))
  rcases r with e | (v | _ | _ | _) <;> first | exact z | exact z.elim | skip
  obtain ⟨rfl, z⟩ := z
  first
    | exact wpAny_pure (wpAny_pure z)
    | (wp_walk; exact z)
theorem Line.call (L : Line B newId bm) {rest : List Value} {fI : Addr} (hC : h.get? C = some (excClassObj nm qn C N bs bm hdct sn sub ab col dd k0 k1 k2 k3 k5 newId))
    (hi : W.Looks (model prog w) h (typeLookup (.ref C) "__init__") (some (.ref fI))) (hb : ∀ self, W.Looks (model prog w) h (bindSpecial (.ref fI) self) (.ref fI, [self])) (hrest : rest.length ≤ sizeLine)
    (hq : codeAny (model prog w) (A.under (.builtin "type.__call__" ⟨.ref C :: rest, []⟩)) (.call (.ref fI) ⟨.ref (h.objs.size + 1) :: rest, []⟩) (W.InitBack (h.objs.size + 1) R) ⟨(h.push (W.kdv_tup rest)).push (excO C h.objs.size), g, d, t, os⟩) :
    codeAny (model prog w) A (.call (.ref C) ⟨rest, []⟩) R ⟨h, g, d, t, os⟩ := by
  have f1 := tc_lookup
  have f2 := tc_bind (.ref C)
  have ty : (⟨h, g, d, t, os⟩ : Shared).TypeIs (.ref C) "type" := ⟨_, hC, rfl⟩
  refine codeAny_of_tree ?_
  show wpAny _ _ (callAny (.ref C) _) _ _ _
  repeat (any_goals (first | assumption | with_reducible refine wpAny_loadPart_at hC ?_ | wp_step))
  refine ⟨rfl, codeAny_call_builtin_at (Code.quiet_builtin _ (by decide +kernel)) entry_typeCall (wpAny_check_type_call_sub hC (L.made hC hi hb hrest ?_))⟩
  refine codeAny_mono hq fun r s' z => ?_
  rcases r with e | (v | _ | _ | _) <;> exact z
end
theorem line_key : Line "LookupError" "LookupError.__new__" [.type "KeyError", .type "LookupError", .type "Exception", .type "BaseException", .type "object"] := ⟨⟨_, _, excBase_LookupError⟩, by decide +kernel, by decide +kernel, by decide +kernel⟩
theorem line_lookup : Line "LookupError" "LookupError.__new__" [.type "LookupError", .type "Exception", .type "BaseException", .type "object"] := ⟨⟨_, _, excBase_LookupError⟩, by decide +kernel, by decide +kernel, by decide +kernel⟩
theorem line_index : Line "IndexError" "IndexError.__new__" [.type "IndexError", .type "LookupError", .type "Exception", .type "BaseException", .type "object"] := ⟨⟨_, _, excBase_IndexError⟩, by decide +kernel, by decide +kernel, by decide +kernel⟩
theorem line_over : Line "OverflowError" "OverflowError.__new__" [.type "OverflowError", .type "ArithmeticError", .type "Exception", .type "BaseException", .type "object"] := ⟨⟨_, _, excBase_OverflowError⟩, by decide +kernel, by decide +kernel, by decide +kernel⟩
theorem line_run : Line "RuntimeError" "RuntimeError.__new__" [.type "RuntimeError", .type "Exception", .type "BaseException", .type "object"] := ⟨⟨_, _, excBase_RuntimeError⟩, by decide +kernel, by decide +kernel, by decide +kernel⟩
end PySem.HandSPX
end
section
namespace PySem.Kx
open PySem.W PySem.Calls PyProof.Rows PySem.HandSPX Builtin Builtin.ObjectAttr
/-! ### class X(B): def __init__(self, f): self.f = f -/
def iA (f : Str) (p1 p2 : Pos) : Arguments := { posonlyargs := [], args := [{ arg := "self", annotation := none, pos := p1 }, { arg := f, annotation := none, pos := p2 }], vararg := none, kwonlyargs := [], kw_defaults := [], kwarg := none, defaults := [] }
def iB (f : Str) (q1 q2 q3 q4 : Pos) : List Stmt := [.Assign [.Attribute (.Name "self" q1) f q2] (.Name f q3) q4]
def iS (f : Str) : Scope := { kind := .function, names := [(PySem.Str.ofString "self", .local), (f, .local)], isGenerator := false, isCoroutine := false }
/-- what is asked of the field's name -/
structure FName (f : Str) : Prop where
  fs : (f == ("self" : Str)) = false
  fd : (f == ("__debug__" : Str)) = false
  bd : ∀ (qual : Str) (doc pm : Value) (an : Option Addr) (cdv ct : Value) (p1 p2 q1 q2 q3 q4 : Pos) (u v : Value),
    bindArgs (fnOf "__init__" qual (iA f p1 p2) (iB f q1 q2 q3 q4) (iS f) .none .none doc pm an cdv ct) ⟨[u, v], []⟩ = pure [(PySem.Str.ofString "self", u), (f, v)]
theorem fName : FName "name" := ⟨by decide, by decide, fun _ _ _ _ _ _ _ _ _ _ _ _ _ _ => rfl⟩
theorem fGroup : FName "group" := ⟨by decide, by decide, fun _ _ _ _ _ _ _ _ _ _ _ _ _ _ => rfl⟩
theorem fValue : FName "value" := ⟨by decide, by decide, fun _ _ _ _ _ _ _ _ _ _ _ _ _ _ => rfl⟩
theorem fLimit : FName "limit" := ⟨by decide, by decide, fun _ _ _ _ _ _ _ _ _ _ _ _ _ _ => rfl⟩
theorem fCycle : FName "cycle" := ⟨by decide, by decide, fun _ _ _ _ _ _ _ _ _ _ _ _ _ _ => rfl⟩
/-- what the written part says of such a class, at C, and of its __init__, at fI -/
structure OwnX (K : Frag) (mg : Str → Option Value) (x f qual : Str) (B B2 newId : String) (bmB : List Value) (C fI : Addr) : Prop where
  gC : mg x = some (.ref C)
  line : Line B newId bmB
  sto : StoreFacts B2 bmB "object.__setattr__" "object"
  cls : ∃ nm q N bs sn sub ab col dd k0 k1 k2 k3 k5, K.lookup C = some (excClassObj nm q C N bs bmB true sn sub ab col dd k0 k1 k2 k3 k5 newId)
  sa : findIn K (.ref C) "__setattr__" = some (some (.builtin "object.__setattr__"))
  noN : findIn K (.ref C) f = some none
  tk : takerIn K C f = some none
  iC : findIn K (.ref C) "__init__" = some (some (.ref fI))
  tI : typeIn K (.ref fI) = some (.type "function")
  kC : keepIn K (.ref C) = true
  tyC : typeIn K (.ref C) = some (.type "type")
  ec : L2.ExcC K C
  fn : ∃ (oc : Value) (od : Option Addr) (doc pm : Value) (an : Option Addr) (cdv ct : Value) (osl : Array (Option Value)) (p1 p2 q1 q2 q3 q4 : Pos),
    K.lookup fI = some ⟨oc, od, .func (fnOf "__init__" qual (iA f p1 p2) (iB f q1 q2 q3 q4) (iS f) .none .none doc pm an cdv ct), osl⟩ ∧ codeIn K cdv qual = true
  tail : excTail bmB bmB = true
  nm : FName f
theorem size1 (v : Value) : [v].length ≤ sizeLine := by rw [sizeLine_eq]; exact (by decide : 1 ≤ 16777216)
/-- what __init__ leaves of a fresh exception at x -/
structure Left (f : Str) (h h' : Heap) (x C dx t1 : Addr) (v : Value) : Prop where
  keep : ∀ b o, b ≠ x → h.get? b = some o → h'.get? b = some o
  obj : h'.get? x = some { cls := .ref C, dict := some dx, data := .fields #[.ref t1, .none, .none, .none, .bool false, .none] }
  big : h.objs.size ≤ dx
  ne : dx ≠ x
  ns : h'.Ns1 dx (fun y => if y = f then some v else none)
section
variable {prog : Program} {w : World} {A : Around} {E : Value → Shared → Prop} {R : Result → Shared → Prop} {s : Shared} {K : Frag} {mg : Str → Option Value} {x f qual : Str} {B B2 newId : String} {bmB : List Value} {C fI : Addr}
theorem OwnX.over (T : OwnX K mg x f qual B B2 newId bmB C fI) : excOver K C bmB = true ∧ ∃ cd, clsIn K C = some cd ∧ cd.hasDict = true := by
  obtain ⟨nm, q, N, bs, sn, sub, ab, col, dd, k0, k1, k2, k3, k5, hC⟩ := T.cls
  have hcl : clsIn K C = some { name := nm, bases := bs, mro := .ref C :: bmB, ns := N, qualname := q, hasDict := true, slotNames := sn, subclasses := sub, abstract := ab, collection := col, hasDel := false } := by unfold clsIn; rw [hC] <;> rfl
  refine ⟨?_, _, hcl, rfl⟩
  unfold excOver
  rw [hcl]
  show (C == C && excTail bmB bmB) = true
  rw [T.tail, beq_self_eq_true, Bool.and_self]
/-- self.f = v, the first store -/
theorem OwnX.store (T : OwnX K mg x f qual B B2 newId bmB C fI) {a t0 : Addr} {tk : Tok} {v : Value} (X : K.In s.heap) (hx : s.heap.get? a = some (excO C t0))
    (hq : ∀ h' tk' dx, (∀ b o, b ≠ a → s.heap.get? b = some o → h'.get? b = some o) → s.heap.objs.size ≤ dx → dx ≠ a → h'.get? a = some { cls := .ref C, dict := some dx, data := .fields #[.ref t0, .none, .none, .none, .bool false, .none] } →
      h'.Ns1 dx (fun y => if y = f then some v else none) → R (.ok (.ret .none)) { s with heap := h', toks := tk' }) :
    codeAny (model prog w) A (.call (.builtin "object.__setattr__") ⟨[.ref a, .str f tk, v], []⟩) R s := by
  obtain ⟨ho, cd, hcd, hd⟩ := T.over
  obtain ⟨hp, g, dr, tk0, os⟩ := s
  have far : a ≠ hp.objs.size := Nat.ne_of_lt (Heap.lt_size hx)
  refine osa_openX (od := none) (ox := excO C t0) T.sto X ⟨hx, rfl, rfl, trivial⟩ ho T.tk fun b => ?_
  refine wpAny_bind (wpAny_pure (wpAny_bind (instanceDict_exc (t := t0) (c2 := .none) hx (looks_clsIn X hcd) hd ?_)))
  show wpAny _ _ (storeInDict hp.objs.size (.str f tk) f v) _ _ _
  refine store_in_new ⟨_, #[], _, (Heap.get?_update_ne _ _ _ _ far.symm).trans (Heap.get?_push_at rfl rfl), rfl, fun e he => absurd he (by simp), fun _ => rfl⟩ fun h' tk' hn hs => ?_
  have hx1 : (hp.push (dictOf [] 0)).get? a = some (excO C t0) := Heap.get?_push_of_some _ hx
  exact hq h' tk' hp.objs.size (fun b o hb q => (hs.2 b (Nat.ne_of_lt (Heap.lt_size q))).trans ((Heap.get?_update_ne _ _ _ _ hb).trans (Heap.get?_push_of_some _ q))) (Nat.le_refl _) far.symm ((hs.2 a far).trans (Heap.get?_update_self _ hx1 rfl)) hn
theorem ld {M : Model} {s : Shared} {name : Str} {scope : Scope} {L a : Addr} {cd : Value} {m : Str → Option Value} {y : Str} {pos : Pos} {v : Value} {Q : Value → Shared → Prop} {A : Around} {E : Value → Shared → Prop} (hn : s.heap.Ns L m) (hv : m y = some v)
    (hk : scope.kind = .function) (hl : scope.names.lookup y = some .local) (hd : (y == ("__debug__" : Str)) = false) (h : Q v s) : wpAny M A (eval (.Name y pos) (envOfC name scope L a cd)) Q E s :=
  wpAny_Name (wpAny_loadName_local hk (show (envOfC name scope L a cd).kindOf y = some .local from hl) hn hv h) hd
theorem OwnX.init (T : OwnX K mg x f qual B B2 newId bmB C fI) {a t0 : Addr} {v : Value} (X : K.In s.heap) (hlim : s.heap.NoLimit) (hx : s.heap.get? a = some (excO C t0)) (hroom : A.depth < recursionLimit)
    (hq : ∀ h' tk dx, Left f s.heap h' a C dx t0 v → R (.ok (.ret .none)) { s with heap := h', toks := tk }) : codeAny (model prog w) A (.call (.ref fI) ⟨[.ref a, v], []⟩) R s := by
  obtain ⟨oc, od, doc, pm, an, cdv, ct, osl, p1, p2, q1, q2, q3, q4, ho, hcd⟩ := T.fn
  have lf : (iS f).names.lookup f = some NameKind.local := by
    show List.lookup f [(PySem.Str.ofString "self", NameKind.local), (f, NameKind.local)] = _
    rw [List.lookup_cons, T.nm.fs, List.lookup_cons, beq_self_eq_true]
  have ls : (iS f).names.lookup (PySem.Str.ofString "self") = some NameKind.local := rfl
  refine Att.call_fn (binds := [("self", .ref a), (f, v)]) X hlim ho hcd hroom (BindsTo.of_eq (T.nm.bd qual doc pm an cdv ct p1 p2 q1 q2 q3 q4 (.ref a) v)) ?_ (fun s₁ IC => ?_) rfl rfl rfl
  · simp only [List.all_cons, List.all_nil, lf, ls]
    rfl
  obtain ⟨h₁, tk₁, rfl⟩ := IC.toInCall.same
  have k : ∀ b o, s.heap.get? b = some o → h₁.get? b = some o := IC.toInCall.keep
  have hn := IC.toInCall.ns
  have X₁ : K.In h₁ := X.keeps k
  have hx₁ := k _ _ hx
  have mf : (bindL (envOfC qual (iS f) s.heap.objs.size fI cdv).kindOf [("self", .ref a), (f, v)] fun _ => none) f = some v := by
    have kf : (envOfC qual (iS f) s.heap.objs.size fI cdv).kindOf f = some .local := lf
    simp [bindL, kf]
  have ms : (bindL (envOfC qual (iS f) s.heap.objs.size fI cdv).kindOf [("self", .ref a), (f, v)] fun _ => none) "self" = some (.ref a) := by
    have kf : (envOfC qual (iS f) s.heap.objs.size fI cdv).kindOf f = some .local := lf
    have ks : (envOfC qual (iS f) s.heap.objs.size fI cdv).kindOf "self" = some .local := ls
    have ne : ("self" : Str) ≠ f := fun e => by
      have := T.nm.fs
      rw [← e] at this
      exact absurd this (by decide)
    simp [bindL, kf, ks, ne]
  show wpAny _ _ (execs _ _) _ _ _
  refine wpAny_execs_cons (plainObj_wpAny_Assign_Attribute ?_)
  refine ld (v := v) hn mf rfl lf T.nm.fd (ld (v := .ref a) hn ms rfl ls (by decide) ?_)
  refine set_plain X₁ (ox := excO C t0) (od := none) ⟨hx₁, rfl, rfl, trivial⟩ T.sa ?_
  refine T.store (s := { s with heap := h₁, toks := _ }) X₁ hx₁ (fun h₃ tk₃ dx k₃ dn dne hx₃ hn₃ => ?_)
  show wpAny _ _ (execs _ _) _ _ _
  have z : s.heap.objs.size < h₁.objs.size := hn.lt
  exact wpAny_execs_nil (hq h₃ tk₃ dx ⟨fun b o hb e => k₃ b o hb (k b o e), hx₃, Nat.le_of_lt (Nat.lt_of_lt_of_le z dn), dne, hn₃⟩)
/-- a made exception -/
structure Made (f : Str) (h h' : Heap) (e C d : Addr) (v : Value) : Prop where
  keep : ∀ b o, h.get? b = some o → h'.get? b = some o
  new : h.objs.size ≤ e
  obj : ∃ t1, h'.get? e = some ({ cls := .ref C, dict := some d, data := .fields #[.ref t1, .none, .none, .none, .bool false, .none] } : Obj)
  big : h.objs.size ≤ d
  ne : d ≠ e
  ns : h'.Ns1 d (fun y => if y = f then some v else none)
theorem OwnX.made (T : OwnX K mg x f qual B B2 newId bmB C fI) {v : Value} (X : K.In s.heap) (hlim : s.heap.NoLimit) (hroom : A.depth + 1 < recursionLimit)
    (hq : ∀ h' tk e d, Made f s.heap h' e C d v → R (.ok (.ret (.ref e))) { s with heap := h', toks := tk }) : codeAny (model prog w) A (.call (.ref C) ⟨[v], []⟩) R s := by
  obtain ⟨nm, q, N, bs, sn, sub, ab, col, dd, k0, k1, k2, k3, k5, hC⟩ := T.cls
  obtain ⟨hp, g, dr, tk, os⟩ := s
  have k : ∀ b o, hp.get? b = some o → ((hp.push (kdv_tup [v])).push (excO C hp.objs.size)).get? b = some o := fun b o e => Heap.get?_push_of_some _ (Heap.get?_push_of_some _ e)
  have hget : ((hp.push (kdv_tup [v])).push (excO C hp.objs.size)).get? (hp.objs.size + 1) = some (excO C hp.objs.size) := by heap_get
  refine T.line.call (X _ _ hC) (looks_findIn X T.iC) (fun self => bind_fn X self T.tI) (size1 v) ?_
  refine T.init (s := ⟨(hp.push (kdv_tup [v])).push (excO C hp.objs.size), g, dr, tk, os⟩) (X.keeps k) (hlim.keeps k) hget ?_ fun h' tk' dx L => ?_
  · show A.depth + 1 < recursionLimit
    exact hroom
  · have z : hp.objs.size + 1 + 1 ≤ dx := by
      have q := L.big
      rw [Heap.size_push, Heap.size_push] at q
      exact q
    exact ⟨rfl, hq h' tk' (hp.objs.size + 1) dx ⟨fun b o e => L.keep b o (Nat.ne_of_lt (Nat.lt_succ_of_lt (Heap.lt_size e))) (k b o e), Nat.le_succ _, ⟨_, L.obj⟩, (show hp.objs.size ≤ dx by omega), L.ne, L.ns⟩⟩
end
end PySem.Kx
end
section
namespace PySem.W
open PySem PySem.Spec PySem.Calls PyProof.Rows
section
variable {prog : Program} {w : World} {A : Around} {E : Value → Shared → Prop} {s : Shared} {K : Frag} {x D : Addr} {ox : Obj} {od : Option Obj}
theorem dataOf {C : Addr} {n : Str} {u v : Value} (h1 : (clsIn K C).isSome = true) (h2 : findIn K (.ref C) n = some (some u)) (h3 : specialIn K u "__get__" = some (some v)) (h4 : takesIn K u = some true) : findObj K C od n = some (.bind v u) := by
  obtain ⟨cd, e⟩ := Option.isSome_iff_exists.mp h1
  unfold findObj
  rw [e, Option.bind_some, h2, Option.bind_some]
  simp [h3, h4]
/-- an exception's own class, asked by its name -/
theorem clsOfExc {Q : Option Value → Shared → Prop} (c : L2.ExcC K D) (X : K.In s.heap) (I : InstAt s.heap x ox D od) (h : Q (some (.ref D)) { s with toks := s.toks + 1 }) : wpAny (model prog w) A (getAttr? (.ref x) "__class__") Q E s := by
  have fo : findObj K D od "__class__" = some (.bind (.builtin "getset_descriptor.__get__") (.builtin "object.__class__")) := dataOf (by obtain ⟨cd, e, _⟩ := any_some c.hd; rw [e] <;> rfl) c.ha c.hn c.ht
  obtain ⟨hp, g, d, t, os⟩ := s
  have a0 := I.type (M := model prog w)
  have a1 := looks_findIn (M := model prog w) X c.hg
  have a2 := looks_findIn (M := model prog w) X c.hk
  have a3 := looks_find (M := model prog w) X I fo
  have isE : Looks (model prog w) hp (isInstance (.ref x) (.type "BaseException")) true := a0.andThen (looks_subIn X c.hs)
  have n2 : (Value.builtin "BaseException.__getattribute__" == Value.builtin "object.__getattribute__") = false := by decide +kernel
  have n1 : (onTheHeap (Value.ref D) && Value.builtin "BaseException.__getattribute__" == Value.builtin "object.__getattribute__") = false := by rw [n2] <;> rfl
  unfold getAttr? getAttrBy? getAttrBy
  refine wpAny_bind (wpAny_mkText (wpAny_bind (wpAny_attempt (wpAny_holding (wpAny_bind (a0.at (wpAny_bind (a1.at ?_))))))))
  show wpAny _ _ (if (onTheHeap (Value.ref D) && Value.builtin "BaseException.__getattribute__" == Value.builtin "object.__getattribute__") = true then _ else _) _ _ _
  rw [n1, if_neg Bool.false_ne_true]
  unfold getAttrByItsOwn hookBefore
  refine wpAny_bind ?_
  rw [if_pos (show onTheHeap (Value.ref D) = true from rfl)]
  refine a2.at (wpAny_bind (wpAny_attempt (wpAny_holding ?_)))
  unfold callGetattribute
  rw [show (false && onTheHeap (Value.builtin "BaseException.__getattribute__")) = false from rfl, if_neg Bool.false_ne_true]
  unfold boundAndCalled
  rw [PySem.F.excAttr_ValueError.ga.bind (.ref x)]
  refine wpAny_bind (wpAny_pure ?_)
  show wpAny _ _ (call (.builtin "BaseException.__getattribute__") [.ref x, .str "__class__" t]) _ _ _
  refine wpAny_call (codeAny_call_builtin PySem.F.excAttr_ValueError.ga.plain PySem.F.entry_bexc_ga (@check_slot (model prog w) _ _ ⟨hp, g, d, t + 1, os⟩ "BaseException.__getattribute__" "BaseException" "__getattribute__" (.ref x) [.str "__class__" t] [] _ (by decide +kernel) (by decide +kernel) isE (PySem.F.args_bexc_ga (.ref x) (.str "__class__" t)) ?_))
  unfold Builtin.«object.__getattribute__»
  refine wpAny_bind (wpAny_of_eq (a := ((Value.ref x : Value), [Value.str "__class__" t])) (by first | rfl | (simp only [slotArgs] <;> rfl)) (wpAny_bind (wpAny_pure (wpAny_bind (a0.at (wpAny_bind (a3.at ?_)))))))
  show wpAny _ _ (holding [Value.builtin "object.__class__"] (call (.builtin "getset_descriptor.__get__") [.builtin "object.__class__", .ref x, .ref D]) >>= ret) _ _ _
  refine wpAny_bind (wpAny_holding (wpAny_call (class_get (s := ⟨hp, g, d, t + 1, os⟩) (ox := ox) (od := od) X I c.hm (wpAny_pure ?_))))
  show wpAny _ _ (handedOut (.ref D)) _ _ _
  rw [handedOut_of (v := .ref D) rfl]
  first
    | exact wpAny_pure (wpAny_pure h)
    | exact wpAny_pure h
    | exact wpAny_pure (wpAny_bind (wpAny_pure (wpAny_pure h)))
theorem kitExc (c : L2.ExcC K D) : KitX K (.ref x) (.ref D) (fun h => InstAt h x ox D od) where
  ty := fun _ _ _ I => I.type
  it := fun _ _ X _ => by
    obtain ⟨cdD, hcD, _⟩ := any_some c.hd
    unfold clsIn at hcD
    split at hcD
    · rename_i c' d' cd' sl' ho
      intro A' Q' E' s' k q
      unfold isType loadHead
      exact wpAny_bind (wpAny_loadPart (k _ _ (X _ _ ho)) (wpAny_pure q))
    · cases hcD
  ne := fun h tp dd its n sl X htp => by
    obtain ⟨cdD, hcD, _⟩ := any_some c.hd
    refine Bool.eq_false_iff.mpr fun q => ?_
    have e : D = tp := Value.ref.inj (beq_iff_eq.mp q)
    subst e
    unfold clsIn at hcD
    split at hcD
    · rename_i c' d' cd' sl' ho
      have z := (X _ _ ho).symm.trans htp
      cases z
    · cases hcD
  ca := fun X I k => clsOfExc c X I k
end
end PySem.W
end
section
namespace L2
open PySem PySem.Spec PyProof.Rows PySem.Kx
theorem relO_one {f : Str} {v : V} {u : Value} (r : RelV v u) (g : Str) : RelO (List.lookup g [(f, v)]) (if g = f then some u else none) := by
  by_cases e : g = f
  · subst e
    rw [if_pos rfl, List.lookup_cons, beq_self_eq_true]
    exact r
  · rw [if_neg e, List.lookup_cons, beq_eq_false_iff_ne.mpr e]
    trivial
section
variable {X : Cx} {x f qual : Str} {B B2 newId : String} {bmB : List Value} {C fI : Addr}
/-- X(e), an own exception with its field, as a value -/
def tOwnX (f : Str) (C : Addr) (ta : TA) : TE := fun σ H Q => ta σ H fun vs H1 => ∃ v, vs = [v] ∧ ∀ a d, H1 a = none → H1 d = none → a ≠ d → Q (.ref a) (upd (upd H1 d (exd d [(f, v)])) a (exo a C (some d)))
theorem pe_ownX {e : Expr} {ta : TA} {p pos : Pos} {k : Nat} (T : OwnX X.K X.mg x f qual B B2 newId bmB C fI) (hr : Room k X.A) (he : PA X [e] ta) (hg : Gl X x := by rfl) (hdb : (x == ("__debug__" : Str)) = false := by decide)
    (hs : starEach [e] X.env = (false, eval e X.env) :: starEach [] X.env := by rfl) (hpl : (backTo pos (starEach [] X.env)).any (·.1) = false := by rfl) : PE X (.Call (.Name x p) [e] [] pos) (tOwnX f C ta) := by
  refine ⟨fun pins s σ H Q I h => ?_⟩
  refine wpAny_Call_Name_kw (ld_glob I hg T.gC ?_ hdb)
  refine PySem.W.callWith_K (h₀ := X.base) I.ok.mod.kin T.kC (thn (he.run pos pins s σ H _ I h) fun us s1 hh => ?_) hs hpl
  obtain ⟨vs, H1, I1, r1, v, rfl, q1⟩ := hh
  cases r1 with
  | cons rv rn =>
    cases rn
    rename_i u
    refine ⟨I1.kIn, ?_⟩
    show wpAny _ _ (call (.ref C) [u]) _ _ _
    have lim := I1.nolimit
    obtain ⟨hp, g, dr, tk, os⟩ := s1
    refine wpAny_call (T.made I1.kIn lim (by have := hr.dp; omega) fun h' tk' a d M => ?_)
    show EP X pins σ Q (.ref a) ⟨h', g, dr, tk', os⟩
    obtain ⟨t1, hoe⟩ := M.obj
    have hns := M.ns
    obtain ⟨G, g1, g2⟩ := restrict h' fun b => decide (b ≠ a)
    have gk : ∀ b, b ≠ a → G.get? b = h'.get? b := fun b hb => g1 b (decide_eq_true hb)
    have ga : G.get? a = none := g2 a (by simp)
    have old : ∀ b o, hp.get? b = some o → G.get? b = some o := fun b o q => (gk b (Nat.ne_of_lt (Nat.lt_of_lt_of_le (Heap.lt_size q) M.new))).trans (M.keep b o q)
    have nd : H1 d = none := I1.hok.fresh M.big
    have na : H1 a = none := I1.hok.fresh M.new
    have J : Inv X pins σ (upd H1 d (exd d [(f, v)])) ⟨G, g, dr, tk', os⟩ := I1.laid (t' := tk') old M.big (exd_ok (hns.at fun o q => (gk d M.ne).trans q) (relO_one rv))
    have J2 : Inv X pins σ (upd (upd H1 d (exd d [(f, v)])) a (exo a C (some d))) ⟨h', g, dr, tk', os⟩ := J.laidN (t' := tk') (h' := h') (a := a) (fun b o q => by
      by_cases hb : b = a
      · have q' : G.get? b = some o := q
        rw [hb, ga] at q'
        cases q'
      · exact (gk b hb).symm.trans q) ga (by rw [upd_ne M.ne.symm]; exact na) (exo_ok hoe)
    exact ⟨.ref a, _, J2, rfl, q1 a d na nd M.ne.symm⟩
/-- an exception of the class D stands at a -/
def IsEx (H : Hp) (a D : Addr) : Prop := H a = some (ExO (.ref D) a) ∨ ∃ (d : Addr) (fs : List (Str × V)), H a = some (exo a D (some d)) ∧ H d = some (exd d fs)
def rIsX (K : PySem.W.Frag) : List V → Hp → VK → Prop := fun xs H Q => ∃ (a D : Addr) (c : V) (cv : Value) (b : Bool), xs = [.ref a, c] ∧ IsEx H a D ∧ ExcC K D ∧ (∀ u, RelV c u → u = cv) ∧ PySem.W.kitOne K (.ref D) cv = some b ∧ Q (.bl b) H
theorem call_isX : CallR X (.builtin "isinstance") (rIsX X.K) := by
  intro pins s σ H xs us Q I r h
  obtain ⟨a, D, c, cv, b, rfl, ie, cc, hcv, e, q⟩ := h
  obtain ⟨u1, u2, rfl, r1, r2⟩ := vals2 r
  cases (show u1 = Value.ref a from r1)
  have ec := hcv _ r2
  subst ec
  rcases ie with ha | ⟨d, fs, ha, hd⟩
  · obtain ⟨⟨oe, vs, ho, hz, hv, _⟩, _⟩ := I.hok a _ ha
    have J : PySem.W.InstAt s.heap a oe D none := by
      obtain ⟨oc, od, oda, osl⟩ := oe
      obtain ⟨h1, h2⟩ := hz
      dsimp only at h1 h2 hv
      subst h1 h2 hv
      exact ⟨ho, rfl, rfl, trivial⟩
    exact PySem.W.kia_one (PySem.W.kitExc cc) I.kIn J e (fun z => nomatch z) fun tk => ⟨.bl b, H, I.kept (t' := tk) fun _ _ z => z, rfl, q⟩
  · obtain ⟨t1, ho⟩ := exo_at I.hok ha
    obtain ⟨mA, hns, _⟩ := exd_at I.hok hd
    obtain ⟨od, hod, _⟩ := lookIn_ns hns
    have J : PySem.W.InstAt s.heap a _ D (some od) := ⟨ho, rfl, rfl, hod⟩
    exact PySem.W.kia_one (PySem.W.kitExc cc) I.kIn J e (fun z => nomatch z) fun tk => ⟨.bl b, H, I.kept (t' := tk) fun _ _ z => z, rfl, q⟩
/-- e.f, the field of such an exception -/
def tFldX (f : Str) (C : Addr) (te : TE) : TE := fun σ H Q => te σ H fun y H1 => ∃ (a d : Addr) (v : V), y = .ref a ∧ H1 a = some (exo a C (some d)) ∧ H1 d = some (exd d [(f, v)]) ∧ Q v H1
theorem pe_fldX {e : Expr} {te : TE} {pos : Pos} (T : OwnX X.K X.mg x f qual B B2 newId bmB C fI) (he : PE X e te) (hb : attributeBase e f X.env (eval e X.env) = eval e X.env := by rfl) : PE X (.Attribute e f pos) (tFldX f C te) := by
  refine ⟨fun pins s σ H Q I h => ?_⟩
  refine attr_of hb (thn (he.run pins s σ H _ I h) fun u s1 hh => ?_)
  obtain ⟨y, H1, I1, rx, a, d, v, rfl, ha, hd, q⟩ := hh
  obtain rfl : u = Value.ref a := rx
  obtain ⟨t1, ho⟩ := exo_at I1.hok ha
  obtain ⟨mA, hns, hr⟩ := exd_at I1.hok hd
  obtain ⟨od, hod, hl⟩ := lookIn_ns hns
  have l : List.lookup f [(f, v)] = some v := by rw [List.lookup_cons, beq_self_eq_true]
  obtain ⟨u, hu, ru⟩ := RelO.some_of (v := v) (o := mA f) (by rw [← l]; exact hr f)
  exact HandSPX.exc_get I1.kIn (PySem.W.InstAt.mk ho rfl rfl hod) T.ec.hg T.ec.hk T.ec.hs (PySem.W.findObj_own T.ec.hd T.noN rfl (by rw [hl, hu])) (handed_of ru) ⟨v, H1, I1.tok _, ru, q⟩
end
end L2
end
section
namespace L2
open PySem PySem.Spec PyProof.Rows PySem.Kx
/-- how an except clause's classes are asked: m cls b, an exception of the class cls is taken (b) -/
def TestG (X : Cx) (t : Expr) (m : Value → Bool → Prop) : Prop := ∀ (a : Addr) (oe : Obj) (pn : List (Addr × Obj)) (σ : St) (H : Hp) (s : Shared) (cls : Value) (b : Bool), Inv (X.suite a ((a, oe) :: pn)) [] σ H s → s.heap.get? a = some oe → oe.cls = cls → m cls b →
  ∀ (Q : Bool → Shared → Prop) (E E2 : Value → Shared → Prop), (∀ h' tk, (∀ b o, s.heap.get? b = some o → h'.get? b = some o) → Q b { s with heap := h', toks := tk }) →
    wpAny (model X.prog X.w) (X.A.mark (some (.ref a))) (eval t X.env) (fun c s₁ => wpAny (model X.prog X.w) (X.A.mark (some (.ref a))) (excMatches (.ref a) c) Q E2 s₁) E s
theorem name_suite {X : Cx} {x : Str} {np : Pos} {c : Value} (hc : Names X x c) {a : Addr} {oe : Obj} {pn : List (Addr × Obj)} {σ : St} {H : Hp} {s : Shared} (S : Inv (X.suite a ((a, oe) :: pn)) [] σ H s) {Q : Value → Shared → Prop} {E : Value → Shared → Prop} (q : Q c s) :
    wpAny (model X.prog X.w) (X.A.mark (some (.ref a))) (eval (.Name x np) X.env) Q E s := by
  obtain ⟨hg, hdbg, hm | ⟨hm, hv, hnn⟩⟩ := hc
  · exact ld_glob (X := X.suite a ((a, oe) :: pn)) S hg hm q hdbg
  · exact ld_blt (X := X.suite a ((a, oe) :: pn)) S hg hm hv q hnn hdbg
theorem tg_name {X : Cx} {x : Str} {np : Pos} {c : Value} (hc : Names X x c) : TestG X (.Name x np) (fun cls b => PySem.W.exmOne X.K cls c = some b) := fun a oe pn σ H s cls b S ha hcl hm Q E E2 hQ => by
  have LT : PySem.W.Looks (model X.prog X.w) s.heap (typeOf (.ref a)) cls := fun A Q E s k q => wpAny_typeOf_ref (k _ _ ha) (by rw [hcl]; exact q)
  exact name_suite hc S ((PySem.W.exm_one (M := model X.prog X.w) S.kIn LT hm).here (hQ s.heap s.toks fun _ _ e => e))
theorem tg_two {X : Cx} {x1 x2 : Str} {n1 n2 np : Pos} {k0 : Nat} {c1 c2 : Value} (h1 : Names X x1 c1) (h2 : Names X x2 c2) (hs1 : starEach [.Name x1 n1, .Name x2 n2] X.env = (false, eval (.Name x1 n1) X.env) :: starEach [.Name x2 n2] X.env := by rfl)
    (hs2 : starEach [.Name x2 n2] X.env = (false, eval (.Name x2 n2) X.env) :: starEach [] X.env := by rfl) : TestG X (.Tuple [.Name x1 n1, .Name x2 n2] k0 np) (fun cls b => PySem.W.exmAny X.K cls [c1, c2] = some b) := fun a oe pn σ H s cls b S ha hcl hm Q E E2 hQ => by
  refine wpAny_Tuple_spliced ?_
  rw [hs1]
  refine Calls.spliced_cons (name_suite h1 S ?_)
  rw [hs2]
  refine Calls.spliced_cons (name_suite h2 S ?_)
  refine Calls.spliced_nil ⟨by show 2 ≤ sizeLine; decide, ?_⟩
  have kp : ∀ b o, s.heap.get? b = some o → (s.heap.push { cls := .type "tuple", data := .seq [c1, c2].toArray }).get? b = some o := fun b o e => Heap.get?_push_of_some _ e
  have LT : PySem.W.Looks (model X.prog X.w) (s.heap.push { cls := .type "tuple", data := .seq [c1, c2].toArray }) (typeOf (.ref a)) cls := fun A Q E s k q => wpAny_typeOf_ref (k _ _ (kp _ _ ha)) (by rw [hcl]; exact q)
  exact (PySem.W.exm_tup2 (M := model X.prog X.w) (S.kIn.keeps kp) LT (Heap.get?_push_size _ rfl) hm).here (hQ _ s.toks kp)
theorem flying_keeps {B h h' : Heap} {l : List Env} {a : Addr} {Z : Obj → Prop} (x : HandSPX.FlyingZ B l a Z h) (k : ∀ b o, h.get? b = some o → h'.get? b = some o) : HandSPX.FlyingZ B l a Z h' := by
  obtain ⟨x1, x2, x3, oe, vs, T, oT, ts, e1, e2, e3, e4, e5, e6, e7, e8⟩ := x
  exact ⟨fun b o e => k _ _ (x1 b o e), x2, Heap.FunFrames.of_keeps (fun b o e _ => ⟨o, k _ _ e, rfl⟩) x3, oe, vs, T, oT, ts, k _ _ e1, e2, e3, e4, e5, e6, k _ _ e7, e8⟩
/-- an except clause: how it asks, where the exception's name stands, what the suite wishes -/
structure HS where
  m : Value → Bool → Prop
  slot : Option Nat
  ts : Addr → Value → Option Addr → TS
def HS.wish (h : HS) (D : Ends) (a : Addr) (cls : Value) (d : Option Addr) (σ : St) (H : Hp) : Prop := match h.slot with
  | none => h.ts a cls d D σ H
  | some i => h.ts a cls d { nx := fun σ' H' => D.nx (σ'.set i none) H', rt := D.rt, bk := fun σ' H' => D.bk (σ'.set i none) H', ct := fun σ' H' => D.ct (σ'.set i none) H' } (σ.set i (some (.ref a))) H
def wG (Wout : WX) (D : Ends) : List HS → WX
  | [] => Wout
  | h :: r => fun cls d σ H => ∃ b, h.m cls b ∧ (b = true → ∀ a, H a = none → h.wish D a cls d σ H) ∧ (b = false → wG Wout D r cls d σ H)
inductive HG (X : Cx) : List ExceptHandler → List HS → Prop
  | nil : HG X [] []
  | plain {t : Expr} {m : Value → Bool → Prop} {ts : Addr → Value → Option Addr → TS} {b₀ : Stmt} {suite : List Stmt} {pos' : Pos} {hds : List ExceptHandler} {l : List HS} (ht : TestG X t m)
      (hsu : ∀ (a : Addr) (oe : Obj) (cls : Value) (d : Option Addr) (pn : List (Addr × Obj)), Zc cls d oe → (∃ vs, oe.data = .fields vs) → PSs (X.suite a ((a, oe) :: pn)) (b₀ :: suite) (ts a cls d)) (r : HG X hds l) :
      HG X (.ExceptHandler (some t) none (b₀ :: suite) pos' :: hds) (⟨m, none, ts⟩ :: l)
  | named {t : Expr} {n : Str} {i : Nat} {m : Value → Bool → Prop} {ts : Addr → Value → Option Addr → TS} {b₀ : Stmt} {suite : List Stmt} {pos' : Pos} {hds : List ExceptHandler} {l : List HS} (hi : X.N[i]? = some n) (hln : X.env.kindOf n = some .local) (ht : TestG X t m)
      (hsu : ∀ (a : Addr) (oe : Obj) (cls : Value) (d : Option Addr) (pn : List (Addr × Obj)), Zc cls d oe → (∃ vs, oe.data = .fields vs) → PSs (X.suite a ((a, oe) :: pn)) (b₀ :: suite) (ts a cls d)) (r : HG X hds l) :
      HG X (.ExceptHandler (some t) (some n) (b₀ :: suite) pos' :: hds) (⟨m, some i, ts⟩ :: l)
section
variable {X : Cx} {body : List Stmt} {h₀ : ExceptHandler} {hds : List ExceptHandler} {l : List HS} {pos : Pos} {tb : WX → TS} {Wout : WX}
theorem ps_tryG (hs : X.stack = X.env :: X.outer) (hf : X.env.frame = some X.env.locals) (hN : X.N.Nodup) (tk : Takes X Wout)
    (hb : ∀ (W : WX) (pn : List (Addr × Obj)) (xe : Value → Shared → Prop), Takes (X.tr pn xe) W → PassesOwn (model X.prog X.w) X.A X.env xe → PSs (X.tr pn xe) body (tb W))
    (hh : HG X (h₀ :: hds) l) : PS X (.Try body (h₀ :: hds) [] [] pos) (fun D σ H => tb (wG Wout D l) D σ H) := by
  refine ⟨fun pins s σ H D I h => ?_⟩
  have ok := I.ok
  have hfr : X.A.frames = some (X.env :: X.outer) := by rw [ok.frames, hs]
  refine wpAny_Try_except (wpAny_mono ((hb (wG Wout D l) (X.pn ++ pins) (fun e s₁ => wpAny (model X.prog X.w) X.A (noteFrame e X.env) (fun _ s₂ => wpAny (model X.prog X.w) X.A (setFlight e none) (fun _ s₃ => wpAny (model X.prog X.w) X.A (handleBy e X.env (h₀ :: hds)) (SP X pins D) X.xe s₃) X.xe s₂) X.xe s₁)
    (fun u s' xx => ?_) PassesOwn.looking).run [] s σ H D (I.toTry _) h) (fun f s1 hsp => ?_) (fun e s1 he => he))
  · obtain ⟨a, B, sI, pins', σ', H', cls, d, rfl, J', nb, up, sky, na, os, ag, w⟩ := xx
    have J : Inv X pins σ' H' sI := J'.ofTry ok
    show wpAny (model X.prog X.w) X.A (noteFrame (.ref a) X.env) _ _ _
    refine Sky.land Zc.steady hfr hf (by rw [← hs]; exact sky) fun h3 fl3 up3 => ?_
    -- the clauses, one after the other, each over a heap that has grown
    have go : ∀ {hds' : List ExceptHandler} {l' : List HS}, HG X hds' l' → wG Wout D l' cls d σ' H' → ∀ (h3 : Heap) (tk3 : Nat), HandSPX.FlyingZ B (X.env :: X.outer) a (Zc cls d) h3 → s'.heap.UpToSlots h3 →
        wpAny (model X.prog X.w) X.A (handleBy (.ref a) X.env hds') (SP X pins D) X.xe { s' with heap := h3, toks := tk3 } := by
      intro hds' l' hk
      have prep : ∀ {h3 : Heap} {tk3 : Nat}, HandSPX.FlyingZ B (X.env :: X.outer) a (Zc cls d) h3 → s'.heap.UpToSlots h3 → ∃ oe3, h3.get? a = some oe3 ∧ Zc cls d oe3 ∧ (∃ vs, oe3.data = .fields vs) ∧ Inv (X.suite a ((a, oe3) :: (X.pn ++ pins))) [] σ' H' { s' with heap := h3, toks := tk3 } := by
        intro h3 tk3 fl3 up3
        have J3 : Inv X pins σ' H' { s' with heap := h3, toks := tk3 } := J.landed nb fl3.1 (up.trans up3) os ag
        obtain ⟨oe3, vs3, he3, hz3, hd3⟩ := fl3.there
        have nfr : a ∉ frs (X.env :: X.outer) := fun hm => by
          obtain ⟨_, o', e', hnf⟩ := fl3.2.2.1.mem hm
          rw [he3] at e'
          cases e'
          exact hnf _ hd3
        refine ⟨oe3, he3, hz3, ⟨_, hd3⟩, J3.suite he3 hd3 na (fun z => nfr (List.mem_filterMap.mpr ⟨X.env, List.mem_cons_self, by rw [hf, z]⟩)) fun hm => ?_⟩
        obtain ⟨e, he, q⟩ := List.mem_filterMap.mp hm
        exact nfr (List.mem_filterMap.mpr ⟨e, List.mem_cons_of_mem _ he, q⟩)
      induction hk with
      | nil =>
        intro w h3 tk3 fl3 up3
        refine wpAny_handleBy_nil ?_
        obtain ⟨_, _, _, oe, vs, T, oT, ts', he, _, hd, h1, _⟩ := id fl3
        unfold PySem.passOn
        refine wpAny_bind (wpAny_field he hd h1 ?_)
        rw [if_neg (show ¬ ((Value.ref T == Value.none) = true) by simp)]
        have fin : wpAny (model X.prog X.w) X.A (setFlight (.ref a) X.env.frame) (fun _ s4 => wpAny (model X.prog X.w) X.A (throw (.ref a) : Sem Flow) (SP X pins D) X.xe s4) X.xe { s' with heap := h3, toks := tk3 } := by
          rw [hf]
          exact HandSPX.setFlight_upZ fl3 fun h4 hh4 up4 => wpAny_throw (tk _ _ ⟨a, B, sI, pins, σ', H', cls, d, rfl, J, nb, (up.trans up3).trans up4, .inr (.inr (by rw [hs]; exact hh4)), na, os, ag, w⟩)
        first
          | exact wpAny_bind (wpAny_pure (wpAny_bind fin))
          | exact wpAny_bind fin
      | @plain t m ts b₀ suite pos' hds2 l2 ht hsu r ih =>
        intro w h3 tk3 fl3 up3
        obtain ⟨b, hb1, hyes, hno⟩ := w
        obtain ⟨oe3, he3, hz3, _, S3⟩ := prep (tk3 := tk3) fl3 up3
        refine wpAny_handleBy_cons (codeAny_handlers_test (ht a oe3 _ σ' H' _ cls b S3 he3 hz3.1 hb1 _ _ _ fun h5 tk5 k5 => ?_)) (by intro q; cases q)
        have fl5 := flying_keeps fl3 k5
        have up5 := up3.trans (Heap.UpToSlots.of_keeps k5)
        cases b with
        | true =>
          refine codeAny_handlers_suite (HandSPX.lands_againZ fl5 fun h4 fl4 up4 => ?_)
          obtain ⟨oe4, he4, hz4, hd4, S4⟩ := prep (tk3 := tk5) fl4 (up5.trans up4)
          refine wpAny_mono ((hsu a oe4 cls d (X.pn ++ pins) hz4 hd4).run [] _ _ H' _ S4 (hyes rfl a na)) (fun f s6 hsp => ?_) (fun _ _ z => False.elim z)
          cases f with
          | ret u => obtain ⟨v6, σ6, H6, S6, r6, q6⟩ := hsp; exact ⟨_, _, _, S6.unsuite ok, r6, q6⟩
          | next => obtain ⟨σ6, H6, S6, q6⟩ := hsp; exact ⟨_, _, S6.unsuite ok, q6⟩
          | brk => obtain ⟨σ6, H6, S6, q6⟩ := hsp; exact ⟨_, _, S6.unsuite ok, q6⟩
          | cont => obtain ⟨σ6, H6, S6, q6⟩ := hsp; exact ⟨_, _, S6.unsuite ok, q6⟩
        | false =>
          show wpAny _ X.A (handleBy (.ref a) X.env hds2) _ _ _
          exact ih (hno rfl) h5 tk5 fl5 up5
      | @named t n i m ts b₀ suite pos' hds2 l2 hi hln ht hsu r ih =>
        intro w h3 tk3 fl3 up3
        obtain ⟨b, hb1, hyes, hno⟩ := w
        obtain ⟨oe3, he3, hz3, _, S3⟩ := prep (tk3 := tk3) fl3 up3
        refine wpAny_handleBy_cons (codeAny_handlers_test (ht a oe3 _ σ' H' _ cls b S3 he3 hz3.1 hb1 _ _ _ fun h5 tk5 k5 => ?_)) (by intro q; cases q)
        have fl5 := flying_keeps fl3 k5
        have up5 := up3.trans (Heap.UpToSlots.of_keeps k5)
        cases b with
        | true =>
          refine codeAny_handlers_suite_as (HandSPX.lands_againZ fl5 fun h4 fl4 up4 => ?_)
          obtain ⟨oe4, he4, hz4, hd4, S4⟩ := prep (tk3 := tk5) fl4 (up5.trans up4)
          refine store_ok (X := X.suite a ((a, oe4) :: (X.pn ++ pins))) (v := .ref a) S4 hN hi (.inl hln) rfl (fun s5 S5 => ?_) (.inr hln)
          refine wpAny_mono ((hsu a oe4 cls d (X.pn ++ pins) hz4 hd4).run [] s5 _ H' _ S5 (hyes rfl a na)) (fun f s6 hsp => ?_) (fun _ _ z => False.elim z)
          have gone : ∀ {σ6 : St} {H6 : Hp} {Q : Shared → Prop}, Inv (X.suite a ((a, oe4) :: (X.pn ++ pins))) [] σ6 H6 s6 → (∀ s7, Inv X pins (σ6.set i none) H6 s7 → Q s7) →
              wpAny (model X.prog X.w) X.A (do bindName X.env n .none; unbindBehindTheSuite X.env n pos') (fun _ s7 => Q s7) X.xe s6 := fun {σ6 H6 Q} S6 hq => gone_ok (S6.unsuite ok) hN hi hln hq
          cases f with
          | ret u => obtain ⟨v6, σ6, H6, S6, r6, q6⟩ := hsp; exact gone S6 fun s7 J7 => ⟨_, _, _, J7, r6, q6⟩
          | next => obtain ⟨σ6, H6, S6, q6⟩ := hsp; exact gone S6 fun s7 J7 => ⟨_, _, J7, q6⟩
          | brk => obtain ⟨σ6, H6, S6, q6⟩ := hsp; exact gone S6 fun s7 J7 => ⟨_, _, J7, q6⟩
          | cont => obtain ⟨σ6, H6, S6, q6⟩ := hsp; exact gone S6 fun s7 J7 => ⟨_, _, J7, q6⟩
        | false =>
          show wpAny _ X.A (handleBy (.ref a) X.env hds2) _ _ _
          exact ih (hno rfl) h5 tk5 fl5 up5
    exact go hh w h3 s'.toks fl3 up3
  · cases f with
    | ret u => obtain ⟨v, σ', H', J', r, q⟩ := hsp; exact ⟨v, σ', H', J'.ofTry ok, r, q⟩
    | next => obtain ⟨σ', H', J', q⟩ := hsp; exact wpAny_execs_nil ⟨σ', H', J'.ofTry ok, q⟩
    | brk => obtain ⟨σ', H', J', q⟩ := hsp; exact ⟨σ', H', J'.ofTry ok, q⟩
    | cont => obtain ⟨σ', H', J', q⟩ := hsp; exact ⟨σ', H', J'.ofTry ok, q⟩
end
end L2
end
section
namespace L2
open PySem PySem.Spec PyProof.Rows PySem.Kx
section
variable {X : Cx} {x f qual : Str} {B B2 newId : String} {bmB : List Value} {C fI : Addr}
/-- raise X(e), an own exception with its field -/
def tMkX (f : Str) (C : Addr) (ta : TA) : St → Hp → XK → Prop := fun σ H Q => ta σ H fun vs H1 => ∃ v, vs = [v] ∧ ∀ d, H1 d = none → Q (.ref C) (some d) (upd H1 d (.xd [(f, v)]))
theorem pmk_ownX {e : Expr} {ta : TA} {p pos : Pos} {k : Nat} (T : OwnX X.K X.mg x f qual B B2 newId bmB C fI) (hr : Room k X.A) (he : PA X [e] ta) (hg : Gl X x := by rfl) (hdb : (x == ("__debug__" : Str)) = false := by decide)
    (hs : starEach [e] X.env = (false, eval e X.env) :: starEach [] X.env := by rfl) (hpl : (backTo pos (starEach [] X.env)).any (·.1) = false := by rfl) : PMk X (.Call (.Name x p) [e] [] pos) (tMkX f C ta) := by
  intro pins s σ H Q I h
  refine wpAny_Call_Name_kw (ld_glob I hg T.gC ?_ hdb)
  refine PySem.W.callWith_K (h₀ := X.base) I.ok.mod.kin T.kC (thn (he.run pos pins s σ H _ I h) fun us s1 hh => ?_) hs hpl
  obtain ⟨vs, H1, I1, r1, v, rfl, q1⟩ := hh
  cases r1 with
  | cons rv rn =>
    cases rn
    rename_i u
    refine ⟨I1.kIn, ?_⟩
    show wpAny _ _ (call (.ref C) [u]) _ _ _
    have lim := I1.nolimit
    obtain ⟨hp, g, dr, tk, os⟩ := s1
    refine wpAny_call (T.made I1.kIn lim (by have := hr.dp; omega) fun h' tk' a d M => ?_)
    show MkP X pins σ Q (.ref a) ⟨h', g, dr, tk', os⟩
    obtain ⟨t1, hoe⟩ := M.obj
    have hns := M.ns
    obtain ⟨G, g1, g2⟩ := restrict h' fun b => decide (b ≠ a)
    have gk : ∀ b, b ≠ a → G.get? b = h'.get? b := fun b hb => g1 b (decide_eq_true hb)
    have ga : G.get? a = none := g2 a (by simp)
    have old : ∀ b o, hp.get? b = some o → G.get? b = some o := fun b o q => (gk b (Nat.ne_of_lt (Nat.lt_of_lt_of_le (Heap.lt_size q) M.new))).trans (M.keep b o q)
    have nd : H1 d = none := I1.hok.fresh M.big
    have na : H1 a = none := I1.hok.fresh M.new
    have ob : ObjOk X.prog X.w (upd H1 d (.xd [(f, v)])) G d (.xd [(f, v)]) := ⟨_, hns.at fun o q => (gk d M.ne).trans q, relO_one rv⟩
    have J : Inv X pins σ (upd H1 d (.xd [(f, v)])) ⟨G, g, dr, tk', os⟩ := I1.laid (t' := tk') old M.big ob
    refine ⟨a, _, _, ⟨G, g, dr, tk', os⟩, _, .ref C, some d, rfl, J, fun b o q => ?_, ga, hoe, ⟨rfl, rfl⟩, rfl, rfl, ?_, rfl, I1.bare, raises_own T.ec.hs T.tyC, q1 d nd⟩
    · by_cases hb : b = a
      · have q' : G.get? b = some o := q
        rw [hb, ga] at q'
        cases q'
      · exact (gk b hb).symm.trans q
    · rw [upd_ne M.ne.symm]
      exact na
/-- e.f within the suite that holds e -/
def tByX (f : Str) (C a : Addr) (cls : Value) (d : Option Addr) (te : TE) : TE := fun σ H Q => te σ H fun y H1 => y = .ref a ∧ cls = .ref C ∧ ∃ (dd : Addr) (v : V), d = some dd ∧ H1 dd = some (.xd [(f, v)]) ∧ Q v H1
theorem pe_byX {a : Addr} {oe : Obj} {cls : Value} {d : Option Addr} {pn : List (Addr × Obj)} {e : Expr} {te : TE} {pos : Pos} (T : OwnX X.K X.mg x f qual B B2 newId bmB C fI) (hz : Zc cls d oe) (hf : ∃ vs, oe.data = .fields vs) (he : PE (X.suite a ((a, oe) :: pn)) e te)
    (hb : attributeBase e f X.env (eval e X.env) = eval e X.env := by rfl) : PE (X.suite a ((a, oe) :: pn)) (.Attribute e f pos) (tByX f C a cls d te) := by
  refine ⟨fun pins s σ H Q I h => ?_⟩
  refine attr_of hb (thn (he.run pins s σ H _ I h) fun u s1 hh => ?_)
  obtain ⟨y, H1, I1, rx, rfl, rfl, dd, v, rfl, hd, q⟩ := hh
  obtain rfl : u = Value.ref a := rx
  obtain ⟨ho, _⟩ := I1.pin (a, oe) (List.mem_append_left _ List.mem_cons_self)
  obtain ⟨vs, hv⟩ := hf
  obtain ⟨mA, hns, hr⟩ := (show ObjOk X.prog X.w H1 s1.heap dd (.xd [(f, v)]) from I1.hok dd _ hd)
  obtain ⟨od, hod, hl⟩ := lookIn_ns hns
  have l : List.lookup f [(f, v)] = some v := by rw [List.lookup_cons, beq_self_eq_true]
  obtain ⟨u, hu, ru⟩ := RelO.some_of (v := v) (o := mA f) (by rw [← l]; exact hr f)
  have J : PySem.W.InstAt s1.heap a oe C (some od) := ⟨ho, hz.1, by unfold PySem.W.notCls; rw [hv] <;> rfl, by rw [hz.2]; exact hod⟩
  exact HandSPX.exc_get I1.kIn J T.ec.hg T.ec.hk T.ec.hs (PySem.W.findObj_own T.ec.hd T.noN rfl (by rw [hl, hu])) (handed_of ru) ⟨v, H1, I1.tok _, ru, q⟩
/-- isinstance(e, c) within the suite that holds e -/
def rIsS (K : PySem.W.Frag) (D a : Addr) (d : Option Addr) : List V → Hp → VK → Prop := fun xs H Q => ∃ (c : V) (cv : Value) (b : Bool), xs = [.ref a, c] ∧ (∀ u, RelV c u → u = cv) ∧ (∀ dd, d = some dd → ∃ fs, H dd = some (.xd fs)) ∧ PySem.W.kitOne K (.ref D) cv = some b ∧ Q (.bl b) H
theorem call_isS {a D : Addr} {oe : Obj} {d : Option Addr} {pn : List (Addr × Obj)} (cc : ExcC X.K D) (hz : Zc (.ref D) d oe) (hf : ∃ vs, oe.data = .fields vs) : CallR (X.suite a ((a, oe) :: pn)) (.builtin "isinstance") (rIsS X.K D a d) := by
  intro pins s σ H xs us Q I r h
  obtain ⟨c, cv, b, rfl, hcv, hdd, e, q⟩ := h
  obtain ⟨u1, u2, rfl, r1, r2⟩ := vals2 r
  cases (show u1 = Value.ref a from r1)
  have ec := hcv _ r2
  subst ec
  obtain ⟨ho, _⟩ := I.pin (a, oe) (List.mem_append_left _ List.mem_cons_self)
  obtain ⟨vs, hv⟩ := hf
  obtain ⟨od, J⟩ : ∃ od, PySem.W.InstAt s.heap a oe D od := by
    cases d with
    | none => exact ⟨none, ho, hz.1, by unfold PySem.W.notCls; rw [hv] <;> rfl, by rw [hz.2]; trivial⟩
    | some dd =>
      obtain ⟨fs, hd⟩ := hdd dd rfl
      obtain ⟨mA, hns, _⟩ := (show ObjOk X.prog X.w H s.heap dd (.xd fs) from I.hok dd _ hd)
      obtain ⟨od, hod, _⟩ := lookIn_ns hns
      exact ⟨some od, ho, hz.1, by unfold PySem.W.notCls; rw [hv] <;> rfl, by rw [hz.2]; exact hod⟩
  exact PySem.W.kia_one (PySem.W.kitExc cc) I.kIn J e (fun z => nomatch z) fun tk => ⟨.bl b, H, I.kept (t' := tk) fun _ _ z => z, rfl, q⟩
end
end L2
end
section
namespace L2
open PySem PySem.Spec PyProof.Rows PySem.Kx
/-! ### defs that show values (repr): they are called where no repr is under way -/
structure FnG (P : Program) (w : World) (K : PySem.W.Frag) (mg : Str → Option Value) (base : Heap) (CX : CXT) (k : Nat) (f : Addr) (fd : FuncData) (ps : List Str) (sp : Sp) : Prop where
  len : ∀ vs H Q E, sp vs H Q E → vs.length = ps.length
  run : ∀ (A : Around) (outer : List Env) (s : Shared) (H : Hp) (args : Args) (us : List Value) (vs : List V) (Q : VK) (E : XK), A.guards = some [] → Room k A → Env0 P w K mg base A outer s H → BindsTo s fd args (ps.zip us) → Vals vs us → sp vs H Q E →
    codeAny (model P w) A (.call (.ref f) args) (CR CX outer P w H s Q E) s
section
variable {P : Program} {w : World} {K : PySem.W.Frag} {mg : Str → Option Value} {base : Heap} {CX : CXT} {k : Nat} {f : Addr} {fd : FuncData} {ps : List Str} {sp : Sp}
theorem FnOk.toG (F : FnOk P w K mg base CX k f fd ps sp) : FnG P w K mg base CX k f fd ps sp := ⟨F.len, fun A outer s H args us vs Q E _ => F.run A outer s H args us vs Q E⟩
theorem guards_deeper {A : Around} {env : Env} (h : A.guards = some []) : (A.deeper env).guards = some [] := h
theorem Fun.okG {x qual : Str} {st : Stmt} {N : List Str} (F : Fun K x qual st f fd) (S : FnScope N ps (defScope st)) (len : ∀ vs H Q E, sp vs H Q E → vs.length = ps.length)
    (hbody : ∀ (cdv : Value) (A : Around) (outer : List Env) (s : Shared) (H : Hp) (vs : List V) (Q : VK) (E : XK), A.guards = some [] → Room k (A.deeper (envOfC qual (defScope st) s.heap.objs.size f cdv)) → sp vs H Q E →
      ∃ t, PSs (cxOf CX P w K mg base N qual (defScope st) f cdv A outer s H E) (defBody st) t ∧ t { nx := fun _ H' => Q .non H', rt := Q } (start N vs) H) : FnG P w K mg base CX (k + 1) f fd ps sp := by
  obtain ⟨oc, od, kV, doc, pm, an, cdv, ct, osl, rfl, lk, hcd⟩ := F.ex
  refine ⟨len, fun A outer s H args us vs Q E gA hr e0 hb r hsp => ?_⟩
  have old : ∀ b o, base.get? b = some o → s.heap.get? b = some o := fun b o e => (e0.bs b o e).1
  have hk : ∀ y ∈ ps.zip us, (defScope st).names.lookup y.1 = some .local ∨ ((defScope st).names.lookup y.1 = some .cell ∧ ((cellsFrom (s.heap.objs.size + 1) (defScope st).names []).lookup y.1).isSome = true) := fun y hy =>
    (S.par y.1 (List.of_mem_zip (show (y.1, y.2) ∈ ps.zip us from hy)).1).imp id fun q => ⟨q, PySem.W.cellsFrom_some _ _ _ (.inl q)⟩
  refine codeAny_call_function hr.depth (e0.mod.kin.keeps old _ _ lk) rfl S.co S.gen rfl (PySem.W.codeRec_of (e0.mod.kin.keeps old) hcd) (hb _ _ _ _ (wpAny_newFunctionEnv_cells S.kind hk fun env he s1 x => ?_))
  subst he
  refine ⟨(e0.mod.nolimit.keeps old).keeps x.toInCall.keep, codeAny_func ?_⟩
  obtain ⟨t, ht, hq⟩ := hbody cdv A outer s H vs Q E gA (hr.deeper _) hsp
  refine wpAny_mono (ht.run [] s1 (start N vs) H _ (inv_start S hr.hd e0 (len _ _ _ _ hsp) r x) hq) (fun fl s' hs => ?_) fun e s' hs => hs
  cases fl with
  | ret u => obtain ⟨v, σ', H', J, rv, q⟩ := hs; exact ⟨v, H', J.os, J.bare, J.base, J.hok, rv, q⟩
  | next => obtain ⟨σ', H', J, q⟩ := hs; exact ⟨V.non, H', J.os, J.bare, J.base, J.hok, rfl, q⟩
  | brk => obtain ⟨_, _, _, q⟩ := hs; exact False.elim q
  | cont => obtain ⟨_, _, _, q⟩ := hs; exact False.elim q
/-- the same, where no exception leaves the def -/
theorem Fun.okG0 {x qual : Str} {st : Stmt} {N : List Str} (F : Fun K x qual st f fd) (S : FnScope N ps (defScope st)) (len : ∀ vs H Q E, sp vs H Q E → vs.length = ps.length)
    (hbody : ∀ (cdv : Value) (A : Around) (outer : List Env) (s : Shared) (H : Hp) (vs : List V) (Q : VK) (E : XK), A.guards = some [] → Room k (A.deeper (envOfC qual (defScope st) s.heap.objs.size f cdv)) → sp vs H Q E →
      ∃ t, PSs (cxOf CX0 P w K mg base N qual (defScope st) f cdv A outer s H E).nox (defBody st) t ∧ t { nx := fun _ H' => Q .non H', rt := Q } (start N vs) H) : FnG P w K mg base CX0 (k + 1) f fd ps sp :=
  F.okG S len fun cdv A outer s H vs Q E gA hr h => by
    obtain ⟨t, ht, q⟩ := hbody cdv A outer s H vs Q E gA hr h
    exact ⟨t, ht.nox, q⟩
end
section
variable {X : Cx} {CX : CXT} {k : Nat} {f : Addr} {fd : FuncData} {ps : List Str} {sp : Sp} {dvs : List V} {ds : List Value} {E : XK} {x : Str} {p pos : Pos} {e : Expr} {es : List Expr} {t : TA}
theorem pe_callG (F : FnG X.prog X.w X.K X.mg X.base CX k f fd ps sp) (gA : X.A.guards = some []) (hr : Room k X.A) (hg : Gl X x) (hm : X.mg x = some (.ref f)) (hk : PySem.W.keepIn X.K (.ref f) = true) (hb : Binds X.K fd ps ds) (hd : Vals dvs ds) (hx : Passes CX X E) (ha : PA X (e :: es) t)
    (hdb : (x == ("__debug__" : Str)) = false := by decide) (he : starEach (e :: es) X.env = (false, eval e X.env) :: starEach es X.env := by rfl) (hpl : (backTo pos (starEach es X.env)).any (·.1) = false := by rfl) : PE X (.Call (.Name x p) (e :: es) [] pos) (tCall sp dvs E t) := by
  refine ⟨fun pins s σ H Q I h => wpAny_Call_Name_kw (ld_glob I hg hm ?_ hdb)⟩
  refine PySem.W.callWith_K (h₀ := X.base) I.ok.mod.kin hk (thn (ha.run pos pins s σ H _ I h) fun us s1 ⟨vs, H1, I1, r, q⟩ => ⟨I1.kIn, ?_⟩) he hpl
  have r2 : Vals (vs ++ dvs) (us ++ ds) := r.append hd
  refine wpAny_call (codeAny_mono (F.run X.A X.stack s1 H1 ⟨us, []⟩ (us ++ ds) (vs ++ dvs) Q E gA hr I1.env0 (hb s1 us I1.kIn (by rw [← r2.length]; exact F.len _ _ _ _ q)) r2 q) fun z s' hq => ?_)
  cases z with
  | error e => exact hx pins σ H1 s1 e s' I1 hq
  | ok fl =>
    cases fl with
    | ret u => exact I1.after hq
    | next => exact False.elim hq
    | brk => exact False.elim hq
    | cont => exact False.elim hq
/-- repr of data -/
def rRepr (K : PySem.W.Frag) : List V → Hp → VK → Prop := fun xs H Q => ∃ (x : V) (d : PyData), xs = [x] ∧ Dp K H x d ∧ d.showable = true ∧ d.depth ≤ 60 ∧ d.shown.length ≤ sizeLine ∧ Q (.str d.shown) H
mutual
theorem Dp.noDict {K : PySem.W.Frag} {H : Hp} : ∀ {v : V} (d : PyData), Dp K H v d → d.hasDict = false
  | _, .none, _ => rfl
  | _, .bool _, _ => rfl
  | _, .int _, _ => rfl
  | _, .str _, _ => rfl
  | _, .list ds, h => by cases h with | lst _ a => simp only [PyData.hasDict]; exact Dp.noDicts ds a
  | _, .tuple ds, h => by cases h with | tup _ a => simp only [PyData.hasDict]; exact Dp.noDicts ds a
  | _, .dict _, h => by cases h
theorem Dp.noDicts {K : PySem.W.Frag} {H : Hp} : ∀ {vs : List V} (ds : List PyData), DpAll K H vs ds → PyData.hasDictAll ds = false
  | _, [], _ => rfl
  | _, d :: ds, h => by cases h with | cons a b => simp only [PyData.hasDictAll, Dp.noDict d a, Dp.noDicts ds b, Bool.or_self]
end
theorem call_reprD (gA : X.A.guards = some []) (hr : X.A.units + 64 < cLine) : CallR X (.builtin "repr") (rRepr X.K) := by
  intro pins s σ H xs us Q I r h
  obtain ⟨x, d, rfl, hd, hs, hdep, hz, q⟩ := h
  cases r with
  | cons rx rn =>
    cases rn
    rename_i u
    show wpAny _ _ (call (.builtin "repr") [u]) _ _ _
    obtain ⟨as, rd⟩ := Dp.reads I d x u hd rx
    cases hd with
    | non => cases rx; exact PySem.P.repr_of_none ⟨.str _, H, I.tok _, ⟨_, rfl⟩, q⟩
    | bl b => cases rx; exact PySem.P.repr_of_bool ⟨.str _, H, I.tok _, ⟨_, rfl⟩, by simpa only [PyData.shown] using q⟩
    | int i => obtain ⟨t, rfl⟩ := rx; exact PySem.P.repr_of_int (by simpa only [PyData.showable, decide_eq_true_eq] using hs) ⟨.str _, H, I.tok _, ⟨_, rfl⟩, by simpa only [PyData.shown] using q⟩
    | str y => obtain ⟨t, rfl⟩ := rx; exact PySem.P.repr_of_str ⟨.str _, H, I.tok _, ⟨_, rfl⟩, by simpa only [PyData.shown] using q⟩ (by simpa only [PyData.shown] using hz)
    | lst a b => cases rx; exact repr_of_reads' rd hs (PyData.noDict_hsm (Dp.noDict _ (.lst a b))) gA (by omega) (fun _ _ e => e) (fun h' u tk hk => ⟨.str _, H, I.kept (t' := tk) hk, ⟨_, rfl⟩, q⟩) hz
    | tup a b => cases rx; exact repr_of_reads' rd hs (PyData.noDict_hsm (Dp.noDict _ (.tup a b))) gA (by omega) (fun _ _ e => e) (fun h' u tk hk => ⟨.str _, H, I.kept (t' := tk) hk, ⟨_, rfl⟩, q⟩) hz
end
end L2
end
section
namespace L2
open PySem PySem.Spec PyProof.Rows PySem.Kx
/-- the law's call, by a promise that may show values -/
theorem lawG {P : Program} {w : World} {K : PySem.W.Frag} {mg mb : Str → Option Value} {CX : CXT} {k : Nat} {fa a : Addr} {fd : FuncData} {x : Str} {sp : Sp} {s₁ : Shared} {vs : List Value} {ns : List Int} (KX : K.In s₁.heap) (hns : s₁.heap.Ns mainGlobals mg) (hb : s₁.heap.Ns builtinsNs mb)
    (hbb : ∀ x : Str, x ≠ "__name__" → mb x = bootBuiltins x) (hlim : s₁.heap.NoLimit) (hg : s₁.gens = #[]) (ha : s₁.heap.get? a = some { cls := .type "list", data := .seq vs.toArray }) (hi : IntsAre vs ns) (hl : ns.length ≤ sizeLine) (hr : Room k callerA)
    (F : ∀ base : Heap, K.In base → base.Ns mainGlobals mg → FnG P w K mg base CX k fa fd [x] sp) (hbind : ∀ (s : Shared) (u : Value), BindsTo s fd ⟨[u], []⟩ [(x, u)]) (hsp : ∀ H : Hp, Only H → SqL K H a (ns.map V.int) → sp [.ref a] H (fun v _ => v = .bl true) fun _ _ _ => False)
    (hCX : ∀ H e s', CX [] H s₁ (fun _ _ _ => False) e s' → False) : codeAny (model P w) callerA (.call (.ref fa) ⟨[.ref a], []⟩) (fun r s' => r = .ok (.ret (.bool true)) ∧ OldK s₁.heap s'.heap ∧ s'.os = s₁.os ∧ AllBare s'.gens) s₁ := by
  have rv := vals_ints hi
  -- H tells of the script alone, or of nothing
  have main : ∀ H : Hp, Only H → SqL K H a (ns.map V.int) → HOk P w H s₁.heap → (∀ b, H b ≠ none → b = a ∧ K.lookup a = none) → codeAny (model P w) callerA (.call (.ref fa) ⟨[.ref a], []⟩) (fun r s' => r = .ok (.ret (.bool true)) ∧ OldK s₁.heap s'.heap ∧ s'.os = s₁.os ∧ AllBare s'.gens) s₁ := by
    intro H hO hS hok hA
    have isA : ∀ {b : Addr} {u : HO}, H b = some u → b = a ∧ K.lookup a = none := fun {b u} q => hA b (by rw [q]; exact fun z => nomatch z)
    have nsK : ∀ {b : Addr} {m : Str → Option Value}, s₁.heap.Ns b m → (hidT s₁.heap H).Ns b m := fun {b m} ⟨o, es, ep, e, d, r⟩ => ⟨o, es, ep, hidT_get e (by
      cases q : H b with
      | none => rfl
      | some u =>
        obtain ⟨z, _⟩ := isA q
        rw [z, ha] at e
        cases e
        exact absurd (show Data.seq vs.toArray _ = Data.dict es ep from d) (fun z => nomatch z)), d, r⟩
    have KB : K.In (hidT s₁.heap H) := fun b o e => hidT_get (KX b o e) (by
      cases q : H b with
      | none => rfl
      | some u =>
        obtain ⟨z, z2⟩ := isA q
        rw [z, z2] at e
        cases e)
    have e0 : Env0 P w K mg (hidT s₁.heap H) callerA [] s₁ H := ⟨rfl, ⟨KB, nsK hns, ⟨mb, nsK hb, hbb⟩, by obtain ⟨mc, h1, h2⟩ := hlim; exact ⟨mc, nsK h1, h2⟩⟩, fun b o e => of_hidT e, Nat.le_of_eq (hidT_size _ _), trivial, fun b z => absurd (show b ∈ ([] : List Addr) from z) (by simp), hok, .of_eq hg⟩
    refine codeAny_mono ((F _ KB (nsK hns)).run callerA [] s₁ H ⟨[.ref a], []⟩ [.ref a] [.ref a] _ _ rfl hr e0 (hbind s₁ (.ref a)) (.cons rfl .nil) (hsp H hO hS)) fun r s' h => ?_
    match r, h with
    | .error e, h => exact (hCX H e s' h).elim
    | .ok .next, h => exact False.elim h
    | .ok .brk, h => exact False.elim h
    | .ok .cont, h => exact False.elim h
    | .ok (.ret u), ⟨v, H', os, bare, un, hok', r', q⟩ =>
      obtain rfl : v = .bl true := q
      obtain rfl : u = Value.bool true := r'
      refine ⟨rfl, OldK.of_keep fun b o e => ?_, os, bare⟩
      cases q : H b with
      | none => exact un.keep b o e q (fun z => absurd (show b ∈ ([] : List Addr) from z) (by simp)) (by simp)
      | some u =>
        rcases hO b with z | ⟨ob, xs, z⟩
        · rw [q] at z
          cases z
        · have e1 := (hok b _ z).1
          have e2 := (hok' b _ (un.frzs b ob _ z)).1
          rw [e] at e1
          cases e1
          exact e2
  cases hk : K.lookup a with
  | some o =>
    have e := KX a o hk
    rw [ha] at e
    cases e
    exact main (fun _ => none) (fun _ => .inl rfl) (.inr ⟨_, vs.toArray, _, hk, rfl, rfl, rfl, by rw [List.size_toArray, hi.length]; exact hl, by simpa using rv⟩) (fun b u z => nomatch (show (none : Option HO) = some u from z)) fun b z => absurd rfl z
  | none =>
    have he : ∀ b, b ≠ a → (if b = a then some (HO.frz { cls := .type "list", data := .seq vs.toArray } (.lst (ns.map V.int))) else none) = none := fun b z => if_neg z
    refine main (fun b => if b = a then some (.frz { cls := .type "list", data := .seq vs.toArray } (.lst (ns.map V.int))) else none) (fun b => ?_) (.inl (.inr ⟨{ cls := .type "list", data := .seq vs.toArray }, if_pos rfl⟩)) (fun b u z => ?_) (fun b z => ⟨Classical.byContradiction fun q => z (he b q), hk⟩)
    · by_cases q : b = a
      · exact .inr ⟨_, _, if_pos q⟩
      · exact .inl (he b q)
    · by_cases q : b = a
      · have y := (if_pos q).symm.trans z
        cases y
        subst q
        exact ⟨ha, by rw [List.length_map]; exact hl, vs, _, rv, ha⟩
      · have y := (he b q).symm.trans z
        cases y
theorem walkG {l : PySem.W.OpenLaw} {n k : Nat} {q : Program} {loose : List Str} {XP : (Str → Option Value) → Heap → Prop} {YP : World → Heap → Prop} {d : DefRec} {K : Params → PySem.W.Frag} {CX : World → CXT} {sp : World → Sp} {x : Str} (hn : l.most = some n) (hn2 : n ≤ sizeLine) (hdf : d.params.defaults = []) (hr : Room k callerA)
    (hY : ∀ (w : World) (h : Heap), YP w h → (K w.params).In h) (F : ∀ (w : World) (mg : Str → Option Value) (fa : Addr) (h : Heap), (K w.params).In h → h.Ns mainGlobals mg → mg d.name = some (.ref fa) →
      ∃ fd : FuncData, (∀ (s : Shared) (u : Value), BindsTo s fd ⟨[u], []⟩ [(x, u)]) ∧ ∀ base : Heap, (K w.params).In base → base.Ns mainGlobals mg → FnG l.prog w (K w.params) mg base (CX w) k fa fd [x] (sp w))
    (hsp : ∀ (w : World) (H : Hp) (a : Addr) (ns : List Int), ns.length ≤ n → Only H → SqL (K w.params) H a (ns.map V.int) → sp w [.ref a] H (fun v _ => v = .bl true) fun _ _ _ => False)
    (hCX : ∀ (w : World) (H : Hp) (s : Shared) (e : Value) (s' : Shared), CX w [] H s (fun _ _ _ => False) e s' → False) : PySem.W.WalkO q loose XP YP l.row.toRowW d [] (fun f vs => PySem.call f vs) :=
  Att.attach_call hn hdf fun w s₀ s₁ mg mb fa o pm cd doc a vs ns G Y ho hd hcd hmg hobj hints hlen hg => by
    obtain ⟨fd, hb, hF⟩ := F w mg fa _ (hY w _ Y) G.T.g hmg
    exact lawG (hY w _ Y) G.T.g G.T.b G.T.builtins G.T.nolimit hg hobj hints (Nat.le_trans hlen hn2) hr hF hb (fun H hO hS => hsp w H a ns hlen hO hS) fun H e s' => hCX w H s₁ e s'
end L2
end
section
namespace Kb
open PySem PySem.Spec PyProof.Rows L2 PySem.Kx
/-! ### the classes of the package's errors, read off the written part by their names -/
def clsAt (K : PySem.W.Frag) (n : Str) : Addr := match PySem.W.nsIn K mainGlobals n with
  | some (some (.ref a)) => a
  | _ => 0
/-- facts of one error class: what isinstance and an except clause ask of it -/
def okCls (K : PySem.W.Frag) (n : Str) : Bool :=
  decide (PySem.W.nsIn K mainGlobals n = some (some (.ref (clsAt K n)))) && PySem.W.keepIn K (.ref (clsAt K n)) &&
  decide (PySem.W.findIn K (.ref (clsAt K n)) "__getattribute__" = some (some (.builtin "BaseException.__getattribute__"))) &&
  decide (PySem.W.findIn K (.ref (clsAt K n)) "__getattr__" = some none) && decide (PySem.W.subIn K (.ref (clsAt K n)) (.type "BaseException") = some true) && PySem.W.hasDictIn K (clsAt K n) &&
  decide (PySem.W.findIn K (.ref (clsAt K n)) "__class__" = some (some (.builtin "object.__class__"))) && decide (PySem.W.mroIn K (clsAt K n) (.type "object") = some true) &&
  decide (PySem.W.typeIn K (.ref (clsAt K n)) = some (.type "type")) &&
  decide (PySem.W.specialIn K (.builtin "object.__class__") "__get__" = some (some (.builtin "getset_descriptor.__get__"))) && decide (PySem.W.takesIn K (.builtin "object.__class__") = some true)
structure ClsOk (K : PySem.W.Frag) (mg : Str → Option Value) (n : Str) : Prop where
  g : mg n = some (.ref (clsAt K n))
  k : PySem.W.keepIn K (.ref (clsAt K n)) = true
  e : ExcC K (clsAt K n)
  t : PySem.W.typeIn K (.ref (clsAt K n)) = some (.type "type")
theorem clsOk_of {K : PySem.W.Frag} {h : Heap} {mg : Str → Option Value} {n : Str} (X : K.In h) (G : h.Ns mainGlobals mg) (c : okCls K n = true) : ClsOk K mg n := by
  unfold okCls at c
  simp only [Bool.and_eq_true, decide_eq_true_eq] at c
  obtain ⟨⟨⟨⟨⟨⟨⟨⟨⟨⟨c1, c2⟩, c3⟩, c4⟩, c5⟩, c6⟩, c7⟩, c8⟩, c9⟩, c10⟩, c11⟩ := c
  exact ⟨PySem.W.mg_of X G c1, c2, ⟨c3, c4, c5, c6, c7, c10, c11, c8⟩, c9⟩
abbrev veL : List Value := [.type "ValueError", .type "Exception", .type "BaseException", .type "object"]
/-- a class over ValueError that adds nothing -/
def okPlain (K : PySem.W.Frag) (n : Str) : Bool := PySem.W.excIn K (clsAt K n) veL "ValueError.__new__"
end Kb
end
section
namespace Kb
open PySem PySem.Spec PyProof.Rows L2 PySem.Kx
theorem Same.up {H : Hp} {p : Addr} {o : HO} (h : H p = none) : Same H (upd H p o) := fun b x e => by
  rw [upd_ne (ne_of_none e h)]
  exact e
section
variable {X : Cx}
/-- a list of plain items counted -/
def rCnt (K : PySem.W.Frag) : V → List V → Hp → VK → Prop := fun x ys H Q => ∃ (p : Addr) (xs : List V) (y : V), x = .ref p ∧ ys = [y] ∧ SqL K H p xs ∧ flatV y = true ∧ xs.all flatV = true ∧ Q (.int ((xs.countP fun z => eqV z y : Nat) : Int)) H
theorem count_eqU {x : V} : ∀ {xs : List V} {us : List Value}, Vals xs us → xs.all flatV = true → us.countP (eqU x) = xs.countP fun y => eqV y x
  | _, _, .nil, _ => rfl
  | y :: xs, u :: us, .cons r t, f => by
    rw [List.all_cons, Bool.and_eq_true] at f
    rw [List.countP_cons, List.countP_cons, eqU_of r f.1, count_eqU t f.2]
theorem mt_cnt : MtR X "list.count" (rCnt X.K) := by
  intro pins s σ H x xs v us Q I rx rxs h
  obtain ⟨p, ns, y, rfl, rfl, hs, fy, fs, q⟩ := h
  cases rx
  obtain ⟨u, rfl, ru⟩ := rxs.one
  obtain ⟨its, rv, ⟨⟨cls, dd, data, sl⟩, n, ho, hc, hdn, hd⟩, hlen⟩ := I.list hs
  simp only at hc hd
  subst hc hd
  refine call_meets PySem.F.slot_list_count ⟨_, ho, rfl⟩ PySem.F.entry_list_count (PySem.F.args_list_count_2 _ _) (SeqAt.list_countAt p its.toArray n dd sl u (eqU y)) ⟨ho, fun z hz => mem_eqAt ru fy rv fs z (by simpa using hz), ?_⟩
  refine ⟨.int ((ns.countP fun z => eqV z y : Nat) : Int), H, I.tok _, ⟨s.toks, ?_⟩, q⟩
  show Value.int ((its.toArray.toList.countP (eqU y) : Nat) : Int) s.toks = Value.int ((ns.countP fun z => eqV z y : Nat) : Int) s.toks
  rw [show its.toArray.toList = its by simp, count_eqU rv fs]
theorem pe_cls {n : Str} {p : Pos} (c : ClsOk X.K X.mg n) (hg : Gl X n := by rfl) (hd : (n == ("__debug__" : Str)) = false := by decide) : PE X (.Name n p) (tC (.ref (clsAt X.K n))) := pe_glob hg c.g rfl hd
end
end Kb
end
section
namespace Kb
open PySem PySem.Spec PyProof.Rows L2 PySem.Kx
/-! ### data in the heap, apart from the stream -/
/-- the heap without the stream's list -/
def hid (a : Addr) (H : Hp) : Hp := fun b => if b = a then none else H b
theorem hid_same {a : Addr} {H : Hp} : Same (hid a H) H := fun b o e => by
  unfold hid at e
  split at e
  · cases e
  · exact e
theorem hid_ev {a : Addr} {H H' : Hp} (x : Ev a H H') : Same (hid a H) (hid a H') := fun b o e => by
  unfold hid at e ⊢
  by_cases n : b = a
  · rw [if_pos n] at e
    cases e
  · rw [if_neg n] at e ⊢
    exact x.1 b o n e
theorem hid_mono {a : Addr} {H H' : Hp} (x : Same H H') : Same (hid a H) (hid a H') := fun b o e => by
  unfold hid at e ⊢
  by_cases n : b = a
  · rw [if_pos n] at e
    cases e
  · rw [if_neg n] at e ⊢
    exact x b o e
theorem hid_at {a b : Addr} {H : Hp} {o : HO} (n : b ≠ a) (e : H b = some o) : hid a H b = some o := by
  unfold hid
  rw [if_neg n]
  exact e
theorem Same.seqT {K : PySem.W.Frag} {H H' : Hp} {a : Addr} {xs : List V} (e : Same H H') (h : SqT K H a xs) : SqT K H' a xs := by
  rcases h with (h | ⟨o, h⟩) | h
  · exact .inl (.inl (e _ _ h))
  · exact .inl (.inr ⟨o, e _ _ h⟩)
  · exact .inr h
mutual
theorem Dp.mono {K : PySem.W.Frag} {H H' : Hp} (s : Same H H') : ∀ {v : V} (d : PyData), Dp K H v d → Dp K H' v d
  | _, .none, h => by cases h; exact .non
  | _, .bool b, h => by cases h; exact .bl b
  | _, .int i, h => by cases h; exact .int i
  | _, .str x, h => by cases h; exact .str x
  | _, .list ds, h => by cases h with | lst a b => exact .lst (s.seq a) (Dp.monos s ds b)
  | _, .tuple ds, h => by cases h with | tup a b => exact .tup (Same.seqT s a) (Dp.monos s ds b)
  | _, .dict _, h => by cases h
theorem Dp.monos {K : PySem.W.Frag} {H H' : Hp} (s : Same H H') : ∀ {vs : List V} (ds : List PyData), DpAll K H vs ds → DpAll K H' vs ds
  | _, [], h => by cases h; exact .nil
  | _, d :: ds, h => by cases h with | cons a b => exact .cons (Dp.mono s d a) (Dp.monos s ds b)
end
/-- data that can be shown -/
structure Fine (d : PyData) : Prop where
  sh : d.leavesShort 20 = true
  ok : d.showable = true
  dep : d.depth ≤ 8
  wt : d.weight ≤ 4000
theorem Fine.len {d : PyData} (f : Fine d) : d.shown.length ≤ sizeLine := by
  have h := PyData.shown_le 20 (by decide) d f.sh
  have w := f.wt
  refine sz (m := 88020) ?_
  omega
/-- a text of the law's own -/
def TextOk (x : Str) : Prop := x.length ≤ 16 ∧ ∀ c ∈ x.cps.toList, c < 128
theorem fine_str {x : Str} (h : TextOk x) : Fine (.str x) := by
  refine ⟨?_, by simp only [PyData.showable], by simp only [PyData.depth]; omega, ?_⟩
  · simp only [PyData.leavesShort]
    exact List.all_eq_true.mpr fun c hc => decide_eq_true (Nat.lt_of_lt_of_le (h.2 c hc) (by decide))
  · simp only [PyData.weight]
    have := h.1
    exact Nat.le_trans this (by decide)
theorem fine_none : Fine .none := ⟨by simp only [PyData.leavesShort], by simp only [PyData.showable], by simp only [PyData.depth]; omega, by simp only [PyData.weight]; omega⟩
theorem log_small {i : Int} (h : i.natAbs < 2 ^ 40) : i.natAbs.log2 < 40 := by
  by_cases z : i.natAbs = 0
  · rw [z]; decide
  · exact (Nat.log2_lt z).mpr h
theorem fine_int {i : Int} (h0 : -1000000000 ≤ i) (h : i ≤ 1000000000) : Fine (.int i) := by
  have hl := log_small (i := i) (by omega)
  refine ⟨?_, ?_, by simp only [PyData.depth]; omega, ?_⟩
  · simp only [PyData.leavesShort, decide_eq_true_eq]
    have e := PySem.int_text_length_le10 (a := i) (k := 10) (by decide) (by omega)
    show (PySem.Str.ofString (toString i)).length ≤ 20
    rw [PySem.ofString_length]
    omega
  · simp only [PyData.showable, decide_eq_true_eq]
    omega
  · simp only [PyData.weight]
    split <;> omega
theorem fine_tuple {ds : List PyData} (h : ∀ d ∈ ds, d.leavesShort 20 = true ∧ d.showable = true ∧ d.depth ≤ 7) (hw : PyData.weightAll ds ≤ 4000) : Fine (.tuple ds) ∧ Fine (.list ds) := by
  have key : ∀ ds : List PyData, (∀ d ∈ ds, d.leavesShort 20 = true ∧ d.showable = true ∧ d.depth ≤ 7) → PyData.leavesShortAll 20 ds = true ∧ PyData.showableAll ds = true ∧ PyData.depthAll ds ≤ 7 := by
    intro ds
    induction ds with
    | nil => intro _; exact ⟨by simp only [PyData.leavesShortAll], by simp only [PyData.showableAll], by simp only [PyData.depthAll]; omega⟩
    | cons d r ih =>
      intro h
      obtain ⟨i1, i2, i3⟩ := ih fun x hx => h x (List.mem_cons_of_mem _ hx)
      obtain ⟨j1, j2, j3⟩ := h d List.mem_cons_self
      refine ⟨by simp only [PyData.leavesShortAll, i1, j1, Bool.and_self], by simp only [PyData.showableAll, i2, j2, Bool.and_self], ?_⟩
      simp only [PyData.depthAll]
      omega
  obtain ⟨k1, k2, k3⟩ := key ds h
  constructor
  · exact ⟨by simp only [PyData.leavesShort]; exact k1, by simp only [PyData.showable]; exact k2, by simp only [PyData.depth]; omega, by simp only [PyData.weight]; exact hw⟩
  · exact ⟨by simp only [PyData.leavesShort]; exact k1, by simp only [PyData.showable]; exact k2, by simp only [PyData.depth]; omega, by simp only [PyData.weight]; exact hw⟩
theorem join_text {x y : Str} (hx : WordB 97 8 x) (hy : WordB 97 8 y) : TextOk (Txt.join "" [x, y]) := by
  have e : (Txt.join "" [x, y]).cps.toList = x.cps.toList ++ y.cps.toList := by
    have h := TL.tl_join "" [x, y]
    exact h
  refine ⟨?_, fun c hc => ?_⟩
  · rw [str_len, e, List.length_append]
    have := hx.2.1
    have := hy.2.1
    omega
  · rw [e] at hc
    rcases List.mem_append.mp hc with h | h
    · have := hx.2.2 c h
      omega
    · have := hy.2.2 c h
      omega
end Kb
end
section
namespace Kb
open PySem PySem.Spec PyProof.Rows L2 PySem.Kx
/-- for i, x in enumerate(xs) -/
theorem for_enum {K : PySem.W.Frag} {a : Addr} {xs : List V} {g : TG} {tb : TS} {D : Ends} {σ : L2.St} {H : Hp} (Pv : Nat → L2.St → Hp → Prop) (h0 : Pv 0 σ H) (hl : ∀ i σ H, i ≤ xs.length → Pv i σ H → SqL K H a xs)
    (hs : ∀ i x T σ H, xs[i]? = some x → Pv i σ H → H T = none → g (.ref T) σ (upd H T (.tup [.int (i : Nat), x])) fun σ2 H2 => tb { D with nx := Pv (i + 1), ct := Pv (i + 1), bk := D.nx } σ2 H2) (hd : ∀ σ H, Pv xs.length σ H → D.nx σ H) :
    ∃ W : Nat → Nat → L2.St → Hp → Prop, (∃ m, W 0 m σ H) ∧ ∀ i m σ H, W i m σ H →
      ((Ite K a).stop i H ∧ D.nx σ H) ∨ ((Ite K a).go i H ∧ ∃ N : L2.St → Hp → Prop, (∀ σ' H', N σ' H' → ∃ m', m' < m ∧ W (i + 1) m' σ' H') ∧ ∀ x H', (Ite K a).yld i H x H' → g x σ H' fun σ2 H2 => tb { D with nx := N, ct := N, bk := D.nx } σ2 H2) := by
  refine ⟨fun i m σ H => i + m = xs.length ∧ Pv i σ H, ⟨xs.length, by omega, h0⟩, fun i m σ H ⟨em, hp⟩ => ?_⟩
  have hq := hl i σ H (by omega) hp
  by_cases hi : i < xs.length
  · have hx : xs[i]? = some xs[i] := List.getElem?_eq_getElem hi
    refine .inr ⟨⟨xs, _, hq, hx⟩, Pv (i + 1), fun σ' H' h => ⟨m - 1, by omega, by omega, h⟩, fun x H' hy => ?_⟩
    obtain ⟨T, y, rfl, nT, rfl, hf⟩ := hy
    exact hs i y T σ H (hf xs hq) hp nT
  · obtain rfl : i = xs.length := by omega
    exact .inl ⟨⟨xs, hq, Nat.le_refl _⟩, hd σ H hp⟩
theorem all_nil {P : V → Prop} : ∀ v ∈ ([] : List V), P v := fun _ h => nomatch h
theorem all_cons {P : V → Prop} {x : V} {xs : List V} (h : P x) (t : ∀ v ∈ xs, P v) : ∀ v ∈ x :: xs, P v := fun v hv => by
  rcases List.mem_cons.mp hv with rfl | hv
  · exact h
  · exact t v hv
theorem atI_all {P : V → Prop} {xs : List V} {r : Int} (h : ∀ v ∈ xs, P v) (h0 : 0 ≤ r) (h1 : r < xs.length) : ∃ v, atI xs r = some v ∧ P v := by
  have hl : r.toNat < xs.length := by omega
  exact ⟨xs[r.toNat], atI_of h0 (List.getElem?_eq_getElem hl), h _ (List.getElem_mem hl)⟩
/-! ### lists of bools -/
theorem dpAll_bools {K : PySem.W.Frag} {H : Hp} : ∀ bs : List Bool, DpAll K H (bs.map V.bl) (bs.map PyData.bool)
  | [] => .nil
  | b :: bs => .cons (.bl b) (dpAll_bools bs)
theorem canLay_bools : ∀ bs : List Bool, PyData.canLayAll0 (bs.map PyData.bool) = true
  | [] => by simp [PyData.canLayAll0]
  | b :: bs => by simp only [List.map_cons, PyData.canLayAll0, PyData.canLay0, canLay_bools bs, Bool.and_self]
theorem depth_bools : ∀ bs : List Bool, PyData.depthAll (bs.map PyData.bool) ≤ 1
  | [] => by simp [PyData.depthAll]
  | b :: bs => by
    have := depth_bools bs
    simp only [List.map_cons, PyData.depthAll, PyData.depth]
    omega
theorem shaped_bools (bs : List Bool) : SeqAt.shaped (.list (bs.map PyData.bool)) = true := by
  have h1 := depth_bools bs
  have h2 : PyData.depth (.list (bs.map PyData.bool)) ≤ 64 := by
    simp only [PyData.depth]
    omega
  unfold SeqAt.shaped
  rw [decide_eq_true h2, Bool.and_true]
  simp only [PyData.canLay0]
  exact canLay_bools bs
theorem eqv_bools (bs : List Bool) : PyData.eqv (.list (bs.map PyData.bool)) (.list (bs.map PyData.bool)) = true := SeqAt.eqv_refl _ (by simp only [PyData.canLay0]; exact canLay_bools bs)
theorem eqv_strs {xs : List Str} (h : ∀ x ∈ xs, Signs x) : PyData.eqv (.list (xs.map PyData.str)) (.list (xs.map PyData.str)) = true := SeqAt.eqv_refl _ (by simp only [PyData.canLay0]; exact canLay_strs h)
end Kb
end
section
namespace Kb
open PySem PySem.Spec PyProof.Rows L2 PySem.Kx
open C8 (pss_cut)
abbrev L23 : List Str := ["InvalidSchema", "InvalidRecord", "InvalidDatabase", "InvalidChoice", "InvalidQuery", "InvalidAnswer", "InvalidFormula", "InvalidBinding", "InvalidWeights", "InvalidSettlement", "InvalidPlan", "InvalidClaims", "InvalidPolicy", "InvalidReport", "InvalidOperation", "InvalidMessage", "ParseError", "InvalidCommand", "UnknownName", "UnknownGroup", "InvalidNumber", "TooMany", "CyclicQuery"]
abbrev nameAt (i : Nat) : Str := L23.getD i "RecordsError"
def ca (K : PySem.W.Frag) (i : Nat) : Addr := clsAt K (nameAt i)
/-- all that the law asks of the classes -/
def kits (K : PySem.W.Frag) (j : Nat) : Bool :=
  ((List.range 23).all fun i => decide (PySem.W.kitOne K (.ref (ca K j)) (.ref (ca K i)) = some (decide (i = j)))) &&
    decide (PySem.W.kitOne K (.ref (ca K j)) (.ref (clsAt K "RecordsError")) = some (decide (j < 18))) &&
    decide (PySem.W.kitOne K (.ref (ca K j)) (.type "ValueError") = some (decide (j < 18))) &&
    decide (PySem.W.kitOne K (.ref (ca K j)) (.type "LookupError") = some (decide (18 ≤ j ∧ j ≤ 20))) &&
    decide (PySem.W.kitOne K (.ref (ca K j)) (.type "KeyError") = some (decide (j = 18))) &&
    decide (PySem.W.kitOne K (.ref (ca K j)) (.type "IndexError") = some (decide (j = 20))) &&
    decide (PySem.W.kitOne K (.ref (ca K j)) (.type "OverflowError") = some (decide (j = 21))) &&
    decide (PySem.W.kitOne K (.ref (ca K j)) (.type "RuntimeError") = some (decide (j = 22)))
def caught (K : PySem.W.Frag) : Bool :=
  decide (PySem.W.kitOne K (.ref (clsAt K "RecordsError")) (.type "ValueError") = some true) && decide (PySem.W.kitOne K (.ref (clsAt K "RecordsError")) (.ref (ca K 4)) = some false) &&
  decide (PySem.W.exmOne K (.ref (ca K 4)) (.ref (clsAt K "RecordsError")) = some true) && decide (PySem.W.exmOne K (.ref (ca K 18)) (.ref (clsAt K "RecordsError")) = some false) && decide (PySem.W.exmOne K (.ref (ca K 21)) (.ref (clsAt K "RecordsError")) = some false) &&
  decide (PySem.W.exmOne K (.ref (ca K 18)) (.type "KeyError") = some true) && decide (PySem.W.exmOne K (.ref (ca K 21)) (.type "KeyError") = some false) && decide (PySem.W.exmAny K (.ref (ca K 21)) [.ref (ca K 21), .ref (ca K 20)] = some true)
def chk (K : PySem.W.Frag) : Bool := ((List.range 24).all fun i => okCls K (nameAt i)) && ((List.range 18).all fun i => okPlain K (nameAt i)) && okPlain K "RecordsError" && ((List.range 23).all fun j => kits K j) && caught K
structure ErrT (K : PySem.W.Frag) (mg : Str → Option Value) : Prop where
  cls : ∀ i, i < 24 → ClsOk K mg (nameAt i)
  pl : ∀ i, i < 18 → PySem.W.excIn K (ca K i) veL "ValueError.__new__" = true
  plR : PySem.W.excIn K (clsAt K "RecordsError") veL "ValueError.__new__" = true
  kit : ∀ j, j < 23 → ∀ i, i < 23 → PySem.W.kitOne K (.ref (ca K j)) (.ref (ca K i)) = some (decide (i = j))
  kR : ∀ j, j < 23 → PySem.W.kitOne K (.ref (ca K j)) (.ref (clsAt K "RecordsError")) = some (decide (j < 18))
  kV : ∀ j, j < 23 → PySem.W.kitOne K (.ref (ca K j)) (.type "ValueError") = some (decide (j < 18))
  kL : ∀ j, j < 23 → PySem.W.kitOne K (.ref (ca K j)) (.type "LookupError") = some (decide (18 ≤ j ∧ j ≤ 20))
  kK : ∀ j, j < 23 → PySem.W.kitOne K (.ref (ca K j)) (.type "KeyError") = some (decide (j = 18))
  kI : ∀ j, j < 23 → PySem.W.kitOne K (.ref (ca K j)) (.type "IndexError") = some (decide (j = 20))
  kO : ∀ j, j < 23 → PySem.W.kitOne K (.ref (ca K j)) (.type "OverflowError") = some (decide (j = 21))
  kT : ∀ j, j < 23 → PySem.W.kitOne K (.ref (ca K j)) (.type "RuntimeError") = some (decide (j = 22))
  c1 : PySem.W.kitOne K (.ref (clsAt K "RecordsError")) (.type "ValueError") = some true
  c2 : PySem.W.kitOne K (.ref (clsAt K "RecordsError")) (.ref (ca K 4)) = some false
  c3 : PySem.W.exmOne K (.ref (ca K 4)) (.ref (clsAt K "RecordsError")) = some true
  c4 : PySem.W.exmOne K (.ref (ca K 18)) (.ref (clsAt K "RecordsError")) = some false
  c5 : PySem.W.exmOne K (.ref (ca K 21)) (.ref (clsAt K "RecordsError")) = some false
  c6 : PySem.W.exmOne K (.ref (ca K 18)) (.type "KeyError") = some true
  c7 : PySem.W.exmOne K (.ref (ca K 21)) (.type "KeyError") = some false
  c8 : PySem.W.exmAny K (.ref (ca K 21)) [.ref (ca K 21), .ref (ca K 20)] = some true
theorem errT_of {K : PySem.W.Frag} {h : Heap} {mg : Str → Option Value} (X : K.In h) (G : h.Ns mainGlobals mg) (c : chk K = true) : ErrT K mg := by
  unfold chk at c
  simp only [Bool.and_eq_true] at c
  obtain ⟨⟨⟨⟨h1, h2⟩, h3⟩, h4⟩, h5⟩ := c
  have g4 : ∀ j, j < 23 → kits K j = true := fun j hj => List.all_eq_true.mp h4 j (List.mem_range.mpr hj)
  unfold caught at h5
  simp only [Bool.and_eq_true, decide_eq_true_eq] at h5
  obtain ⟨⟨⟨⟨⟨⟨⟨u1, u2⟩, u3⟩, u4⟩, u5⟩, u6⟩, u7⟩, u8⟩ := h5
  have k4 := fun j hj => g4 j hj
  unfold kits at k4
  simp only [Bool.and_eq_true, decide_eq_true_eq] at k4
  exact ⟨fun i hi => clsOk_of X G (List.all_eq_true.mp h1 i (List.mem_range.mpr hi)), fun i hi => List.all_eq_true.mp h2 i (List.mem_range.mpr hi), h3,
    fun j hj i hi => of_decide_eq_true (List.all_eq_true.mp (k4 j hj).1.1.1.1.1.1.1 i (List.mem_range.mpr hi)), fun j hj => (k4 j hj).1.1.1.1.1.1.2, fun j hj => (k4 j hj).1.1.1.1.1.2, fun j hj => (k4 j hj).1.1.1.1.2, fun j hj => (k4 j hj).1.1.1.2, fun j hj => (k4 j hj).1.1.2, fun j hj => (k4 j hj).1.2, fun j hj => (k4 j hj).2,
    u1, u2, u3, u4, u5, u6, u7, u8⟩
/-- the five classes that keep a value -/
structure OwnT (K : PySem.W.Frag) (mg : Str → Option Value) : Prop where
  o18 : ∃ fI, OwnX K mg "UnknownName" "name" "UnknownName.__init__" "LookupError" "KeyError" "LookupError.__new__" [.type "KeyError", .type "LookupError", .type "Exception", .type "BaseException", .type "object"] (ca K 18) fI
  o19 : ∃ fI, OwnX K mg "UnknownGroup" "group" "UnknownGroup.__init__" "LookupError" "LookupError" "LookupError.__new__" [.type "LookupError", .type "Exception", .type "BaseException", .type "object"] (ca K 19) fI
  o20 : ∃ fI, OwnX K mg "InvalidNumber" "value" "InvalidNumber.__init__" "IndexError" "IndexError" "IndexError.__new__" [.type "IndexError", .type "LookupError", .type "Exception", .type "BaseException", .type "object"] (ca K 20) fI
  o21 : ∃ fI, OwnX K mg "TooMany" "limit" "TooMany.__init__" "OverflowError" "OverflowError" "OverflowError.__new__" [.type "OverflowError", .type "ArithmeticError", .type "Exception", .type "BaseException", .type "object"] (ca K 21) fI
  o22 : ∃ fI, OwnX K mg "CyclicQuery" "cycle" "CyclicQuery.__init__" "RuntimeError" "RuntimeError" "RuntimeError.__new__" [.type "RuntimeError", .type "Exception", .type "BaseException", .type "object"] (ca K 22) fI
section
variable {P : Program} {w : World} {K : PySem.W.Frag} {mg : Str → Option Value} {base : Heap}
/-! ### _law_marks -/
def markL (n j : Nat) : List V := (List.range n).map fun i => V.bl (decide (i = j))
theorem markL_succ (n j : Nat) : markL (n + 1) j = markL n j ++ [V.bl (decide (n = j))] := by
  unfold markL
  rw [List.range_succ, List.map_append]
  rfl
structure MInv (K : PySem.W.Frag) (a : Addr) (j : Nat) (H0 : Hp) (n : Nat) (p : Addr) (H : Hp) : Prop where
  same : Same H0 H
  at_ : H p = some (.lst (markL n j))
theorem IsEx.same {H H' : Hp} {a D : Addr} (s : Same H H') (e : IsEx H a D) : IsEx H' a D := by
  rcases e with e | ⟨d, fs, e1, e2⟩
  · exact .inl (s _ _ e)
  · exact .inr ⟨d, fs, s _ _ e1, s _ _ e2⟩
abbrev tIs (K : PySem.W.Frag) (i : Nat) : TE := tCB (rIsX K) (tCons (tVar 0) (tCons (tC (.ref (ca K i))) tNil))
theorem mark1 (E : ErrT K mg) {a : Addr} {j n : Nat} (hj : j < 23) (hn : n < 23) {H0 : Hp} (e0 : IsEx H0 a (ca K j)) {D : Ends} {p : Addr} {H : Hp} (M : MInv K a j H0 n p H) (q : ∀ p' H', MInv K a j H0 (n + 1) p' H' → D.nx [some (.ref a), some (.ref p')] H') :
    tAsg (tOp rCat (tVar 1) (tLst (tCons (tIs K n) tNil))) (gName 1) D [some (.ref a), some (.ref p)] H := by
  have ec := (E.cls j (by omega)).e
  refine ⟨_, rfl, _, rfl, a, ca K j, _, _, _, rfl, IsEx.same M.same e0, ec, fun u r => r, E.kit j hj n hn, (show 1 ≤ sizeLine by decide), fun p2 np2 => ?_⟩
  have pp : p ≠ p2 := ne_of_none M.at_ np2
  refine ⟨_, _, _, _, rfl, rfl, (Same.up np2) _ _ M.at_, upd_same, ?_, fun p3 np3 => ?_⟩
  · show (markL n j).length + 1 ≤ sizeLine
    unfold markL
    rw [List.length_map, List.length_range]
    exact sz (m := 24) (by omega)
  · exact q _ _ ⟨(M.same.trans (Same.up np2)).trans (Same.up np3), by rw [upd_same, markL_succ]⟩
theorem mark2 (E : ErrT K mg) {a : Addr} {j n : Nat} (hj : j < 23) (hn : n + 1 < 23) {H0 : Hp} (e0 : IsEx H0 a (ca K j)) {D : Ends} {p : Addr} {H : Hp} (M : MInv K a j H0 n p H) (q : ∀ p' H', MInv K a j H0 (n + 2) p' H' → D.nx [some (.ref a), some (.ref p')] H') :
    tAsg (tOp rCat (tVar 1) (tLst (tCons (tIs K n) (tCons (tIs K (n + 1)) tNil)))) (gName 1) D [some (.ref a), some (.ref p)] H := by
  have e := IsEx.same M.same e0
  have ec := (E.cls j (by omega)).e
  refine ⟨_, rfl, _, rfl, a, ca K j, _, _, _, rfl, e, ec, fun u r => r, E.kit j hj n (by omega), _, rfl, a, ca K j, _, _, _, rfl, e, ec, fun u r => r, E.kit j hj (n + 1) hn, (show 2 ≤ sizeLine by decide), fun p2 np2 => ?_⟩
  have pp : p ≠ p2 := ne_of_none M.at_ np2
  refine ⟨_, _, _, _, rfl, rfl, (Same.up np2) _ _ M.at_, upd_same, ?_, fun p3 np3 => ?_⟩
  · show (markL n j).length + 2 ≤ sizeLine
    unfold markL
    rw [List.length_map, List.length_range]
    exact sz (m := 25) (by omega)
  · refine q _ _ ⟨(M.same.trans (Same.up np2)).trans (Same.up np3), ?_⟩
    rw [upd_same, markL_succ, markL_succ, List.append_assoc]
    rfl
def sp__law_marks (K : PySem.W.Frag) : Sp := fun vs H Q _ => ∃ (a : Addr) (j : Nat), vs = [.ref a] ∧ j < 23 ∧ IsEx H a (ca K j) ∧ ∀ p H', Same H H' → H' p = some (.lst (markL 23 j)) → Q (.ref p) H'
theorem ok__law_marks (T : Txt K mg) (E : ErrT K mg) : FnOk P w K mg base CX0 1 T.a__law_marks T.f__law_marks ["error"] (sp__law_marks K) := by
  refine T.F__law_marks.ok sc__law_marks (fun vs H Q E h => ?_) (fun cdv A outer s H vs Q E2 hr h => ?_)
  · obtain ⟨a, j, rfl, _⟩ := h
    rfl
  · obtain ⟨a, j, rfl, hj, e0, q⟩ := h
    refine ⟨_, (pss_cons (ps_set (i := 1) sc__law_marks.nd rfl (.inl rfl) (pe_lst (pa_cons (pe_callB call_isX (by rfl) T.m_isinstance (by decide +kernel) (pa_cons (pv 0) (pa_cons (pe_cls (E.cls 0 (by decide))) pa_nil))) (pa_cons (pe_callB call_isX (by rfl) T.m_isinstance (by decide +kernel) (pa_cons (pv 0) (pa_cons (pe_cls (E.cls 1 (by decide))) pa_nil))) pa_nil))))
 (pss_cons (ps_set (i := 1) sc__law_marks.nd rfl (.inl rfl) (pe_op op_cat (pv 1) (pe_lst (pa_cons (pe_callB call_isX (by rfl) T.m_isinstance (by decide +kernel) (pa_cons (pv 0) (pa_cons (pe_cls (E.cls 2 (by decide))) pa_nil))) pa_nil))))
 (pss_cons (ps_set (i := 1) sc__law_marks.nd rfl (.inl rfl) (pe_op op_cat (pv 1) (pe_lst (pa_cons (pe_callB call_isX (by rfl) T.m_isinstance (by decide +kernel) (pa_cons (pv 0) (pa_cons (pe_cls (E.cls 3 (by decide))) pa_nil))) (pa_cons (pe_callB call_isX (by rfl) T.m_isinstance (by decide +kernel) (pa_cons (pv 0) (pa_cons (pe_cls (E.cls 4 (by decide))) pa_nil))) pa_nil)))))
 (pss_cons (ps_set (i := 1) sc__law_marks.nd rfl (.inl rfl) (pe_op op_cat (pv 1) (pe_lst (pa_cons (pe_callB call_isX (by rfl) T.m_isinstance (by decide +kernel) (pa_cons (pv 0) (pa_cons (pe_cls (E.cls 5 (by decide))) pa_nil))) (pa_cons (pe_callB call_isX (by rfl) T.m_isinstance (by decide +kernel) (pa_cons (pv 0) (pa_cons (pe_cls (E.cls 6 (by decide))) pa_nil))) pa_nil)))))
 (pss_cons (ps_set (i := 1) sc__law_marks.nd rfl (.inl rfl) (pe_op op_cat (pv 1) (pe_lst (pa_cons (pe_callB call_isX (by rfl) T.m_isinstance (by decide +kernel) (pa_cons (pv 0) (pa_cons (pe_cls (E.cls 7 (by decide))) pa_nil))) pa_nil))))
 (pss_cons (ps_set (i := 1) sc__law_marks.nd rfl (.inl rfl) (pe_op op_cat (pv 1) (pe_lst (pa_cons (pe_callB call_isX (by rfl) T.m_isinstance (by decide +kernel) (pa_cons (pv 0) (pa_cons (pe_cls (E.cls 8 (by decide))) pa_nil))) (pa_cons (pe_callB call_isX (by rfl) T.m_isinstance (by decide +kernel) (pa_cons (pv 0) (pa_cons (pe_cls (E.cls 9 (by decide))) pa_nil))) pa_nil)))))
 (pss_cons (ps_set (i := 1) sc__law_marks.nd rfl (.inl rfl) (pe_op op_cat (pv 1) (pe_lst (pa_cons (pe_callB call_isX (by rfl) T.m_isinstance (by decide +kernel) (pa_cons (pv 0) (pa_cons (pe_cls (E.cls 10 (by decide))) pa_nil))) (pa_cons (pe_callB call_isX (by rfl) T.m_isinstance (by decide +kernel) (pa_cons (pv 0) (pa_cons (pe_cls (E.cls 11 (by decide))) pa_nil))) pa_nil)))))
 (pss_cons (ps_set (i := 1) sc__law_marks.nd rfl (.inl rfl) (pe_op op_cat (pv 1) (pe_lst (pa_cons (pe_callB call_isX (by rfl) T.m_isinstance (by decide +kernel) (pa_cons (pv 0) (pa_cons (pe_cls (E.cls 12 (by decide))) pa_nil))) pa_nil))))
 (pss_cons (ps_set (i := 1) sc__law_marks.nd rfl (.inl rfl) (pe_op op_cat (pv 1) (pe_lst (pa_cons (pe_callB call_isX (by rfl) T.m_isinstance (by decide +kernel) (pa_cons (pv 0) (pa_cons (pe_cls (E.cls 13 (by decide))) pa_nil))) (pa_cons (pe_callB call_isX (by rfl) T.m_isinstance (by decide +kernel) (pa_cons (pv 0) (pa_cons (pe_cls (E.cls 14 (by decide))) pa_nil))) pa_nil)))))
 (pss_cons (ps_set (i := 1) sc__law_marks.nd rfl (.inl rfl) (pe_op op_cat (pv 1) (pe_lst (pa_cons (pe_callB call_isX (by rfl) T.m_isinstance (by decide +kernel) (pa_cons (pv 0) (pa_cons (pe_cls (E.cls 15 (by decide))) pa_nil))) (pa_cons (pe_callB call_isX (by rfl) T.m_isinstance (by decide +kernel) (pa_cons (pv 0) (pa_cons (pe_cls (E.cls 16 (by decide))) pa_nil))) pa_nil)))))
 (pss_cons (ps_set (i := 1) sc__law_marks.nd rfl (.inl rfl) (pe_op op_cat (pv 1) (pe_lst (pa_cons (pe_callB call_isX (by rfl) T.m_isinstance (by decide +kernel) (pa_cons (pv 0) (pa_cons (pe_cls (E.cls 17 (by decide))) pa_nil))) pa_nil))))
 (pss_cons (ps_set (i := 1) sc__law_marks.nd rfl (.inl rfl) (pe_op op_cat (pv 1) (pe_lst (pa_cons (pe_callB call_isX (by rfl) T.m_isinstance (by decide +kernel) (pa_cons (pv 0) (pa_cons (pe_cls (E.cls 18 (by decide))) pa_nil))) (pa_cons (pe_callB call_isX (by rfl) T.m_isinstance (by decide +kernel) (pa_cons (pv 0) (pa_cons (pe_cls (E.cls 19 (by decide))) pa_nil))) pa_nil)))))
 (pss_cons (ps_set (i := 1) sc__law_marks.nd rfl (.inl rfl) (pe_op op_cat (pv 1) (pe_lst (pa_cons (pe_callB call_isX (by rfl) T.m_isinstance (by decide +kernel) (pa_cons (pv 0) (pa_cons (pe_cls (E.cls 20 (by decide))) pa_nil))) pa_nil))))
 (pss_one (ps_ret (pe_op op_cat (pv 1) (pe_lst (pa_cons (pe_callB call_isX (by rfl) T.m_isinstance (by decide +kernel) (pa_cons (pv 0) (pa_cons (pe_cls (E.cls 21 (by decide))) pa_nil))) (pa_cons (pe_callB call_isX (by rfl) T.m_isinstance (by decide +kernel) (pa_cons (pv 0) (pa_cons (pe_cls (E.cls 22 (by decide))) pa_nil))) pa_nil))))))))))))))))))), ?_⟩
    have ec := (E.cls j (by omega)).e
    refine ⟨_, rfl, a, ca K j, _, _, _, rfl, e0, ec, fun u r => r, E.kit j hj 0 (by decide), _, rfl, a, ca K j, _, _, _, rfl, e0, ec, fun u r => r, E.kit j hj 1 (by decide), (show 2 ≤ sizeLine by decide), fun p np => ?_⟩
    have M2 : MInv K a j H 2 p (upd H p (.lst [.bl (decide (0 = j)), .bl (decide (1 = j))])) := ⟨Same.up np, upd_same⟩
    refine mark1 (n := 2) E hj (by decide) e0 M2 fun p3 H3 M3 => ?_
    refine mark2 (n := 3) E hj (by decide) e0 M3 fun p5 H5 M5 => ?_
    refine mark2 (n := 5) E hj (by decide) e0 M5 fun p7 H7 M7 => ?_
    refine mark1 (n := 7) E hj (by decide) e0 M7 fun p8 H8 M8 => ?_
    refine mark2 (n := 8) E hj (by decide) e0 M8 fun p10 H10 M10 => ?_
    refine mark2 (n := 10) E hj (by decide) e0 M10 fun p12 H12 M12 => ?_
    refine mark1 (n := 12) E hj (by decide) e0 M12 fun p13 H13 M13 => ?_
    refine mark2 (n := 13) E hj (by decide) e0 M13 fun p15 H15 M15 => ?_
    refine mark2 (n := 15) E hj (by decide) e0 M15 fun p17 H17 M17 => ?_
    refine mark1 (n := 17) E hj (by decide) e0 M17 fun p18 H18 M18 => ?_
    refine mark2 (n := 18) E hj (by decide) e0 M18 fun p20 H20 M20 => ?_
    refine mark1 (n := 20) E hj (by decide) e0 M20 fun p21 H21 M21 => ?_
    have e := IsEx.same M21.same e0
    refine ⟨_, rfl, _, rfl, a, ca K j, _, _, _, rfl, e, ec, fun u r => r, E.kit j hj 21 (by decide), _, rfl, a, ca K j, _, _, _, rfl, e, ec, fun u r => r, E.kit j hj 22 (by decide), (show 2 ≤ sizeLine by decide), fun p2 np2 => ?_⟩
    refine ⟨_, _, _, _, rfl, rfl, (Same.up np2) _ _ M21.at_, upd_same, (show 23 ≤ sizeLine by decide), fun p3 np3 => ?_⟩
    exact q _ _ ((M21.same.trans (Same.up np2)).trans (Same.up np3)) (by rw [upd_same, markL_succ, markL_succ, List.append_assoc] <;> rfl)
end
end Kb
end
section
namespace Kb
open PySem PySem.Spec PyProof.Rows L2 PySem.Kx
open C8 (pss_cut)
section
variable {P : Program} {w : World} {K : PySem.W.Frag} {mg : Str → Option Value} {base : Heap}
/-! ### _law_with_message -/
/-- the exceptions made so far, from the class i on -/
def Rs (K : PySem.W.Frag) (H : Hp) (i0 : Nat) (rs : List Addr) : Prop := ∀ i r, rs[i]? = some r → H r = some (ExO (.ref (ca K (i0 + i))) r)
theorem Rs.nil {H : Hp} {i : Nat} : Rs K H i [] := fun _ _ h => by simp at h
theorem Rs.same {H H' : Hp} {i : Nat} {rs : List Addr} (x : Rs K H i rs) (s : Same H H') : Rs K H' i rs := fun j r h => s _ _ (x j r h)
theorem Rs.snoc {H : Hp} {i0 : Nat} {rs : List Addr} {a : Addr} (n : Nat) (hn : rs.length = n) (x : Rs K H i0 rs) (na : H a = none) : Rs K (upd H a (ExO (.ref (ca K (i0 + n))) a)) i0 (rs ++ [a]) := fun j r h => by
  by_cases hj : j < rs.length
  · rw [List.getElem?_append_left hj] at h
    exact (x.same (Same.up na)) j r h
  · rw [List.getElem?_append_right (by omega)] at h
    have e : j - rs.length = 0 := by
      by_cases z : j - rs.length = 0
      · exact z
      · rw [List.getElem?_eq_none (by simp; omega)] at h
        cases h
    rw [e] at h
    have e2 : a = r := Option.some.inj h
    subst e2
    rw [show i0 + j = i0 + n by omega]
    exact upd_same
theorem Rs.append {H : Hp} {i0 n : Nat} {rs ss : List Addr} (hn : rs.length = n) (x : Rs K H i0 rs) (y : Rs K H (i0 + n) ss) : Rs K H i0 (rs ++ ss) := fun j r h => by
  by_cases hj : j < rs.length
  · rw [List.getElem?_append_left hj] at h
    exact x j r h
  · rw [List.getElem?_append_right (by omega)] at h
    have := y _ r h
    rw [show i0 + n + (j - rs.length) = i0 + j by omega] at this
    exact this
structure WM (K : PySem.W.Frag) (H0 : Hp) (n : Nat) (p : Addr) (rs : List Addr) (H : Hp) : Prop where
  same : Same H0 H
  at_ : H p = some (.lst (rs.map V.ref))
  len : rs.length = n
  ex : Rs K H 0 rs
def sp__law_with_message (K : PySem.W.Frag) : Sp := fun vs H Q _ => ∃ (x : Str), vs = [.str x] ∧ ∀ p rs H', WM K H 18 p rs H' → Q (.ref p) H'
theorem WM.cat {H0 H H1 : Hp} {n m p p2 : Nat} {rs ss : List Addr} (M : WM K H0 n p rs H) (s : Same H H1) (y : Rs K H1 n ss) (hm : ss.length = m) (np2 : H1 p2 = none) : WM K H0 (n + m) p2 (rs ++ ss) (upd H1 p2 (.lst (rs.map V.ref ++ ss.map V.ref))) where
  same := (M.same.trans s).trans (Same.up np2)
  at_ := by rw [upd_same, List.map_append]
  len := by rw [List.length_append, M.len, hm]
  ex := by
    have z : Rs K H1 (0 + n) ss := by rw [Nat.zero_add]; exact y
    exact ((Rs.append M.len (M.ex.same s) z)).same (Same.up np2)
def tEx (K : PySem.W.Frag) (i : Nat) : TE := fun σ H Q => tVar 0 σ H fun _ H1 => ∀ a, H1 a = none → Q (.ref a) (upd H1 a (ExO (.ref (ca K i)) a))
theorem tEx_ok {x : V} {σ : L2.St} {H : Hp} {Q : VK} {i0 n : Nat} {rs : List Addr} (h0 : σ[0]? = some (some x)) (hn : rs.length = n) (r : Rs K H i0 rs) (q : ∀ a H', Same H H' → Rs K H' i0 (rs ++ [a]) → Q (.ref a) H') : tEx K (i0 + n) σ H Q :=
  ⟨x, h0, fun a na => q a _ (Same.up na) (r.snoc n hn na)⟩
theorem disp4 {x : V} {σ : L2.St} {H : Hp} {Q : List V → Hp → Prop} {more : TA} (i : Nat) (h0 : σ[0]? = some (some x)) (q : ∀ a b c d H', Same H H' → Rs K H' i [a, b, c, d] → more σ H' fun xs H2 => Q (.ref a :: .ref b :: .ref c :: .ref d :: xs) H2) :
    tCons (tEx K (i + 0)) (tCons (tEx K (i + 1)) (tCons (tEx K (i + 2)) (tCons (tEx K (i + 3)) more))) σ H Q := by
  unfold tCons
  refine tEx_ok (n := 0) h0 rfl (Rs.nil (K := K)) fun a H1 s1 r1 => ?_
  refine tEx_ok (n := 1) h0 rfl r1 fun b H2 s2 r2 => ?_
  refine tEx_ok (n := 2) h0 rfl r2 fun c H3 s3 r3 => ?_
  exact tEx_ok (n := 3) h0 rfl r3 fun d H4 s4 r4 => q a b c d H4 (((s1.trans s2).trans s3).trans s4) r4
theorem first5 {x : V} {H0 : Hp} {D : Ends} (q : ∀ p' rs' H', WM K H0 5 p' rs' H' → D.nx [some x, some (.ref p')] H') :
    tAsg (tLst (tCons (tEx K 0) (tCons (tEx K 1) (tCons (tEx K 2) (tCons (tEx K 3) (tCons (tEx K 4) tNil)))))) (gName 1) D [some x, none] H0 := by
  unfold tAsg tLst
  refine disp4 (K := K) (more := tCons (tEx K 4) tNil) (σ := [some x, none]) 0 rfl fun a0 a1 a2 a3 H4 s4 r4 => ?_
  unfold tCons
  refine tEx_ok (K := K) (i0 := 0) (n := 4) rfl rfl r4 fun a4 H5 s5 r5 => ?_
  refine ⟨(show 5 ≤ sizeLine by decide), fun p np => ?_⟩
  exact q p [a0, a1, a2, a3, a4] _ ⟨(s4.trans s5).trans (Same.up np), upd_same, rfl, r5.same (Same.up np)⟩
theorem step4 {x : V} (n : Nat) (hn : n ≤ 20) {H0 : Hp} {D : Ends} {p : Addr} {rs : List Addr} {H : Hp} (M : WM K H0 n p rs H) (q : ∀ p' rs' H', WM K H0 (n + 4) p' rs' H' → D.nx [some x, some (.ref p')] H') :
    tAsg (tOp rCat (tVar 1) (tLst (tCons (tEx K (n + 0)) (tCons (tEx K (n + 1)) (tCons (tEx K (n + 2)) (tCons (tEx K (n + 3)) tNil)))))) (gName 1) D [some x, some (.ref p)] H := by
  refine ⟨_, rfl, ?_⟩
  refine disp4 (K := K) (more := tNil) (σ := [some x, some (.ref p)]) n rfl fun a b c d H1 s1 r1 => ?_
  refine ⟨(show 4 ≤ sizeLine by decide), fun p2 np2 => ⟨_, _, _, _, rfl, rfl, (s1.trans (Same.up np2)) _ _ M.at_, upd_same, ?_, fun p3 np3 => ?_⟩⟩
  · show (rs.map V.ref).length + 4 ≤ sizeLine
    rw [List.length_map, M.len]
    exact sz (m := 24) (by omega)
  · exact q _ _ _ (M.cat (s1.trans (Same.up np2)) (r1.same (Same.up np2)) rfl np3)
theorem ok__law_with_message (T : Txt K mg) (E : ErrT K mg) : FnOk P w K mg base CX0 1 T.a__law_with_message T.f__law_with_message ["text"] (sp__law_with_message K) := by
  refine T.F__law_with_message.ok sc__law_with_message (fun vs H Q E h => ?_) (fun cdv A outer s H vs Q E2 hr h => ?_)
  · obtain ⟨x, rfl, _⟩ := h
    rfl
  · obtain ⟨x, rfl, q⟩ := h
    refine ⟨_, (pss_cons (ps_set (i := 1) sc__law_with_message.nd rfl (.inl rfl) (pe_lst (pa_cons (pe_exc1 PySem.F.excBase_ValueError (E.pl 0 (by decide)) (E.cls 0 (by decide)).g (E.cls 0 (by decide)).k (by rfl) (pv 0)) (pa_cons (pe_exc1 PySem.F.excBase_ValueError (E.pl 1 (by decide)) (E.cls 1 (by decide)).g (E.cls 1 (by decide)).k (by rfl) (pv 0)) (pa_cons (pe_exc1 PySem.F.excBase_ValueError (E.pl 2 (by decide)) (E.cls 2 (by decide)).g (E.cls 2 (by decide)).k (by rfl) (pv 0)) (pa_cons (pe_exc1 PySem.F.excBase_ValueError (E.pl 3 (by decide)) (E.cls 3 (by decide)).g (E.cls 3 (by decide)).k (by rfl) (pv 0)) (pa_cons (pe_exc1 PySem.F.excBase_ValueError (E.pl 4 (by decide)) (E.cls 4 (by decide)).g (E.cls 4 (by decide)).k (by rfl) (pv 0)) pa_nil)))))))
 (pss_cons (ps_set (i := 1) sc__law_with_message.nd rfl (.inl rfl) (pe_op op_cat (pv 1) (pe_lst (pa_cons (pe_exc1 PySem.F.excBase_ValueError (E.pl 5 (by decide)) (E.cls 5 (by decide)).g (E.cls 5 (by decide)).k (by rfl) (pv 0)) (pa_cons (pe_exc1 PySem.F.excBase_ValueError (E.pl 6 (by decide)) (E.cls 6 (by decide)).g (E.cls 6 (by decide)).k (by rfl) (pv 0)) (pa_cons (pe_exc1 PySem.F.excBase_ValueError (E.pl 7 (by decide)) (E.cls 7 (by decide)).g (E.cls 7 (by decide)).k (by rfl) (pv 0)) (pa_cons (pe_exc1 PySem.F.excBase_ValueError (E.pl 8 (by decide)) (E.cls 8 (by decide)).g (E.cls 8 (by decide)).k (by rfl) (pv 0)) pa_nil)))))))
 (pss_cons (ps_set (i := 1) sc__law_with_message.nd rfl (.inl rfl) (pe_op op_cat (pv 1) (pe_lst (pa_cons (pe_exc1 PySem.F.excBase_ValueError (E.pl 9 (by decide)) (E.cls 9 (by decide)).g (E.cls 9 (by decide)).k (by rfl) (pv 0)) (pa_cons (pe_exc1 PySem.F.excBase_ValueError (E.pl 10 (by decide)) (E.cls 10 (by decide)).g (E.cls 10 (by decide)).k (by rfl) (pv 0)) (pa_cons (pe_exc1 PySem.F.excBase_ValueError (E.pl 11 (by decide)) (E.cls 11 (by decide)).g (E.cls 11 (by decide)).k (by rfl) (pv 0)) (pa_cons (pe_exc1 PySem.F.excBase_ValueError (E.pl 12 (by decide)) (E.cls 12 (by decide)).g (E.cls 12 (by decide)).k (by rfl) (pv 0)) pa_nil)))))))
 (pss_cons (ps_set (i := 1) sc__law_with_message.nd rfl (.inl rfl) (pe_op op_cat (pv 1) (pe_lst (pa_cons (pe_exc1 PySem.F.excBase_ValueError (E.pl 13 (by decide)) (E.cls 13 (by decide)).g (E.cls 13 (by decide)).k (by rfl) (pv 0)) (pa_cons (pe_exc1 PySem.F.excBase_ValueError (E.pl 14 (by decide)) (E.cls 14 (by decide)).g (E.cls 14 (by decide)).k (by rfl) (pv 0)) (pa_cons (pe_exc1 PySem.F.excBase_ValueError (E.pl 15 (by decide)) (E.cls 15 (by decide)).g (E.cls 15 (by decide)).k (by rfl) (pv 0)) (pa_cons (pe_exc1 PySem.F.excBase_ValueError (E.pl 16 (by decide)) (E.cls 16 (by decide)).g (E.cls 16 (by decide)).k (by rfl) (pv 0)) pa_nil)))))))
 (pss_one (ps_ret (pe_op op_cat (pv 1) (pe_lst (pa_cons (pe_exc1 PySem.F.excBase_ValueError (E.pl 17 (by decide)) (E.cls 17 (by decide)).g (E.cls 17 (by decide)).k (by rfl) (pv 0)) pa_nil))))))))), ?_⟩
    refine first5 (K := K) fun p rs5 H5 M5 => ?_
    refine step4 5 (by decide) M5 fun p9 rs9 H9 M9 => ?_
    refine step4 9 (by decide) M9 fun p13 rs13 H13 M13 => ?_
    refine step4 13 (by decide) M13 fun p17 rs17 H17 M17 => ?_
    refine ⟨_, rfl, _, rfl, fun a17 n17 => ?_⟩
    have r18 : Rs K _ 17 [a17] := (Rs.nil (K := K) (H := H17) (i := 17)).snoc 0 rfl n17
    have s18 : Same H17 (upd H17 a17 (ExO (.ref (ca K 17)) a17)) := Same.up n17
    refine ⟨(show 1 ≤ sizeLine by decide), fun p2 np2 => ⟨_, _, _, _, rfl, rfl, (s18.trans (Same.up np2)) _ _ M17.at_, upd_same, ?_, fun p3 np3 => ?_⟩⟩
    · show (rs17.map V.ref).length + 1 ≤ sizeLine
      rw [List.length_map, M17.len]
      decide
    · exact q _ _ _ (M17.cat (m := 1) (s18.trans (Same.up np2)) (r18.same (Same.up np2)) rfl np3)
end
end Kb
end
section
namespace Kb
open PySem PySem.Spec PyProof.Rows L2 PySem.Kx
open C8 (pss_cut)
section
variable {P : Program} {w : World} {K : PySem.W.Frag} {mg : Str → Option Value} {base : Heap}
/-! ### _law_with_value -/
def fieldOf (i : Nat) : Str := (["name", "group", "value", "limit", "cycle"] : List Str).getD i "name"
/-- the i-th such exception stands at a, and keeps v -/
def Kept (K : PySem.W.Frag) (H : Hp) (i : Nat) (a : Addr) (v : V) : Prop := ∃ d, H a = some (exo a (ca K (18 + i)) (some d)) ∧ H d = some (exd d [(fieldOf i, v)])
theorem Kept.same {H H' : Hp} {i : Nat} {a : Addr} {v : V} (s : Same H H') (k : Kept K H i a v) : Kept K H' i a v := by
  obtain ⟨d, e1, e2⟩ := k
  exact ⟨d, s _ _ e1, s _ _ e2⟩
theorem Kept.isEx {H : Hp} {i : Nat} {a : Addr} {v : V} (k : Kept K H i a v) : IsEx H a (ca K (18 + i)) := by
  obtain ⟨d, e1, e2⟩ := k
  exact .inr ⟨d, _, e1, e2⟩
theorem Kept.new {H : Hp} {i a d : Nat} {v : V} {f : Str} (hf : f = fieldOf i) {C : Addr} (hC : C = ca K (18 + i)) (na : H a = none) (nd : H d = none) (ne : a ≠ d) : Kept K (upd (upd H d (exd d [(f, v)])) a (exo a C (some d))) i a v := by
  subst hf hC
  exact ⟨d, upd_same, by rw [upd_ne (Ne.symm ne)]; exact upd_same⟩
theorem Same.up2 {H : Hp} {a d : Addr} {o u : HO} (na : H a = none) (nd : H d = none) (ne : a ≠ d) : Same H (upd (upd H d o) a u) := (Same.up nd).trans (Same.up (by rw [upd_ne ne]; exact na))
def sp__law_with_value (K : PySem.W.Frag) : Sp := fun vs H Q _ => ∃ (v g l c : V), vs = [v, g, l, c] ∧ ∀ (p : Addr) (H' : Hp) (es ts : List Addr), Same H H' → H' p = some (.lst (ts.map V.ref)) → ts.length = 5 → es.length = 5 →
  (∀ i t e k, ts[i]? = some t → es[i]? = some e → ([v, g, v, l, c] : List V)[i]? = some k → H' t = some (.tup [.ref e, k, .bl true]) ∧ Kept K H' i e k) → Q (.ref p) H'
theorem ok__law_with_value (T : Txt K mg) (E : ErrT K mg) (O : OwnT K mg) : FnOk P w K mg base CX0 2 T.a__law_with_value T.f__law_with_value ["value", "group", "limit", "cycle"] (sp__law_with_value K) := by
  obtain ⟨⟨i18, o18⟩, ⟨i19, o19⟩, ⟨i20, o20⟩, ⟨i21, o21⟩, ⟨i22, o22⟩⟩ := O
  refine T.F__law_with_value.ok sc__law_with_value (fun vs H Q E h => ?_) (fun cdv A outer s H vs Q E2 hr h => ?_)
  · obtain ⟨v, g, l, c, rfl, _⟩ := h
    rfl
  · obtain ⟨v, g, l, c, rfl, q⟩ := h
    refine ⟨_, (pss_cons (ps_par3 (by rfl) sc__law_with_value.nd (i := 4) (j := 5) (l := 6) rfl rfl rfl (by decide) (by decide) (by decide) rfl rfl rfl (pa_cons (pe_ownX o18 hr (pa_cons (pv 0) pa_nil)) (pa_cons (pe_ownX o19 hr (pa_cons (pv 1) pa_nil)) (pa_cons (pe_ownX o20 hr (pa_cons (pv 0) pa_nil)) pa_nil))) (by rfl))
 (pss_cons (ps_par (by rfl) sc__law_with_value.nd (i := 7) (j := 8) rfl rfl (by decide) rfl rfl (pa_cons (pe_ownX o21 hr (pa_cons (pv 2) pa_nil)) (pa_cons (pe_ownX o22 hr (pa_cons (pv 3) pa_nil)) pa_nil)) (by rfl))
 (pss_cons (ps_set (i := 9) sc__law_with_value.nd rfl (.inl rfl) (pe_lst (pa_cons (pe_tup (pa_cons (pv 4) (pa_cons (pe_fldX o18 (pv 4)) (pa_cons (pe_callB call_isX (by rfl) T.m_isinstance (by decide +kernel) (pa_cons (pv 4) (pa_cons (pe_bltn (v := .ty "KeyError") (by rfl) T.m_KeyError (by decide +kernel) rfl) pa_nil))) pa_nil)))) (pa_cons (pe_tup (pa_cons (pv 5) (pa_cons (pe_fldX o19 (pv 5)) (pa_cons (pe_callB call_isX (by rfl) T.m_isinstance (by decide +kernel) (pa_cons (pv 5) (pa_cons (pe_bltn (v := .ty "LookupError") (by rfl) T.m_LookupError (by decide +kernel) rfl) pa_nil))) pa_nil)))) pa_nil))))
 (pss_cons (ps_set (i := 9) sc__law_with_value.nd rfl (.inl rfl) (pe_op op_cat (pv 9) (pe_lst (pa_cons (pe_tup (pa_cons (pv 6) (pa_cons (pe_fldX o20 (pv 6)) (pa_cons (pe_callB call_isX (by rfl) T.m_isinstance (by decide +kernel) (pa_cons (pv 6) (pa_cons (pe_bltn (v := .ty "IndexError") (by rfl) T.m_IndexError (by decide +kernel) rfl) pa_nil))) pa_nil)))) pa_nil))))
 (pss_cons (ps_set (i := 9) sc__law_with_value.nd rfl (.inl rfl) (pe_op op_cat (pv 9) (pe_lst (pa_cons (pe_tup (pa_cons (pv 7) (pa_cons (pe_fldX o21 (pv 7)) (pa_cons (pe_callB call_isX (by rfl) T.m_isinstance (by decide +kernel) (pa_cons (pv 7) (pa_cons (pe_bltn (v := .ty "OverflowError") (by rfl) T.m_OverflowError (by decide +kernel) rfl) pa_nil))) pa_nil)))) pa_nil))))
 (pss_one (ps_ret (pe_op op_cat (pv 9) (pe_lst (pa_cons (pe_tup (pa_cons (pv 8) (pa_cons (pe_fldX o22 (pv 8)) (pa_cons (pe_callB call_isX (by rfl) T.m_isinstance (by decide +kernel) (pa_cons (pv 8) (pa_cons (pe_bltn (v := .ty "RuntimeError") (by rfl) T.m_RuntimeError (by decide +kernel) rfl) pa_nil))) pa_nil)))) pa_nil)))))))))), ?_⟩
    refine ⟨_, rfl, _, rfl, fun a18 d18 na nd ne => ?_⟩
    have k0 := Kept.new (K := K) (H := H) (i := 0) (v := v) (f := "name") rfl (C := ca K 18) rfl na nd ne
    have s18 := Same.up2 (o := exd d18 [("name", v)]) (u := exo a18 (ca K 18) (some d18)) na nd ne
    generalize upd (upd H d18 (exd d18 [("name", v)])) a18 (exo a18 (ca K 18) (some d18)) = H18 at k0 s18 ⊢
    have sH := s18
    refine ⟨_, rfl, _, rfl, fun a19 d19 na nd ne => ?_⟩
    have k1 := Kept.new (K := K) (H := H18) (i := 1) (v := g) (f := "group") rfl (C := ca K 19) rfl na nd ne
    have s19 := Same.up2 (o := exd d19 [("group", g)]) (u := exo a19 (ca K 19) (some d19)) na nd ne
    generalize upd (upd H18 d19 (exd d19 [("group", g)])) a19 (exo a19 (ca K 19) (some d19)) = H19 at k1 s19 ⊢
    have k0 := Kept.same s19 k0
    have sH := sH.trans s19
    refine ⟨_, rfl, _, rfl, fun a20 d20 na nd ne => ?_⟩
    have k2 := Kept.new (K := K) (H := H19) (i := 2) (v := v) (f := "value") rfl (C := ca K 20) rfl na nd ne
    have s20 := Same.up2 (o := exd d20 [("value", v)]) (u := exo a20 (ca K 20) (some d20)) na nd ne
    generalize upd (upd H19 d20 (exd d20 [("value", v)])) a20 (exo a20 (ca K 20) (some d20)) = H20 at k2 s20 ⊢
    have k0 := Kept.same s20 k0
    have k1 := Kept.same s20 k1
    have sH := sH.trans s20
    refine ⟨_, _, _, rfl, ?_⟩
    refine ⟨_, rfl, _, rfl, fun a21 d21 na nd ne => ?_⟩
    have k3 := Kept.new (K := K) (H := H20) (i := 3) (v := l) (f := "limit") rfl (C := ca K 21) rfl na nd ne
    have s21 := Same.up2 (o := exd d21 [("limit", l)]) (u := exo a21 (ca K 21) (some d21)) na nd ne
    generalize upd (upd H20 d21 (exd d21 [("limit", l)])) a21 (exo a21 (ca K 21) (some d21)) = H21 at k3 s21 ⊢
    have k0 := Kept.same s21 k0
    have k1 := Kept.same s21 k1
    have k2 := Kept.same s21 k2
    have sH := sH.trans s21
    refine ⟨_, rfl, _, rfl, fun a22 d22 na nd ne => ?_⟩
    have k4 := Kept.new (K := K) (H := H21) (i := 4) (v := c) (f := "cycle") rfl (C := ca K 22) rfl na nd ne
    have s22 := Same.up2 (o := exd d22 [("cycle", c)]) (u := exo a22 (ca K 22) (some d22)) na nd ne
    generalize upd (upd H21 d22 (exd d22 [("cycle", c)])) a22 (exo a22 (ca K 22) (some d22)) = H22 at k4 s22 ⊢
    have k0 := Kept.same s22 k0
    have k1 := Kept.same s22 k1
    have k2 := Kept.same s22 k2
    have k3 := Kept.same s22 k3
    have sH := sH.trans s22
    refine ⟨_, _, rfl, ?_⟩
    obtain ⟨d, e1, e2⟩ := id k0
    refine ⟨_, rfl, _, rfl, _, d, _, rfl, e1, e2, _, rfl, a18, ca K 18, _, _, _, rfl, k0.isEx, (E.cls 18 (by decide)).e, fun u r => r, (show PySem.W.kitOne K _ _ = some true from E.kK 18 (by decide)), (show 3 ≤ sizeLine by decide), fun t0 nt => ?_⟩
    have st := Same.up (o := .tup [.ref a18, v, .bl true]) nt
    have h0 : upd H22 t0 (.tup [.ref a18, v, .bl true]) t0 = some (.tup [.ref a18, v, .bl true]) := upd_same
    generalize upd H22 t0 (.tup [.ref a18, v, .bl true]) = J0 at st h0 ⊢
    have k0 := Kept.same st k0
    have k1 := Kept.same st k1
    have k2 := Kept.same st k2
    have k3 := Kept.same st k3
    have k4 := Kept.same st k4
    have sH := sH.trans st
    obtain ⟨d, e1, e2⟩ := id k1
    refine ⟨_, rfl, _, rfl, _, d, _, rfl, e1, e2, _, rfl, a19, ca K 19, _, _, _, rfl, k1.isEx, (E.cls 19 (by decide)).e, fun u r => r, (show PySem.W.kitOne K _ _ = some true from E.kL 19 (by decide)), (show 3 ≤ sizeLine by decide), fun t1 nt => ?_⟩
    have st := Same.up (o := .tup [.ref a19, g, .bl true]) nt
    have h1 : upd J0 t1 (.tup [.ref a19, g, .bl true]) t1 = some (.tup [.ref a19, g, .bl true]) := upd_same
    generalize upd J0 t1 (.tup [.ref a19, g, .bl true]) = J1 at st h1 ⊢
    have k0 := Kept.same st k0
    have k1 := Kept.same st k1
    have k2 := Kept.same st k2
    have k3 := Kept.same st k3
    have k4 := Kept.same st k4
    have sH := sH.trans st
    have h0 := st _ _ h0
    refine ⟨(show 2 ≤ sizeLine by decide), fun p nn => ?_⟩
    have st := Same.up (o := .lst [.ref t0, .ref t1]) nn
    have hp : upd J1 p (.lst [.ref t0, .ref t1]) p = some (.lst [.ref t0, .ref t1]) := upd_same
    generalize upd J1 p (.lst [.ref t0, .ref t1]) = G1 at st hp ⊢
    have k0 := Kept.same st k0
    have k1 := Kept.same st k1
    have k2 := Kept.same st k2
    have k3 := Kept.same st k3
    have k4 := Kept.same st k4
    have sH := sH.trans st
    have h0 := st _ _ h0
    have h1 := st _ _ h1
    refine ⟨_, rfl, ?_⟩
    obtain ⟨d, e1, e2⟩ := id k2
    refine ⟨_, rfl, _, rfl, _, d, _, rfl, e1, e2, _, rfl, a20, ca K 20, _, _, _, rfl, k2.isEx, (E.cls 20 (by decide)).e, fun u r => r, (show PySem.W.kitOne K _ _ = some true from E.kI 20 (by decide)), (show 3 ≤ sizeLine by decide), fun t2 nt => ?_⟩
    have st := Same.up (o := .tup [.ref a20, v, .bl true]) nt
    have h2 : upd G1 t2 (.tup [.ref a20, v, .bl true]) t2 = some (.tup [.ref a20, v, .bl true]) := upd_same
    generalize upd G1 t2 (.tup [.ref a20, v, .bl true]) = J2 at st h2 ⊢
    have k0 := Kept.same st k0
    have k1 := Kept.same st k1
    have k2 := Kept.same st k2
    have k3 := Kept.same st k3
    have k4 := Kept.same st k4
    have sH := sH.trans st
    have h0 := st _ _ h0
    have h1 := st _ _ h1
    have hp := st _ _ hp
    refine ⟨(show 1 ≤ sizeLine by decide), fun p2 nn => ?_⟩
    have st := Same.up (o := .lst [.ref t2]) nn
    have hp2 : upd J2 p2 (.lst [.ref t2]) p2 = some (.lst [.ref t2]) := upd_same
    generalize upd J2 p2 (.lst [.ref t2]) = G22 at st hp2 ⊢
    have k0 := Kept.same st k0
    have k1 := Kept.same st k1
    have k2 := Kept.same st k2
    have k3 := Kept.same st k3
    have k4 := Kept.same st k4
    have sH := sH.trans st
    have h0 := st _ _ h0
    have h1 := st _ _ h1
    have h2 := st _ _ h2
    have hp := st _ _ hp
    refine ⟨_, _, _, _, rfl, rfl, hp, hp2, (show 3 ≤ sizeLine by decide), fun p nn => ?_⟩
    have st := Same.up (o := .lst ([.ref t0, .ref t1] ++ [V.ref t2])) nn
    have hp : upd G22 p (.lst ([.ref t0, .ref t1] ++ [V.ref t2])) p = some (.lst [.ref t0, .ref t1, .ref t2]) := upd_same
    generalize upd G22 p (.lst ([.ref t0, .ref t1] ++ [V.ref t2])) = G32 at st hp ⊢
    have k0 := Kept.same st k0
    have k1 := Kept.same st k1
    have k2 := Kept.same st k2
    have k3 := Kept.same st k3
    have k4 := Kept.same st k4
    have sH := sH.trans st
    have h0 := st _ _ h0
    have h1 := st _ _ h1
    have h2 := st _ _ h2
    refine ⟨_, rfl, ?_⟩
    obtain ⟨d, e1, e2⟩ := id k3
    refine ⟨_, rfl, _, rfl, _, d, _, rfl, e1, e2, _, rfl, a21, ca K 21, _, _, _, rfl, k3.isEx, (E.cls 21 (by decide)).e, fun u r => r, (show PySem.W.kitOne K _ _ = some true from E.kO 21 (by decide)), (show 3 ≤ sizeLine by decide), fun t3 nt => ?_⟩
    have st := Same.up (o := .tup [.ref a21, l, .bl true]) nt
    have h3 : upd G32 t3 (.tup [.ref a21, l, .bl true]) t3 = some (.tup [.ref a21, l, .bl true]) := upd_same
    generalize upd G32 t3 (.tup [.ref a21, l, .bl true]) = J3 at st h3 ⊢
    have k0 := Kept.same st k0
    have k1 := Kept.same st k1
    have k2 := Kept.same st k2
    have k3 := Kept.same st k3
    have k4 := Kept.same st k4
    have sH := sH.trans st
    have h0 := st _ _ h0
    have h1 := st _ _ h1
    have h2 := st _ _ h2
    have hp := st _ _ hp
    refine ⟨(show 1 ≤ sizeLine by decide), fun p2 nn => ?_⟩
    have st := Same.up (o := .lst [.ref t3]) nn
    have hp2 : upd J3 p2 (.lst [.ref t3]) p2 = some (.lst [.ref t3]) := upd_same
    generalize upd J3 p2 (.lst [.ref t3]) = G23 at st hp2 ⊢
    have k0 := Kept.same st k0
    have k1 := Kept.same st k1
    have k2 := Kept.same st k2
    have k3 := Kept.same st k3
    have k4 := Kept.same st k4
    have sH := sH.trans st
    have h0 := st _ _ h0
    have h1 := st _ _ h1
    have h2 := st _ _ h2
    have h3 := st _ _ h3
    have hp := st _ _ hp
    refine ⟨_, _, _, _, rfl, rfl, hp, hp2, (show 4 ≤ sizeLine by decide), fun p nn => ?_⟩
    have st := Same.up (o := .lst ([.ref t0, .ref t1, .ref t2] ++ [V.ref t3])) nn
    have hp : upd G23 p (.lst ([.ref t0, .ref t1, .ref t2] ++ [V.ref t3])) p = some (.lst [.ref t0, .ref t1, .ref t2, .ref t3]) := upd_same
    generalize upd G23 p (.lst ([.ref t0, .ref t1, .ref t2] ++ [V.ref t3])) = G33 at st hp ⊢
    have k0 := Kept.same st k0
    have k1 := Kept.same st k1
    have k2 := Kept.same st k2
    have k3 := Kept.same st k3
    have k4 := Kept.same st k4
    have sH := sH.trans st
    have h0 := st _ _ h0
    have h1 := st _ _ h1
    have h2 := st _ _ h2
    have h3 := st _ _ h3
    refine ⟨_, rfl, ?_⟩
    obtain ⟨d, e1, e2⟩ := id k4
    refine ⟨_, rfl, _, rfl, _, d, _, rfl, e1, e2, _, rfl, a22, ca K 22, _, _, _, rfl, k4.isEx, (E.cls 22 (by decide)).e, fun u r => r, (show PySem.W.kitOne K _ _ = some true from E.kT 22 (by decide)), (show 3 ≤ sizeLine by decide), fun t4 nt => ?_⟩
    have st := Same.up (o := .tup [.ref a22, c, .bl true]) nt
    have h4 : upd G33 t4 (.tup [.ref a22, c, .bl true]) t4 = some (.tup [.ref a22, c, .bl true]) := upd_same
    generalize upd G33 t4 (.tup [.ref a22, c, .bl true]) = J4 at st h4 ⊢
    have k0 := Kept.same st k0
    have k1 := Kept.same st k1
    have k2 := Kept.same st k2
    have k3 := Kept.same st k3
    have k4 := Kept.same st k4
    have sH := sH.trans st
    have h0 := st _ _ h0
    have h1 := st _ _ h1
    have h2 := st _ _ h2
    have h3 := st _ _ h3
    have hp := st _ _ hp
    refine ⟨(show 1 ≤ sizeLine by decide), fun p2 nn => ?_⟩
    have st := Same.up (o := .lst [.ref t4]) nn
    have hp2 : upd J4 p2 (.lst [.ref t4]) p2 = some (.lst [.ref t4]) := upd_same
    generalize upd J4 p2 (.lst [.ref t4]) = G24 at st hp2 ⊢
    have k0 := Kept.same st k0
    have k1 := Kept.same st k1
    have k2 := Kept.same st k2
    have k3 := Kept.same st k3
    have k4 := Kept.same st k4
    have sH := sH.trans st
    have h0 := st _ _ h0
    have h1 := st _ _ h1
    have h2 := st _ _ h2
    have h3 := st _ _ h3
    have h4 := st _ _ h4
    have hp := st _ _ hp
    refine ⟨_, _, _, _, rfl, rfl, hp, hp2, (show 5 ≤ sizeLine by decide), fun p nn => ?_⟩
    have st := Same.up (o := .lst ([.ref t0, .ref t1, .ref t2, .ref t3] ++ [V.ref t4])) nn
    have hp : upd G24 p (.lst ([.ref t0, .ref t1, .ref t2, .ref t3] ++ [V.ref t4])) p = some (.lst [.ref t0, .ref t1, .ref t2, .ref t3, .ref t4]) := upd_same
    generalize upd G24 p (.lst ([.ref t0, .ref t1, .ref t2, .ref t3] ++ [V.ref t4])) = G34 at st hp ⊢
    have k0 := Kept.same st k0
    have k1 := Kept.same st k1
    have k2 := Kept.same st k2
    have k3 := Kept.same st k3
    have k4 := Kept.same st k4
    have sH := sH.trans st
    have h0 := st _ _ h0
    have h1 := st _ _ h1
    have h2 := st _ _ h2
    have h3 := st _ _ h3
    have h4 := st _ _ h4
    refine q p _ [a18, a19, a20, a21, a22] [t0, t1, t2, t3, t4] sH hp rfl rfl fun i t e k y1 y2 y3 => ?_
    match i, y1, y2, y3 with
    | 0, y1, y2, y3 => cases y1; cases y2; cases y3; exact ⟨h0, k0⟩
    | 1, y1, y2, y3 => cases y1; cases y2; cases y3; exact ⟨h1, k1⟩
    | 2, y1, y2, y3 => cases y1; cases y2; cases y3; exact ⟨h2, k2⟩
    | 3, y1, y2, y3 => cases y1; cases y2; cases y3; exact ⟨h3, k3⟩
    | 4, y1, y2, y3 => cases y1; cases y2; cases y3; exact ⟨h4, k4⟩
    | _ + 5, y1, _, _ => simp at y1
end
end Kb
end
section
namespace Kb
open PySem PySem.Spec PyProof.Rows L2 PySem.Kx
open C8 (pss_cut)
section
variable {P : Program} {w : World} {K : PySem.W.Frag} {mg : Str → Option Value} {base : Heap}
/-! ### _law_others -/
def sp__law_others (K : PySem.W.Frag) : Sp := fun vs H Q _ => ∃ (a : Addr) (i : Nat), vs = [.ref a] ∧ i < 5 ∧ IsEx H a (ca K (18 + i)) ∧ ∀ H', Same H H' → Q (.int (if i = 1 then 0 else 1)) H'
theorem ok__law_others (T : Txt K mg) (E : ErrT K mg) : FnOk P w K mg base CX0 1 T.a__law_others T.f__law_others ["error"] (sp__law_others K) := by
  refine T.F__law_others.ok sc__law_others (fun vs H Q E h => ?_) (fun cdv A outer s H vs Q E2 hr h => ?_)
  · obtain ⟨a, i, rfl, _⟩ := h
    rfl
  · obtain ⟨a, i, rfl, hi, ie, q⟩ := h
    have hj : 18 + i < 23 := by omega
    have ec := (E.cls (18 + i) (by omega)).e
    refine ⟨_, (pss_cons (ps_set (i := 1) sc__law_others.nd rfl (.inl rfl) (pe_lst (pa_cons (pe_callB call_isX (by rfl) T.m_isinstance (by decide +kernel) (pa_cons (pv 0) (pa_cons (pe_bltn (v := .ty "KeyError") (by rfl) T.m_KeyError (by decide +kernel) rfl) pa_nil))) (pa_cons (pe_callB call_isX (by rfl) T.m_isinstance (by decide +kernel) (pa_cons (pv 0) (pa_cons (pe_bltn (v := .ty "IndexError") (by rfl) T.m_IndexError (by decide +kernel) rfl) pa_nil))) (pa_cons (pe_callB call_isX (by rfl) T.m_isinstance (by decide +kernel) (pa_cons (pv 0) (pa_cons (pe_bltn (v := .ty "OverflowError") (by rfl) T.m_OverflowError (by decide +kernel) rfl) pa_nil))) pa_nil)))))
 (pss_cons (ps_set (i := 1) sc__law_others.nd rfl (.inl rfl) (pe_op op_cat (pv 1) (pe_lst (pa_cons (pe_callB call_isX (by rfl) T.m_isinstance (by decide +kernel) (pa_cons (pv 0) (pa_cons (pe_bltn (v := .ty "RuntimeError") (by rfl) T.m_RuntimeError (by decide +kernel) rfl) pa_nil))) (pa_cons (pe_callB call_isX (by rfl) T.m_isinstance (by decide +kernel) (pa_cons (pv 0) (pa_cons (pe_bltn (v := .ty "ValueError") (by rfl) T.m_ValueError (by decide +kernel) rfl) pa_nil))) pa_nil)))))
 (pss_one (ps_ret (pe_bm PySem.F.plainAttrs_list PySem.F.slot_list_count PySem.F.type_list_count mt_cnt (pv 1) (pa_cons pe_bl pa_nil)))))), ?_⟩
    refine ⟨_, rfl, a, _, _, _, _, rfl, ie, ec, fun u r => r, E.kK _ hj, _, rfl, a, _, _, _, _, rfl, ie, ec, fun u r => r, E.kI _ hj, _, rfl, a, _, _, _, _, rfl, ie, ec, fun u r => r, E.kO _ hj, (show 3 ≤ sizeLine by decide), fun p np => ?_⟩
    have ie2 := IsEx.same (Same.up (o := .lst [.bl (decide (18 + i = 18)), .bl (decide (18 + i = 20)), .bl (decide (18 + i = 21))]) np) ie
    refine ⟨_, rfl, _, rfl, a, _, _, _, _, rfl, ie2, ec, fun u r => r, E.kT _ hj, _, rfl, a, _, _, _, _, rfl, ie2, ec, fun u r => r, E.kV _ hj, (show 2 ≤ sizeLine by decide), fun p2 np2 => ?_⟩
    refine ⟨_, _, _, _, rfl, rfl, (Same.up np2) _ _ upd_same, upd_same, (show 5 ≤ sizeLine by decide), fun p3 np3 => ?_⟩
    refine ⟨_, rfl, .inl ⟨rfl, _, .of upd_same⟩, _, _, _, rfl, rfl, .of upd_same, rfl, rfl, ?_⟩
    have e : V.int ((([V.bl (decide (18 + i = 18)), V.bl (decide (18 + i = 20)), V.bl (decide (18 + i = 21))] ++ [V.bl (decide (18 + i = 22)), V.bl (decide (18 + i < 18))]).countP fun z => eqV z (.bl true) : Nat) : Int) = V.int (if i = 1 then 0 else 1) := by
      have h5 : i = 0 ∨ i = 1 ∨ i = 2 ∨ i = 3 ∨ i = 4 := by omega
      rcases h5 with rfl | rfl | rfl | rfl | rfl <;> rfl
    rw [e]
    exact q _ (((Same.up np).trans (Same.up np2)).trans (Same.up np3))
/-! ### _law_caught -/
def sp__law_caught : Sp := fun vs H Q _ => ∃ (n : Nat) (x : Str), vs = [.int (n : Int), .str x] ∧ n < 3 ∧ x.length ≤ sizeLine ∧ ∀ H', Same H H' → Q (.str ((["records", "key", "many"] : List Str).getD n "")) H'
theorem ok__law_caught (T : Txt K mg) (E : ErrT K mg) (O : OwnT K mg) : FnOk P w K mg base CX0 2 T.a__law_caught T.f__law_caught ["way", "text"] sp__law_caught := by
  obtain ⟨⟨i18, o18⟩, _, _, ⟨i21, o21⟩, _⟩ := O
  refine T.F__law_caught.ok sc__law_caught (fun vs H Q E h => ?_) (fun cdv A outer s H vs Q E2 hr h => ?_)
  · obtain ⟨n, x, rfl, _⟩ := h
    rfl
  · obtain ⟨n, x, rfl, hn, hx, q⟩ := h
    have c4 := E.cls 4 (by decide)
    refine ⟨_, (pss_one (ps_tryG rfl rfl sc__law_caught.nd takes0 (fun W pn xe tk _ =>
        (pss_cons (ps_if (pt_cmpR op_eq (pv 0) pe_int (nomark _)) (pss_one (ps_raise rfl tk (SkE.pmk_own1 PySem.F.excBase_ValueError (E.pl 4 (by decide)) c4.g c4.k (raises_own c4.e.hs c4.t) (by rfl) (pv 1)))) pss_nil)
        (pss_cons (ps_if (pt_cmpR op_eq (pv 0) pe_int (nomark _)) (pss_one (ps_raise rfl tk (pmk_ownX o18 hr (pa_cons (pv 1) pa_nil)))) pss_nil)
        (pss_one (ps_raise rfl tk (pmk_ownX o21 hr (pa_cons (pe_callB call_len_str (by rfl) T.m_len (by decide +kernel) (pa_cons (pv 1) pa_nil)) pa_nil)))))))
      (HG.plain (tg_name ⟨by rfl, by decide, .inl (E.cls 23 (by decide)).g⟩) (fun a oe cls d pn _ _ => (pss_one (ps_ret pe_str)))
      (HG.plain (tg_name (c := .type "KeyError") ⟨by rfl, by decide, .inr ⟨T.m_KeyError, (by decide +kernel), by decide⟩⟩) (fun a oe cls d pn _ _ => (pss_one (ps_ret pe_str)))
      (HG.plain (tg_two ⟨by rfl, by decide, .inl (E.cls 21 (by decide)).g⟩ ⟨by rfl, by decide, .inl (E.cls 20 (by decide)).g⟩) (fun a oe cls d pn _ _ => (pss_one (ps_ret pe_str))) HG.nil))))), ?_⟩
    refine ⟨_, rfl, rfl, _, rfl, ite2 (fun c => ?_) (fun c => ?_)⟩
    · have z : (n : Int) = 0 := V.int.inj (of_decide_eq_true c)
      obtain rfl : n = 0 := by omega
      refine ⟨_, rfl, true, E.c3, fun _ a na => ?_, fun z => nomatch z⟩
      exact q H (Same.refl H)
    · have z0 : n ≠ 0 := fun z => c (by subst z; rfl)
      refine ⟨_, rfl, rfl, _, rfl, ite2 (fun c1 => ?_) (fun c1 => ?_)⟩
      · have z : (n : Int) = 1 := V.int.inj (of_decide_eq_true c1)
        obtain rfl : n = 1 := by omega
        refine ⟨_, rfl, _, rfl, fun d nd => ⟨false, E.c4, (fun z => nomatch z), fun _ => ⟨true, E.c6, fun _ a na => ?_, fun z => nomatch z⟩⟩⟩
        exact q _ (Same.up nd)
      · have z1 : n ≠ 1 := fun z => c1 (by subst z; rfl)
        obtain rfl : n = 2 := by omega
        refine ⟨_, rfl, _, rfl, hx, _, rfl, fun d nd => ⟨false, E.c5, (fun z => nomatch z), fun _ => ⟨false, E.c7, (fun z => nomatch z), fun _ => ⟨true, E.c8, fun _ a na => ?_, fun z => nomatch z⟩⟩⟩⟩
        exact q _ (Same.up nd)
end
end Kb
end
section
namespace Kb
open PySem PySem.Spec PyProof.Rows L2 PySem.Kx
open C8 (pss_cut)
section
variable {P : Program} {w : World} {K : PySem.W.Frag} {mg : Str → Option Value} {base : Heap}
theorem marks_dp {j : Nat} {H : Hp} {p : Addr} (e : H p = some (.lst (markL 23 j))) : Dp K H (.ref p) (.list (((List.range 23).map fun i => decide (i = j)).map PyData.bool)) := by
  refine .lst (.of e) ?_
  have h := dpAll_bools (K := K) (H := H) ((List.range 23).map fun i => decide (i = j))
  rw [List.map_map] at h
  exact h
theorem iteNL {c A B : Prop} [Decidable c] (hc : ¬ c) (h : B) : if decide c = true then A else B := by
  rw [decide_eq_false hc]
  exact iteF h
theorem markL_len (n j : Nat) : (markL n j).length = n := by
  unfold markL
  rw [List.length_map, List.length_range]
theorem Same.updF {H0 H : Hp} {p : Addr} {o : HO} (s : Same H0 H) (n : H0 p = none) : Same H0 (upd H p o) := fun b u e => by
  rw [upd_ne (ne_of_none e n)]
  exact s _ _ e
theorem int_dec {x y : Int} {c : Prop} [Decidable c] (h : x = y ↔ c) : V.bl (decide (V.int x = V.int y)) = V.bl (decide c) := by
  by_cases e : c
  · rw [decide_eq_true (congrArg V.int (h.mpr e)), decide_eq_true e]
  · rw [decide_eq_false (fun z => e (h.mp (V.int.inj z))), decide_eq_false e]
theorem bl_dec {a b : Prop} [Decidable a] [Decidable b] (h : a ↔ b) : V.bl (decide a) = V.bl (decide b) := by rw [decide_eq_decide.mpr h]
def Sm (d : PyData) : Prop := d.depth ≤ 3 ∧ d.weight ≤ 200
theorem weight_tup (ds : List PyData) : (PyData.tuple ds).weight = PyData.weightAll ds := by simp only [PyData.weight]
theorem weight_lst (ds : List PyData) : (PyData.list ds).weight = PyData.weightAll ds := by simp only [PyData.weight]
theorem sm_str {x : Str} (h : TextOk x) : Sm (.str x) := by
  refine ⟨by simp only [PyData.depth]; omega, ?_⟩
  simp only [PyData.weight]
  exact Nat.le_trans h.1 (by decide)
theorem sm_none : Sm .none := ⟨by decide +kernel, by decide +kernel⟩
theorem sm_int {i : Int} (h0 : -1000000000 ≤ i) (h : i ≤ 1000000000) : Sm (.int i) := by
  have hl := log_small (i := i) (by omega)
  refine ⟨by simp only [PyData.depth]; omega, ?_⟩
  simp only [PyData.weight]
  split <;> omega
theorem StOk.same {H H' : Hp} {a : Addr} (s : Same H H') (h : StOk H a) : StOk H' a := by
  obtain ⟨g, m, c, e⟩ := h
  exact ⟨g, m, c, s _ _ e⟩
theorem fine_dec {d : PyData} (h : (d.leavesShort 20 && d.showable && decide (d.depth ≤ 8) && decide (d.weight ≤ 4000)) = true) : Fine d := by
  simp only [Bool.and_eq_true, decide_eq_true_eq] at h
  exact ⟨h.1.1.1, h.1.1.2, h.1.2, h.2⟩
theorem tYes_go {σ : L2.St} {H : Hp} {A B : Bool → Hp → Prop} (h : A true H) : tYes σ H fun b H3 => if b = true then A b H3 else B b H3 := iteT (A := A true H) (B := B true H) h
def sp_law (K : PySem.W.Frag) : Sp := fun vs H Q _ => ∃ (a : Addr) (ns : List Int), vs = [.ref a] ∧ SqL K H a (ns.map V.int) ∧ ns.length ≤ 63 ∧ ∀ H', Q (.bl true) H'
theorem ok_law (T : Txt K mg) (E : ErrT K mg) (O : OwnT K mg) : FnG P w K mg base CX0 4 T.a_law T.f_law ["script"] (sp_law K) := by
  refine L2.Fun.okG0 T.F_law sc_law (fun vs H Q E h => ?_) (fun cdv A outer s H vs Q E2 gA hr h => ?_)
  · obtain ⟨a, ns, rfl, _⟩ := h
    rfl
  · obtain ⟨a, ns, rfl, hS, hlen, q⟩ := h
    have gA2 : (A.deeper (envOfC "law" (defScope s_law) s.heap.objs.size T.a_law cdv)).guards = some [] := guards_deeper gA
    refine ⟨_, (pss_cut (ps_for PassesOwn.never rfl (pi_range1 (by rfl) T.m_range (pa_cons (pe_callB (call_max2 rfl) (by rfl) T.m_max (by decide +kernel) (pa_cons pe_int (pa_cons (pe_callB (call_min2 rfl) (by rfl) T.m_min (by decide +kernel) (pa_cons pe_int (pa_cons (pe_callB call_len_seq (by rfl) T.m_len (by decide +kernel) (pa_cons (pv 0) pa_nil)) pa_nil))) pa_nil))) pa_nil)) (pg_name (i := 1) sc_law.nd rfl (.inl rfl))
 (pss_cons (ps_set (i := 2) sc_law.nd rfl (.inl rfl) (pe_call (ok__law_stream T) (hr.mono (by decide)) (by rfl) T.g__law_stream T.F__law_stream.kp T.b__law_stream .nil pass0 (pa_cons (pv 0) (pa_cons (pv 1) pa_nil))))
 (pss_cons (ps_set (i := 3) sc_law.nd rfl (.inr rfl) (pe_join pe_str (pe_call (ok__law_names T) hr (by rfl) T.g__law_names T.F__law_names.kp T.b__law_names .nil pass0 (pa_cons (pv 2) (pa_cons pe_int pa_nil)))))
 (pss_cons (ps_set (i := 4) sc_law.nd rfl (.inl rfl) (pe_ix ix_list (pe_lst (pa_cons (pv 3) (pa_cons pe_non (pa_cons (pe_tup (pa_cons (pv 3) (pa_cons (pe_tup (pa_cons pe_int pa_nil)) pa_nil))) (pa_cons (pe_un un_neg pe_int) (pa_cons (pe_lst (pa_cons (pv 3) pa_nil)) (pa_cons (pe_call (ok__law_draw T) (hr.mono (by decide)) (by rfl) T.g__law_draw T.F__law_draw.kp T.b__law_draw .nil pass0 (pa_cons (pv 2) (pa_cons (pe_op op_powW pe_int pe_int) pa_nil))) (pa_cons (pe_tup pa_nil) pa_nil)))))))) (pe_call (ok__law_draw T) (hr.mono (by decide)) (by rfl) T.g__law_draw T.F__law_draw.kp T.b__law_draw .nil pass0 (pa_cons (pv 2) (pa_cons pe_int pa_nil))) (fun _ _ => rfl)))
 (pss_cut (ps_for PassesOwn.never rfl (pi_enum (by rfl) T.m_enumerate (pa_cons (pe_call (ok__law_with_message T E) (hr.mono (by decide)) (by rfl) T.g__law_with_message T.F__law_with_message.kp T.b__law_with_message .nil pass0 (pa_cons (pv 3) pa_nil)) pa_nil)) (pg_tup (by rfl) (pgs_cons (pg_name (i := 5) sc_law.nd rfl (.inr rfl)) (pgs_cons (pg_name (i := 6) sc_law.nd rfl (.inl rfl)) pgs_nil)))
 (pss_cons (ps_if (PW.pt (pw_or (pt_not (pt_val (pe_callB call_isX (by rfl) T.m_isinstance (by decide +kernel) (pa_cons (pv 6) (pa_cons (pe_cls (E.cls 23 (by decide))) pa_nil))))) (pw_or1 (pt_not (pt_val (pe_callB call_isX (by rfl) T.m_isinstance (by decide +kernel) (pa_cons (pv 6) (pa_cons (pe_bltn (v := .ty "ValueError") (by rfl) T.m_ValueError (by decide +kernel) rfl) pa_nil))))))))
 (pss_one (ps_ret pe_bl))
 pss_nil)
 (pss_one (ps_if (PW.pt (pw_or (pt_cmpR (op_neD hr.units) (pe_call (ok__law_marks T E) (hr.mono (by decide)) (by rfl) T.g__law_marks T.F__law_marks.kp T.b__law_marks .nil pass0 (pa_cons (pv 6) pa_nil)) (pe_lc (own := [("number", 14)]) (g := gName 14) (tt := tYes) (by rfl) sc_law.nd (pi_range1 (by rfl) T.m_range (pa_cons pe_int pa_nil)) (blkOk_by (own := [("number", 14)]) (N := N_law) (sc := defScope s_law) (by decide +kernel)) (fun _ _ _ _ _ => pg_name (i := 14) sc_law.nd rfl (Or.inl rfl)) (fun _ _ _ _ _ => pts_nil) (fun _ _ _ _ _ => (pe_cmpR op_eq (pv 14) (pv 5) (nomark _)))) (nomark _)) (pw_or1 (pt_val (pe_callB call_isX (by rfl) T.m_isinstance (by decide +kernel) (pa_cons (pv 6) (pa_cons (pe_bltn (v := .ty "LookupError") (by rfl) T.m_LookupError (by decide +kernel) rfl) pa_nil)))))))
 (pss_one (ps_ret pe_bl))
 pss_nil))))
 (pss_cons (ps_set (i := 7) sc_law.nd rfl (.inl rfl) (pe_tup (pa_cons (pv 3) (pa_cons (pe_ix ix_list (pe_lst (pa_cons (pe_tup pa_nil) (pa_cons (pe_tup (pa_cons pe_int pa_nil)) (pa_cons (pe_tup (pa_cons (pv 3) (pa_cons (pe_un un_neg pe_int) pa_nil))) (pa_cons (pv 4) pa_nil))))) (pe_call (ok__law_draw T) (hr.mono (by decide)) (by rfl) T.g__law_draw T.F__law_draw.kp T.b__law_draw .nil pass0 (pa_cons (pv 2) (pa_cons pe_int pa_nil))) (fun _ _ => rfl)) pa_nil))))
 (pss_cons (ps_set (i := 8) sc_law.nd rfl (.inl rfl) (pe_ix ix_list (pe_lst (pa_cons pe_int (pa_cons pe_int (pa_cons pe_int (pa_cons pe_int pa_nil))))) (pe_call (ok__law_draw T) (hr.mono (by decide)) (by rfl) T.g__law_draw T.F__law_draw.kp T.b__law_draw .nil pass0 (pa_cons (pv 2) (pa_cons pe_int pa_nil))) (fun _ _ => rfl)))
 (pss_cons (ps_set (i := 9) sc_law.nd rfl (.inl rfl) (pe_ix ix_list (pe_lst (pa_cons (pe_tup (pa_cons pe_int (pa_cons pe_int pa_nil))) (pa_cons (pe_tup (pa_cons pe_int (pa_cons pe_int pa_nil))) (pa_cons (pe_tup (pa_cons pe_int (pa_cons pe_int (pa_cons pe_int pa_nil)))) (pa_cons (pe_tup (pa_cons pe_int (pa_cons pe_int (pa_cons pe_int (pa_cons pe_int pa_nil))))) pa_nil))))) (pe_call (ok__law_draw T) (hr.mono (by decide)) (by rfl) T.g__law_draw T.F__law_draw.kp T.b__law_draw .nil pass0 (pa_cons (pv 2) (pa_cons pe_int pa_nil))) (fun _ _ => rfl)))
 (pss_cons (ps_set (i := 10) sc_law.nd rfl (.inl rfl) (pe_lst (pa_cons (pv 4) (pa_cons (pv 7) (pa_cons (pv 4) (pa_cons (pv 8) (pa_cons (pv 9) pa_nil)))))))
 (pss_cut (ps_for PassesOwn.never rfl (pi_enum (by rfl) T.m_enumerate (pa_cons (pe_call (ok__law_with_value T E O) (hr.mono (by decide)) (by rfl) T.g__law_with_value T.F__law_with_value.kp T.b__law_with_value .nil pass0 (pa_cons (pv 4) (pa_cons (pv 7) (pa_cons (pv 8) (pa_cons (pv 9) pa_nil))))) pa_nil)) (pg_tup (by rfl) (pgs_cons (pg_name (i := 5) sc_law.nd rfl (.inr rfl)) (pgs_cons (pg_tup (by rfl) (pgs_cons (pg_name (i := 6) sc_law.nd rfl (.inl rfl)) (pgs_cons (pg_name (i := 11) sc_law.nd rfl (.inl rfl)) (pgs_cons (pg_name (i := 12) sc_law.nd rfl (.inl rfl)) pgs_nil)))) pgs_nil)))
 (pss_cons (ps_if (PW.pt (pw_or (pt_cmpR op_ne (pe_callB (call_reprD gA2 hr.units) (by rfl) T.m_repr (by decide +kernel) (pa_cons (pv 11) pa_nil)) (pe_callB (call_reprD gA2 hr.units) (by rfl) T.m_repr (by decide +kernel) (pa_cons (pe_ix ix_list (pv 10) (pv 5) (fun _ _ => rfl)) pa_nil)) (nomark _)) (pw_or (pt_not (pt_val (pv 12))) (pw_or1 (pt_val (pe_callB call_isX (by rfl) T.m_isinstance (by decide +kernel) (pa_cons (pv 6) (pa_cons (pe_cls (E.cls 23 (by decide))) pa_nil))))))))
 (pss_one (ps_ret pe_bl))
 pss_nil)
 (pss_cons (ps_if (pt_cmpR (op_neD hr.units) (pe_call (ok__law_marks T E) (hr.mono (by decide)) (by rfl) T.g__law_marks T.F__law_marks.kp T.b__law_marks .nil pass0 (pa_cons (pv 6) pa_nil)) (pe_lc (own := [("number", 14)]) (g := gName 14) (tt := tYes) (by rfl) sc_law.nd (pi_range1 (by rfl) T.m_range (pa_cons pe_int pa_nil)) (blkOk_by (own := [("number", 14)]) (N := N_law) (sc := defScope s_law) (by decide +kernel)) (fun _ _ _ _ _ => pg_name (i := 14) sc_law.nd rfl (Or.inl rfl)) (fun _ _ _ _ _ => pts_nil) (fun _ _ _ _ _ => (pe_cmpR op_eq (pv 14) (pe_op op_add pe_int (pv 5)) (nomark _)))) (nomark _))
 (pss_one (ps_ret pe_bl))
 pss_nil)
 (pss_one (ps_if (PW.pt (pw_or (pt_cmpR op_ne (pe_call (ok__law_others T E) (hr.mono (by decide)) (by rfl) T.g__law_others T.F__law_others.kp T.b__law_others .nil pass0 (pa_cons (pv 6) pa_nil)) (pe_callTy call_int1 (by rfl) T.m_int (by decide +kernel) (pa_cons (pe_cmpR op_ne (pv 5) pe_int (nomark _)) pa_nil)) (nomark _)) (pw_or1 (pt_cmpR op_ne (pe_callB call_isX (by rfl) T.m_isinstance (by decide +kernel) (pa_cons (pv 6) (pa_cons (pe_bltn (v := .ty "LookupError") (by rfl) T.m_LookupError (by decide +kernel) rfl) pa_nil))) (pe_cmpR op_lt (pv 5) pe_int (nomark _)) (nomark _)))))
 (pss_one (ps_ret pe_bl))
 pss_nil)))))
 (pss_one (ps_if (pt_cmpR (op_neD hr.units) (pe_lc (own := [("way", 13)]) (g := gName 13) (tt := tYes) (by rfl) sc_law.nd (pi_range1 (by rfl) T.m_range (pa_cons pe_int pa_nil)) (blkOk_by (own := [("way", 13)]) (N := N_law) (sc := defScope s_law) (by decide +kernel)) (fun _ _ _ _ _ => pg_name (i := 13) sc_law.nd rfl (Or.inl rfl)) (fun _ _ _ _ _ => pts_nil) (fun _ _ _ _ _ => (pe_call (ok__law_caught T E O) (hr.mono (by decide)) (by rfl) T.g__law_caught T.F__law_caught.kp T.b__law_caught .nil pass0 (pa_cons (pv 13) (pa_cons (pv 3) pa_nil))))) (pe_lst (pa_cons pe_str (pa_cons pe_str (pa_cons pe_str pa_nil)))) (nomark _))
 (pss_one (ps_ret pe_bl))
 pss_nil))))))))))))
 (pss_one (ps_ret (pe_and (pe_callB call_isX (by rfl) T.m_isinstance (by decide +kernel) (pa_cons (pe_exc1 PySem.F.excBase_ValueError E.plR (E.cls 23 (by decide)).g (E.cls 23 (by decide)).k (by rfl) pe_str) (pa_cons (pe_bltn (v := .ty "ValueError") (by rfl) T.m_ValueError (by decide +kernel) rfl) pa_nil))) (pe_one (pe_not (pe_callB call_isX (by rfl) T.m_isinstance (by decide +kernel) (pa_cons (pe_exc1 PySem.F.excBase_ValueError E.plR (E.cls 23 (by decide)).g (E.cls 23 (by decide)).k (by rfl) pe_str) (pa_cons (pe_cls (E.cls 4 (by decide))) pa_nil))))))))), ?_⟩
    refine ⟨fun σ H' => ∃ y1 y2 y3 y4 y5 y6 y7 y8 y9 y10 y11 y12 y13 y14, σ = [some (.ref a), y1, y2, y3, y4, y5, y6, y7, y8, y9, y10, y11, y12, y13, y14] ∧ Same H H', ?_, ?_⟩
    rotate_left
    · rintro σ H1 ⟨y1, y2, y3, y4, y5, y6, y7, y8, y9, y10, y11, y12, y13, y14, rfl, sm⟩
      have ec := (E.cls 23 (by decide)).e
      refine fun a1 na1 => ⟨a1, _, _, _, _, rfl, .inl upd_same, ec, fun u r => r, E.c1, _, rfl, iteT ?_⟩
      refine fun a2 na2 => ⟨a2, _, _, _, _, rfl, .inl upd_same, ec, fun u r => r, E.c2, _, rfl, ?_⟩
      exact q _
    -- for k in range(max(1, min(10, len(script))))
    refine ⟨_, rfl, _, _, rfl, .inl hS, _, _, rfl, _, _, rfl, _, rfl, ?_, ?_, ?_⟩
    · split <;> (try split) <;> omega
    · rw [List.length_map]
      split <;> (try split) <;> omega
    refine for_range (fun i σ H1 => ∃ y1 y2 y3 y4 y5 y6 y7 y8 y9 y10 y11 y12 y13 y14, σ = [some (.ref a), y1, y2, y3, y4, y5, y6, y7, y8, y9, y10, y11, y12, y13, y14] ∧ Same H H1) ⟨_, _, _, _, _, _, _, _, _, _, _, _, _, _, rfl, Same.refl H⟩ ?_ ?_
    · rintro i σ H1 hi ⟨y1, y2, y3, y4, y5, y6, y7, y8, y9, y10, y11, y12, y13, y14, rfl, sm⟩
      -- stream
      refine ⟨_, rfl, _, rfl, a, ns, _, rfl, sm.seq hS, by omega, fun H2 st sm2 nst hst => ?_⟩
      have sH := sm.trans sm2
      have sta : ∀ {b : Addr} {o : HO}, H b = some o → b ≠ st := fun {b o} e => ne_of_none (sm _ _ e) nst
      -- text
      refine ⟨⟨_, rfl⟩, _, rfl, st, 2, rfl, hst, by decide, by decide, fun H3 p xs ev3 np hp hl hw hnd => ?_⟩
      obtain ⟨w1, w2, rfl⟩ : ∃ w1 w2, xs = [w1, w2] := by
        match xs, hl with
        | [w1, w2], _ => exact ⟨w1, w2, rfl⟩
      have hw1 := hw w1 (by simp)
      have hw2 := hw w2 (by simp)
      refine ⟨_, p, [w1, w2], rfl, rfl, .inl (.of hp), ?_, ?_⟩
      · have b1 := wordB_len hw1
        have b2 := wordB_len hw2
        show w1.length + (w2.length + 0) + 2 * 0 ≤ 16777216
        omega
      have hx := join_text hw1 hw2
      generalize Txt.join "" [w1, w2] = x at hx ⊢
      have fx := fine_str hx
      have hxl : x.length ≤ sizeLine := sz (m := 16) hx.1
      have ev := ev3
      -- value
      refine ⟨_, rfl, _, rfl, (show 1 ≤ sizeLine by decide), fun t1 n1 => ⟨(show 2 ≤ sizeLine by decide), fun t2 n2 => ⟨_, rfl, _, rfl, (show 1 ≤ sizeLine by decide), fun l1 n3 => ⟨_, rfl, _, _, rfl, rfl, ⟨by decide, pow_three⟩, st, _, rfl, ?_, by decide +kernel, by decide +kernel, fun H4 r ev4 r0 r1 => ?_⟩⟩⟩⟩
      · exact ((ev.2.new n1).new n2).new n3
      have e2 : (upd (upd (upd H3 t1 (.tup [.int 1])) t2 (.tup [.str x, .ref t1])) l1 (.lst [.str x])) t2 = some (.tup [.str x, .ref t1]) := by
        rw [upd_ne (ne_of_none upd_same n3)]
        exact upd_same
      have e1 : (upd (upd (upd H3 t1 (.tup [.int 1])) t2 (.tup [.str x, .ref t1])) l1 (.lst [.str x])) t1 = some (.tup [.int 1]) := (Same.up n3) _ _ ((Same.up n2) _ _ upd_same)
      have st1 : t1 ≠ st := ev.2.ne n1
      have st2 : t2 ≠ st := (ev.2.new n1).ne n2
      have st3 : l1 ≠ st := ((ev.2.new n1).new n2).ne n3
      have f1 : H4 t1 = some (.tup [.int 1]) := ev4.at st1 e1
      have f2 : H4 t2 = some (.tup [.str x, .ref t1]) := ev4.at st2 e2
      have f3 : H4 l1 = some (.lst [.str x]) := ev4.at st3 upd_same
      have ev := (((ev.newF n1).newF n2).newF n3).trans ev4
      refine ⟨(show 0 ≤ sizeLine by decide), fun t3 n4 => ⟨(show 7 ≤ sizeLine by decide), fun lv n5 => ⟨_, rfl, st, 7, rfl, (ev.2.new n4).new n5, by decide, by decide, fun H5 r7 ev5 r70 r71 => ?_⟩⟩⟩
      have st4 : t3 ≠ st := ev.2.ne n4
      have st5 : lv ≠ st := (ev.2.new n4).ne n5
      have h45 : ∀ {b : Addr} {o : HO}, b ≠ st → H4 b = some o → hid st H5 b = some o := fun {b o} nb e => hid_at nb (ev5.at nb ((Same.up n5) _ _ ((Same.up n4) _ _ e)))
      have g3 : hid st H5 t3 = some (.tup []) := hid_at st4 (ev5.at st4 ((Same.up n5) _ _ upd_same))
      have glv : H5 lv = some (.lst [.str x, .non, .ref t2, .int (-1), .ref l1, .int r, .ref t3]) := ev5.at st5 upd_same
      have ev := ((ev.newF n4).newF n5).trans ev5
      have d1 : Dp K (hid st H5) (.ref t1) (.tuple [.int 1]) := .tup (.of (h45 st1 f1)) (.cons (.int 1) .nil)
      have i1 := fine_int (i := 1) (by decide) (by decide)
      have q1 := (fine_tuple (ds := [.int 1]) (fun d hd => by rw [List.mem_singleton.mp hd]; exact ⟨i1.sh, i1.ok, by decide⟩) (by decide)).1
      obtain ⟨v, hv, d, hd, fd, sd⟩ : ∃ v, atI [V.str x, .non, .ref t2, .int (-1), .ref l1, .int r, .ref t3] r7 = some v ∧ ∃ d, Dp K (hid st H5) v d ∧ Fine d ∧ Sm d := by
        refine atI_all (P := fun v => ∃ d, Dp K (hid st H5) v d ∧ Fine d ∧ Sm d) ?_ r70 r71
        have w1 : (PyData.str x).weight ≤ 16 := by simp only [PyData.weight]; exact hx.1
        have w0 : (PyData.tuple [.int 1]).weight = 2 := by decide +kernel
        refine all_cons ⟨_, .str x, fx, sm_str hx⟩ (all_cons ⟨_, .non, fine_none, sm_none⟩ (all_cons ⟨_, .tup (.of (h45 st2 f2)) (.cons (.str x) (.cons d1 .nil)), ?_⟩ (all_cons ⟨_, .int (-1), fine_int (by decide) (by decide), sm_int (by decide) (by decide)⟩ (all_cons ⟨_, .lst (.of (h45 st3 f3)) (.cons (.str x) .nil), ?_⟩ (all_cons ⟨_, .int r, fine_int (by omega) ?_, sm_int (by omega) ?_⟩ (all_cons ⟨_, .tup (.of g3) .nil, ?_⟩ all_nil))))))
        · refine ⟨(fine_tuple (fun d hd => ?_) ?_).1, ?_, ?_⟩
          · rcases List.mem_cons.mp hd with rfl | hd
            · exact ⟨fx.sh, fx.ok, by simp only [PyData.depth]; omega⟩
            · rw [List.mem_singleton.mp hd]
              exact ⟨q1.sh, q1.ok, by decide⟩
          · simp only [PyData.weightAll]
            omega
          · simp only [PyData.depth, PyData.depthAll]
            omega
          · rw [weight_tup]
            simp only [PyData.weightAll]
            omega
        · refine ⟨(fine_tuple (fun d hd => ?_) ?_).2, ?_, ?_⟩
          · rw [List.mem_singleton.mp hd]
            exact ⟨fx.sh, fx.ok, by simp only [PyData.depth]; omega⟩
          · simp only [PyData.weightAll]
            omega
          · simp only [PyData.depth, PyData.depthAll]
            omega
          · rw [weight_lst]
            simp only [PyData.weightAll]
            omega
        · have : r < 1000000000 := r1
          omega
        · have : r < 1000000000 := r1
          omega
        · exact ⟨(fine_tuple (ds := []) (fun d hd => nomatch hd) (by decide)).1, by decide +kernel, by decide +kernel⟩
      refine ⟨_, _, _, _, rfl, rfl, .of glv, hv, ?_⟩
      -- the errors with a message
      refine ⟨fun σ H6 => (∃ y5 y6 y7 y8 y9 y10 y11 y12 y13 y14, σ = [some (.ref a), some (.int (0 + (i : Int))), some (.ref st), some (.str x), some v, y5, y6, y7, y8, y9, y10, y11, y12, y13, y14]) ∧ Same H5 H6, ?_, ?_⟩
      · refine ⟨_, rfl, x, rfl, fun p rs H6 M => ⟨p, _, rfl, .of M.at_, ?_⟩⟩
        refine for_enum (fun j σ H7 => (∃ y5 y6 y7 y8 y9 y10 y11 y12 y13 y14, σ = [some (.ref a), some (.int (0 + (i : Int))), some (.ref st), some (.str x), some v, y5, y6, y7, y8, y9, y10, y11, y12, y13, y14]) ∧ Same H6 H7) ⟨⟨_, _, _, _, _, _, _, _, _, _, rfl⟩, Same.refl H6⟩ (fun j σ H7 _ h => .of (h.2 _ _ M.at_)) ?_ (fun σ H7 h => ⟨h.1, M.same.trans h.2⟩)
        rintro j r0 t7 σ H7 hr0 ⟨⟨y5, y6, y7, y8, y9, y10, y11, y12, y13, y14, rfl⟩, sm7⟩ nt7
        obtain ⟨r, hr, rfl⟩ : ∃ r, rs[j]? = some r ∧ r0 = .ref r := by
          rw [List.getElem?_map] at hr0
          cases h : rs[j]? with
          | none => rw [h] at hr0; cases hr0
          | some r => rw [h] at hr0; cases hr0; exact ⟨r, rfl, rfl⟩
        have hj : j < 18 := by
          have h1 := (List.getElem?_eq_some_iff.mp hr).1
          have h2 := M.len
          omega
        have ec := (E.cls j (by omega)).e
        have sm8 : Same H6 (upd H7 t7 (.tup [.int (j : Nat), .ref r])) := sm7.trans (Same.up nt7)
        have ie : IsEx (upd H7 t7 (.tup [.int (j : Nat), .ref r])) r (ca K j) := by
          have h := M.ex j r hr
          rw [Nat.zero_add] at h
          exact .inl (sm8 _ _ h)
        refine ⟨t7, [.int (j : Nat), .ref r], rfl, .inl (.inl upd_same), rfl, _, _, rfl, _, _, rfl, rfl, ?_⟩
        generalize upd H7 t7 (.tup [.int (j : Nat), .ref r]) = H8 at sm8 ie ⊢
        refine ⟨_, rfl, r, _, _, _, _, rfl, ie, ec, fun u r => r, E.kR j (by omega), _, rfl, iteNS hj ⟨_, rfl, r, _, _, _, _, rfl, ie, ec, fun u r => r, E.kV j (by omega), _, rfl, iteNS hj ?_⟩⟩
        refine ⟨_, rfl, r, j, rfl, by omega, ie, fun p9 H9 s9 e9 => ?_⟩
        refine ⟨23, rfl, by decide, by decide, fun D nD => lc_range (lo := 0) (n := 23) (fun i H => Same H9 H ∧ H D = some (.lst (markL i j))) ⟨Same.up nD, upd_same⟩ (fun i H hi he => ?_) (fun H he => ?_)⟩
        · refine ⟨rfl, tYes_go ?_⟩
          refine ⟨_, rfl, _, rfl, rfl, _, he.2, ?_, ?_, ?_⟩
          · rw [markL_len]
            exact Nat.lt_of_lt_of_le hi (by decide)
          · exact Same.updF he.1 nD
          · rw [upd_same, markL_succ, int_dec (c := i = j) (by omega)]
        · refine ⟨_, _, marks_dp (he.1 _ _ e9), marks_dp he.2, shaped_bools _, shaped_bools _, ?_⟩
          rw [eqv_bools]
          refine ⟨_, rfl, iteF ?_⟩
          refine ⟨_, rfl, r, _, _, _, _, rfl, IsEx.same (s9.trans he.1) ie, ec, fun u r => r, E.kL j (by omega), _, rfl, iteNL (by omega) ?_⟩
          exact ⟨⟨_, _, _, _, _, _, _, _, _, _, rfl⟩, (sm8.trans s9).trans he.1⟩
      · rintro σ H6 ⟨⟨y5, y6, y7, y8, y9, y10, y11, y12, y13, y14, rfl⟩, sm6⟩
        have evH : Ev st H5 H6 := ⟨fun b o _ e => sm6 b o e, StOk.same sm6 ev.2⟩
        -- group
        refine ⟨_, rfl, (show 0 ≤ sizeLine by decide), fun g1 m1 => ⟨(show 1 ≤ sizeLine by decide), fun g2 m2 => ⟨_, rfl, _, rfl, (show 2 ≤ sizeLine by decide), fun g3 m3 => ⟨_, rfl, (show 4 ≤ sizeLine by decide), fun lg m4 => ⟨_, rfl, st, 4, rfl, ?_, by decide, by decide, fun H7 rg ev7 rg0 rg1 => ?_⟩⟩⟩⟩⟩
        · exact (((evH.2.new m1).new m2).new m3).new m4
        have b1 := evH.2.new (o := .tup []) m1
        have b2 := b1.new (o := .tup [.int 1]) m2
        have b3 := b2.new (o := .tup [.str x, .int (-1)]) m3
        have u1 : hid st H7 g1 = some (.tup []) := hid_at (evH.2.ne m1) (ev7.at (evH.2.ne m1) ((Same.up m4) _ _ ((Same.up m3) _ _ ((Same.up m2) _ _ upd_same))))
        have u2 : hid st H7 g2 = some (.tup [.int 1]) := hid_at (b1.ne m2) (ev7.at (b1.ne m2) ((Same.up m4) _ _ ((Same.up m3) _ _ upd_same)))
        have u3 : hid st H7 g3 = some (.tup [.str x, .int (-1)]) := hid_at (b2.ne m3) (ev7.at (b2.ne m3) ((Same.up m4) _ _ upd_same))
        have u4 : H7 lg = some (.lst [.ref g1, .ref g2, .ref g3, v]) := ev7.at (b3.ne m4) upd_same
        have ev7 := ((((evH.newF m1).newF m2).newF m3).newF m4).trans ev7
        have hd7 := Dp.mono (hid_ev ev7) d hd
        have i2 := fine_int (i := -1) (by decide) (by decide)
        obtain ⟨gv, hgv, dg, hdg, fdg, sdg⟩ : ∃ gv, atI [V.ref g1, .ref g2, .ref g3, v] rg = some gv ∧ ∃ dg, Dp K (hid st H7) gv dg ∧ Fine dg ∧ dg.depth ≤ 4 ∧ dg.weight ≤ 200 := by
          refine atI_all (P := fun v => ∃ dg, Dp K (hid st H7) v dg ∧ Fine dg ∧ dg.depth ≤ 4 ∧ dg.weight ≤ 200) ?_ rg0 rg1
          refine all_cons ⟨_, .tup (.of u1) .nil, (fine_tuple (ds := []) (fun d hd => nomatch hd) (by decide)).1, by decide +kernel, by decide +kernel⟩ (all_cons ⟨_, .tup (.of u2) (.cons (.int 1) .nil), q1, by decide +kernel, by decide +kernel⟩ (all_cons ⟨_, .tup (.of u3) (.cons (.str x) (.cons (.int (-1)) .nil)), ?_⟩ (all_cons ⟨d, hd7, fd, Nat.le_trans sd.1 (by decide), sd.2⟩ all_nil)))
          have w1 : (PyData.str x).weight ≤ 16 := by simp only [PyData.weight]; exact hx.1
          have w2 : (PyData.int (-1)).weight = 1 := by decide +kernel
          refine ⟨(fine_tuple (fun d hd => ?_) ?_).1, ?_, ?_⟩
          · rcases List.mem_cons.mp hd with rfl | hd
            · exact ⟨fx.sh, fx.ok, by simp only [PyData.depth]; omega⟩
            · rw [List.mem_singleton.mp hd]
              exact ⟨i2.sh, i2.ok, by decide⟩
          · simp only [PyData.weightAll]
            omega
          · simp only [PyData.depth, PyData.depthAll]
            omega
          · rw [weight_tup]
            simp only [PyData.weightAll]
            omega
        refine ⟨_, _, _, _, rfl, rfl, .of u4, hgv, (show 2 ≤ sizeLine by decide), fun tg m5 => ?_⟩
        have b5 := ev7.2.new (o := .tup [.str x, gv]) m5
        have n5 := ev7.2.ne m5
        have fg : Fine (.tuple [.str x, dg]) := by
          have w1 : (PyData.str x).weight ≤ 16 := by simp only [PyData.weight]; exact hx.1
          refine (fine_tuple (fun d hd => ?_) ?_).1
          · rcases List.mem_cons.mp hd with rfl | hd
            · exact ⟨fx.sh, fx.ok, by simp only [PyData.depth]; omega⟩
            · rw [List.mem_singleton.mp hd]
              exact ⟨fdg.sh, fdg.ok, Nat.le_trans sdg.1 (by decide)⟩
          · simp only [PyData.weightAll]
            omega
        have Dg : Dp K (hid st (upd H7 tg (.tup [.str x, gv]))) (.ref tg) (.tuple [.str x, dg]) := .tup (.of (hid_at n5 upd_same)) (.cons (.str x) (.cons (Dp.mono (hid_mono (Same.up m5)) dg hdg) .nil))
        have ev7 := ev7.newF (o := .tup [.str x, gv]) m5
        generalize upd H7 tg (.tup [.str x, gv]) = H7 at ev7 Dg b5 ⊢
        -- limit
        refine ⟨(show 4 ≤ sizeLine by decide), fun ll m6 => ⟨_, rfl, st, 4, rfl, b5.new m6, by decide, by decide, fun H8 rl ev8 rl0 rl1 => ?_⟩⟩
        have u6 : H8 ll = some (.lst [.int 6, .int 40, .int 200, .int 4096]) := ev8.at (b5.ne m6) upd_same
        have e8 := (Ev.new b5 m6).trans ev8
        have ev8 := ev7.trans e8
        have Dg := Dp.mono (hid_ev e8) _ Dg
        obtain ⟨lv2, hlv, li, rfl, hl0, hl1⟩ : ∃ lv2, atI [V.int 6, .int 40, .int 200, .int 4096] rl = some lv2 ∧ ∃ li : Int, lv2 = .int li ∧ 0 ≤ li ∧ li ≤ 4096 := by
          refine atI_all (P := fun v => ∃ li : Int, v = .int li ∧ 0 ≤ li ∧ li ≤ 4096) ?_ rl0 rl1
          exact all_cons ⟨_, rfl, by decide, by decide⟩ (all_cons ⟨_, rfl, by decide, by decide⟩ (all_cons ⟨_, rfl, by decide, by decide⟩ (all_cons ⟨_, rfl, by decide, by decide⟩ all_nil)))
        refine ⟨_, _, _, _, rfl, rfl, .of u6, hlv, ?_⟩
        -- cycle
        refine ⟨(show 2 ≤ sizeLine by decide), fun c1 k1 => ⟨(show 2 ≤ sizeLine by decide), fun c2 k2 => ⟨(show 3 ≤ sizeLine by decide), fun c3 k3 => ⟨(show 4 ≤ sizeLine by decide), fun c4 k4 => ⟨(show 4 ≤ sizeLine by decide), fun lc k5 => ⟨_, rfl, st, 4, rfl, ?_, by decide, by decide, fun H9 rc ev9 rc0 rc1 => ?_⟩⟩⟩⟩⟩⟩
        · exact ((((ev8.2.new k1).new k2).new k3).new k4).new k5
        have p1 := ev8.2.new (o := .tup [.int 0, .int 1]) k1
        have p2 := p1.new (o := .tup [.int 1, .int 0]) k2
        have p3 := p2.new (o := .tup [.int 2, .int 0, .int 1]) k3
        have p4 := p3.new (o := .tup [.int 3, .int 1, .int 0, .int 2]) k4
        have z1 : hid st H9 c1 = some (.tup [.int 0, .int 1]) := hid_at (ev8.2.ne k1) (ev9.at (ev8.2.ne k1) ((Same.up k5) _ _ ((Same.up k4) _ _ ((Same.up k3) _ _ ((Same.up k2) _ _ upd_same)))))
        have z2 : hid st H9 c2 = some (.tup [.int 1, .int 0]) := hid_at (p1.ne k2) (ev9.at (p1.ne k2) ((Same.up k5) _ _ ((Same.up k4) _ _ ((Same.up k3) _ _ upd_same))))
        have z3 : hid st H9 c3 = some (.tup [.int 2, .int 0, .int 1]) := hid_at (p2.ne k3) (ev9.at (p2.ne k3) ((Same.up k5) _ _ ((Same.up k4) _ _ upd_same)))
        have z4 : hid st H9 c4 = some (.tup [.int 3, .int 1, .int 0, .int 2]) := hid_at (p3.ne k4) (ev9.at (p3.ne k4) ((Same.up k5) _ _ upd_same))
        have z5 : H9 lc = some (.lst [.ref c1, .ref c2, .ref c3, .ref c4]) := ev9.at (p4.ne k5) upd_same
        have e9 := (((((Ev.new ev8.2 k1).newF k2).newF k3).newF k4).newF k5).trans ev9
        have ev9 := ev8.trans e9
        have Dg := Dp.mono (hid_ev e9) _ Dg
        have Dv := Dp.mono (hid_ev ev9) d hd
        obtain ⟨cv, hcv, dc, hdc, fdc⟩ : ∃ cv, atI [V.ref c1, .ref c2, .ref c3, .ref c4] rc = some cv ∧ ∃ dc, Dp K (hid st H9) cv dc ∧ Fine dc := by
          refine atI_all (P := fun v => ∃ dc, Dp K (hid st H9) v dc ∧ Fine dc) ?_ rc0 rc1
          exact all_cons ⟨_, .tup (.of z1) (.cons (.int _) (.cons (.int _) .nil)), fine_dec (by decide +kernel)⟩ (all_cons ⟨_, .tup (.of z2) (.cons (.int _) (.cons (.int _) .nil)), fine_dec (by decide +kernel)⟩ (all_cons ⟨_, .tup (.of z3) (.cons (.int _) (.cons (.int _) (.cons (.int _) .nil))), fine_dec (by decide +kernel)⟩ (all_cons ⟨_, .tup (.of z4) (.cons (.int _) (.cons (.int _) (.cons (.int _) (.cons (.int _) .nil)))), fine_dec (by decide +kernel)⟩ all_nil)))
        refine ⟨_, _, _, _, rfl, rfl, .of z5, hcv, ?_⟩
        -- due
        refine ⟨_, rfl, _, rfl, _, rfl, _, rfl, _, rfl, (show 5 ≤ sizeLine by decide), fun pd npd => ?_⟩
        have upd5 : upd H9 pd (.lst [v, .ref tg, v, .int li, cv]) pd = some (.lst [v, .ref tg, v, .int li, cv]) := upd_same
        have ev9 := (ev.trans ev9).newF (o := .lst [v, .ref tg, v, .int li, cv]) npd
        have Dg := Dp.mono (hid_mono (Same.up (o := .lst [v, .ref tg, v, .int li, cv]) npd)) _ Dg
        have Dv := Dp.mono (hid_mono (Same.up (o := .lst [v, .ref tg, v, .int li, cv]) npd)) _ Dv
        have Dc := Dp.mono (hid_mono (Same.up (o := .lst [v, .ref tg, v, .int li, cv]) npd)) _ hdc
        generalize upd H9 pd (.lst [v, .ref tg, v, .int li, cv]) = H10 at upd5 ev9 Dg Dv Dc ⊢
        have alld : ∀ (j : Nat) (k : V), ([v, .ref tg, v, .int li, cv] : List V)[j]? = some k → ∃ dk, Dp K (hid st H10) k dk ∧ Fine dk := fun j k h => by
          match j, h with
          | 0, h => cases h; exact ⟨_, Dv, fd⟩
          | 1, h => cases h; exact ⟨_, Dg, fg⟩
          | 2, h => cases h; exact ⟨_, Dv, fd⟩
          | 3, h => cases h; exact ⟨_, .int li, fine_int (by omega) (by omega)⟩
          | 4, h => cases h; exact ⟨_, Dc, fdc⟩
          | n + 5, h => simp at h
        have sH10 : Same H H10 := fun b o e => ev9.1 b o (sta e) (sH b o e)
        -- the errors that keep a value
        refine ⟨fun σ H' => (∃ y5 y6 y7 y8 y9 y10 y11 y12 y13 y14, σ = [some (.ref a), some (.int (0 + (i : Int))), some (.ref st), some (.str x), some v, y5, y6, y7, y8, y9, y10, y11, y12, y13, y14]) ∧ Same H H', ?_, ?_⟩
        · refine ⟨_, rfl, _, rfl, _, rfl, _, rfl, v, .ref tg, .int li, cv, rfl, fun p H11 es ts s11 hp11 lts les hts => ⟨p, _, rfl, .of hp11, ?_⟩⟩
          refine for_enum (fun j σ H' => (∃ y5 y6 y11 y12 y13 y14, σ = [some (.ref a), some (.int (0 + (i : Int))), some (.ref st), some (.str x), some v, y5, y6, some (.ref tg), some (.int li), some cv, some (.ref pd), y11, y12, y13, y14]) ∧ Same H11 H') ⟨⟨_, _, _, _, _, _, rfl⟩, Same.refl H11⟩ (fun j σ H' _ h => .of (h.2 _ _ hp11)) ?_ (fun σ H' h => ?_)
          · rintro j r0 t12 σ H12 hr0 ⟨⟨y5, y6, y11, y12, y13, y14, rfl⟩, s12⟩ nt12
            obtain ⟨t, ht, rfl⟩ : ∃ t, ts[j]? = some t ∧ r0 = .ref t := by
              rw [List.getElem?_map] at hr0
              cases h : ts[j]? with
              | none => rw [h] at hr0; cases hr0
              | some r => rw [h] at hr0; cases hr0; exact ⟨r, rfl, rfl⟩
            have hj : j < 5 := by
              have h1 := (List.getElem?_eq_some_iff.mp ht).1
              omega
            obtain ⟨e, he⟩ : ∃ e, es[j]? = some e := ⟨_, List.getElem?_eq_getElem (by omega)⟩
            obtain ⟨k, hk⟩ : ∃ k, ([v, .ref tg, v, .int li, cv] : List V)[j]? = some k := ⟨_, List.getElem?_eq_getElem (show j < 5 from hj)⟩
            obtain ⟨dk, Dk, fk⟩ := alld j k hk
            obtain ⟨tt, kt⟩ := hts j t e k ht he hk
            have s13 : Same H11 (upd H12 t12 (.tup [.int (j : Nat), .ref t])) := s12.trans (Same.up nt12)
            have hT : upd H12 t12 (.tup [.int (j : Nat), .ref t]) t12 = some (.tup [.int (j : Nat), .ref t]) := upd_same
            generalize upd H12 t12 (.tup [.int (j : Nat), .ref t]) = H13 at s13 hT ⊢
            have ie := (Kept.same s13 kt).isEx
            have ec := (E.cls (18 + j) (by omega)).e
            have sA := s11.trans s13
            have Dk := Dp.mono (hid_same.trans sA) dk Dk
            have hpd := sA _ _ upd5
            have hat : atI [v, .ref tg, v, .int li, cv] ((j : Nat) : Int) = some k := atI_of (by omega) (by simpa using hk)
            refine ⟨t12, [.int (j : Nat), .ref t], rfl, .inl (.inl hT), rfl, _, _, rfl, _, _, rfl, t, [.ref e, k, .bl true], rfl, .inl (.inl (s13 _ _ tt)), rfl, _, _, rfl, _, _, rfl, _, _, rfl, rfl, rfl, ?_⟩
            refine ⟨_, rfl, k, dk, rfl, Dk, fk.ok, Nat.le_trans fk.dep (by decide), fk.len, _, rfl, _, rfl, _, _, _, k, rfl, rfl, .of hpd, hat, k, dk, rfl, Dk, fk.ok, Nat.le_trans fk.dep (by decide), fk.len, rfl, _, rfl, iteNS rfl ?_⟩
            refine ⟨_, rfl, _, rfl, iteF ⟨_, rfl, e, _, _, _, _, rfl, ie, ec, fun u r => r, E.kR (18 + j) (by omega), _, rfl, iteNL (by omega) ?_⟩⟩
            refine ⟨_, rfl, e, 18 + j, rfl, by omega, ie, fun p9 H9 s9 e9 => ?_⟩
            refine ⟨23, rfl, by decide, by decide, fun D nD => lc_range (lo := 0) (n := 23) (fun i H => Same H9 H ∧ H D = some (.lst (markL i (18 + j)))) ⟨Same.up nD, upd_same⟩ (fun i H hi he => ?_) (fun H he => ?_)⟩
            · refine ⟨rfl, tYes_go ?_⟩
              refine ⟨_, rfl, _, rfl, _, _, rfl, rfl, rfl, _, he.2, ?_, ?_, ?_⟩
              · rw [markL_len]
                exact Nat.lt_of_lt_of_le hi (by decide)
              · exact Same.updF he.1 nD
              · rw [upd_same, markL_succ, int_dec (c := i = 18 + j) (by omega)]
            refine ⟨_, _, marks_dp (he.1 _ _ e9), marks_dp he.2, shaped_bools _, shaped_bools _, ?_⟩
            rw [eqv_bools]
            refine ⟨_, rfl, iteF ?_⟩
            have sB := s9.trans he.1
            have ie2 := IsEx.same sB ie
            refine ⟨_, rfl, e, j, rfl, hj, ie2, fun H14 s14 => ?_⟩
            have ie3 := IsEx.same s14 ie2
            refine ⟨_, rfl, rfl, .inr ⟨_, rfl, rfl, _, rfl, iteNS ?_ ?_⟩⟩
            · have e1 : (V.int (j : Nat) = V.int 1) ↔ j = 1 := ⟨fun z => by have := V.int.inj z; omega, fun z => by rw [z]; rfl⟩
              by_cases z : j = 1
              · rw [decide_eq_true (e1.mpr z), if_pos z]
                rfl
              · rw [decide_eq_false (fun y => z (e1.mp y)), if_neg z]
                rfl
            refine ⟨_, rfl, e, _, _, _, _, rfl, ie3, ec, fun u r => r, E.kL (18 + j) (by omega), _, rfl, _, _, rfl, rfl, rfl, _, rfl, iteNS ?_ ?_⟩
            · exact bl_dec (by omega)
            exact ⟨⟨_, _, _, _, _, _, rfl⟩, (s13.trans sB).trans s14⟩
          · obtain ⟨⟨y5, y6, y11, y12, y13, y14, rfl⟩, s12⟩ := h
            exact ⟨⟨_, _, _, _, _, _, _, _, _, _, rfl⟩, (sH10.trans s11).trans s12⟩
        · rintro σ H11 ⟨⟨y5, y6, y7, y8, y9, y10, y11, y12, y13, y14, rfl⟩, sm11⟩
          refine ⟨3, rfl, by decide, by decide, fun D nD => lc_range (lo := 0) (n := 3) (fun i H => Same H11 H ∧ H D = some (.lst (((["records", "key", "many"] : List Str).take i).map V.str))) ⟨Same.up nD, upd_same⟩ (fun i H hi he => ?_) (fun H he => ?_)⟩
          · refine ⟨rfl, tYes_go ?_⟩
            refine ⟨_, rfl, _, rfl, i, x, ?_, hi, hxl, fun H' s' => ⟨_, s' _ _ he.2, ?_, ?_, ?_⟩⟩
            · rw [Int.zero_add]
              rfl
            · rw [List.length_map, List.length_take]
              exact Nat.lt_of_le_of_lt (Nat.min_le_right _ _) (show 3 < sizeLine by decide)
            · exact Same.updF (he.1.trans s') nD
            · rw [upd_same]
              have h3 : i = 0 ∨ i = 1 ∨ i = 2 := by omega
              rcases h3 with rfl | rfl | rfl <;> rfl
          refine ⟨(show 3 ≤ sizeLine by decide), fun p3 n3 => ⟨_, _, .lst (.of ((Same.up n3) _ _ he.2)) (.cons (.str _) (.cons (.str _) (.cons (.str _) .nil))), .lst (.of upd_same) (.cons (.str _) (.cons (.str _) (.cons (.str _) .nil))), ?_, ?_, ?_⟩⟩
          · decide +kernel
          · decide +kernel
          refine ⟨_, rfl, ?_⟩
          rw [show PyData.eqv _ _ = true from by decide +kernel]
          exact iteF ⟨_, _, _, _, _, _, _, _, _, _, _, _, _, _, rfl, (sm11.trans he.1).trans (Same.up n3)⟩
    · exact fun σ H' h => h
end
end Kb
end
section
namespace Kb
open PySem PySem.Spec PyProof.Rows L2 PySem.Kx PySem.HandSPX
theorem own_of {K : PySem.W.Frag} {h : Heap} {mg : Str → Option Value} {x f qual : Str} {B B2 newId : String} {bmB : List Value} {C fI : Addr} {i : Nat} (X : K.In h) (G : h.Ns mainGlobals mg) (E : ClsOk K mg (nameAt i)) (hx : x = nameAt i) (L : Line B newId bmB) (S : StoreFacts B2 bmB "object.__setattr__" "object")
    (tl : PySem.W.excTail bmB bmB = true) (nm : FName f) {cn q : Str} {N : Addr} {bs : List Value} {sn : List Str} {sub : List Value} {ab : Bool} {col : Option Bool} {dd : Option Addr} {m0 m1 m2 m3 m5 : Option Value} {od1 an1 : Option Addr} {sl1 : Array (Option Value)} {oc1 dc1 pm1 cd1 ct1 : Value} {p1 p2 q1 q2 q3 q4 : Pos}
    (aC : PySem.W.nsIn K mainGlobals x = some (some (.ref C))) (xL : K.lookup C = some (excClassObj cn q C N bs bmB true sn sub ab col dd m0 m1 m2 m3 m5 newId)) (sa : PySem.W.findIn K (.ref C) "__setattr__" = some (some (.builtin "object.__setattr__")))
    (nb : PySem.W.findIn K (.ref C) f = some none) (tk : PySem.W.takerIn K C f = some none) (a1 : PySem.W.findIn K (.ref C) "__init__" = some (some (.ref fI))) (t1 : PySem.W.typeIn K (.ref fI) = some (.type "function"))
    (l1 : K.lookup fI = some ⟨oc1, od1, .func (PySem.W.fnOf "__init__" qual (iA f p1 p2) (iB f q1 q2 q3 q4) (iS f) .none .none dc1 pm1 an1 cd1 ct1), sl1⟩) (c1 : PySem.W.codeIn K cd1 qual = true) : ∃ fI, OwnX K mg x f qual B B2 newId bmB (ca K i) fI := by
  subst hx
  have e := (PySem.W.mg_of X G aC).symm.trans E.g
  have e2 : C = ca K i := Value.ref.inj (Option.some.inj e)
  subst e2
  exact ⟨fI, { gC := E.g, line := L, sto := S, cls := ⟨cn, q, N, bs, sn, sub, ab, col, dd, m0, m1, m2, m3, m5, xL⟩, sa := sa, noN := nb, tk := tk, iC := a1, tI := t1, kC := E.k, tyC := E.t, ec := E.e, fn := ⟨oc1, od1, dc1, pm1, an1, cd1, ct1, sl1, p1, p2, q1, q2, q3, q4, l1, c1⟩, tail := tl, nm := nm }⟩
theorem end_of {P : Program} {w : World} {K : PySem.W.Frag} {mg : Str → Option Value} {fa : Addr} (hmg : mg "law" = some (.ref fa)) (T : Txt K mg) (E : ErrT K mg) (O : OwnT K mg) :
    ∃ fd : FuncData, (∀ (s : Shared) (u : Value), BindsTo s fd ⟨[u], []⟩ [("script", u)]) ∧ ∀ base : Heap, K.In base → base.Ns mainGlobals mg → FnG P w K mg base CX0 4 fa fd ["script"] (sp_law K) := by
  have e := T.g_law.symm.trans hmg
  have e2 : T.a_law = fa := Value.ref.inj (Option.some.inj e)
  rw [← e2]
  refine ⟨T.f_law, fun s u => ?_, fun base _ _ => ok_law T E O⟩
  obtain ⟨oc, od, kV, doc, pm, an, cdv, ct, osl, ef, lk, hcd⟩ := T.F_law.ex
  rw [ef]
  exact .of_eq rfl
theorem fin_of {P : Program} {w : World} {K : PySem.W.Frag} {h : Heap} {mg : Str → Option Value} {fa : Addr} (X : K.In h) (G : h.Ns mainGlobals mg) (hmg : mg "law" = some (.ref fa)) (c : chk K = true)
    (o18 : ClsOk K mg (nameAt 18) → ∃ fI, OwnX K mg "UnknownName" "name" "UnknownName.__init__" "LookupError" "KeyError" "LookupError.__new__" [.type "KeyError", .type "LookupError", .type "Exception", .type "BaseException", .type "object"] (ca K 18) fI)
    (o19 : ClsOk K mg (nameAt 19) → ∃ fI, OwnX K mg "UnknownGroup" "group" "UnknownGroup.__init__" "LookupError" "LookupError" "LookupError.__new__" [.type "LookupError", .type "Exception", .type "BaseException", .type "object"] (ca K 19) fI)
    (o20 : ClsOk K mg (nameAt 20) → ∃ fI, OwnX K mg "InvalidNumber" "value" "InvalidNumber.__init__" "IndexError" "IndexError" "IndexError.__new__" [.type "IndexError", .type "LookupError", .type "Exception", .type "BaseException", .type "object"] (ca K 20) fI)
    (o21 : ClsOk K mg (nameAt 21) → ∃ fI, OwnX K mg "TooMany" "limit" "TooMany.__init__" "OverflowError" "OverflowError" "OverflowError.__new__" [.type "OverflowError", .type "ArithmeticError", .type "Exception", .type "BaseException", .type "object"] (ca K 21) fI)
    (o22 : ClsOk K mg (nameAt 22) → ∃ fI, OwnX K mg "CyclicQuery" "cycle" "CyclicQuery.__init__" "RuntimeError" "RuntimeError" "RuntimeError.__new__" [.type "RuntimeError", .type "Exception", .type "BaseException", .type "object"] (ca K 22) fI)
    (N : Nonempty (Txt K mg)) : ∃ fd : FuncData, (∀ (s : Shared) (u : Value), BindsTo s fd ⟨[u], []⟩ [("script", u)]) ∧ ∀ base : Heap, K.In base → base.Ns mainGlobals mg → FnG P w K mg base CX0 4 fa fd ["script"] (sp_law K) := by
  have E := errT_of X G c
  obtain ⟨T⟩ := N
  exact end_of hmg T E ⟨o18 (E.cls 18 (by decide)), o19 (E.cls 19 (by decide)), o20 (E.cls 20 (by decide)), o21 (E.cls 21 (by decide)), o22 (E.cls 22 (by decide))⟩
end Kb
end
section
open PySem PySem.W PyProof.Rows PySem.HandSPX
set_option maxHeartbeats 0 in
theorem PySem.Challenge.cw_rightrecord_k00_errors_holds : PySem.Challenge.rw_rightrecord_k00_errors.Holds := by
  w_on; o_law; k_head; (case hw => w_witness2)
  k_fill
  refine L2.walkG (l := PySem.Challenge.rw_rightrecord_k00_errors) (n := 63) (k := 4) (x := "script") (CX := fun _ => L2.CX0) (sp := fun w => Kb.sp_law _) rfl (by decide) rfl ⟨rfl, by decide, by decide⟩ (fun w h Y => PySem.W.kIn_of Y) ?F (fun _ _ a ns hl _ hS => ⟨a, ns, rfl, hS, hl, fun _ => rfl⟩) (fun _ _ _ _ _ h => h)
  case F =>
    intro w mg fa h KX G hmg
    refine' Kb.fin_of KX G hmg ?w7c ?w7o18 ?w7o19 ?w7o20 ?w7o21 ?w7o22 ?w7N
    case w7c => kernel_rfl
    case w7o18 =>
      intro e
      refine' Kb.own_of KX G e rfl PySem.HandSPX.line_key PySem.HandSPX.keyStore (by decide +kernel) PySem.Kx.fName ?w7aC ?w7xL ?w7sa ?w7nb ?w7tk ?w7a1 ?w7t1 ?w7l1 ?w7c1
      (case w7aC => k_is); (case w7xL => k_is); (case w7sa => k_is); (case w7nb => k_is); (case w7tk => k_is); (case w7a1 => k_is); (case w7t1 => k_is); (case w7l1 => k_is); (case w7c1 => k_is)
    case w7o19 =>
      intro e
      refine' Kb.own_of KX G e rfl PySem.HandSPX.line_lookup PySem.F.store_LookupError (by decide +kernel) PySem.Kx.fGroup ?w7aC ?w7xL ?w7sa ?w7nb ?w7tk ?w7a1 ?w7t1 ?w7l1 ?w7c1
      (case w7aC => k_is); (case w7xL => k_is); (case w7sa => k_is); (case w7nb => k_is); (case w7tk => k_is); (case w7a1 => k_is); (case w7t1 => k_is); (case w7l1 => k_is); (case w7c1 => k_is)
    case w7o20 =>
      intro e
      refine' Kb.own_of KX G e rfl PySem.HandSPX.line_index PySem.F.store_IndexError (by decide +kernel) PySem.Kx.fValue ?w7aC ?w7xL ?w7sa ?w7nb ?w7tk ?w7a1 ?w7t1 ?w7l1 ?w7c1
      (case w7aC => k_is); (case w7xL => k_is); (case w7sa => k_is); (case w7nb => k_is); (case w7tk => k_is); (case w7a1 => k_is); (case w7t1 => k_is); (case w7l1 => k_is); (case w7c1 => k_is)
    case w7o21 =>
      intro e
      refine' Kb.own_of KX G e rfl PySem.HandSPX.line_over PySem.F.store_OverflowError (by decide +kernel) PySem.Kx.fLimit ?w7aC ?w7xL ?w7sa ?w7nb ?w7tk ?w7a1 ?w7t1 ?w7l1 ?w7c1
      (case w7aC => k_is); (case w7xL => k_is); (case w7sa => k_is); (case w7nb => k_is); (case w7tk => k_is); (case w7a1 => k_is); (case w7t1 => k_is); (case w7l1 => k_is); (case w7c1 => k_is)
    case w7o22 =>
      intro e
      refine' Kb.own_of KX G e rfl PySem.HandSPX.line_run PySem.F.store_RuntimeError (by decide +kernel) PySem.Kx.fCycle ?w7aC ?w7xL ?w7sa ?w7nb ?w7tk ?w7a1 ?w7t1 ?w7l1 ?w7c1
      (case w7aC => k_is); (case w7xL => k_is); (case w7sa => k_is); (case w7nb => k_is); (case w7tk => k_is); (case w7a1 => k_is); (case w7t1 => k_is); (case w7l1 => k_is); (case w7c1 => k_is)
    case w7N =>
      refine' Kb.all_mk KX G ?w7a0 ?w7l0 ?w7c0 ?w7k0 ?w7a1 ?w7l1 ?w7c1 ?w7k1 ?w7a2 ?w7l2 ?w7c2 ?w7k2 ?w7a3 ?w7l3 ?w7c3 ?w7k3 ?w7a4 ?w7l4 ?w7c4 ?w7k4 ?w7a5 ?w7l5 ?w7c5 ?w7k5 ?w7a6 ?w7l6 ?w7c6 ?w7k6 ?w7a7 ?w7l7 ?w7c7 ?w7k7 ?w7a8 ?w7l8 ?w7c8 ?w7k8 ?w7a9 ?w7l9 ?w7c9 ?w7k9 ?w7z_IndexError ?w7z_KeyError ?w7z_LookupError ?w7z_OverflowError ?w7z_RuntimeError ?w7z_ValueError ?w7z_abs ?w7z_enumerate ?w7z_int ?w7z_isinstance ?w7z_len ?w7z_max ?w7z_min ?w7z_range ?w7z_repr
      (case w7a0 => k_is); (case w7l0 => k_is); (case w7c0 => k_is); (case w7k0 => k_is); (case w7a1 => k_is); (case w7l1 => k_is)
      (case w7c1 => k_is); (case w7k1 => k_is); (case w7a2 => k_is); (case w7l2 => k_is); (case w7c2 => k_is); (case w7k2 => k_is)
      (case w7a3 => k_is); (case w7l3 => k_is); (case w7c3 => k_is); (case w7k3 => k_is); (case w7a4 => k_is); (case w7l4 => k_is)
      (case w7c4 => k_is); (case w7k4 => k_is); (case w7a5 => k_is); (case w7l5 => k_is); (case w7c5 => k_is); (case w7k5 => k_is)
      (case w7a6 => k_is); (case w7l6 => k_is); (case w7c6 => k_is); (case w7k6 => k_is); (case w7a7 => k_is); (case w7l7 => k_is)
      (case w7c7 => k_is); (case w7k7 => k_is); (case w7a8 => k_is); (case w7l8 => k_is); (case w7c8 => k_is); (case w7k8 => k_is)
      (case w7a9 => k_is); (case w7l9 => k_is); (case w7c9 => k_is); (case w7k9 => k_is); (case w7z_IndexError => k_is); (case w7z_KeyError => k_is)
      (case w7z_LookupError => k_is); (case w7z_OverflowError => k_is); (case w7z_RuntimeError => k_is); (case w7z_ValueError => k_is); (case w7z_abs => k_is); (case w7z_enumerate => k_is)
      (case w7z_int => k_is); (case w7z_isinstance => k_is); (case w7z_len => k_is); (case w7z_max => k_is); (case w7z_min => k_is); (case w7z_range => k_is)
      (case w7z_repr => k_is)
end
