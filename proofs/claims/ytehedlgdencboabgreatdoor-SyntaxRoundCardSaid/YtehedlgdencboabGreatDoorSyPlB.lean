/-
  Stage 10 ahead: lines of pieces, one below the other, as a text: its tokens. No program is named here.
-/
import Derived.Test.YtehedlgdencboabGreatDoorSyPlain
import Derived.Test.YtehedlgdencboabGreatDoorLxPlJ
namespace Go.Proofs.YtehedlgdencboabGreatDoor
set_option linter.unusedVariables false
set_option linter.unusedSimpArgs false

/-- No two words, no two numbers side by side. -/
def alt : List Nat → Bool
  | [] => true
  | [_] => true
  | a :: b :: l => (decide (a ≠ b) || decide (a = 0) || decide (a = 3)) && alt (b :: l)
theorem alt_sep : ∀ (l m : List Nat), alt (l ++ 0 :: m) = (alt l && alt m)
  | [], [] => rfl
  | [], b :: m => by
    show ((decide (0 ≠ b) || decide (0 = 0) || decide (0 = 3)) && alt (b :: m)) = _
    simp [alt]
  | [a], m => by
    show ((decide (a ≠ 0) || decide (a = 0) || decide (a = 3)) && alt (0 :: m)) = _
    have h := alt_sep [] m
    rw [List.nil_append] at h
    rw [h]
    by_cases e : a = 0 <;> simp [e, alt]
  | a :: b :: l, m => by
    show ((decide (a ≠ b) || decide (a = 0) || decide (a = 3)) && alt ((b :: l) ++ 0 :: m)) = ((_ && alt (b :: l)) && alt m)
    rw [alt_sep (b :: l) m, Bool.and_assoc]
theorem okL_of : ∀ (l : List Pc), (∀ p ∈ l, OkP p) → alt (l.map (·.k)) = true → OkL l
  | [], _, _ => trivial
  | [p], h, _ => h p (List.mem_singleton.2 rfl)
  | p :: q :: l, h, ha => by
    have ha' : ((decide (p.k ≠ q.k) || decide (p.k = 0) || decide (p.k = 3)) && alt ((q :: l).map (·.k))) = true := ha
    rw [Bool.and_eq_true] at ha'
    refine ⟨h p (List.mem_cons_self ..), fun hk => ?_, okL_of (q :: l) (fun x hx => h x (List.mem_cons_of_mem _ hx)) ha'.2⟩
    have := ha'.1
    simp only [Bool.or_eq_true, decide_eq_true_eq] at this
    omega
/-- A line's end. -/
def endP (no : Nat) (l : List Pc) : Tk := ⟨4, ⟨#[10]⟩, 0, no, (textP l).length + 1⟩
def lineB (l : List Pc) : List UInt8 := textP l ++ [10]
def textL (ls : List (List Pc)) : List UInt8 := ls.flatMap lineB
def linesT : Nat → List (List Pc) → List Tk
  | _, [] => []
  | no, l :: ls => (toksP no 0 l ++ [endP no l]) ++ linesT (no + 1) ls
theorem not10 {p : Pc} (h : OkP p) {c : UInt8} (hc : c ∈ p.t) : c.toNat ≠ 10 := fun e => by
  have h1 := h.kd c hc
  rw [e] at h1
  have h2 : kd 10 = 0 := by decide
  rw [h2] at h1
  unfold kdP at h1
  split at h1 <;> omega
theorem mem_text {l : List Pc} (h : ∀ p ∈ l, OkP p) {c : UInt8} (hc : c ∈ textP l) : c.toNat ≠ 10 := by
  obtain ⟨p, hp, hc⟩ := List.mem_flatMap.1 hc
  exact not10 (h p hp) hc
theorem toksP_sh (no m : Nat) : ∀ (l : List Pc) (i : Nat), toksP (no + m) i l = (toksP no i l).map (shT m)
  | [], i => rfl
  | p :: l, i => by
    by_cases hk : p.k = 0
    · rw [toksP_blank hk, toksP_blank hk]; exact toksP_sh no m l _
    · rw [toksP_tok hk, toksP_tok hk, List.map_cons, toksP_sh no m l]; rfl
theorem linesT_sh (m : Nat) : ∀ (ls : List (List Pc)) (no : Nat), linesT (no + m) ls = (linesT no ls).map (shT m)
  | [], no => rfl
  | l :: ls, no => by
    show (toksP (no + m) 0 l ++ [endP (no + m) l]) ++ linesT (no + m + 1) ls = ((toksP no 0 l ++ [endP no l]) ++ linesT (no + 1) ls).map (shT m)
    rw [List.map_append, List.map_append, ← toksP_sh no m l 0, show no + m + 1 = (no + 1) + m by omega, linesT_sh m ls (no + 1)]
    rfl
theorem mk_size (l : List UInt8) : (⟨l.toArray⟩ : ByteArray).size = l.length := by show l.toArray.size = _; simp
/-- One line. -/
theorem line_lex (l : List Pc) (ho : OkL l) (hp : ∀ p ∈ l, OkP p) (h2 : (textP l).length ≤ 200) :
    allT ⟨(lineB l).toArray⟩ 1 0 = (toksP 1 0 l ++ [endP 1 l], ⟨0, 0, 0⟩) ∧ cnt10 ⟨(lineB l).toArray⟩ 0 = 1 ∧ bt ⟨(lineB l).toArray⟩ (textP l).length = 10 := by
  obtain ⟨x, hx⟩ : ∃ x : ByteArray, x = ⟨(lineB l).toArray⟩ := ⟨_, rfl⟩
  obtain ⟨n, hn⟩ : ∃ n, n = (textP l).length := ⟨_, rfl⟩
  rw [← hx, ← hn]
  have hxl : x.data.toList = textP l ++ [10] := by rw [hx]; simp [lineB]
  have hz : x.size = n + 1 := by rw [hx, mk_size, hn]; simp [lineB]
  have hbl : bt x n = 10 := by
    have := (bt_drop (s := x) (i := 0) (k := n) (l := textP l ++ [10]) (c := 10) (by rw [List.drop_zero]; exact hxl) (by rw [hn, List.getElem?_append_right (Nat.le_refl _), Nat.sub_self]; rfl)).1
    rw [Nat.zero_add] at this
    rw [this]; rfl
  have hin : ∀ k, k < n → bt x k ≠ 10 := fun k hk => by
    have hk' : k < (textP l).length := by rw [← hn]; exact hk
    have := (bt_drop (s := x) (i := 0) (k := k) (l := textP l ++ [10]) (c := (textP l)[k]'hk') (by rw [List.drop_zero]; exact hxl) (by rw [List.getElem?_append_left hk', List.getElem?_eq_getElem hk'])).1
    rw [Nat.zero_add] at this
    rw [this]
    exact mem_text hp (List.getElem_mem hk')
  have hend : endOf x 0 = n := by
    have hge : ∀ m k, n - k = m → k ≤ n → runB (fun k => decide (bt x k ≠ 10)) k x.size = n := by
      intro m
      induction m with
      | zero =>
        intro k h1 h3
        rw [show k = n by omega]
        exact runB_end (fun c => by have := c.2; simp [hbl] at this)
      | succ m ih =>
        intro k h1 h3
        rw [runB_go (by omega) (by simpa using hin k (by omega))]
        exact ih (k + 1) (by omega) (by omega)
    exact hge n 0 (by omega) (Nat.zero_le _)
  obtain ⟨y, hy⟩ : ∃ y, y = x.extract 0 n := ⟨_, rfl⟩
  have hyz : y.size = n := by rw [hy, ex_size x 0 n (Nat.zero_le _) (by omega)]; omega
  have hyl : y.data.toList = textP l := by rw [hy, ex_list, List.drop_zero, Nat.sub_zero, hxl, hn]; exact List.take_left' rfl
  have hA : lineA y 1 = (toksP 1 0 l, ⟨0, 0, 0⟩) := by
    unfold lineA
    rw [if_neg (by omega)]
    exact line_pieces y 1 l 0 (by rw [List.drop_zero]; exact hyl) ho (Nat.zero_le _)
  refine ⟨?_, ?_, hbl⟩
  · rw [allT_line (by omega) (by rw [hend, ← hy, hA]), hend, ← hy, hA, allT_end (by omega)]
    have he : endT x 1 0 = endP 1 l := by
      unfold endT endP
      rw [hend, if_pos (by omega), Nat.sub_zero, ← hn]
      congr 1
      apply ByteArray.ext
      apply Array.toList_inj.1
      rw [ex_list, hxl, Nat.add_sub_cancel_left, hn, List.drop_left' rfl]
      rfl
    rw [he]
  · rw [cnt10_line x _ 0 rfl (by rw [hend]; omega), hend, cnt10_end (by omega)]
/-- A text of lines has their tokens. -/
theorem lines_lex : ∀ (ls : List (List Pc)), (∀ l ∈ ls, OkL l ∧ (∀ p ∈ l, OkP p) ∧ (textP l).length ≤ 200) → allT ⟨(textL ls).toArray⟩ 1 0 = (linesT 1 ls, ⟨0, 0, 0⟩)
  | [], _ => by rw [allT_end (by rw [mk_size]; simp [textL])]; rfl
  | l :: ls, h => by
    obtain ⟨h1, h2, h3⟩ := h l (List.mem_cons_self ..)
    obtain ⟨e1, e2, e3⟩ := line_lex l h1 h2 h3
    have ih := lines_lex ls (fun m hm => h m (List.mem_cons_of_mem _ hm))
    have ht : (⟨(textL (l :: ls)).toArray⟩ : ByteArray) = ⟨(lineB l).toArray⟩ ++ ⟨(textL ls).toArray⟩ := by
      apply ByteArray.ext
      apply Array.toList_inj.1
      simp [textL, ByteArray.data_append]
    have hz : (⟨(lineB l).toArray⟩ : ByteArray).size = (textP l).length + 1 := by rw [mk_size]; simp [lineB]
    rw [ht, join_ok _ _ (by omega) (by rw [hz, Nat.add_sub_cancel]; exact e3) (by rw [e1]), e1, e2, ih]
    show ((toksP 1 0 l ++ [endP 1 l]) ++ (linesT 1 ls).map (shT 1), shW 1 ⟨0, 0, 0⟩) = _
    rw [← linesT_sh 1 ls 1]
    rfl
end Go.Proofs.YtehedlgdencboabGreatDoor
