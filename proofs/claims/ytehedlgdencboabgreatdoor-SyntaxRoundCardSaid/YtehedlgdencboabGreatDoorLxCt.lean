/-
  The landed lex.scan: a text's tokens, up to what is wrong.
-/
import Derived.Test.YtehedlgdencboabGreatDoorLxCs
namespace Go.Proofs.YtehedlgdencboabGreatDoor
open Go.RowKit
set_option linter.unusedVariables false
set_option linter.unusedSimpArgs false

theorem rowR_rest {s : ByteArray} {i : Nat} (h : i ≤ s.size) : i + rowR (s.extract i s.size) 0 = rowR s i := by
  have hz : (s.extract i s.size).size = s.size - i := ex_size s i s.size h (Nat.le_refl _)
  have he := endOf_rest h
  unfold rowR
  rw [hz]
  split <;> split <;> omega
theorem w3cells {w : World} {b : Nat} {v0 v1 v2 : Value} {t : TypeId} (h : w.heap[b]? = some (.cells #[v0, v1, v2] t)) : w.cell? ⟨b, 0, none⟩ = some v0 ∧ w.cell? ⟨b, 1, none⟩ = some v1 ∧ w.cell? ⟨b, 2, none⟩ = some v2 := ⟨blk_cell h rfl, blk_cell h rfl, blk_cell h rfl⟩
def strLen : Value → Nat
  | .string s => s.size
  | _ => 0
/-- Where the scan stands: at the line no, which begins at i, with the tokens pre and what is wrong er. -/
def ScI (s : ByteArray) (i no : Nat) (pre : List Tk) (er : Wr) : Prop := i ≤ s.size ∧ 1 ≤ no ∧ no ≤ i + 1 ∧ pre.length ≤ 2 * i ∧ ((er = ⟨0, 0, 0⟩ ∧ allT s 1 0 = (pre ++ (allT s no i).1, (allT s no i).2)) ∨ (er.e ≠ 0 ∧ allT s 1 0 = (pre, er)))
theorem scanL_len (r : ByteArray) (no : Nat) (hno : 1 ≤ no) (hr : 0 < r.size) : (scanL r no).1.length ≤ 2 * r.size := by
  have h1 := bodyOf_le r
  have h2 := (lineA_ok (bodyOf r) no hno).2.1
  unfold scanL
  split
  · omega
  · simp; omega
theorem ScI.step {s : ByteArray} {i no : Nat} {pre : List Tk} {er : Wr} (h : ScI s i no pre er) (he : er.e = 0) (hi : i < s.size) : ScI s (rowR s i) (no + 1) (pre ++ (scanL (s.extract i (rowR s i)) no).1) (scanL (s.extract i (rowR s i)) no).2 := by
  obtain ⟨h1, h2, h3, h4, h5⟩ := h
  have hg := rowR_gt hi
  have hl := rowR_le s i
  have hz := ex_size s i (rowR s i) (by omega) hl
  have hn := scanL_len (s.extract i (rowR s i)) no h2 (by omega)
  refine ⟨hl, by omega, by omega, by simp; omega, ?_⟩
  rcases h5 with ⟨_, h5⟩ | ⟨h5, _⟩
  · by_cases hb : (scanL (s.extract i (rowR s i)) no).2.e = 0
    · refine .inl ⟨scanL_bad hb, ?_⟩
      rw [h5, all_line hi hb, List.append_assoc]
    · refine .inr ⟨hb, ?_⟩
      rw [h5, all_bad hi hb]
  · exact absurd he h5
theorem ScI.done {s : ByteArray} {i no : Nat} {pre : List Tk} {er : Wr} (h : ScI s i no pre er) (he : er.e ≠ 0 ∨ i = s.size) (hs : s.size ≤ 65536) : lexT s = (pre, er) := by
  obtain ⟨h1, h2, h3, h4, h5⟩ := h
  unfold lexT
  rw [if_neg (by omega)]
  rcases h5 with ⟨h5, h6⟩ | ⟨h5, h6⟩
  · subst h5
    rcases he with he | he
    · exact absurd rfl he
    · rw [h6, allT_end (by omega)]; simp
  · exact h6
set_option maxRecDepth 20000 in
set_option maxHeartbeats 8000000 in
theorem scanC (s : ByteArray) (w : World) (hs : s.size ≤ 16777216) (hg : Hnd w) :
    Calls Tryz.prog 71 #[.string s] w fun e w' => ∃ v' : Value, e = .returned (.tuple #[v', .agg #[.int .i64 ((lexT s).2.e : Int), .int .i64 ((lexT s).2.l : Int), .int .i64 ((lexT s).2.c : Int)]]) ∧ RowT w' w.heap.size v' (lexT s).1 ∧ Below w.heap.size w w' := by
  obtain ⟨n, hn⟩ : ∃ n, n = s.size := ⟨_, rfl⟩
  have hlen := lenS s n hn
  by_cases hbig : 65536 < s.size
  · have hF : lexT s = ([], ⟨2, 0, 0⟩) := by unfold lexT; rw [if_pos hbig]
    rw [hF]
    have hbig' : (65536 : Int) < (n : Int) := by omega
    have hZ := blk_new w (.cells #[.int .i64 0, .int .i64 0, .int .i64 0] 76)
    clear hn hbig hs hF hg
    go_enter Tryz.func71, Tryz.ntmps71
    go_wp2_with (refine wpList_store_blk rfl 76 (.tmp 3) (.tmp 11) rfl w.heap.size 0 #[.int .i64 2, .int .i64 0, .int .i64 0] #[.int .i64 2, .int .i64 0, .int .i64 0] rfl rfl 76 _ hZ (Nat.le_of_ble_eq_true rfl) rfl (by kernel_rfl) rfl ?_; intro w8 hw8 ho8)
    exact bodyPost_ret (results_blk3 Tryz.results71 rfl hw8 Tryz.underlying76 rfl (by kernel_rfl)) rfl ⟨_, rfl, RowT.nil _ _, ((Below.refl _ _).alloc (Nat.le_refl _) _).trans (ho8.below (Nat.le_refl _))⟩
  · have hbig' : ¬ (65536 : Int) < (n : Int) := by omega
    have HS : Hid (s.size ≤ 65536) := by show _ ≤ _; omega
    have HG : Hid (Hnd w) := hg
    have HGB : Hid (8 < w.heap.size) := hg.lt
    have HN : Hid (n = s.size) := hn
    have HX : Hid (s = s.extract 0 s.size) := by show _ = _; rw [ByteArray.extract_zero_size]
    have HR0 : Hid (((w.alloc (.cells #[.int .i64 0, .int .i64 0, .int .i64 0] 76)).alloc (.cells #[.int .i64 0, .int .i64 0, .int .i64 0] 76)).heap[w.heap.size]? = some (.cells #[.int .i64 0, .int .i64 0, .int .i64 0] 76)) := blk_alloc (blk_new w _) _
    have HD0 : Hid (((w.alloc (.cells #[.int .i64 0, .int .i64 0, .int .i64 0] 76)).alloc (.cells #[.int .i64 0, .int .i64 0, .int .i64 0] 76)).heap[w.heap.size + 1]? = some (.cells #[.int .i64 0, .int .i64 0, .int .i64 0] 76)) := by
      have := blk_new (w.alloc (.cells #[.int .i64 0, .int .i64 0, .int .i64 0] 76)) (.cells #[.int .i64 0, .int .i64 0, .int .i64 0] 76)
      rw [show (w.alloc (.cells #[.int .i64 0, .int .i64 0, .int .i64 0] 76)).heap.size = w.heap.size + 1 by simp] at this
      exact this
    have HB0 : Hid (Below w.heap.size w ((w.alloc (.cells #[.int .i64 0, .int .i64 0, .int .i64 0] 76)).alloc (.cells #[.int .i64 0, .int .i64 0, .int .i64 0] 76))) := ((Below.refl _ _).alloc (Nat.le_refl _) _).alloc (by simp) _
    clear hn hbig hs hg
    go_enter Tryz.func71, Tryz.ntmps71
    go_upto_region 5 with (fail)
    generalize (w.alloc (.cells #[.int .i64 0, .int .i64 0, .int .i64 0] 76)).alloc (.cells #[.int .i64 0, .int .i64 0, .int .i64 0] 76) = W0 at *
    go_wp2_with (fail)
    go_loopw [0, 4, 6] (fun tv lv nv wr => ∃ (i no : Nat) (v : Value) (pre : List Tk) (er : Wr) (x : ByteArray), tv = .string x ∧ lv = v ∧ nv = .int .i64 (no : Int) ∧ Hid (x = s.extract i s.size) ∧ Hid (ScI s i no pre er) ∧ Hid (RowT wr (w.heap.size + 2) v pre) ∧ Hid (wr.heap[w.heap.size]? = some (.cells #[.int .i64 0, .int .i64 0, .int .i64 0] 76)) ∧ Hid (wr.heap[w.heap.size + 1]? = some (.cells #[.int .i64 (er.e : Int), .int .i64 (er.l : Int), .int .i64 (er.c : Int)] 76)) ∧ Hid (Below w.heap.size w wr)) (fun tv _ _ _ => strLen tv)
    case atStart => exact ⟨0, 1, _, [], ⟨0, 0, 0⟩, s, rfl, rfl, rfl, HX.out, ⟨Nat.zero_le _, Nat.le_refl _, Nat.le_refl _, Nat.zero_le _, .inl ⟨rfl, by simp⟩⟩, RowT.nil _ _, HR0.out, HD0.out, HB0.out⟩
    case round =>
      obtain ⟨i, no, v, pre, er, x, rfl, hv, rfl, HXi, HI, HR, HRb, HDb, HBw⟩ := hrel
      have hv' := hv.symm
      clear hv
      subst hv'
      have hle : Hid (i ≤ s.size) := HI.out.1
      have hzx : x.size = s.size - i := by rw [HXi.out]; exact ex_size s i s.size hle.out (Nat.le_refl _)
      have hzd := blk_lt HDb.out
      by_cases hlt : i < s.size
      · have hxl : x.toList.isEmpty = false := by
          rw [ByteArray.toList_eq]
          cases hl : x.data.toList with
          | nil => have := size_len x; rw [hl] at this; simp at this; omega
          | cons => rfl
        have hxl2 : ¬ x.toList = [] := fun h => by rw [h] at hxl; cases hxl
        by_cases he : er.e = 0
        · have hst := HI.out.step he hlt
          have hg1 := rowR_gt hlt
          have hg2 := rowR_le s i
          obtain ⟨m, hm⟩ : ∃ m, m = rowR s i - i := ⟨_, rfl⟩
          obtain ⟨r, hr⟩ : ∃ r, r = s.extract i (rowR s i) := ⟨_, rfl⟩
          have hrz : r.size = m := by rw [hr, hm]; exact ex_size s i _ (by omega) hg2
          have hrr := rowR_rest hle.out
          have hfl : ∀ W, Calls Tryz.prog 83 #[.string x] W fun e w1 => e = .returned (.string r) ∧ w1 = W := fun W => by
            have := firstC x W (by have := HS.out; omega)
            rw [HXi.out] at this ⊢
            rw [ex_ex s i s.size 0 _ (by omega), Nat.add_zero, hrr, ← hr] at this
            exact this
          have hlr := lenS r m hrz.symm
          obtain ⟨y, hy⟩ : ∃ y, y = s.extract (rowR s i) s.size := ⟨_, rfl⟩
          have hsl : ∀ W, (Instr.slice 9 (.string x) (some (.int .i64 (m : Int))) none none).run Tryz.prog W = .ok (.string y) W := fun W => by
            have := slFrom x m (by omega) W
            rw [this, hy]
            congr 2
            rw [hzx, HXi.out, ex_ex s i s.size m _ (by omega)]
            congr 1 <;> omega
          have hsc := scanLineC r no v pre (w.heap.size + 2) wr (by have := HS.out; omega) HR.out (by omega) (by have := HI.out.2.2.2.1; have := HS.out; omega) (HG.out.on HBw.out) (by have := HGB.out; omega)
          rw [← hr] at hst
          have HSt : Hid (ScI s (rowR s i) (no + 1) (pre ++ (scanL r no).1) (scanL r no).2) := hst
          have HY : Hid (y = s.extract (rowR s i) s.size) := hy
          have HM : Hid (y.size < x.size) := by show _ < _; rw [hy, hzx, ex_size s _ s.size hg2 (Nat.le_refl _)]; omega
          have hno : (no : Int) ≤ 65537 := by have := HI.out.2.2.1; have := HS.out; omega
          obtain ⟨q0, q1, q2⟩ := w3cells HDb.out
          rw [he] at q0
          clear hst hy hr hrz hrr hm hg1 hg2 hzx
          generalize scanL r no = res at *
          go_wp2_with (first | (go_at_call 83; refine (hfl _).mono ?_; rintro e w1 ⟨rfl, hw1⟩; obtain rfl := hw1.symm; clear hw1) | (go_at_call 84; refine hsc.mono ?_; rintro e w1 ⟨v1, rfl, hrow1, hb1⟩; have HR1 : Hid (RowT w1 (w.heap.size + 2) v1 (pre ++ res.1)) := hrow1; have HB1 : Hid (Below (w.heap.size + 2) wr w1) := hb1; have HD1 : Hid (w1.heap[w.heap.size + 1]? = some (.cells #[.int .i64 (er.e : Int), .int .i64 (er.l : Int), .int .i64 (er.c : Int)] 76)) := (by show _ = _; rw [hb1.block _ (by omega)]; exact HDb.out); clear hrow1 hb1 q0 q1 q2) | (refine wpList_store_blk rfl 76 (.tmp 5) (.tmp 33) rfl (w.heap.size + 1) 0 #[.int .i64 (res.2.e : Int), .int .i64 (res.2.l : Int), .int .i64 (res.2.c : Int)] #[.int .i64 (res.2.e : Int), .int .i64 (res.2.l : Int), .int .i64 (res.2.c : Int)] rfl rfl 76 _ HD1.out (Nat.le_of_ble_eq_true rfl) rfl (by kernel_rfl) rfl ?_; intro w8 hw8 ho8))
          go_roundw
          case rel =>
            refine ⟨rowR s i, no + 1, v1, pre ++ res.1, res.2, y, rfl, rfl, by go_num, HY.out, HSt.out, HR1.out.only ho8 (by omega), ?_, hw8, ?_⟩
            · show _ = _
              rw [ho8.block _ (by omega), HB1.out.block _ (by omega)]; exact HRb.out
            · exact (HBw.out.trans (HB1.out.mono (by omega))).trans (ho8.below (by omega))
          case measure => exact HM.out
        · have HF : Hid (lexT s = (pre, er)) := HI.out.done (.inl he) HS.out
          have he' : ¬ (er.e : Int) = 0 := by omega
          obtain ⟨q0, q1, q2⟩ := w3cells HDb.out
          obtain ⟨p0, p1, p2⟩ := w3cells HRb.out
          have f0 := blk_free HRb.out 0
          have f1 := blk_free HRb.out 1
          have f2 := blk_free HRb.out 2
          have n1 : ¬ w.heap.size = w.heap.size + 1 := by omega
          have n2 : ¬ w.heap.size + 1 = w.heap.size := by omega
          go_wp2
          go_region
          all_goals go_wp2
          all_goals
            have hb : (((wr.setCell ⟨w.heap.size, 0, none⟩ (.int .i64 (er.e : Int))).setCell ⟨w.heap.size, 1, none⟩ (.int .i64 (er.l : Int))).setCell ⟨w.heap.size, 2, none⟩ (.int .i64 (er.c : Int))).drew.heap[w.heap.size]? = some (.cells #[.int .i64 (er.e : Int), .int .i64 (er.l : Int), .int .i64 (er.c : Int)] 76) := blk_set (blk_set (blk_set HRb.out _) _) _
            have ho : Only w.heap.size wr (((wr.setCell ⟨w.heap.size, 0, none⟩ (.int .i64 (er.e : Int))).setCell ⟨w.heap.size, 1, none⟩ (.int .i64 (er.l : Int))).setCell ⟨w.heap.size, 2, none⟩ (.int .i64 (er.c : Int))).drew := (((only_set _ _ _ _).trans (only_set _ _ _ _)).trans (only_set _ _ _ _)).drew
            exact bodyPost_ret (results_blk3 Tryz.results71 rfl hb Tryz.underlying76 rfl (by kernel_rfl)) rfl ⟨v, by rw [HF.out]; rfl, by rw [HF.out]; exact (HR.out.only ho (by omega)).base (by omega), HBw.out.trans (ho.below (Nat.le_refl _))⟩
      · have hxl2 : x.toList = [] := by
          rw [ByteArray.toList_eq]
          exact List.eq_nil_of_length_eq_zero (by rw [size_len]; omega)
        have hxl : x.toList.isEmpty = true := by rw [hxl2]; rfl
        have HF : Hid (lexT s = (pre, er)) := HI.out.done (.inr (by have := hle.out; omega)) HS.out
        obtain ⟨q0, q1, q2⟩ := w3cells HDb.out
        obtain ⟨p0, p1, p2⟩ := w3cells HRb.out
        have f0 := blk_free HRb.out 0
        have f1 := blk_free HRb.out 1
        have f2 := blk_free HRb.out 2
        have n1 : ¬ w.heap.size = w.heap.size + 1 := by omega
        have n2 : ¬ w.heap.size + 1 = w.heap.size := by omega
        go_wp2
        go_region
        all_goals go_wp2
        all_goals
          have hb : (((wr.setCell ⟨w.heap.size, 0, none⟩ (.int .i64 (er.e : Int))).setCell ⟨w.heap.size, 1, none⟩ (.int .i64 (er.l : Int))).setCell ⟨w.heap.size, 2, none⟩ (.int .i64 (er.c : Int))).drew.heap[w.heap.size]? = some (.cells #[.int .i64 (er.e : Int), .int .i64 (er.l : Int), .int .i64 (er.c : Int)] 76) := blk_set (blk_set (blk_set HRb.out _) _) _
          have ho : Only w.heap.size wr (((wr.setCell ⟨w.heap.size, 0, none⟩ (.int .i64 (er.e : Int))).setCell ⟨w.heap.size, 1, none⟩ (.int .i64 (er.l : Int))).setCell ⟨w.heap.size, 2, none⟩ (.int .i64 (er.c : Int))).drew := (((only_set _ _ _ _).trans (only_set _ _ _ _)).trans (only_set _ _ _ _)).drew
          exact bodyPost_ret (results_blk3 Tryz.results71 rfl hb Tryz.underlying76 rfl (by kernel_rfl)) rfl ⟨v, by rw [HF.out]; rfl, by rw [HF.out]; exact (HR.out.only ho (by omega)).base (by omega), HBw.out.trans (ho.below (Nat.le_refl _))⟩
end Go.Proofs.YtehedlgdencboabGreatDoor
