/-
  What the small functions of the document's answer hand back: high, low, Pack, Unpack, bit, Bit.
-/
import Derived.Test.YtpgadbiohmofeaaHdU
import Derived.Deep.RegionHeld3
import Derived.Deep.DrawnRows
namespace Go.Proofs.Ytpgadbiohmofeaa
open Go.RowKit
set_option linter.unusedVariables false
set_option linter.unusedSimpArgs false
attribute [local go_sem ↓] Go.wp_at_zero Go.wp_at_succ

/-- So many bytes of a number, the highest first. -/
def hiL (n : Nat) : Nat → List Nat
  | 0 => []
  | m + 1 => n / 2 ^ (8 * m) % 256 :: hiL n m
theorem hiL_len (n : Nat) : ∀ m, (hiL n m).length = m
  | 0 => rfl
  | m + 1 => by unfold hiL; rw [List.length_cons, hiL_len n m]
set_option maxHeartbeats 1000000 in
theorem highT (l : List Nat) (v : Value) (n m b : Nat) (w : World) (hr : RowB w b v l) (hb : b ≤ w.heap.size) (hn : n < 4294967296) (hm : m ≤ 4) (hl : l.length ≤ 100) :
    Calls Try.prog 30 #[v, .int .u64 (n : Int), .int .i64 (m : Int)] w fun e w' => ∃ v' : Value, e = .returned v' ∧ RowB w' b v' (l ++ hiL n m) ∧ Below b w w' := by
  have HR : Hid (RowB w b v l) := hr
  clear hr
  go_enter Try.func30, Try.ntmps30
  go_wp2
  go_loopw [0, 7] (fun sv iv wr => ∃ (j : Nat) (pre : List Nat), j ≤ m ∧ iv = .int .i64 ((j : Int) - 1) ∧ Hid (RowB wr b sv (l ++ pre)) ∧ Hid (hiL n m = pre ++ hiL n j) ∧ Hid (Below b w wr)) (fun _ iv _ => (intOf iv + 1).toNat)
  case atStart => exact ⟨m, [], Nat.le_refl _, rfl, by show RowB _ _ _ _; rw [List.append_nil]; exact HR.out, rfl, Below.refl _ _⟩
  case round =>
    obtain ⟨j, pre, hj, rfl, hrow, hpre, hbl⟩ := hrel
    by_cases h0 : j = 0
    · subst h0
      have he : hiL n m = pre := by rw [hpre.out]; simp [hiL]
      obtain ⟨ad, cap, rfl, _, _⟩ := hrow.out.form
      go_wp2
      go_ret
      exact ⟨_, rfl, by rw [he]; exact hrow.out, hbl.out⟩
    · obtain ⟨k, rfl⟩ : ∃ k, j = k + 1 := ⟨j - 1, by omega⟩
      have hk : k ≤ 3 := by omega
      have hz := hbl.out.size
      have hx : (n : Int) / 2 ^ (8 * k) % 256 = ((n / 2 ^ (8 * k) % 256 : Nat) : Int) := by simp
      have HX : Hid ((n : Int) / 2 ^ (8 * k) % 256 = ((n / 2 ^ (8 * k) % 256 : Nat) : Int)) := hx
      have hpl : Hid (pre.length ≤ 4) := by
        have := congrArg List.length hpre.out
        rw [List.length_append, hiL_len, hiL_len] at this
        show _ ≤ _
        omega
      have hst : Hid (hiL n m = (pre ++ [n / 2 ^ (8 * k) % 256]) ++ hiL n k) := by
        show _ = _
        rw [hpre.out, List.append_assoc]; rfl
      clear hx
      go_wp2_with (at_builtin; refine wpList_append_bytes rfl (.tmp 14) (.tmp 21) rfl b _ (l ++ pre) rfl (hrow.out.alloc _) b _ [n / 2 ^ (8 * k) % 256] rfl (RowB.one wr b _ rfl HX.out (by omega)) (by simp; omega) (by have := hpl.out; simp; omega) ?_; intro v5 w5 hrow5 hgr5)
      go_roundw
      case rel => exact ⟨k, pre ++ [n / 2 ^ (8 * k) % 256], by omega, by go_num, by show RowB _ _ _ _; rw [← List.append_assoc]; exact hrow5, hst.out, (hbl.out.alloc (by omega) _).grown hgr5 (by simp; omega) (fun x hx => (hrow.out.lt x hx).1)⟩
      case measure => simp [intOf]
set_option maxHeartbeats 1000000 in
theorem lowT (l : List Nat) (v : Value) (w : World) (hs : SrcB w v l) (hl : l.length ≤ 4) (hbd : BdB l) :
    Calls Try.prog 28 #[v] w fun e w' => e = .returned (.int .u64 (num l : Int)) ∧ w' = w := by
  obtain ⟨ad, cap, rfl, hcap, hat⟩ := hs
  go_enter Try.func28, Try.ntmps28
  go_wp2
  go_loopw [3, 4] (fun nv iv wr => ∃ k : Nat, k ≤ l.length ∧ iv = .int .i64 (k : Int) ∧ nv = .int .u64 (num (l.take k) : Int) ∧ wr = w) (fun _ iv _ => l.length - (intOf iv).toNat)
  case atStart => exact ⟨0, Nat.zero_le _, rfl, rfl, rfl⟩
  case round =>
    obtain ⟨k, hk, rfl, rfl, rfl⟩ := hrel
    by_cases hlt : k < l.length
    · obtain ⟨g, off, rfl, hcell⟩ := hat (by omega)
      obtain ⟨t, ht⟩ : ∃ t, t = l[k] := ⟨_, rfl⟩
      have x0 := hcell k hlt
      rw [← ht] at x0
      have hlt' : (k : Int) < (l.length : Int) := by omega
      have hk0 : (0 : Int) ≤ (k : Int) := by omega
      have ht6 : t < 256 := hbd t (by rw [ht]; exact List.getElem_mem _)
      have hnum : num (l.take k) < 16777216 := by
        have h1 := num_lt (l := l.take k) fun x hx => hbd x (List.mem_of_mem_take hx)
        rw [List.length_take, Nat.min_eq_left hk] at h1
        have h2 : 256 ^ k ≤ 256 ^ 3 := Nat.pow_le_pow_right (by decide) (by omega)
        omega
      have HE : Hid (num (l.take (k + 1)) = 256 * num (l.take k) + t) := by
        show _ = _
        rw [List.take_succ_eq_append_getElem hlt, num_snoc, ht]
      generalize num (l.take k) = n at *
      have hn1 : (n : Int) < 16777216 := by omega
      have hn0 : (0 : Int) ≤ (n : Int) := by omega
      clear hat hcell ht hbd
      go_wp2
      go_roundw
      case rel => exact ⟨k + 1, by omega, by go_num, by rw [HE.out]; go_num, by first | rfl | trivial⟩
      case measure => simp [intOf]; omega
    · obtain rfl : k = l.length := by omega
      rw [List.take_length]
      go_wp2
      go_ret
      exact ⟨rfl, rfl⟩
theorem pack_hi {h : Hd} (o : OkH h) : ((((([] ++ hiL h.s 4) ++ hiL h.d 4) ++ hiL h.p 2) ++ hiL h.q 2) ++ hiL h.r 1) = bytesH h := by
  simp [hiL, bytesH]
set_option maxHeartbeats 1000000 in
theorem rpackT (h : Hd) (w : World) (o : OkH h) :
    Calls Try.prog 13 #[.agg #[.int .u32 (h.s : Int), .int .u32 (h.d : Int), .int .u16 (h.p : Int), .int .u16 (h.q : Int), .int .u8 (h.r : Int)]] w fun e w' => ∃ v' : Value, e = .returned v' ∧ RowB w' w.heap.size v' (bytesH h) ∧ Below w.heap.size w w' := by
  rw [← pack_hi o]
  obtain ⟨o1, o2, o3, o4, o5⟩ := o
  have z1 : (h.s : Int) < 4294967296 := by omega
  have z2 : (h.d : Int) < 4294967296 := by omega
  have z3 : (h.p : Int) < 65536 := by omega
  have z4 : (h.q : Int) < 65536 := by omega
  have z5 : (h.r : Int) < 256 := by omega
  have r0 : Hid (RowB (w.alloc (.cells #[.int .u32 (h.s : Int), .int .u32 (h.d : Int), .int .u16 (h.p : Int), .int .u16 (h.q : Int), .int .u8 (h.r : Int)] 25)) (w.heap.size + 1) (.slice none 0 0) []) := RowB.nil _ _
  have hb0 : Hid (Below (w.heap.size + 1) (w.alloc (.cells #[.int .u32 (h.s : Int), .int .u32 (h.d : Int), .int .u16 (h.p : Int), .int .u16 (h.q : Int), .int .u8 (h.r : Int)] 25)) (w.alloc (.cells #[.int .u32 (h.s : Int), .int .u32 (h.d : Int), .int .u16 (h.p : Int), .int .u16 (h.q : Int), .int .u8 (h.r : Int)] 25))) := Below.refl _ _
  go_enter Try.func13, Try.ntmps13
  go_wp2_with (fail)
  refine (highT _ _ h.s 4 (w.heap.size + 1) _ r0.out (by simp) (by omega) (by omega) (by simp [hiL_len])).mono ?_
  rintro e w1 ⟨v1, rfl, q1, b1⟩
  have r1 : Hid (RowB w1 (w.heap.size + 1) v1 _) := q1
  have hz1 := b1.size
  simp at hz1
  have hb1 : Hid (Below (w.heap.size + 1) (w.alloc (.cells #[.int .u32 (h.s : Int), .int .u32 (h.d : Int), .int .u16 (h.p : Int), .int .u16 (h.q : Int), .int .u8 (h.r : Int)] 25)) w1) := hb0.out.trans b1
  have c1d : w1.cell? ⟨w.heap.size, 1, none⟩ = some (.int .u32 (h.d : Int)) := by rw [hb1.out.cell (by simp)]; simp [go_sem]
  have c1p : w1.cell? ⟨w.heap.size, 2, none⟩ = some (.int .u16 (h.p : Int)) := by rw [hb1.out.cell (by simp)]; simp [go_sem]
  have c1q : w1.cell? ⟨w.heap.size, 3, none⟩ = some (.int .u16 (h.q : Int)) := by rw [hb1.out.cell (by simp)]; simp [go_sem]
  have c1r : w1.cell? ⟨w.heap.size, 4, none⟩ = some (.int .u8 (h.r : Int)) := by rw [hb1.out.cell (by simp)]; simp [go_sem]
  clear q1 b1 r0 hb0
  go_wp2_with (fail)
  refine (highT _ _ h.d 4 (w.heap.size + 1) _ r1.out (by omega) (by omega) (by omega) (by simp [hiL_len])).mono ?_
  rintro e w2 ⟨v2, rfl, q2, b2⟩
  have r2 : Hid (RowB w2 (w.heap.size + 1) v2 _) := q2
  have hz2 := b2.size
  have hb2 : Hid (Below (w.heap.size + 1) (w.alloc (.cells #[.int .u32 (h.s : Int), .int .u32 (h.d : Int), .int .u16 (h.p : Int), .int .u16 (h.q : Int), .int .u8 (h.r : Int)] 25)) w2) := hb1.out.trans b2
  have c2p : w2.cell? ⟨w.heap.size, 2, none⟩ = some (.int .u16 (h.p : Int)) := by rw [hb2.out.cell (by simp)]; simp [go_sem]
  have c2q : w2.cell? ⟨w.heap.size, 3, none⟩ = some (.int .u16 (h.q : Int)) := by rw [hb2.out.cell (by simp)]; simp [go_sem]
  have c2r : w2.cell? ⟨w.heap.size, 4, none⟩ = some (.int .u8 (h.r : Int)) := by rw [hb2.out.cell (by simp)]; simp [go_sem]
  clear q2 b2 r1 hb1
  go_wp2_with (fail)
  refine (highT _ _ h.p 2 (w.heap.size + 1) _ r2.out (by omega) (by omega) (by omega) (by simp [hiL_len])).mono ?_
  rintro e w3 ⟨v3, rfl, q3, b3⟩
  have r3 : Hid (RowB w3 (w.heap.size + 1) v3 _) := q3
  have hz3 := b3.size
  have hb3 : Hid (Below (w.heap.size + 1) (w.alloc (.cells #[.int .u32 (h.s : Int), .int .u32 (h.d : Int), .int .u16 (h.p : Int), .int .u16 (h.q : Int), .int .u8 (h.r : Int)] 25)) w3) := hb2.out.trans b3
  have c3q : w3.cell? ⟨w.heap.size, 3, none⟩ = some (.int .u16 (h.q : Int)) := by rw [hb3.out.cell (by simp)]; simp [go_sem]
  have c3r : w3.cell? ⟨w.heap.size, 4, none⟩ = some (.int .u8 (h.r : Int)) := by rw [hb3.out.cell (by simp)]; simp [go_sem]
  clear q3 b3 r2 hb2
  go_wp2_with (fail)
  refine (highT _ _ h.q 2 (w.heap.size + 1) _ r3.out (by omega) (by omega) (by omega) (by simp [hiL_len])).mono ?_
  rintro e w4 ⟨v4, rfl, q4, b4⟩
  have r4 : Hid (RowB w4 (w.heap.size + 1) v4 _) := q4
  have hz4 := b4.size
  have hb4 : Hid (Below (w.heap.size + 1) (w.alloc (.cells #[.int .u32 (h.s : Int), .int .u32 (h.d : Int), .int .u16 (h.p : Int), .int .u16 (h.q : Int), .int .u8 (h.r : Int)] 25)) w4) := hb3.out.trans b4
  have c4r : w4.cell? ⟨w.heap.size, 4, none⟩ = some (.int .u8 (h.r : Int)) := by rw [hb4.out.cell (by simp)]; simp [go_sem]
  clear q4 b4 r3 hb3
  go_wp2_with (fail)
  refine (highT _ _ h.r 1 (w.heap.size + 1) _ r4.out (by omega) (by omega) (by omega) (by simp [hiL_len])).mono ?_
  rintro e w5 ⟨v5, rfl, q5, b5⟩
  have r5 : Hid (RowB w5 (w.heap.size + 1) v5 _) := q5
  have hz5 := b5.size
  have hb5 : Hid (Below (w.heap.size + 1) (w.alloc (.cells #[.int .u32 (h.s : Int), .int .u32 (h.d : Int), .int .u16 (h.p : Int), .int .u16 (h.q : Int), .int .u8 (h.r : Int)] 25)) w5) := hb4.out.trans b5
  clear q5 b5 r4 hb4
  obtain ⟨ad, cap, rfl, _, _⟩ := r5.out.form
  go_wp2
  go_ret
  exact ⟨_, rfl, r5.out.base (by omega), ((Below.refl _ _).alloc (Nat.le_refl _) _).trans (hb5.out.mono (by omega))⟩
theorem SrcB.part {w : World} {l : List Nat} {g off n a m c : Nat} (h : ∀ k (hk : k < l.length), w.cell? ⟨g, off + k, none⟩ = some (.int .u8 ((l[k]'hk : Nat) : Int))) (hm : a + m ≤ l.length) (hn : n = m) (hmc : m ≤ c) : SrcB w (.slice (some ⟨g, off + a, none⟩) n c) ((l.drop a).take m) := by
  have hlen : ((l.drop a).take m).length = m := by rw [List.length_take, List.length_drop]; omega
  refine ⟨_, c, by rw [hlen, hn], by omega, fun _ => ⟨g, off + a, rfl, fun k hk => ?_⟩⟩
  rw [hlen] at hk
  have := h (a + k) (by omega)
  rw [Nat.add_assoc, this]
  congr 3
  rw [List.getElem_take, List.getElem_drop]
theorem runpN (l : List Nat) (v : Value) (w : World) (hs : SrcB w v l) (hl : l.length ≠ 13) (hl2 : l.length ≤ 4294967296) :
    Calls Try.prog 11 #[v] w fun e w' => e = .returned (.tuple #[.agg #[.int .u32 (h0.s : Int), .int .u32 (h0.d : Int), .int .u16 (h0.p : Int), .int .u16 (h0.q : Int), .int .u8 (h0.r : Int)], .int .i64 60]) ∧ Below w.heap.size w w' := by
  obtain ⟨ad, cap, rfl, hcap, _⟩ := hs
  have hne : ((l.length : Int) != 13) = true := by simp; omega
  have hne2 : ¬ (l.length : Int) = 13 := by omega
  have hne3 : ¬ l.length = 13 := hl
  clear hl
  go_enter Try.func11, Try.ntmps11
  go_wp2
  exact bodyPost_ret (v := .tuple #[.agg #[.int .u32 (h0.s : Int), .int .u32 (h0.d : Int), .int .u16 (h0.p : Int), .int .u16 (h0.q : Int), .int .u8 (h0.r : Int)], .int .i64 60]) (by simp [results, Try.results11, go_sem, h0]) rfl ⟨rfl, by (repeat (first | assumption | exact Below.refl _ _ | refine Below.drew ?_ | refine bel_drewN ?_ _ | refine Below.setCell ?_ (by first | omega | (simp; done) | (simp; omega)) _ | refine Below.alloc ?_ (by first | omega | (simp; done) | (simp; omega)) _ | refine bel_of ?_ (by assumption)))⟩
theorem hdB_nums (l : List Nat) (h : l.length = 13) : (hdB l).r = l[12] := by
  obtain ⟨a0, a1, a2, a3, a4, a5, a6, a7, a8, a9, b0, b1, b2, rfl⟩ := len13 h
  rw [hdB_is]; simp
set_option maxHeartbeats 2000000 in
theorem runpC (l : List Nat) (v : Value) (w : World) (hs : SrcB w v l) (hl : l.length = 13) (hbd : BdB l) :
    Calls Try.prog 11 #[v] w fun e w' => e = .returned (.tuple #[.agg #[.int .u32 ((hdB l).s : Int), .int .u32 ((hdB l).d : Int), .int .u16 ((hdB l).p : Int), .int .u16 ((hdB l).q : Int), .int .u8 ((hdB l).r : Int)], .int .i64 0]) ∧ Below w.heap.size w w' := by
  obtain ⟨ad, cap, rfl, hcap, hat⟩ := hs
  obtain ⟨g, off, rfl, hcell⟩ := hat (by omega)
  have ho := okH_hdB hl hbd
  have hr := hdB_nums l hl
  have hbt : ∀ a m, BdB ((l.drop a).take m) := fun a m x hx => hbd x (List.mem_of_mem_drop (List.mem_of_mem_take hx))
  have n1 : num (l.take 4) = (hdB l).s := rfl
  have n2 : num ((l.drop 4).take 4) = (hdB l).d := rfl
  have n3 : num ((l.drop 8).take 2) = (hdB l).p := rfl
  have n4 : num ((l.drop 10).take 2) = (hdB l).q := rfl
  have hg : g < w.heap.size := World.block_lt_of_cell? _ _ (hcell 0 (by omega))
  have x12 : w.cell? ⟨g, off + 12, none⟩ = some (.int .u8 ((hdB l).r : Int)) := by rw [hr]; exact hcell 12 (by omega)
  have hlI : (l.length : Int) = 13 := by omega
  generalize hdB l = H at *
  obtain ⟨o1, o2, o3, o4, o5⟩ := ho
  have lo1 : ∀ W, Below w.heap.size w W → Calls Try.prog 28 #[.slice (some ⟨g, off, none⟩) 4 cap] W fun e w' => e = .returned (.int .u64 (H.s : Int)) ∧ w' = W := fun W hW => by
    have hp := SrcB.part (w := W) (l := l) (g := g) (off := off) (n := 4) (a := 0) (m := 4) (c := cap) (fun k hk => (hW.cell (show g < _ from hg)).trans (hcell k hk)) (by omega) rfl (by omega)
    have := lowT _ _ W hp (by rw [List.length_take]; omega) (hbt 0 4)
    rw [show (l.drop 0).take 4 = l.take 4 from rfl, n1] at this
    exact this
  have lo2 : ∀ (W : World) (a m c : Nat), Below w.heap.size w W → a + m ≤ 13 → m ≤ 4 → m ≤ c → Calls Try.prog 28 #[.slice (some ⟨g, off + a, none⟩) m c] W fun e w' => e = .returned (.int .u64 (num ((l.drop a).take m) : Int)) ∧ w' = W := fun W a m c hW h1 h2 h3 => by
    have hp := SrcB.part (w := W) (l := l) (g := g) (off := off) (n := m) (a := a) (m := m) (c := c) (fun k hk => (hW.cell (show g < _ from hg)).trans (hcell k hk)) (by omega) rfl h3
    exact lowT _ _ W hp (by rw [List.length_take]; omega) (hbt a m)
  have z1 : (H.s : Int) < 4294967296 := by omega
  have z2 : (H.d : Int) < 4294967296 := by omega
  have z3 : (H.p : Int) < 65536 := by omega
  have z4 : (H.q : Int) < 65536 := by omega
  have z5 : (H.r : Int) < 256 := by omega
  have ws : IntKind.u32.wrap (H.s : Int) = (H.s : Int) := by simp [IntKind.wrap, IntKind.signed, IntKind.bits]; omega
  have wd : IntKind.u32.wrap (H.d : Int) = (H.d : Int) := by simp [IntKind.wrap, IntKind.signed, IntKind.bits]; omega
  have wp : IntKind.u16.wrap (H.p : Int) = (H.p : Int) := by simp [IntKind.wrap, IntKind.signed, IntKind.bits]; omega
  have wq : IntKind.u16.wrap (H.q : Int) = (H.q : Int) := by simp [IntKind.wrap, IntKind.signed, IntKind.bits]; omega
  have HC : Hid (∀ k (hk : k < l.length), w.cell? ⟨g, off + k, none⟩ = some (.int .u8 ((l[k]'hk : Nat) : Int))) := hcell
  clear hat hcell hr hbt n1 hbd
  have hc13 : (13 : Int) ≤ (cap : Int) := by omega
  have hc13' : 13 ≤ cap := by omega
  have hc4 : (4 : Int) ≤ (cap : Int) := by omega
  have hd4 : ¬ cap = 4 := by omega
  have he4 : ¬ cap - 4 = 0 := by omega
  have hc8 : (8 : Int) ≤ (cap : Int) := by omega
  have hd8 : ¬ cap = 8 := by omega
  have he8 : ¬ cap - 8 = 0 := by omega
  have hc10 : (10 : Int) ≤ (cap : Int) := by omega
  have hd10 : ¬ cap = 10 := by omega
  have he10 : ¬ cap - 10 = 0 := by omega
  have hc12 : (12 : Int) ≤ (cap : Int) := by omega
  have hd12 : ¬ cap = 12 := by omega
  have he12 : ¬ cap - 12 = 0 := by omega
  go_enter Try.func11, Try.ntmps11
  go_wp2
  go_region_held3 (fun w' => Below w.heap.size w w' ∧ w'.cell? ⟨g, off + 12, none⟩ = some (.int .u8 (H.r : Int)) ∧ (∀ i, w'.frozen? ⟨w.heap.size, i, none⟩ = false) ∧ (w'.cell? ⟨w.heap.size, 0, none⟩).isSome = true ∧ (w'.cell? ⟨w.heap.size, 1, none⟩).isSome = true ∧ (w'.cell? ⟨w.heap.size, 2, none⟩).isSome = true ∧ (w'.cell? ⟨w.heap.size, 3, none⟩).isSome = true ∧ (w'.cell? ⟨w.heap.size, 4, none⟩).isSome = true) (refine ⟨?_, ?_⟩ <;> first | assumption | ((repeat (first | assumption | exact Below.refl _ _ | refine Below.drew ?_ | refine bel_drewN ?_ _ | refine Below.setCell ?_ (by first | omega | (simp; done) | (simp; omega)) _ | refine Below.alloc ?_ (by first | omega | (simp; done) | (simp; omega)) _ | refine bel_of ?_ (by assumption))); done) | go_keep) (first | (go_at_call_of 28 (Value.slice (some ⟨g, off, none⟩) 4 cap); refine (lo1 _ (by first | assumption | exact (‹Below w.heap.size w _ ∧ _›).1 | ((repeat (first | assumption | exact Below.refl _ _ | refine Below.drew ?_ | refine bel_drewN ?_ _ | refine Below.setCell ?_ (by first | omega | (simp; done) | (simp; omega)) _ | refine Below.alloc ?_ (by first | omega | (simp; done) | (simp; omega)) _ | refine bel_of ?_ (by assumption))); done))).mono ?_; rintro e w' ⟨rfl, hw⟩; obtain rfl := hw.symm; clear hw) | (go_at_call 28; refine (lo2 _ _ _ _ (by first | assumption | exact (‹Below w.heap.size w _ ∧ _›).1 | ((repeat (first | assumption | exact Below.refl _ _ | refine Below.drew ?_ | refine bel_drewN ?_ _ | refine Below.setCell ?_ (by first | omega | (simp; done) | (simp; omega)) _ | refine Below.alloc ?_ (by first | omega | (simp; done) | (simp; omega)) _ | refine bel_of ?_ (by assumption))); done)) (by omega) (by omega) (by omega)).mono ?_; rintro e w' ⟨rfl, hw⟩; obtain rfl := hw.symm; clear hw; simp only [n2, n3, n4]))
  go_wp2
  exact bodyPost_ret (v := .tuple #[.agg #[.int .u32 (H.s : Int), .int .u32 (H.d : Int), .int .u16 (H.p : Int), .int .u16 (H.q : Int), .int .u8 (H.r : Int)], .int .i64 0]) (by simp [results, Try.results11, go_sem, *]) rfl ⟨rfl, by have := (‹Below w.heap.size w _ ∧ _›).1; (repeat (first | assumption | exact Below.refl _ _ | refine Below.drew ?_ | refine bel_drewN ?_ _ | refine Below.setCell ?_ (by first | omega | (simp; done) | (simp; omega)) _ | refine Below.alloc ?_ (by first | omega | (simp; done) | (simp; omega)) _ | refine bel_of ?_ (by assumption)))⟩
theorem rbitT (l : List Nat) (v : Value) (i : Nat) (w : World) (hs : SrcB w v l) (hi : i < 8 * l.length) (hl : l.length ≤ 100) (hbd : BdB l) :
    Calls Try.prog 33 #[v, .int .i64 (i : Int)] w fun e w' => e = .returned (.int .i64 (bitL l i : Int)) ∧ w' = w := by
  obtain ⟨ad, cap, rfl, hcap, hat⟩ := hs
  obtain ⟨g, off, rfl, hcell⟩ := hat (by omega)
  have x0 := hcell (i / 8) (by omega)
  have hg : l.getD (i / 8) 0 = l[i / 8] := by rw [List.getD_eq_getElem?_getD, List.getElem?_eq_getElem (by omega)]; rfl
  have hb6 := hbd l[i / 8] (List.getElem_mem _)
  unfold bitL
  rw [hg]
  generalize l[i / 8] = t at *
  clear hcell hat hg hbd
  have hi0 : (0 : Int) ≤ (i : Int) := by omega
  go_enter Try.func33, Try.ntmps33
  go_wp2
  go_ret
  refine ⟨ret_int ?_, rfl⟩
  have e : (t : Int) / 2 ^ (7 - i % 8) = ((t / 2 ^ (7 - i % 8) : Nat) : Int) := by simp
  rw [e, Int.tmod_eq_emod_of_nonneg (Int.natCast_nonneg _)]
  simp
theorem rBitN (h : Hd) (i : Int) (w : World) (hi : i < 0 ∨ 103 < i) :
    Calls Try.prog 16 #[.agg #[.int .u32 (h.s : Int), .int .u32 (h.d : Int), .int .u16 (h.p : Int), .int .u16 (h.q : Int), .int .u8 (h.r : Int)], .int .i64 i] w fun e w' => e = .returned (.tuple #[.int .i64 0, .int .i64 1]) ∧ Below w.heap.size w w' := by
  by_cases h1 : i < 0
  · have d1 : decide (i < 0) = true := decide_eq_true h1
    clear hi
    go_enter Try.func16, Try.ntmps16
    go_wp2
    go_ret2
    exact ⟨rfl, by (repeat (first | assumption | exact Below.refl _ _ | refine Below.drew ?_ | refine bel_drewN ?_ _ | refine Below.setCell ?_ (by first | omega | (simp; done) | (simp; omega)) _ | refine Below.alloc ?_ (by first | omega | (simp; done) | (simp; omega)) _ | refine bel_of ?_ (by assumption)))⟩
  · have d1 : decide (i < 0) = false := decide_eq_false h1
    have d2 : decide (103 < i) = true := decide_eq_true (by omega)
    clear hi
    go_enter Try.func16, Try.ntmps16
    go_wp2
    go_ret2
    exact ⟨rfl, by (repeat (first | assumption | exact Below.refl _ _ | refine Below.drew ?_ | refine bel_drewN ?_ _ | refine Below.setCell ?_ (by first | omega | (simp; done) | (simp; omega)) _ | refine Below.alloc ?_ (by first | omega | (simp; done) | (simp; omega)) _ | refine bel_of ?_ (by assumption)))⟩
theorem rBitC (h : Hd) (i : Nat) (w : World) (o : OkH h) (hi : i < 104) :
    Calls Try.prog 16 #[.agg #[.int .u32 (h.s : Int), .int .u32 (h.d : Int), .int .u16 (h.p : Int), .int .u16 (h.q : Int), .int .u8 (h.r : Int)], .int .i64 (i : Int)] w fun e w' => e = .returned (.tuple #[.int .i64 (bitH h i : Int), .int .i64 0]) ∧ Below w.heap.size w w' := by
  have d1 : decide ((i : Int) < 0) = false := decide_eq_false (by omega)
  have d2 : decide (103 < (i : Int)) = false := decide_eq_false (by omega)
  go_enter Try.func16, Try.ntmps16
  go_wp2_with (fail)
  refine (rpackT h _ o).mono ?_
  rintro e w1 ⟨v1, rfl, r1, b1⟩
  have hb := rbitT (bytesH h) v1 i w1 r1.src (by rw [bytesH_length]; omega) (by rw [bytesH_length]; omega) (bytesH_bd h)
  have HB : Hid (Below w.heap.size w w1) := ((Below.refl _ _).alloc (Nat.le_refl _) _).trans (b1.mono (by simp))
  obtain ⟨ad, cap, rfl, _, _⟩ := r1.form
  clear r1 b1
  go_wp2_with (fail)
  refine hb.mono ?_
  rintro e w' ⟨rfl, hw⟩
  obtain rfl := hw.symm
  clear hw
  go_wp2
  go_ret2
  exact ⟨rfl, HB.out⟩
theorem rTurnN (h : Hd) (i : Int) (w : World) (hi : i < 0 ∨ 103 < i) :
    Calls Try.prog 18 #[.agg #[.int .u32 (h.s : Int), .int .u32 (h.d : Int), .int .u16 (h.p : Int), .int .u16 (h.q : Int), .int .u8 (h.r : Int)], .int .i64 i] w fun e w' => e = .returned (.tuple #[.agg #[.int .u32 (h0.s : Int), .int .u32 (h0.d : Int), .int .u16 (h0.p : Int), .int .u16 (h0.q : Int), .int .u8 (h0.r : Int)], .int .i64 1]) ∧ Below w.heap.size w w' := by
  by_cases h1 : i < 0
  · have d1 : decide (i < 0) = true := decide_eq_true h1
    clear hi
    go_enter Try.func18, Try.ntmps18
    go_wp2
    exact bodyPost_ret (v := .tuple #[.agg #[.int .u32 (h0.s : Int), .int .u32 (h0.d : Int), .int .u16 (h0.p : Int), .int .u16 (h0.q : Int), .int .u8 (h0.r : Int)], .int .i64 1]) (by simp [results, Try.results18, go_sem, h0]) rfl ⟨rfl, by (repeat (first | assumption | exact Below.refl _ _ | refine Below.drew ?_ | refine bel_drewN ?_ _ | refine Below.setCell ?_ (by first | omega | (simp; done) | (simp; omega)) _ | refine Below.alloc ?_ (by first | omega | (simp; done) | (simp; omega)) _ | refine bel_of ?_ (by assumption)))⟩
  · have d1 : decide (i < 0) = false := decide_eq_false h1
    have d2 : decide (103 < i) = true := decide_eq_true (by omega)
    clear hi
    go_enter Try.func18, Try.ntmps18
    go_wp2
    exact bodyPost_ret (v := .tuple #[.agg #[.int .u32 (h0.s : Int), .int .u32 (h0.d : Int), .int .u16 (h0.p : Int), .int .u16 (h0.q : Int), .int .u8 (h0.r : Int)], .int .i64 1]) (by simp [results, Try.results18, go_sem, h0]) rfl ⟨rfl, by (repeat (first | assumption | exact Below.refl _ _ | refine Below.drew ?_ | refine bel_drewN ?_ _ | refine Below.setCell ?_ (by first | omega | (simp; done) | (simp; omega)) _ | refine Below.alloc ?_ (by first | omega | (simp; done) | (simp; omega)) _ | refine bel_of ?_ (by assumption)))⟩
end Go.Proofs.Ytpgadbiohmofeaa
