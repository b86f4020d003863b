/-
  The document's Find and Get.
-/
import Derived.Test.YthfjdoenofkghaaHiA
import Derived.Test.YthfjdoenofkghaaHdRc
namespace Go.Proofs.Ythfjdoenofkghaa
open Go.RowKit
set_option linter.unusedVariables false
set_option linter.unusedSimpArgs false

theorem cell_kin {w w1 : World} {p : Addr} {v : Value} (hb : Below w.heap.size w w1) (h : w.cell? p = some v) : w1.cell? p = some v := by
  rw [hb.cell (World.block_lt_of_cell? _ _ h)]; exact h
set_option maxRecDepth 20000 in
set_option maxHeartbeats 2000000 in
theorem rfindY (u : Value) (l : List Ey) (k : Hd) (w : World) (hs : SrcY w u l) (hok : ∀ x ∈ l, OkH x.k) (hl : l.length ≤ 200000) (o : OkH k) :
    Calls Try.prog 27 #[u, .agg #[.int .u32 (k.s : Int), .int .u32 (k.d : Int), .int .u16 (k.p : Int), .int .u16 (k.q : Int), .int .u8 (k.r : Int)]] w fun e w' => e = .returned (.tuple #[.int .i64 (plY l k : Int), .bool (isY l k)]) ∧ Below w.heap.size w w' := by
  have HS : Hid (SrcY w u l) := hs
  obtain ⟨ad, cap, rfl, hcap, hat⟩ := hs
  clear hat
  obtain ⟨n, hn⟩ : ∃ n, n = l.length := ⟨_, rfl⟩
  have Hn : Hid (n = l.length) := hn
  rw [← hn] at hl hcap HS ⊢
  clear hn
  have hn0 : (n : Int) ≤ 200000 := by omega
  have HB1 : Hid (Below w.heap.size w (w.alloc (.cells #[.int .u32 (k.s : Int), .int .u32 (k.d : Int), .int .u16 (k.p : Int), .int .u16 (k.q : Int), .int .u8 (k.r : Int)] 36))) := (Below.refl _ _).alloc (Nat.le_refl _) _
  have HK1 : Hid ((w.alloc (.cells #[.int .u32 (k.s : Int), .int .u32 (k.d : Int), .int .u16 (k.p : Int), .int .u16 (k.q : Int), .int .u8 (k.r : Int)] 36)).heap[w.heap.size]? = some (.cells #[.int .u32 (k.s : Int), .int .u32 (k.d : Int), .int .u16 (k.p : Int), .int .u16 (k.q : Int), .int .u8 (k.r : Int)] 36)) := blk_new w _
  go_enter Try.func27, Try.ntmps27
  go_upto_region 1 with (fail)
  generalize w.alloc (.cells #[.int .u32 (k.s : Int), .int .u32 (k.d : Int), .int .u16 (k.p : Int), .int .u16 (k.q : Int), .int .u8 (k.r : Int)] 36) = W1 at *
  obtain ⟨wn, hwn⟩ : ∃ wn, wn = w.heap.size := ⟨_, rfl⟩
  have Hw : Hid (wn = w.heap.size) := hwn
  rw [← hwn] at HB1 HK1 ⊢
  clear hwn
  go_wp2_with (fail)
  go_loopw [6] (fun vi wr => ∃ i : Nat, i ≤ n ∧ vi = .int .i64 (i : Int) ∧ Hid (Below wn w wr) ∧ Hid (wr.heap[wn]? = some (.cells #[.int .u32 (k.s : Int), .int .u32 (k.d : Int), .int .u16 (k.p : Int), .int .u16 (k.q : Int), .int .u8 (k.r : Int)] 36)) ∧ Hid (∀ j (h : j < l.length), j < i → val (l[j]'h).k < val k)) (fun vi _ => n - (intOf vi).toNat)
  case atStart => exact ⟨0, Nat.zero_le _, rfl, HB1.out, HK1.out, fun j h hj => absurd hj (Nat.not_lt_zero _)⟩
  case round =>
    obtain ⟨i, hi, rfl, HB, HKb, HK⟩ := hrel
    clear HB1 HK1
    by_cases hlt : i < n
    · have hil : i < l.length := by rw [← Hn.out]; exact hlt
      obtain ⟨q, hq⟩ : ∃ q, q = l[i]'hil := ⟨_, rfl⟩
      have HQ : Hid (l[i]? = some q) := by show _ = _; rw [List.getElem?_eq_getElem hil, hq]
      have HQ2 : Hid (q = l[i]'hil) := hq
      have hoq : OkH q.k := hok q (by rw [hq]; exact List.getElem_mem _)
      obtain ⟨g, off, rfl, hg, x0, x1, x2, x3, x4, x5⟩ := srcY_at (HS.out.keep (by have := HB.out; rw [Hw.out] at this; exact this)) HQ.out
      have hlt' : (i : Int) < (n : Int) := by omega
      have HC : Hid (∀ W, Calls Try.prog 32 #[.agg #[.int .u32 ((q.k).s : Int), .int .u32 ((q.k).d : Int), .int .u16 ((q.k).p : Int), .int .u16 ((q.k).q : Int), .int .u8 ((q.k).r : Int)], .agg #[.int .u32 (k.s : Int), .int .u32 (k.d : Int), .int .u16 (k.p : Int), .int .u16 (k.q : Int), .int .u8 (k.r : Int)]] W fun e w' => e = .returned (.int .i64 (cmpH q.k k)) ∧ Below W.heap.size W w') := fun W => rCmpT q.k k W hoq o
      obtain ⟨k0, k1, k2, k3, k4⟩ := blk5 HKb.out
      have hbs := HB.out.size
      clear hq hoq x5
      have kx0 : ∀ y : Kin wr, y.val.cell? ⟨g, off + i * 6, none⟩ = _ := fun y => cell_kin y.is x0
      have kx1 : ∀ y : Kin wr, y.val.cell? ⟨g, off + i * 6 + 1, none⟩ = _ := fun y => cell_kin y.is x1
      have kx2 : ∀ y : Kin wr, y.val.cell? ⟨g, off + i * 6 + 2, none⟩ = _ := fun y => cell_kin y.is x2
      have kx3 : ∀ y : Kin wr, y.val.cell? ⟨g, off + i * 6 + 3, none⟩ = _ := fun y => cell_kin y.is x3
      have kx4 : ∀ y : Kin wr, y.val.cell? ⟨g, off + i * 6 + 4, none⟩ = _ := fun y => cell_kin y.is x4
      have kk0 : ∀ y : Kin wr, y.val.cell? ⟨wn, 0, none⟩ = _ := fun y => cell_kin y.is k0
      have kk1 : ∀ y : Kin wr, y.val.cell? ⟨wn, 1, none⟩ = _ := fun y => cell_kin y.is k1
      have kk2 : ∀ y : Kin wr, y.val.cell? ⟨wn, 2, none⟩ = _ := fun y => cell_kin y.is k2
      have kk3 : ∀ y : Kin wr, y.val.cell? ⟨wn, 3, none⟩ = _ := fun y => cell_kin y.is k3
      have kk4 : ∀ y : Kin wr, y.val.cell? ⟨wn, 4, none⟩ = _ := fun y => cell_kin y.is k4
      have kne : Nonempty (Kin wr) := ⟨⟨_, Below.refl _ _⟩⟩
      clear k0 k1 k2 k3 k4 x0 x1 x2 x3 x4
      go_upto_region 4 with (fail)
      refine wp_region_kin wr (Below.refl _ _) (by kernel_rfl) (by kernel_rfl) ?_
      repeat (go_big_quiet_step (first | (go_at_call 32; exact kin_call (HC.out _))))
      refine wpQuiet_nil ?_
      rintro w5 ⟨⟨xq, hxq⟩, hyq⟩
      have hb5 : Below wr.heap.size wr w5 := by rw [hyq]; exact hxq
      have HB5 : Hid (Below wn w w5) := HB.out.trans (hb5.mono (by rw [Hw.out]; exact HB.out.size))
      have HK5 : Hid (w5.heap[wn]? = some (.cells #[.int .u32 (k.s : Int), .int .u32 (k.d : Int), .int .u16 (k.p : Int), .int .u16 (k.q : Int), .int .u8 (k.r : Int)] 36)) := blk_on HKb.out hb5
      clear hyq hxq xq hb5 kne kx0 kx1 kx2 kx3 kx4 kk0 kk1 kk2 kk3 kk4 HC HB HKb
      by_cases c1 : val q.k < val k
      · have hc : cmpH q.k k = -1 := by unfold cmpH; rw [if_pos c1]
        rw [hc]
        have HK2 : Hid (∀ j (h : j < l.length), j < i + 1 → val (l[j]'h).k < val k) := fun j h hj => by
          rcases Nat.lt_or_eq_of_le (Nat.le_of_lt_succ hj) with h' | h'
          · exact HK.out j h h'
          · subst h'; rw [← HQ2.out]; exact c1
        clear hc HK
        go_wp2_with (fail)
        go_roundw
        case rel => exact ⟨i + 1, by omega, by go_num, HB5.out, HK5.out, HK2.out⟩
        case measure => simp [intOf]; omega
      · have h1 : plY l k = i := plY_is (Nat.le_of_lt hil) HK.out (fun h => by rw [← HQ2.out]; exact c1)
        by_cases c2 : val k < val q.k
        · have hc : cmpH q.k k = 1 := by unfold cmpH; rw [if_neg c1, if_pos c2]
          have HV : Hid (plY l k = i ∧ isY l k = false) := ⟨h1, by unfold isY; rw [h1, HQ.out]; simp; omega⟩
          rw [hc]
          clear h1 hc HK
          go_wp2_with (fail)
          refine bodyPost_ret (v := .tuple #[.int .i64 (i : Int), .bool false]) (by simp [results, Try.results27, go_sem]) rfl ?_
          exact ⟨by rw [HV.out.1, HV.out.2], by rw [← Hw.out]; exact HB5.out⟩
        · have hc : cmpH q.k k = 0 := by unfold cmpH; rw [if_neg c1, if_neg c2]
          have HV : Hid (plY l k = i ∧ isY l k = true) := ⟨h1, by unfold isY; rw [h1, HQ.out]; simp; omega⟩
          rw [hc]
          clear h1 hc HK
          go_wp2_with (fail)
          refine bodyPost_ret (v := .tuple #[.int .i64 (i : Int), .bool true]) (by simp [results, Try.results27, go_sem]) rfl ?_
          exact ⟨by rw [HV.out.1, HV.out.2], by rw [← Hw.out]; exact HB5.out⟩
    · obtain rfl : i = n := by omega
      have HV : Hid (plY l k = i ∧ isY l k = false) := by
        have h1 : plY l k = i := plY_is (by rw [← Hn.out]; exact Nat.le_refl _) HK.out (fun h => by rw [← Hn.out] at h; omega)
        refine ⟨h1, ?_⟩
        unfold isY
        rw [h1, List.getElem?_eq_none (by rw [← Hn.out]; exact Nat.le_refl _)]
      clear HK
      go_wp2_with (fail)
      refine bodyPost_ret (v := .tuple #[.int .i64 (i : Int), .bool false]) (by simp [results, Try.results27, go_sem]) rfl ?_
      exact ⟨by rw [HV.out.1, HV.out.2], by rw [← Hw.out]; exact HB.out⟩

end Go.Proofs.Ythfjdoenofkghaa
