/-
  (*Table).Move. Written by tools/mkTbM.py.
-/
import Derived.Test.YtlghbcdahnjcpaaTbI
namespace Go.Proofs.Ytlghbcdahnjcpaa
open Go.RowKit
set_option linter.unusedVariables false
set_option linter.unusedSimpArgs false

theorem mov_listA (l : List Ru) (k q : Nat) (hkq : k < q) (hq : q < l.length) (R : Ru) (X : List Ru) (hX : X = l.take k ++ ((l.take (q + 1)).drop (k + 1)).take (l.length - k) ++ l.drop (k + (((l.take (q + 1)).drop (k + 1)).take (l.length - k)).length)) :
    X.take q ++ [R] ++ X.drop (q + [R].length) = putL (outL l k) q R := by
  have hD : ((l.take (q + 1)).drop (k + 1)).length = q - k := by simp; omega
  have e1 : ((l.take (q + 1)).drop (k + 1)).take (l.length - k) = (l.take (q + 1)).drop (k + 1) := List.take_of_length_le (by omega)
  rw [e1, hD, show k + (q - k) = q by omega] at hX
  have hL : (l.take k ++ (l.take (q + 1)).drop (k + 1)).length = q := by rw [List.length_append, hD, List.length_take]; omega
  have t1 : X.take q = l.take k ++ (l.take (q + 1)).drop (k + 1) := by rw [hX, List.take_append_of_le_length (by omega), List.take_of_length_le (by omega)]
  have t2 : X.drop (q + [R].length) = l.drop (q + 1) := by
    show X.drop (q + 1) = _
    rw [hX, List.drop_append, List.drop_eq_nil_of_le (by omega), List.nil_append, hL, List.drop_drop]
    congr 1
    omega
  rw [t1, t2]
  unfold putL outL
  have hk : (l.take k).length = k := by rw [List.length_take]; omega
  have hdn : (l.take k).drop q = [] := List.drop_eq_nil_of_le (by omega)
  rw [List.take_append, List.take_of_length_le (l := l.take k) (by omega), List.drop_append, hdn, List.nil_append, hk, List.drop_drop, List.drop_take]
  rw [show q + 1 - (k + 1) = q - k by omega, show k + 1 + (q - k) = q + 1 by omega]
  simp
theorem mov_listB (l : List Ru) (k q : Nat) (hkq : q ≤ k) (hk : k < l.length) (R : Ru) (X : List Ru) (hX : X = l.take (q + 1) ++ ((l.take k).drop q).take (l.length - (q + 1)) ++ l.drop (q + 1 + (((l.take k).drop q).take (l.length - (q + 1))).length)) :
    X.take q ++ [R] ++ X.drop (q + [R].length) = putL (outL l k) q R := by
  have hD : ((l.take k).drop q).length = k - q := by simp; omega
  have e1 : ((l.take k).drop q).take (l.length - (q + 1)) = (l.take k).drop q := List.take_of_length_le (by omega)
  rw [e1, hD, show q + 1 + (k - q) = k + 1 by omega, List.append_assoc] at hX
  have hL : (l.take (q + 1)).length = q + 1 := by rw [List.length_take]; omega
  have t1 : X.take q = l.take q := by rw [hX, List.take_append_of_le_length (by omega), List.take_take, Nat.min_eq_left (by omega)]
  have t2 : X.drop (q + [R].length) = (l.take k).drop q ++ l.drop (k + 1) := by
    show X.drop (q + 1) = _
    rw [hX, List.drop_append_of_le_length (by omega), List.drop_eq_nil_of_le (by omega), List.nil_append]
  rw [t1, t2]
  unfold putL outL
  have hkl : (l.take k).length = k := by rw [List.length_take]; omega
  rw [List.take_append_of_le_length (by omega), List.take_take, Nat.min_eq_left (by omega), List.drop_append_of_le_length (by omega)]
  simp
set_option maxRecDepth 20000 in
set_option maxHeartbeats 8000000 in
theorem moveA (t : Nat) (v : Value) (M A : Int) (l : List Ru) (x : Int) (k q : Nat) (w : World) (h : Tab w t v M A l) (hl : l.length ≤ 200000) (hf : fnd l x = (k : Int)) (hq : q < l.length) (hkq : k < q) (R : Ru) (hk : k < l.length) (hR : R = l[k]'hk) :
    Calls Try.prog 28 #[.pointer (some ⟨t, 0, none⟩), .int .i64 x, .int .i64 (q : Int)] w fun e w' => e = .returned (.int .i64 0) ∧ ∃ v', Tab w' t v' M A (putL (outL l k) q R) ∧ Moved w w' t v v' := by
  have hF := findC t v M A l x w h hl
  rw [hf] at hF
  have hA := fun W => amongC (q : Int) 0 ((l.length : Int) - 1) W
  rw [show amg (q : Int) 0 ((l.length : Int) - 1) = true from amg_iff.2 (by omega)] at hA
  have HI : Hid (∀ X, X = l.take k ++ ((l.take (q + 1)).drop (k + 1)).take (l.length - k) ++ l.drop (k + (((l.take (q + 1)).drop (k + 1)).take (l.length - k)).length) → X.take q ++ [R] ++ X.drop (q + [R].length) = putL (outL l k) q R) := fun X hX => mov_listA l k q hkq hq R X hX
  have hlt := h.lt
  obtain ⟨ad, cap, rfl, hcap, hat⟩ := h.2.1.form
  obtain ⟨g, rfl, _, hgl, hc⟩ := hat (by omega)
  have HC : Hid (∀ W, Below w.heap.size w W → ∀ j, j < 12 → W.cell? ⟨g, k * 12 + j, none⟩ = (encU R)[j]?) := fun W hb j hj => by
    have h3 := hc k hk j hj
    rw [hb.cell (p := ⟨g, k * 12 + j, none⟩) hgl, h3, hR]
  clear hc hat
  have HT : Hid (Tab w t (.slice (some ⟨g, 0, none⟩) l.length cap) M A l) := h
  have hgt : t ≠ g := fun e => h.2.2 (by simp [Value.ownBlock, e])
  obtain ⟨n, hn⟩ : ∃ n, n = l.length := ⟨_, rfl⟩
  have Hn : Hid (n = l.length) := hn
  rw [← hn] at hl hcap HT HI hA hq ⊢
  have hkn : k < n := by rw [hn]; exact hk
  clear h hn hf hR hk
  have hk0 : (0 : Int) ≤ (k : Int) := by omega
  have hn0 : (n : Int) ≤ 200000 := by omega
  have hkn0 : (k : Int) < (n : Int) := by omega
  have hwk : IntKind.i64.wrap ((k : Int) + 1) = (k : Int) + 1 := by rw [IntKind.wrap_i64]; omega
  have hwq : IntKind.i64.wrap ((q : Int) + 1) = (q : Int) + 1 := by rw [IntKind.wrap_i64]; omega
  have hif : (k : Int) < (q : Int) := by omega
  go_enter Try.func28, Try.ntmps28
  go_wp2_with (fail)
  refine hF.mono ?_
  rintro e W1 ⟨rfl, hb1⟩
  have HT1 : Hid (Tab W1 t (.slice (some ⟨g, 0, none⟩) n cap) M A l) := HT.out.on hb1
  have HB1 : Hid (Below w.heap.size w W1) := hb1
  have hc := HC.out W1 hb1
  have x0 : W1.cell? ⟨g, k * 12, none⟩ = some (.int .i64 R.i) := hc 0 (by decide)
  have x1 : W1.cell? ⟨g, k * 12 + 1, none⟩ = some (.int .u32 (R.s : Int)) := hc 1 (by decide)
  have x2 : W1.cell? ⟨g, k * 12 + 2, none⟩ = some (.int .i64 R.sl) := hc 2 (by decide)
  have x3 : W1.cell? ⟨g, k * 12 + 3, none⟩ = some (.int .u32 (R.d : Int)) := hc 3 (by decide)
  have x4 : W1.cell? ⟨g, k * 12 + 4, none⟩ = some (.int .i64 R.dl) := hc 4 (by decide)
  have x5 : W1.cell? ⟨g, k * 12 + 5, none⟩ = some (.int .u16 (R.p.1 : Int)) := hc 5 (by decide)
  have x6 : W1.cell? ⟨g, k * 12 + 6, none⟩ = some (.int .u16 (R.p.2 : Int)) := hc 6 (by decide)
  have x7 : W1.cell? ⟨g, k * 12 + 7, none⟩ = some (.int .u16 (R.q.1 : Int)) := hc 7 (by decide)
  have x8 : W1.cell? ⟨g, k * 12 + 8, none⟩ = some (.int .u16 (R.q.2 : Int)) := hc 8 (by decide)
  have x9 : W1.cell? ⟨g, k * 12 + 9, none⟩ = some (.int .u8 (R.m.1 : Int)) := hc 9 (by decide)
  have x10 : W1.cell? ⟨g, k * 12 + 10, none⟩ = some (.int .u8 (R.m.2 : Int)) := hc 10 (by decide)
  have x11 : W1.cell? ⟨g, k * 12 + 11, none⟩ = some (.int .i64 R.act) := hc 11 (by decide)
  clear hb1 hF HT HC hc
  obtain ⟨c0, c1, c2⟩ := blk3 HT1.out.1
  go_wp2_with (fail)
  refine (hA _).mono ?_
  rintro e w1 ⟨rfl, hw⟩
  obtain rfl := hw.symm
  clear hw hA
  have hZZ := blk_new W1 (.cells #[.int .i64 0, .int .u32 0, .int .i64 0, .int .u32 0, .int .i64 0, .int .u16 0, .int .u16 0, .int .u16 0, .int .u16 0, .int .u8 0, .int .u8 0, .int .i64 0] 43)
  go_wp2_with (refine wpList_store_blk rfl 43 (.tmp 8) (.tmp 31) rfl W1.heap.size 0 #[.int .i64 R.i, .int .u32 (R.s : Int), .int .i64 R.sl, .int .u32 (R.d : Int), .int .i64 R.dl, .int .u16 (R.p.1 : Int), .int .u16 (R.p.2 : Int), .int .u16 (R.q.1 : Int), .int .u16 (R.q.2 : Int), .int .u8 (R.m.1 : Int), .int .u8 (R.m.2 : Int), .int .i64 R.act] #[.int .i64 R.i, .int .u32 (R.s : Int), .int .i64 R.sl, .int .u32 (R.d : Int), .int .i64 R.dl, .int .u16 (R.p.1 : Int), .int .u16 (R.p.2 : Int), .int .u16 (R.q.1 : Int), .int .u16 (R.q.2 : Int), .int .u8 (R.m.1 : Int), .int .u8 (R.m.2 : Int), .int .i64 R.act] rfl rfl 43 _ hZZ (Nat.le_of_ble_eq_true rfl) rfl (by kernel_rfl) rfl ?_; intro W2 hw8 how8)
  go_upto_region 10 with (fail)
  have hbl : Below W1.heap.size W1 W2 := ((Below.refl _ _).alloc (Nat.le_refl _) _).trans (how8.below (Nat.le_refl _))
  have HT2 : Hid (Tab W2 t (.slice (some ⟨g, 0, none⟩) n cap) M A l) := HT1.out.on hbl
  have HB2 : Hid (Below w.heap.size w W2) := HB1.out.trans (hbl.mono HB1.out.size)
  have hgR : W1.heap.size ≠ g := by have := HT1.out.own (k := g) rfl; omega
  have htR : t ≠ W1.heap.size := by have := HT1.out.lt; omega
  have HR2 : Hid (W2.heap[W1.heap.size]? = some (.cells #[.int .i64 R.i, .int .u32 (R.s : Int), .int .i64 R.sl, .int .u32 (R.d : Int), .int .i64 R.dl, .int .u16 (R.p.1 : Int), .int .u16 (R.p.2 : Int), .int .u16 (R.q.1 : Int), .int .u16 (R.q.2 : Int), .int .u8 (R.m.1 : Int), .int .u8 (R.m.2 : Int), .int .i64 R.act] 43)) := hw8
  clear hbl hw8 how8 hZZ HT1 HB1 c0 c1 c2 x0 x1 x2 x3 x4 x5 x6 x7 x8 x9 x10 x11
  generalize W1.heap.size = BR at *
  clear W1
  have HSr : Hid (SrcU W2.drew (cutU (some ⟨g, 0, none⟩) (k + 1) (q + 1) cap) ((l.take (q + 1)).drop (k + 1))) := SrcU.cut (HT2.out.drew.2.1.src) (k + 1) (q + 1) (by omega) (by rw [← Hn.out]; omega)
  refine wp_region_held_drew (S := fun w' => w'.cell? ⟨t, 2, none⟩ = some (.slice (some ⟨g, 0, none⟩) n cap)) (by kernel_rfl) (blk3 HT2.out.1).2.2 (fun hS0 => ?_)
  show wpAnyH _ _ _ _ _ 16 _ _ _
  refine wpAnyH_take (i := 0) (v := .pointer (some ⟨t, 0, none⟩)) rfl (by kernel_rfl) (by kernel_rfl) (by kernel_rfl) (fun _ _ _ h => h) (.inl ⟨rfl, fun _ _ => by simp [execOp, go_sem]⟩) hS0 ?_
  simp only [List.getElem_toArray, List.getElem_cons_succ, List.getElem_cons_zero, Act.put, List.setIfInBounds_toArray, List.set_cons_zero, List.set_cons_succ]
  refine wpAnyH_take (i := 1) (v := .pointer (some ⟨t, 0, none⟩)) rfl (by kernel_rfl) (by kernel_rfl) (by kernel_rfl) (fun _ _ _ h => h) (.inl ⟨rfl, fun _ _ => by simp [execOp, go_sem]⟩) hS0 ?_
  simp only [List.getElem_toArray, List.getElem_cons_succ, List.getElem_cons_zero, Act.put, List.setIfInBounds_toArray, List.set_cons_zero, List.set_cons_succ]
  refine wpAnyH_take (i := 2) (v := .pointer (some ⟨t, 2, none⟩)) rfl (by kernel_rfl) (by kernel_rfl) (by kernel_rfl) (fun _ _ _ h => h) (.inl ⟨rfl, fun _ _ => by simp [execOp, go_sem]⟩) hS0 ?_
  simp only [List.getElem_toArray, List.getElem_cons_succ, List.getElem_cons_zero, Act.put, List.setIfInBounds_toArray, List.set_cons_zero, List.set_cons_succ]
  refine wpAnyH_take (i := 3) (v := .slice (some ⟨g, 0, none⟩) n cap) rfl (by kernel_rfl) (by kernel_rfl) (by kernel_rfl) (fun _ _ _ h => h) (.inl ⟨rfl, fun w' hw' => by have hcc := hw'; simp [execOp, go_sem, hcc]⟩) hS0 ?_
  simp only [List.getElem_toArray, List.getElem_cons_succ, List.getElem_cons_zero, Act.put, List.setIfInBounds_toArray, List.set_cons_zero, List.set_cons_succ]
  refine wpAnyH_take (i := 4) (v := .int .i64 (k : Int)) rfl (by kernel_rfl) (by kernel_rfl) (by kernel_rfl) (fun _ _ _ h => h) (.inl ⟨rfl, fun _ _ => by simp [execOp, go_sem]⟩) hS0 ?_
  simp only [List.getElem_toArray, List.getElem_cons_succ, List.getElem_cons_zero, Act.put, List.setIfInBounds_toArray, List.set_cons_zero, List.set_cons_succ]
  refine wpAnyH_take (i := 5) (v := cutU (some ⟨g, 0, none⟩) k n cap) rfl (by kernel_rfl) (by kernel_rfl) (by kernel_rfl) (fun _ _ _ h => h) (yieldsIf_slice rfl 33 (.tmp 38) (some (.tmp 39)) none none rfl _ (fun w => cut_l' w (some ⟨g, 0, none⟩) n cap (k) _ (by first | rfl | omega) (by omega))) hS0 ?_
  simp only [List.getElem_toArray, List.getElem_cons_succ, List.getElem_cons_zero, Act.put, List.setIfInBounds_toArray, List.set_cons_zero, List.set_cons_succ]
  refine wpAnyH_take (i := 6) (v := .pointer (some ⟨t, 0, none⟩)) rfl (by kernel_rfl) (by kernel_rfl) (by kernel_rfl) (fun _ _ _ h => h) (.inl ⟨rfl, fun _ _ => by simp [execOp, go_sem]⟩) hS0 ?_
  simp only [List.getElem_toArray, List.getElem_cons_succ, List.getElem_cons_zero, Act.put, List.setIfInBounds_toArray, List.set_cons_zero, List.set_cons_succ]
  refine wpAnyH_take (i := 7) (v := .pointer (some ⟨t, 0, none⟩)) rfl (by kernel_rfl) (by kernel_rfl) (by kernel_rfl) (fun _ _ _ h => h) (.inl ⟨rfl, fun _ _ => by simp [execOp, go_sem]⟩) hS0 ?_
  simp only [List.getElem_toArray, List.getElem_cons_succ, List.getElem_cons_zero, Act.put, List.setIfInBounds_toArray, List.set_cons_zero, List.set_cons_succ]
  refine wpAnyH_take (i := 8) (v := .pointer (some ⟨t, 2, none⟩)) rfl (by kernel_rfl) (by kernel_rfl) (by kernel_rfl) (fun _ _ _ h => h) (.inl ⟨rfl, fun _ _ => by simp [execOp, go_sem]⟩) hS0 ?_
  simp only [List.getElem_toArray, List.getElem_cons_succ, List.getElem_cons_zero, Act.put, List.setIfInBounds_toArray, List.set_cons_zero, List.set_cons_succ]
  refine wpAnyH_take (i := 9) (v := .slice (some ⟨g, 0, none⟩) n cap) rfl (by kernel_rfl) (by kernel_rfl) (by kernel_rfl) (fun _ _ _ h => h) (.inl ⟨rfl, fun w' hw' => by have hcc := hw'; simp [execOp, go_sem, hcc]⟩) hS0 ?_
  simp only [List.getElem_toArray, List.getElem_cons_succ, List.getElem_cons_zero, Act.put, List.setIfInBounds_toArray, List.set_cons_zero, List.set_cons_succ]
  refine wpAnyH_take (i := 10) (v := .int .i64 (k : Int)) rfl (by kernel_rfl) (by kernel_rfl) (by kernel_rfl) (fun _ _ _ h => h) (.inl ⟨rfl, fun _ _ => by simp [execOp, go_sem]⟩) hS0 ?_
  simp only [List.getElem_toArray, List.getElem_cons_succ, List.getElem_cons_zero, Act.put, List.setIfInBounds_toArray, List.set_cons_zero, List.set_cons_succ]
  refine wpAnyH_take (i := 11) (v := .int .i64 ((k : Int) + 1)) rfl (by kernel_rfl) (by kernel_rfl) (by kernel_rfl) (fun _ _ _ h => h) (.inl ⟨rfl, fun _ _ => by simp [execOp, go_sem, hwk]⟩) hS0 ?_
  simp only [List.getElem_toArray, List.getElem_cons_succ, List.getElem_cons_zero, Act.put, List.setIfInBounds_toArray, List.set_cons_zero, List.set_cons_succ]
  refine wpAnyH_take (i := 12) (v := .int .i64 (q : Int)) rfl (by kernel_rfl) (by kernel_rfl) (by kernel_rfl) (fun _ _ _ h => h) (.inl ⟨rfl, fun _ _ => by simp [execOp, go_sem]⟩) hS0 ?_
  simp only [List.getElem_toArray, List.getElem_cons_succ, List.getElem_cons_zero, Act.put, List.setIfInBounds_toArray, List.set_cons_zero, List.set_cons_succ]
  refine wpAnyH_take (i := 13) (v := .int .i64 ((q : Int) + 1)) rfl (by kernel_rfl) (by kernel_rfl) (by kernel_rfl) (fun _ _ _ h => h) (.inl ⟨rfl, fun _ _ => by simp [execOp, go_sem, hwq]⟩) hS0 ?_
  simp only [List.getElem_toArray, List.getElem_cons_succ, List.getElem_cons_zero, Act.put, List.setIfInBounds_toArray, List.set_cons_zero, List.set_cons_succ]
  refine wpAnyH_take (i := 14) (v := cutU (some ⟨g, 0, none⟩) (k + 1) (q + 1) cap) rfl (by kernel_rfl) (by kernel_rfl) (by kernel_rfl) (fun _ _ _ h => h) (yieldsIf_slice rfl 33 (.tmp 44) (some (.tmp 46)) (some (.tmp 48)) none rfl _ (fun w => cut_lh' w (some ⟨g, 0, none⟩) n cap (k + 1) (q + 1) _ _ (by first | rfl | omega) (by first | rfl | omega) (by omega) (by omega))) hS0 ?_
  simp only [List.getElem_toArray, List.getElem_cons_succ, List.getElem_cons_zero, Act.put, List.setIfInBounds_toArray, List.set_cons_zero, List.set_cons_succ]
  refine wpAnyH_all (rs := [15]) (by kernel_rfl) (by simp) ?_
  intro i hi
  simp only [List.mem_cons, List.not_mem_nil, or_false] at hi
  subst hi
  refine wpOp_of_wp rfl rfl (fun K' hK' => ?_)
  refine wp_copyU (.tmp 40) (.tmp 49) rfl 0 g n cap l HT2.out.2.1 k (by omega) rfl _ _ rfl HSr.out (fun w5 hr5 hg5 => hK' _ _ ⟨?_, ?_⟩)
  · exact (hg5.cell_far ⟨t, 2, none⟩ HT2.out.lt (by simpa using hgt)).trans (blk3 HT2.out.1).2.2
  refine wpAnyH_done (by kernel_rfl) ?_ _
  simp only [List.getElem_toArray, List.getElem_cons_succ, List.getElem_cons_zero, Act.put, List.setIfInBounds_toArray, List.set_cons_zero, List.set_cons_succ]
  have HT5 : Hid (Tab w5 t (.slice (some ⟨g, 0, none⟩) n cap) M A _) := (Tab.grown rfl HT2.out.drew hr5 hg5).1
  have HM5 : Hid (Moved w w5 t (.slice (some ⟨g, 0, none⟩) n cap) (.slice (some ⟨g, 0, none⟩) n cap)) := Moved.start HB2.out hlt (Tab.grown rfl HT2.out.drew hr5 hg5).2.undrew
  have HR4 : Hid (w5.heap[BR]? = some (.cells #[.int .i64 R.i, .int .u32 (R.s : Int), .int .i64 R.sl, .int .u32 (R.d : Int), .int .i64 R.dl, .int .u16 (R.p.1 : Int), .int .u16 (R.p.2 : Int), .int .u16 (R.q.1 : Int), .int .u16 (R.q.2 : Int), .int .u8 (R.m.1 : Int), .int .u8 (R.m.2 : Int), .int .i64 R.act] 43)) := by
    show _ = _
    rw [hg5.block BR (blk_lt HR2.out) (by simpa using hgR)]
    exact HR2.out
  clear hr5 hg5 hS0 HSr HT2 HR2 HB2 hK'
  go_upto_region 12 with (fail)
  have hix : (q : Int) < (n : Int) := by omega
  have hix2 : ¬ n ≤ q := by omega
  refine wp_region_held_drew (S := fun w' => w'.cell? ⟨t, 2, none⟩ = some (.slice (some ⟨g, 0, none⟩) n cap) ∧ w'.heap[BR]? = some (.cells #[.int .i64 R.i, .int .u32 (R.s : Int), .int .i64 R.sl, .int .u32 (R.d : Int), .int .i64 R.dl, .int .u16 (R.p.1 : Int), .int .u16 (R.p.2 : Int), .int .u16 (R.q.1 : Int), .int .u16 (R.q.2 : Int), .int .u8 (R.m.1 : Int), .int .u8 (R.m.2 : Int), .int .i64 R.act] 43)) (by kernel_rfl) ⟨(blk3 HT5.out.1).2.2, HR4.out⟩ (fun hS1 => ?_)
  show wpAnyH _ _ _ _ _ 8 _ _ _
  refine wpAnyH_take (i := 0) (v := .pointer (some ⟨t, 0, none⟩)) rfl (by kernel_rfl) (by kernel_rfl) (by kernel_rfl) (fun _ _ _ h => h) (.inl ⟨rfl, fun _ _ => by simp [execOp, go_sem]⟩) hS1 ?_
  simp only [List.getElem_toArray, List.getElem_cons_succ, List.getElem_cons_zero, Act.put, List.setIfInBounds_toArray, List.set_cons_zero, List.set_cons_succ]
  refine wpAnyH_take (i := 1) (v := .pointer (some ⟨t, 0, none⟩)) rfl (by kernel_rfl) (by kernel_rfl) (by kernel_rfl) (fun _ _ _ h => h) (.inl ⟨rfl, fun _ _ => by simp [execOp, go_sem]⟩) hS1 ?_
  simp only [List.getElem_toArray, List.getElem_cons_succ, List.getElem_cons_zero, Act.put, List.setIfInBounds_toArray, List.set_cons_zero, List.set_cons_succ]
  refine wpAnyH_take (i := 2) (v := .pointer (some ⟨t, 2, none⟩)) rfl (by kernel_rfl) (by kernel_rfl) (by kernel_rfl) (fun _ _ _ h => h) (.inl ⟨rfl, fun _ _ => by simp [execOp, go_sem]⟩) hS1 ?_
  simp only [List.getElem_toArray, List.getElem_cons_succ, List.getElem_cons_zero, Act.put, List.setIfInBounds_toArray, List.set_cons_zero, List.set_cons_succ]
  refine wpAnyH_take (i := 3) (v := .slice (some ⟨g, 0, none⟩) n cap) rfl (by kernel_rfl) (by kernel_rfl) (by kernel_rfl) (fun _ _ _ h => h) (.inl ⟨rfl, fun w' hw' => by have hcc := hw'.1; simp [execOp, go_sem, hcc]⟩) hS1 ?_
  simp only [List.getElem_toArray, List.getElem_cons_succ, List.getElem_cons_zero, Act.put, List.setIfInBounds_toArray, List.set_cons_zero, List.set_cons_succ]
  refine wpAnyH_take (i := 4) (v := .int .i64 (q : Int)) rfl (by kernel_rfl) (by kernel_rfl) (by kernel_rfl) (fun _ _ _ h => h) (.inl ⟨rfl, fun _ _ => by simp [execOp, go_sem]⟩) hS1 ?_
  simp only [List.getElem_toArray, List.getElem_cons_succ, List.getElem_cons_zero, Act.put, List.setIfInBounds_toArray, List.set_cons_zero, List.set_cons_succ]
  refine wpAnyH_take (i := 5) (v := .agg #[.int .i64 R.i, .int .u32 (R.s : Int), .int .i64 R.sl, .int .u32 (R.d : Int), .int .i64 R.dl, .int .u16 (R.p.1 : Int), .int .u16 (R.p.2 : Int), .int .u16 (R.q.1 : Int), .int .u16 (R.q.2 : Int), .int .u8 (R.m.1 : Int), .int .u8 (R.m.2 : Int), .int .i64 R.act]) rfl (by kernel_rfl) (by kernel_rfl) (by kernel_rfl) (fun _ _ _ h => h) (yieldsIf_load_mid rfl 43 (.tmp 8) rfl BR 0 rfl [.int .i64 R.i, .int .u32 (R.s : Int), .int .i64 R.sl, .int .u32 (R.d : Int), .int .i64 R.dl, .int .u16 (R.p.1 : Int), .int .u16 (R.p.2 : Int), .int .u16 (R.q.1 : Int), .int .u16 (R.q.2 : Int), .int .u8 (R.m.1 : Int), .int .u8 (R.m.2 : Int), .int .i64 R.act] _ (fun w' hw' => by have := World.rangeAt_of_block hw'.2 0 12; simpa using this) Try.underlying43 rfl (by kernel_rfl)) hS1 ?_
  simp only [List.getElem_toArray, List.getElem_cons_succ, List.getElem_cons_zero, Act.put, List.setIfInBounds_toArray, List.set_cons_zero, List.set_cons_succ]
  refine wpAnyH_take (i := 6) (v := .pointer (some ⟨g, q * 12, none⟩)) rfl (by kernel_rfl) (by kernel_rfl) (by kernel_rfl) (fun _ _ _ h => h) (yieldsIf_index rfl 33 (.tmp 69) (.tmp 70) rfl _ (fun w => by simp [Instr.indexAt, go_sem, hix, hix2])) hS1 ?_
  simp only [List.getElem_toArray, List.getElem_cons_succ, List.getElem_cons_zero, Act.put, List.setIfInBounds_toArray, List.set_cons_zero, List.set_cons_succ]
  refine wpAnyH_all (rs := [7]) (by kernel_rfl) (by simp) ?_
  intro i hi
  simp only [List.mem_cons, List.not_mem_nil, or_false] at hi
  subst hi
  refine wpOp_of_wp rfl rfl (fun K' hK' => ?_)
  refine wp_storeU (.tmp 72) (.tmp 71) rfl 0 g n cap _ HT5.out.2.1 q (by omega) R rfl rfl (fun w6 hr6 hg6 => hK' _ _ ⟨?_, ?_⟩)
  · exact ⟨(hg6.cell_far ⟨t, 2, none⟩ HT5.out.lt (by simpa using hgt)).trans (blk3 HT5.out.1).2.2, (hg6.block BR (blk_lt HR4.out) (by simpa using hgR)).trans HR4.out⟩
  refine wpAnyH_done (by kernel_rfl) ?_ _
  have HT6 := Tab.grown rfl HT5.out.drew hr6 hg6
  rw [HI.out _ rfl] at HT6
  have HT7 : Hid (Tab w6 t (.slice (some ⟨g, 0, none⟩) n cap) M A (putL (outL l k) q R)) := HT6.1
  have HM7 : Hid (Moved w w6 t (.slice (some ⟨g, 0, none⟩) n cap) (.slice (some ⟨g, 0, none⟩) n cap)) := HM5.out.trans HT6.2.undrew
  clear HT6 hr6 hg6 HT5 HM5 HR4 hS1
  go_wp2_with (fail)
  go_ret
  exact ⟨rfl, _, HT7.out, HM7.out⟩
set_option maxRecDepth 20000 in
set_option maxHeartbeats 8000000 in
theorem moveB (t : Nat) (v : Value) (M A : Int) (l : List Ru) (x : Int) (k q : Nat) (w : World) (h : Tab w t v M A l) (hl : l.length ≤ 200000) (hf : fnd l x = (k : Int)) (hq : q < l.length) (hkq : q ≤ k) (R : Ru) (hk : k < l.length) (hR : R = l[k]'hk) :
    Calls Try.prog 28 #[.pointer (some ⟨t, 0, none⟩), .int .i64 x, .int .i64 (q : Int)] w fun e w' => e = .returned (.int .i64 0) ∧ ∃ v', Tab w' t v' M A (putL (outL l k) q R) ∧ Moved w w' t v v' := by
  have hF := findC t v M A l x w h hl
  rw [hf] at hF
  have hA := fun W => amongC (q : Int) 0 ((l.length : Int) - 1) W
  rw [show amg (q : Int) 0 ((l.length : Int) - 1) = true from amg_iff.2 (by omega)] at hA
  have HI : Hid (∀ X, X = l.take (q + 1) ++ ((l.take k).drop q).take (l.length - (q + 1)) ++ l.drop (q + 1 + (((l.take k).drop q).take (l.length - (q + 1))).length) → X.take q ++ [R] ++ X.drop (q + [R].length) = putL (outL l k) q R) := fun X hX => mov_listB l k q hkq hk R X hX
  have hlt := h.lt
  obtain ⟨ad, cap, rfl, hcap, hat⟩ := h.2.1.form
  obtain ⟨g, rfl, _, hgl, hc⟩ := hat (by omega)
  have HC : Hid (∀ W, Below w.heap.size w W → ∀ j, j < 12 → W.cell? ⟨g, k * 12 + j, none⟩ = (encU R)[j]?) := fun W hb j hj => by
    have h3 := hc k hk j hj
    rw [hb.cell (p := ⟨g, k * 12 + j, none⟩) hgl, h3, hR]
  clear hc hat
  have HT : Hid (Tab w t (.slice (some ⟨g, 0, none⟩) l.length cap) M A l) := h
  have hgt : t ≠ g := fun e => h.2.2 (by simp [Value.ownBlock, e])
  obtain ⟨n, hn⟩ : ∃ n, n = l.length := ⟨_, rfl⟩
  have Hn : Hid (n = l.length) := hn
  rw [← hn] at hl hcap HT HI hA hq ⊢
  have hkn : k < n := by rw [hn]; exact hk
  clear h hn hf hR hk
  have hk0 : (0 : Int) ≤ (k : Int) := by omega
  have hn0 : (n : Int) ≤ 200000 := by omega
  have hkn0 : (k : Int) < (n : Int) := by omega
  have hwk : IntKind.i64.wrap ((k : Int) + 1) = (k : Int) + 1 := by rw [IntKind.wrap_i64]; omega
  have hwq : IntKind.i64.wrap ((q : Int) + 1) = (q : Int) + 1 := by rw [IntKind.wrap_i64]; omega
  have hif : ¬ (k : Int) < (q : Int) := by omega
  go_enter Try.func28, Try.ntmps28
  go_wp2_with (fail)
  refine hF.mono ?_
  rintro e W1 ⟨rfl, hb1⟩
  have HT1 : Hid (Tab W1 t (.slice (some ⟨g, 0, none⟩) n cap) M A l) := HT.out.on hb1
  have HB1 : Hid (Below w.heap.size w W1) := hb1
  have hc := HC.out W1 hb1
  have x0 : W1.cell? ⟨g, k * 12, none⟩ = some (.int .i64 R.i) := hc 0 (by decide)
  have x1 : W1.cell? ⟨g, k * 12 + 1, none⟩ = some (.int .u32 (R.s : Int)) := hc 1 (by decide)
  have x2 : W1.cell? ⟨g, k * 12 + 2, none⟩ = some (.int .i64 R.sl) := hc 2 (by decide)
  have x3 : W1.cell? ⟨g, k * 12 + 3, none⟩ = some (.int .u32 (R.d : Int)) := hc 3 (by decide)
  have x4 : W1.cell? ⟨g, k * 12 + 4, none⟩ = some (.int .i64 R.dl) := hc 4 (by decide)
  have x5 : W1.cell? ⟨g, k * 12 + 5, none⟩ = some (.int .u16 (R.p.1 : Int)) := hc 5 (by decide)
  have x6 : W1.cell? ⟨g, k * 12 + 6, none⟩ = some (.int .u16 (R.p.2 : Int)) := hc 6 (by decide)
  have x7 : W1.cell? ⟨g, k * 12 + 7, none⟩ = some (.int .u16 (R.q.1 : Int)) := hc 7 (by decide)
  have x8 : W1.cell? ⟨g, k * 12 + 8, none⟩ = some (.int .u16 (R.q.2 : Int)) := hc 8 (by decide)
  have x9 : W1.cell? ⟨g, k * 12 + 9, none⟩ = some (.int .u8 (R.m.1 : Int)) := hc 9 (by decide)
  have x10 : W1.cell? ⟨g, k * 12 + 10, none⟩ = some (.int .u8 (R.m.2 : Int)) := hc 10 (by decide)
  have x11 : W1.cell? ⟨g, k * 12 + 11, none⟩ = some (.int .i64 R.act) := hc 11 (by decide)
  clear hb1 hF HT HC hc
  obtain ⟨c0, c1, c2⟩ := blk3 HT1.out.1
  go_wp2_with (fail)
  refine (hA _).mono ?_
  rintro e w1 ⟨rfl, hw⟩
  obtain rfl := hw.symm
  clear hw hA
  have hZZ := blk_new W1 (.cells #[.int .i64 0, .int .u32 0, .int .i64 0, .int .u32 0, .int .i64 0, .int .u16 0, .int .u16 0, .int .u16 0, .int .u16 0, .int .u8 0, .int .u8 0, .int .i64 0] 43)
  go_wp2_with (refine wpList_store_blk rfl 43 (.tmp 8) (.tmp 31) rfl W1.heap.size 0 #[.int .i64 R.i, .int .u32 (R.s : Int), .int .i64 R.sl, .int .u32 (R.d : Int), .int .i64 R.dl, .int .u16 (R.p.1 : Int), .int .u16 (R.p.2 : Int), .int .u16 (R.q.1 : Int), .int .u16 (R.q.2 : Int), .int .u8 (R.m.1 : Int), .int .u8 (R.m.2 : Int), .int .i64 R.act] #[.int .i64 R.i, .int .u32 (R.s : Int), .int .i64 R.sl, .int .u32 (R.d : Int), .int .i64 R.dl, .int .u16 (R.p.1 : Int), .int .u16 (R.p.2 : Int), .int .u16 (R.q.1 : Int), .int .u16 (R.q.2 : Int), .int .u8 (R.m.1 : Int), .int .u8 (R.m.2 : Int), .int .i64 R.act] rfl rfl 43 _ hZZ (Nat.le_of_ble_eq_true rfl) rfl (by kernel_rfl) rfl ?_; intro W2 hw8 how8)
  go_upto_region 11 with (fail)
  have hbl : Below W1.heap.size W1 W2 := ((Below.refl _ _).alloc (Nat.le_refl _) _).trans (how8.below (Nat.le_refl _))
  have HT2 : Hid (Tab W2 t (.slice (some ⟨g, 0, none⟩) n cap) M A l) := HT1.out.on hbl
  have HB2 : Hid (Below w.heap.size w W2) := HB1.out.trans (hbl.mono HB1.out.size)
  have hgR : W1.heap.size ≠ g := by have := HT1.out.own (k := g) rfl; omega
  have htR : t ≠ W1.heap.size := by have := HT1.out.lt; omega
  have HR2 : Hid (W2.heap[W1.heap.size]? = some (.cells #[.int .i64 R.i, .int .u32 (R.s : Int), .int .i64 R.sl, .int .u32 (R.d : Int), .int .i64 R.dl, .int .u16 (R.p.1 : Int), .int .u16 (R.p.2 : Int), .int .u16 (R.q.1 : Int), .int .u16 (R.q.2 : Int), .int .u8 (R.m.1 : Int), .int .u8 (R.m.2 : Int), .int .i64 R.act] 43)) := hw8
  clear hbl hw8 how8 hZZ HT1 HB1 c0 c1 c2 x0 x1 x2 x3 x4 x5 x6 x7 x8 x9 x10 x11
  generalize W1.heap.size = BR at *
  clear W1
  have HSr : Hid (SrcU W2.drew (cutU (some ⟨g, 0, none⟩) q k cap) ((l.take k).drop q)) := SrcU.cut (HT2.out.drew.2.1.src) q k (by omega) (by rw [← Hn.out]; omega)
  refine wp_region_held_drew (S := fun w' => w'.cell? ⟨t, 2, none⟩ = some (.slice (some ⟨g, 0, none⟩) n cap)) (by kernel_rfl) (blk3 HT2.out.1).2.2 (fun hS0 => ?_)
  show wpAnyH _ _ _ _ _ 15 _ _ _
  refine wpAnyH_take (i := 0) (v := .pointer (some ⟨t, 0, none⟩)) rfl (by kernel_rfl) (by kernel_rfl) (by kernel_rfl) (fun _ _ _ h => h) (.inl ⟨rfl, fun _ _ => by simp [execOp, go_sem]⟩) hS0 ?_
  simp only [List.getElem_toArray, List.getElem_cons_succ, List.getElem_cons_zero, Act.put, List.setIfInBounds_toArray, List.set_cons_zero, List.set_cons_succ]
  refine wpAnyH_take (i := 1) (v := .pointer (some ⟨t, 0, none⟩)) rfl (by kernel_rfl) (by kernel_rfl) (by kernel_rfl) (fun _ _ _ h => h) (.inl ⟨rfl, fun _ _ => by simp [execOp, go_sem]⟩) hS0 ?_
  simp only [List.getElem_toArray, List.getElem_cons_succ, List.getElem_cons_zero, Act.put, List.setIfInBounds_toArray, List.set_cons_zero, List.set_cons_succ]
  refine wpAnyH_take (i := 2) (v := .pointer (some ⟨t, 2, none⟩)) rfl (by kernel_rfl) (by kernel_rfl) (by kernel_rfl) (fun _ _ _ h => h) (.inl ⟨rfl, fun _ _ => by simp [execOp, go_sem]⟩) hS0 ?_
  simp only [List.getElem_toArray, List.getElem_cons_succ, List.getElem_cons_zero, Act.put, List.setIfInBounds_toArray, List.set_cons_zero, List.set_cons_succ]
  refine wpAnyH_take (i := 3) (v := .slice (some ⟨g, 0, none⟩) n cap) rfl (by kernel_rfl) (by kernel_rfl) (by kernel_rfl) (fun _ _ _ h => h) (.inl ⟨rfl, fun w' hw' => by have hcc := hw'; simp [execOp, go_sem, hcc]⟩) hS0 ?_
  simp only [List.getElem_toArray, List.getElem_cons_succ, List.getElem_cons_zero, Act.put, List.setIfInBounds_toArray, List.set_cons_zero, List.set_cons_succ]
  refine wpAnyH_take (i := 4) (v := .int .i64 (q : Int)) rfl (by kernel_rfl) (by kernel_rfl) (by kernel_rfl) (fun _ _ _ h => h) (.inl ⟨rfl, fun _ _ => by simp [execOp, go_sem]⟩) hS0 ?_
  simp only [List.getElem_toArray, List.getElem_cons_succ, List.getElem_cons_zero, Act.put, List.setIfInBounds_toArray, List.set_cons_zero, List.set_cons_succ]
  refine wpAnyH_take (i := 5) (v := .int .i64 ((q : Int) + 1)) rfl (by kernel_rfl) (by kernel_rfl) (by kernel_rfl) (fun _ _ _ h => h) (.inl ⟨rfl, fun _ _ => by simp [execOp, go_sem, hwq]⟩) hS0 ?_
  simp only [List.getElem_toArray, List.getElem_cons_succ, List.getElem_cons_zero, Act.put, List.setIfInBounds_toArray, List.set_cons_zero, List.set_cons_succ]
  refine wpAnyH_take (i := 6) (v := cutU (some ⟨g, 0, none⟩) (q + 1) n cap) rfl (by kernel_rfl) (by kernel_rfl) (by kernel_rfl) (fun _ _ _ h => h) (yieldsIf_slice rfl 33 (.tmp 54) (some (.tmp 56)) none none rfl _ (fun w => cut_l' w (some ⟨g, 0, none⟩) n cap (q + 1) _ (by first | rfl | omega) (by omega))) hS0 ?_
  simp only [List.getElem_toArray, List.getElem_cons_succ, List.getElem_cons_zero, Act.put, List.setIfInBounds_toArray, List.set_cons_zero, List.set_cons_succ]
  refine wpAnyH_take (i := 7) (v := .pointer (some ⟨t, 0, none⟩)) rfl (by kernel_rfl) (by kernel_rfl) (by kernel_rfl) (fun _ _ _ h => h) (.inl ⟨rfl, fun _ _ => by simp [execOp, go_sem]⟩) hS0 ?_
  simp only [List.getElem_toArray, List.getElem_cons_succ, List.getElem_cons_zero, Act.put, List.setIfInBounds_toArray, List.set_cons_zero, List.set_cons_succ]
  refine wpAnyH_take (i := 8) (v := .pointer (some ⟨t, 0, none⟩)) rfl (by kernel_rfl) (by kernel_rfl) (by kernel_rfl) (fun _ _ _ h => h) (.inl ⟨rfl, fun _ _ => by simp [execOp, go_sem]⟩) hS0 ?_
  simp only [List.getElem_toArray, List.getElem_cons_succ, List.getElem_cons_zero, Act.put, List.setIfInBounds_toArray, List.set_cons_zero, List.set_cons_succ]
  refine wpAnyH_take (i := 9) (v := .pointer (some ⟨t, 2, none⟩)) rfl (by kernel_rfl) (by kernel_rfl) (by kernel_rfl) (fun _ _ _ h => h) (.inl ⟨rfl, fun _ _ => by simp [execOp, go_sem]⟩) hS0 ?_
  simp only [List.getElem_toArray, List.getElem_cons_succ, List.getElem_cons_zero, Act.put, List.setIfInBounds_toArray, List.set_cons_zero, List.set_cons_succ]
  refine wpAnyH_take (i := 10) (v := .slice (some ⟨g, 0, none⟩) n cap) rfl (by kernel_rfl) (by kernel_rfl) (by kernel_rfl) (fun _ _ _ h => h) (.inl ⟨rfl, fun w' hw' => by have hcc := hw'; simp [execOp, go_sem, hcc]⟩) hS0 ?_
  simp only [List.getElem_toArray, List.getElem_cons_succ, List.getElem_cons_zero, Act.put, List.setIfInBounds_toArray, List.set_cons_zero, List.set_cons_succ]
  refine wpAnyH_take (i := 11) (v := .int .i64 (q : Int)) rfl (by kernel_rfl) (by kernel_rfl) (by kernel_rfl) (fun _ _ _ h => h) (.inl ⟨rfl, fun _ _ => by simp [execOp, go_sem]⟩) hS0 ?_
  simp only [List.getElem_toArray, List.getElem_cons_succ, List.getElem_cons_zero, Act.put, List.setIfInBounds_toArray, List.set_cons_zero, List.set_cons_succ]
  refine wpAnyH_take (i := 12) (v := .int .i64 (k : Int)) rfl (by kernel_rfl) (by kernel_rfl) (by kernel_rfl) (fun _ _ _ h => h) (.inl ⟨rfl, fun _ _ => by simp [execOp, go_sem]⟩) hS0 ?_
  simp only [List.getElem_toArray, List.getElem_cons_succ, List.getElem_cons_zero, Act.put, List.setIfInBounds_toArray, List.set_cons_zero, List.set_cons_succ]
  refine wpAnyH_take (i := 13) (v := cutU (some ⟨g, 0, none⟩) q k cap) rfl (by kernel_rfl) (by kernel_rfl) (by kernel_rfl) (fun _ _ _ h => h) (yieldsIf_slice rfl 33 (.tmp 61) (some (.tmp 62)) (some (.tmp 63)) none rfl _ (fun w => cut_lh' w (some ⟨g, 0, none⟩) n cap (q) (k) _ _ (by first | rfl | omega) (by first | rfl | omega) (by omega) (by omega))) hS0 ?_
  simp only [List.getElem_toArray, List.getElem_cons_succ, List.getElem_cons_zero, Act.put, List.setIfInBounds_toArray, List.set_cons_zero, List.set_cons_succ]
  refine wpAnyH_all (rs := [14]) (by kernel_rfl) (by simp) ?_
  intro i hi
  simp only [List.mem_cons, List.not_mem_nil, or_false] at hi
  subst hi
  refine wpOp_of_wp rfl rfl (fun K' hK' => ?_)
  refine wp_copyU (.tmp 57) (.tmp 64) rfl 0 g n cap l HT2.out.2.1 (q + 1) (by omega) rfl _ _ rfl HSr.out (fun w5 hr5 hg5 => hK' _ _ ⟨?_, ?_⟩)
  · exact (hg5.cell_far ⟨t, 2, none⟩ HT2.out.lt (by simpa using hgt)).trans (blk3 HT2.out.1).2.2
  refine wpAnyH_done (by kernel_rfl) ?_ _
  simp only [List.getElem_toArray, List.getElem_cons_succ, List.getElem_cons_zero, Act.put, List.setIfInBounds_toArray, List.set_cons_zero, List.set_cons_succ]
  have HT5 : Hid (Tab w5 t (.slice (some ⟨g, 0, none⟩) n cap) M A _) := (Tab.grown rfl HT2.out.drew hr5 hg5).1
  have HM5 : Hid (Moved w w5 t (.slice (some ⟨g, 0, none⟩) n cap) (.slice (some ⟨g, 0, none⟩) n cap)) := Moved.start HB2.out hlt (Tab.grown rfl HT2.out.drew hr5 hg5).2.undrew
  have HR4 : Hid (w5.heap[BR]? = some (.cells #[.int .i64 R.i, .int .u32 (R.s : Int), .int .i64 R.sl, .int .u32 (R.d : Int), .int .i64 R.dl, .int .u16 (R.p.1 : Int), .int .u16 (R.p.2 : Int), .int .u16 (R.q.1 : Int), .int .u16 (R.q.2 : Int), .int .u8 (R.m.1 : Int), .int .u8 (R.m.2 : Int), .int .i64 R.act] 43)) := by
    show _ = _
    rw [hg5.block BR (blk_lt HR2.out) (by simpa using hgR)]
    exact HR2.out
  clear hr5 hg5 hS0 HSr HT2 HR2 HB2 hK'
  go_upto_region 12 with (fail)
  have hix : (q : Int) < (n : Int) := by omega
  have hix2 : ¬ n ≤ q := by omega
  refine wp_region_held_drew (S := fun w' => w'.cell? ⟨t, 2, none⟩ = some (.slice (some ⟨g, 0, none⟩) n cap) ∧ w'.heap[BR]? = some (.cells #[.int .i64 R.i, .int .u32 (R.s : Int), .int .i64 R.sl, .int .u32 (R.d : Int), .int .i64 R.dl, .int .u16 (R.p.1 : Int), .int .u16 (R.p.2 : Int), .int .u16 (R.q.1 : Int), .int .u16 (R.q.2 : Int), .int .u8 (R.m.1 : Int), .int .u8 (R.m.2 : Int), .int .i64 R.act] 43)) (by kernel_rfl) ⟨(blk3 HT5.out.1).2.2, HR4.out⟩ (fun hS1 => ?_)
  show wpAnyH _ _ _ _ _ 8 _ _ _
  refine wpAnyH_take (i := 0) (v := .pointer (some ⟨t, 0, none⟩)) rfl (by kernel_rfl) (by kernel_rfl) (by kernel_rfl) (fun _ _ _ h => h) (.inl ⟨rfl, fun _ _ => by simp [execOp, go_sem]⟩) hS1 ?_
  simp only [List.getElem_toArray, List.getElem_cons_succ, List.getElem_cons_zero, Act.put, List.setIfInBounds_toArray, List.set_cons_zero, List.set_cons_succ]
  refine wpAnyH_take (i := 1) (v := .pointer (some ⟨t, 0, none⟩)) rfl (by kernel_rfl) (by kernel_rfl) (by kernel_rfl) (fun _ _ _ h => h) (.inl ⟨rfl, fun _ _ => by simp [execOp, go_sem]⟩) hS1 ?_
  simp only [List.getElem_toArray, List.getElem_cons_succ, List.getElem_cons_zero, Act.put, List.setIfInBounds_toArray, List.set_cons_zero, List.set_cons_succ]
  refine wpAnyH_take (i := 2) (v := .pointer (some ⟨t, 2, none⟩)) rfl (by kernel_rfl) (by kernel_rfl) (by kernel_rfl) (fun _ _ _ h => h) (.inl ⟨rfl, fun _ _ => by simp [execOp, go_sem]⟩) hS1 ?_
  simp only [List.getElem_toArray, List.getElem_cons_succ, List.getElem_cons_zero, Act.put, List.setIfInBounds_toArray, List.set_cons_zero, List.set_cons_succ]
  refine wpAnyH_take (i := 3) (v := .slice (some ⟨g, 0, none⟩) n cap) rfl (by kernel_rfl) (by kernel_rfl) (by kernel_rfl) (fun _ _ _ h => h) (.inl ⟨rfl, fun w' hw' => by have hcc := hw'.1; simp [execOp, go_sem, hcc]⟩) hS1 ?_
  simp only [List.getElem_toArray, List.getElem_cons_succ, List.getElem_cons_zero, Act.put, List.setIfInBounds_toArray, List.set_cons_zero, List.set_cons_succ]
  refine wpAnyH_take (i := 4) (v := .int .i64 (q : Int)) rfl (by kernel_rfl) (by kernel_rfl) (by kernel_rfl) (fun _ _ _ h => h) (.inl ⟨rfl, fun _ _ => by simp [execOp, go_sem]⟩) hS1 ?_
  simp only [List.getElem_toArray, List.getElem_cons_succ, List.getElem_cons_zero, Act.put, List.setIfInBounds_toArray, List.set_cons_zero, List.set_cons_succ]
  refine wpAnyH_take (i := 5) (v := .agg #[.int .i64 R.i, .int .u32 (R.s : Int), .int .i64 R.sl, .int .u32 (R.d : Int), .int .i64 R.dl, .int .u16 (R.p.1 : Int), .int .u16 (R.p.2 : Int), .int .u16 (R.q.1 : Int), .int .u16 (R.q.2 : Int), .int .u8 (R.m.1 : Int), .int .u8 (R.m.2 : Int), .int .i64 R.act]) rfl (by kernel_rfl) (by kernel_rfl) (by kernel_rfl) (fun _ _ _ h => h) (yieldsIf_load_mid rfl 43 (.tmp 8) rfl BR 0 rfl [.int .i64 R.i, .int .u32 (R.s : Int), .int .i64 R.sl, .int .u32 (R.d : Int), .int .i64 R.dl, .int .u16 (R.p.1 : Int), .int .u16 (R.p.2 : Int), .int .u16 (R.q.1 : Int), .int .u16 (R.q.2 : Int), .int .u8 (R.m.1 : Int), .int .u8 (R.m.2 : Int), .int .i64 R.act] _ (fun w' hw' => by have := World.rangeAt_of_block hw'.2 0 12; simpa using this) Try.underlying43 rfl (by kernel_rfl)) hS1 ?_
  simp only [List.getElem_toArray, List.getElem_cons_succ, List.getElem_cons_zero, Act.put, List.setIfInBounds_toArray, List.set_cons_zero, List.set_cons_succ]
  refine wpAnyH_take (i := 6) (v := .pointer (some ⟨g, q * 12, none⟩)) rfl (by kernel_rfl) (by kernel_rfl) (by kernel_rfl) (fun _ _ _ h => h) (yieldsIf_index rfl 33 (.tmp 69) (.tmp 70) rfl _ (fun w => by simp [Instr.indexAt, go_sem, hix, hix2])) hS1 ?_
  simp only [List.getElem_toArray, List.getElem_cons_succ, List.getElem_cons_zero, Act.put, List.setIfInBounds_toArray, List.set_cons_zero, List.set_cons_succ]
  refine wpAnyH_all (rs := [7]) (by kernel_rfl) (by simp) ?_
  intro i hi
  simp only [List.mem_cons, List.not_mem_nil, or_false] at hi
  subst hi
  refine wpOp_of_wp rfl rfl (fun K' hK' => ?_)
  refine wp_storeU (.tmp 72) (.tmp 71) rfl 0 g n cap _ HT5.out.2.1 q (by omega) R rfl rfl (fun w6 hr6 hg6 => hK' _ _ ⟨?_, ?_⟩)
  · exact ⟨(hg6.cell_far ⟨t, 2, none⟩ HT5.out.lt (by simpa using hgt)).trans (blk3 HT5.out.1).2.2, (hg6.block BR (blk_lt HR4.out) (by simpa using hgR)).trans HR4.out⟩
  refine wpAnyH_done (by kernel_rfl) ?_ _
  have HT6 := Tab.grown rfl HT5.out.drew hr6 hg6
  rw [HI.out _ rfl] at HT6
  have HT7 : Hid (Tab w6 t (.slice (some ⟨g, 0, none⟩) n cap) M A (putL (outL l k) q R)) := HT6.1
  have HM7 : Hid (Moved w w6 t (.slice (some ⟨g, 0, none⟩) n cap) (.slice (some ⟨g, 0, none⟩) n cap)) := HM5.out.trans HT6.2.undrew
  clear HT6 hr6 hg6 HT5 HM5 HR4 hS1
  go_wp2_with (fail)
  go_ret
  exact ⟨rfl, _, HT7.out, HM7.out⟩
theorem moveNone (t : Nat) (v : Value) (M A : Int) (l : List Ru) (x q : Int) (w : World) (h : Tab w t v M A l) (hl : l.length ≤ 200000) (hf : fnd l x = -1) :
    Calls Try.prog 28 #[.pointer (some ⟨t, 0, none⟩), .int .i64 x, .int .i64 q] w fun e w' => e = .returned (.int .i64 114) ∧ Below w.heap.size w w' := by
  have hF := findC t v M A l x w h hl
  rw [hf] at hF
  clear h hf hl
  go_enter Try.func28, Try.ntmps28
  go_wp2_with (fail)
  refine hF.mono ?_
  rintro e W1 ⟨rfl, hb1⟩
  have HB1 : Hid (Below w.heap.size w W1) := hb1
  clear hb1 hF
  go_wp2_with (fail)
  go_ret
  exact ⟨rfl, HB1.out⟩
theorem movePlace (t : Nat) (v : Value) (M A : Int) (l : List Ru) (x q : Int) (k : Nat) (w : World) (h : Tab w t v M A l) (hl : l.length ≤ 200000) (hf : fnd l x = (k : Int)) (hq : ¬ (0 ≤ q ∧ q ≤ (l.length : Int) - 1)) :
    Calls Try.prog 28 #[.pointer (some ⟨t, 0, none⟩), .int .i64 x, .int .i64 q] w fun e w' => e = .returned (.int .i64 112) ∧ Below w.heap.size w w' := by
  have hF := findC t v M A l x w h hl
  rw [hf] at hF
  have hA := fun W => amongC q 0 ((l.length : Int) - 1) W
  rw [show amg q 0 ((l.length : Int) - 1) = false by rw [Bool.eq_false_iff]; exact fun e => hq (amg_iff.1 e)] at hA
  have HT : Hid (Tab w t v M A l) := h
  obtain ⟨ad, cap, rfl, hcap, hat⟩ := h.2.1.form
  obtain ⟨n, hn⟩ : ∃ n, n = l.length := ⟨_, rfl⟩
  rw [← hn] at hl hcap HT hA
  clear h hf hq hat hn
  have hk0 : (0 : Int) ≤ (k : Int) := by omega
  have hn0 : (n : Int) ≤ 200000 := by omega
  go_enter Try.func28, Try.ntmps28
  go_wp2_with (fail)
  refine hF.mono ?_
  rintro e W1 ⟨rfl, hb1⟩
  have HB1 : Hid (Below w.heap.size w W1) := hb1
  obtain ⟨c0, c1, c2⟩ := blk3 (HT.out.on hb1).1
  clear hb1 hF
  go_wp2_with (fail)
  refine (hA _).mono ?_
  rintro e w1 ⟨rfl, hw⟩
  obtain rfl := hw.symm
  clear hw hA
  go_wp2_with (fail)
  go_ret
  exact ⟨rfl, HB1.out⟩
/-- Move, whatever comes. -/
theorem moveC (t : Nat) (v : Value) (M A : Int) (l : List Ru) (x q : Int) (w : World) (h : Tab w t v M A l) (hl : l.length ≤ 200000) :
    Calls Try.prog 28 #[.pointer (some ⟨t, 0, none⟩), .int .i64 x, .int .i64 q] w fun e w' => e = .returned (.int .i64 (movE l x q)) ∧ ∃ v', Tab w' t v' M A (movL l x q) ∧ Moved w w' t v v' := by
  rcases fnd_range l x with e | e
  · have e1 : movE l x q = 114 := if_neg (by omega)
    have e2 : movL l x q = l := if_neg (by rw [e1]; decide)
    rw [e1, e2]
    exact (moveNone t v M A l x q w h hl e).mono fun e w' ⟨h1, h2⟩ => ⟨h1, v, h.on h2, Moved.of_below h2⟩
  · obtain ⟨k, hk⟩ : ∃ k : Nat, fnd l x = (k : Int) := ⟨(fnd l x).toNat, by omega⟩
    by_cases hq : 0 ≤ q ∧ q ≤ (l.length : Int) - 1
    · have e1 : movE l x q = 0 := by unfold movE; rw [if_pos e.1, if_pos hq]
      have e2 : movL l x q = putL (outL l (fnd l x).toNat) q.toNat (l.getD (fnd l x).toNat ⟨0, 0, 0, 0, 0, (0, 0), (0, 0), (0, 0), 0⟩) := if_pos e1
      have hkl : k < l.length := by omega
      rw [e1, e2, hk, Int.toNat_natCast, getD_at hkl]
      obtain ⟨m, rfl⟩ : ∃ m : Nat, q = (m : Int) := ⟨q.toNat, by omega⟩
      rw [Int.toNat_natCast]
      by_cases hkq : k < m
      · exact moveA t v M A l x k m w h hl hk (by omega) hkq _ hkl rfl
      · exact moveB t v M A l x k m w h hl hk (by omega) (by omega) _ hkl rfl
    · have e1 : movE l x q = 112 := by unfold movE; rw [if_pos e.1, if_neg hq]
      have e2 : movL l x q = l := if_neg (by rw [e1]; decide)
      rw [e1, e2]
      exact (movePlace t v M A l x q k w h hl hk hq).mono fun e w' ⟨h1, h2⟩ => ⟨h1, v, h.on h2, Moved.of_below h2⟩
end Go.Proofs.Ytlghbcdahnjcpaa
