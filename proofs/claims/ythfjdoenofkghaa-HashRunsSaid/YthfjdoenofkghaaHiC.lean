/-
  The document's Get, Delete, Put. Written by tools/mkHiC.py.
-/
import Derived.Test.YthfjdoenofkghaaHiB
namespace Go.Proofs.Ythfjdoenofkghaa
open Go.RowKit
set_option linter.unusedVariables false
set_option linter.unusedSimpArgs false

/-- A list that comes back is one of the call's own. -/
def OutY (w w' : World) (v' : Value) (l' : List Ey) : Prop := SrcY w' v' l' ∧ ∀ b, v'.ownBlock = some b → w.heap.size ≤ b ∧ b < w'.heap.size
theorem RowY.out {w w' : World} {v' : Value} {l' : List Ey} (h : RowY w' w.heap.size v' l') : OutY w w' v' l' := ⟨h.src, h.lt⟩
theorem SrcY.set5 {w : World} {g cap n : Nat} {D : List Ey} {k : Hd} {y0 y : Int} {p : Nat} (h : SrcY w (.slice (some ⟨g, 0, none⟩) n cap) D) (hp : D[p]? = some ⟨k, y0⟩) : SrcY (w.setCell ⟨g, p * 6 + 5, none⟩ (.int .i64 y)) (.slice (some ⟨g, 0, none⟩) n cap) (D.take p ++ [⟨k, y⟩] ++ D.drop (p + 1)) := by
  obtain ⟨hpl, he⟩ := List.getElem?_eq_some_iff.1 hp
  obtain ⟨ad, c, e, hc, h2⟩ := h
  have hlen : (D.take p ++ [(⟨k, y⟩ : Ey)] ++ D.drop (p + 1)).length = D.length := by simp; omega
  cases e
  obtain ⟨g', off, e', h3⟩ := h2 (by omega)
  cases e'
  refine ⟨_, cap, by rw [hlen], by rw [hlen]; exact hc, fun _ => ⟨g, 0, rfl, fun i hi j hj => ?_⟩⟩
  have hi' : i < D.length := by rw [hlen] at hi; exact hi
  have hij := h3 i hi' j hj
  by_cases hx : i = p
  · subst hx
    have hD : (D.take i ++ [(⟨k, y⟩ : Ey)] ++ D.drop (i + 1))[i]'hi = ⟨k, y⟩ := by
      rw [List.getElem_append_left (by simp; omega), List.getElem_append_right (by rw [List.length_take]; omega)]; simp
    rw [hD]
    by_cases h5 : j = 5
    · subst h5
      obtain ⟨z, hz⟩ := encY_some (D[i]'hi') (j := 5) (by decide)
      rw [hz, Nat.zero_add] at hij
      rw [Nat.zero_add, World.cell?_setCell_same' _ _ _ (by rw [hij]; rfl)]
      rfl
    · rw [World.cell?_setCell_other _ _ _ _ (by first | (simp; done) | (simp; omega)), hij, he]
      have h6 : j = 0 ∨ j = 1 ∨ j = 2 ∨ j = 3 ∨ j = 4 := by omega
      rcases h6 with rfl | rfl | rfl | rfl | rfl <;> rfl
  · have hD : (D.take p ++ [(⟨k, y⟩ : Ey)] ++ D.drop (p + 1))[i]'hi = D[i]'hi' := by
      rcases Nat.lt_or_gt_of_ne hx with h' | h'
      · rw [List.getElem_append_left (by simp; omega), List.getElem_append_left (by simp; omega), List.getElem_take]
      · rw [List.getElem_append_right (by simp; omega)]; simp only [List.getElem_drop, List.length_append, List.length_take, List.length_cons, List.length_nil]; congr 1; omega
    rw [hD, World.cell?_setCell_other _ _ _ _ (by first | (simp; done) | (simp; omega))]
    exact hij
set_option maxRecDepth 20000 in
set_option maxHeartbeats 4000000 in
theorem rgetY (u : Value) (m : Hd → Option Int) (D : List Ey) (k : Hd) (w : World) (hs : SrcY w u D) (hT : Tells m D) (hl : D.length ≤ 200000) (o : OkH k) :
    Calls Try.prog 13 #[u, .agg #[.int .u32 (k.s : Int), .int .u32 (k.d : Int), .int .u16 (k.p : Int), .int .u16 (k.q : Int), .int .u8 (k.r : Int)]] w fun e w' => e = .returned (.tuple #[.int .i64 ((m k).getD 0), .bool (m k).isSome]) ∧ Below w.heap.size w w' := by
  have HF : Hid (∀ W, Below w.heap.size w W → Calls Try.prog 27 #[u, .agg #[.int .u32 (k.s : Int), .int .u32 (k.d : Int), .int .u16 (k.p : Int), .int .u16 (k.q : Int), .int .u8 (k.r : Int)]] W fun e w' => e = .returned (.tuple #[.int .i64 (plY D k : Int), .bool (m k).isSome]) ∧ Below W.heap.size W w') := fun W hb => by
    have := rfindY u D k W (hs.keep hb) hT.ok hl o
    rw [hT.is o] at this
    exact this
  have HS : Hid (SrcY w u D) := hs
  have HT : Hid (Tells m D) := hT
  have HB0 : Hid (Below w.heap.size w (w.alloc (.cells #[.int .u32 (k.s : Int), .int .u32 (k.d : Int), .int .u16 (k.p : Int), .int .u16 (k.q : Int), .int .u8 (k.r : Int)] 36))) := (Below.refl _ _).alloc (Nat.le_refl _) _
  have HQ0 : Hid ((w.alloc (.cells #[.int .u32 (k.s : Int), .int .u32 (k.d : Int), .int .u16 (k.p : Int), .int .u16 (k.q : Int), .int .u8 (k.r : Int)] 36)).heap[w.heap.size]? = some (.cells #[.int .u32 (k.s : Int), .int .u32 (k.d : Int), .int .u16 (k.p : Int), .int .u16 (k.q : Int), .int .u8 (k.r : Int)] 36)) := blk_new w _
  have hp := plY_le D k
  obtain ⟨ad, cap, rfl, hcap, hat⟩ := hs
  obtain ⟨n, hn⟩ : ∃ n, n = D.length := ⟨_, rfl⟩
  obtain ⟨p, hpp⟩ : ∃ p, p = plY D k := ⟨_, rfl⟩
  have Hn : Hid (n = D.length) := hn
  have Hp : Hid (p = plY D k) := hpp
  rw [← hn] at hl hcap HF HS hp ⊢
  rw [← hpp] at hp HF
  try rw [← hpp]
  clear hat hn hpp hT
  have hn0 : (n : Int) ≤ 200000 := by omega
  have hpc : p ≤ cap := by omega
  go_enter Try.func13, Try.ntmps13
  go_upto_region 1 with (fail)
  generalize w.alloc (.cells #[.int .u32 (k.s : Int), .int .u32 (k.d : Int), .int .u16 (k.p : Int), .int .u16 (k.q : Int), .int .u8 (k.r : Int)] 36) = W1 at *
  obtain ⟨k0, k1, k2, k3, k4⟩ := blk5 HQ0.out
  go_wp2_with (fail)
  refine (HF.out _ HB0.out).mono ?_
  rintro e W2 ⟨rfl, hb2⟩
  have HB2 : Hid (Below w.heap.size w W2) := HB0.out.trans (hb2.mono HB0.out.size)
  have HQ2 : Hid (W2.heap[w.heap.size]? = some (.cells #[.int .u32 (k.s : Int), .int .u32 (k.d : Int), .int .u16 (k.p : Int), .int .u16 (k.q : Int), .int .u8 (k.r : Int)] 36)) := blk_on HQ0.out hb2
  clear hb2 k0 k1 k2 k3 k4 HF HQ0 HB0
  clear W1
  have hHB2 := HB2.out.size
  cases hm : m k with
  | none =>
    have HM : Hid (m k = none) := hm
    clear hm
    go_wp2_with (fail)
    refine bodyPost_ret (v := .tuple #[.int .i64 0, .bool false]) (by simp [results, Try.results13, go_sem]) rfl ?_
    exact ⟨by rw [HM.out]; rfl, HB2.out⟩
  | some y =>
    have hx := HT.out.at_some o hm
    rw [← Hp.out] at hx
    obtain ⟨g, off, rfl, hg, x0, x1, x2, x3, x4, x5⟩ := srcY_at (HS.out.keep HB2.out) hx
    have hpn : (p : Int) < (n : Int) := by have := (List.getElem?_eq_some_iff.1 hx).1; rw [← Hn.out] at this; omega
    have HM : Hid (m k = some y) := hm
    clear hx hm x0 x1 x2 x3 x4
    go_wp2_with (fail)
    refine bodyPost_ret (v := .tuple #[.int .i64 y, .bool true]) (by simp [results, Try.results13, go_sem]) rfl ?_
    exact ⟨by rw [HM.out]; rfl, HB2.out⟩
set_option maxRecDepth 20000 in
set_option maxHeartbeats 4000000 in
theorem rdelNo (u : Value) (m : Hd → Option Int) (D : List Ey) (k : Hd) (w : World) (hs : SrcY w u D) (hT : Tells m D) (hl : D.length ≤ 200000) (o : OkH k) (hm : m k = none) :
    Calls Try.prog 15 #[u, .agg #[.int .u32 (k.s : Int), .int .u32 (k.d : Int), .int .u16 (k.p : Int), .int .u16 (k.q : Int), .int .u8 (k.r : Int)]] w fun e w' => e = .returned (.tuple #[u, .bool false]) ∧ Below w.heap.size w w' := by
  have HF : Hid (∀ W, Below w.heap.size w W → Calls Try.prog 27 #[u, .agg #[.int .u32 (k.s : Int), .int .u32 (k.d : Int), .int .u16 (k.p : Int), .int .u16 (k.q : Int), .int .u8 (k.r : Int)]] W fun e w' => e = .returned (.tuple #[.int .i64 (plY D k : Int), .bool (m k).isSome]) ∧ Below W.heap.size W w') := fun W hb => by
    have := rfindY u D k W (hs.keep hb) hT.ok hl o
    rw [hT.is o] at this
    exact this
  have HS : Hid (SrcY w u D) := hs
  have HT : Hid (Tells m D) := hT
  have HB0 : Hid (Below w.heap.size w (w.alloc (.cells #[.int .u32 (k.s : Int), .int .u32 (k.d : Int), .int .u16 (k.p : Int), .int .u16 (k.q : Int), .int .u8 (k.r : Int)] 36))) := (Below.refl _ _).alloc (Nat.le_refl _) _
  have HQ0 : Hid ((w.alloc (.cells #[.int .u32 (k.s : Int), .int .u32 (k.d : Int), .int .u16 (k.p : Int), .int .u16 (k.q : Int), .int .u8 (k.r : Int)] 36)).heap[w.heap.size]? = some (.cells #[.int .u32 (k.s : Int), .int .u32 (k.d : Int), .int .u16 (k.p : Int), .int .u16 (k.q : Int), .int .u8 (k.r : Int)] 36)) := blk_new w _
  have hp := plY_le D k
  obtain ⟨ad, cap, rfl, hcap, hat⟩ := hs
  obtain ⟨n, hn⟩ : ∃ n, n = D.length := ⟨_, rfl⟩
  obtain ⟨p, hpp⟩ : ∃ p, p = plY D k := ⟨_, rfl⟩
  have Hn : Hid (n = D.length) := hn
  have Hp : Hid (p = plY D k) := hpp
  rw [← hn] at hl hcap HF HS hp ⊢
  rw [← hpp] at hp HF
  try rw [← hpp]
  clear hat hn hpp hT
  have hn0 : (n : Int) ≤ 200000 := by omega
  have hpc : p ≤ cap := by omega
  go_enter Try.func15, Try.ntmps15
  go_upto_region 1 with (fail)
  generalize w.alloc (.cells #[.int .u32 (k.s : Int), .int .u32 (k.d : Int), .int .u16 (k.p : Int), .int .u16 (k.q : Int), .int .u8 (k.r : Int)] 36) = W1 at *
  obtain ⟨k0, k1, k2, k3, k4⟩ := blk5 HQ0.out
  go_wp2_with (fail)
  refine (HF.out _ HB0.out).mono ?_
  rintro e W2 ⟨rfl, hb2⟩
  have HB2 : Hid (Below w.heap.size w W2) := HB0.out.trans (hb2.mono HB0.out.size)
  have HQ2 : Hid (W2.heap[w.heap.size]? = some (.cells #[.int .u32 (k.s : Int), .int .u32 (k.d : Int), .int .u16 (k.p : Int), .int .u16 (k.q : Int), .int .u8 (k.r : Int)] 36)) := blk_on HQ0.out hb2
  clear hb2 k0 k1 k2 k3 k4 HF HQ0 HB0
  clear W1
  have hHB2 := HB2.out.size
  rw [hm]
  clear hm
  go_wp2_with (fail)
  refine bodyPost_ret (v := .tuple #[.slice ad n cap, .bool false]) (by simp [results, Try.results15, go_sem]) rfl ?_
  exact ⟨rfl, HB2.out⟩
set_option maxRecDepth 20000 in
set_option maxHeartbeats 4000000 in
theorem rdelYes (u : Value) (m : Hd → Option Int) (D : List Ey) (k : Hd) (w : World) (hs : SrcY w u D) (hT : Tells m D) (hl : D.length ≤ 200000) (o : OkH k) (hm : (m k).isSome = true) :
    Calls Try.prog 15 #[u, .agg #[.int .u32 (k.s : Int), .int .u32 (k.d : Int), .int .u16 (k.p : Int), .int .u16 (k.q : Int), .int .u8 (k.r : Int)]] w fun e w' => ∃ v', e = .returned (.tuple #[v', .bool true]) ∧ OutY w w' v' (D.take (plY D k) ++ D.drop (plY D k + 1)) ∧ Below w.heap.size w w' := by
  have HF : Hid (∀ W, Below w.heap.size w W → Calls Try.prog 27 #[u, .agg #[.int .u32 (k.s : Int), .int .u32 (k.d : Int), .int .u16 (k.p : Int), .int .u16 (k.q : Int), .int .u8 (k.r : Int)]] W fun e w' => e = .returned (.tuple #[.int .i64 (plY D k : Int), .bool (m k).isSome]) ∧ Below W.heap.size W w') := fun W hb => by
    have := rfindY u D k W (hs.keep hb) hT.ok hl o
    rw [hT.is o] at this
    exact this
  have HS : Hid (SrcY w u D) := hs
  have HT : Hid (Tells m D) := hT
  have HB0 : Hid (Below w.heap.size w (w.alloc (.cells #[.int .u32 (k.s : Int), .int .u32 (k.d : Int), .int .u16 (k.p : Int), .int .u16 (k.q : Int), .int .u8 (k.r : Int)] 36))) := (Below.refl _ _).alloc (Nat.le_refl _) _
  have HQ0 : Hid ((w.alloc (.cells #[.int .u32 (k.s : Int), .int .u32 (k.d : Int), .int .u16 (k.p : Int), .int .u16 (k.q : Int), .int .u8 (k.r : Int)] 36)).heap[w.heap.size]? = some (.cells #[.int .u32 (k.s : Int), .int .u32 (k.d : Int), .int .u16 (k.p : Int), .int .u16 (k.q : Int), .int .u8 (k.r : Int)] 36)) := blk_new w _
  have hp := plY_le D k
  obtain ⟨ad, cap, rfl, hcap, hat⟩ := hs
  obtain ⟨n, hn⟩ : ∃ n, n = D.length := ⟨_, rfl⟩
  obtain ⟨p, hpp⟩ : ∃ p, p = plY D k := ⟨_, rfl⟩
  have Hn : Hid (n = D.length) := hn
  have Hp : Hid (p = plY D k) := hpp
  rw [← hn] at hl hcap HF HS hp ⊢
  rw [← hpp] at hp HF
  try rw [← hpp]
  clear hat hn hpp hT
  have hn0 : (n : Int) ≤ 200000 := by omega
  have hpc : p ≤ cap := by omega
  go_enter Try.func15, Try.ntmps15
  go_upto_region 1 with (fail)
  generalize w.alloc (.cells #[.int .u32 (k.s : Int), .int .u32 (k.d : Int), .int .u16 (k.p : Int), .int .u16 (k.q : Int), .int .u8 (k.r : Int)] 36) = W1 at *
  obtain ⟨k0, k1, k2, k3, k4⟩ := blk5 HQ0.out
  go_wp2_with (fail)
  refine (HF.out _ HB0.out).mono ?_
  rintro e W2 ⟨rfl, hb2⟩
  have HB2 : Hid (Below w.heap.size w W2) := HB0.out.trans (hb2.mono HB0.out.size)
  have HQ2 : Hid (W2.heap[w.heap.size]? = some (.cells #[.int .u32 (k.s : Int), .int .u32 (k.d : Int), .int .u16 (k.p : Int), .int .u16 (k.q : Int), .int .u8 (k.r : Int)] 36)) := blk_on HQ0.out hb2
  clear hb2 k0 k1 k2 k3 k4 HF HQ0 HB0
  clear W1
  have hHB2 := HB2.out.size
  have hpn : p + 1 ≤ n := by
    obtain ⟨y, hy⟩ := Option.isSome_iff_exists.1 hm
    have := (List.getElem?_eq_some_iff.1 (HT.out.at_some o hy)).1
    rw [← Hn.out, ← Hp.out] at this; omega
  rw [hm]
  clear hm
  have HSrc : Hid (∀ W, Below W2.heap.size W2 W → SrcY W (.slice ad n cap) D) := fun W hb => (HS.out.keep HB2.out).keep hb
  have HZ0 : Hid (Below W2.heap.size W2 W2) := Below.refl _ _
  go_upto_region 5 with (fail)
  refine wp_region_lit ?_
  refine wpList_move rfl (.tmp 8) rfl (.slice none 0 0) rfl ?_
  simp only [List.getElem_toArray, List.getElem_cons_succ, List.getElem_cons_zero, Act.put, List.setIfInBounds_toArray, List.set_cons_zero, List.set_cons_succ]
  refine wpList_move rfl (.tmp 0) rfl (.slice ad n cap) rfl ?_
  simp only [List.getElem_toArray, List.getElem_cons_succ, List.getElem_cons_zero, Act.put, List.setIfInBounds_toArray, List.set_cons_zero, List.set_cons_succ]
  refine wpList_move rfl (.tmp 6) rfl (.int .i64 (p : Int)) rfl ?_
  simp only [List.getElem_toArray, List.getElem_cons_succ, List.getElem_cons_zero, Act.put, List.setIfInBounds_toArray, List.set_cons_zero, List.set_cons_succ]
  refine wpList_cut rfl 32 (.tmp 19) none (some (.tmp 20)) none rfl (.slice ad p cap) (cut_h' _ ad n cap p _ (rfl) (by omega)) ?_
  simp only [List.getElem_toArray, List.getElem_cons_succ, List.getElem_cons_zero, Act.put, List.setIfInBounds_toArray, List.set_cons_zero, List.set_cons_succ]
  refine wpList_appendSY rfl (.tmp 18) (.tmp 21) rfl W2.heap.size (.slice none 0 0) ([]) rfl (RowY.nil _ _) (.slice ad p cap) (D.take p) rfl ((HSrc.out _ HZ0.out).cut0 p (by rw [← Hn.out]; exact hp)) (by first | exact Nat.le_refl _ | (have := HZ0.out.size; first | omega | (simp; omega))) (by have := Hn.out; first | (simp; omega) | (simp [List.length_append, List.length_take, List.length_drop]; omega)) ?_
  intro v1 w1 hr1 hg1 ha1
  simp only [List.getElem_toArray, List.getElem_cons_succ, List.getElem_cons_zero, Act.put, List.setIfInBounds_toArray, List.set_cons_zero, List.set_cons_succ]
  refine wpList_assign rfl (.tmp 22) rfl (v1) rfl ?_
  simp only [List.getElem_toArray, List.getElem_cons_succ, List.getElem_cons_zero, Act.put, List.setIfInBounds_toArray, List.set_cons_zero, List.set_cons_succ]
  refine wpList_nil ?_
  have HR1 : Hid (RowY w1 W2.heap.size v1 ([] ++ D.take p)) := hr1
  have HZ1 : Hid (Below W2.heap.size W2 w1) := bel_grownY HZ0.out (RowY.nil _ _) hg1 (Nat.le_refl _) (Nat.le_refl _)
  clear hr1 hg1 ha1
  have hz1 := HZ1.out.size
  go_upto_region 6 with (fail)
  refine wp_region_lit ?_
  refine wpList_move rfl (.tmp 8) rfl (v1) rfl ?_
  simp only [List.getElem_toArray, List.getElem_cons_succ, List.getElem_cons_zero, Act.put, List.setIfInBounds_toArray, List.set_cons_zero, List.set_cons_succ]
  refine wpList_move rfl (.tmp 0) rfl (.slice ad n cap) rfl ?_
  simp only [List.getElem_toArray, List.getElem_cons_succ, List.getElem_cons_zero, Act.put, List.setIfInBounds_toArray, List.set_cons_zero, List.set_cons_succ]
  refine wpList_move rfl (.tmp 6) rfl (.int .i64 (p : Int)) rfl ?_
  simp only [List.getElem_toArray, List.getElem_cons_succ, List.getElem_cons_zero, Act.put, List.setIfInBounds_toArray, List.set_cons_zero, List.set_cons_succ]
  refine wpList_add1 rfl (.tmp 25) rfl (p : Int) rfl (by rw [IntKind.wrap_i64]; omega) ?_
  simp only [List.getElem_toArray, List.getElem_cons_succ, List.getElem_cons_zero, Act.put, List.setIfInBounds_toArray, List.set_cons_zero, List.set_cons_succ]
  refine wpList_cut rfl 32 (.tmp 24) (some (.tmp 26)) none none rfl (cutY ad (p + 1) n cap) (cut_l' _ ad n cap (p + 1) _ (by omega) (by omega)) ?_
  simp only [List.getElem_toArray, List.getElem_cons_succ, List.getElem_cons_zero, Act.put, List.setIfInBounds_toArray, List.set_cons_zero, List.set_cons_succ]
  refine wpList_appendSY rfl (.tmp 23) (.tmp 27) rfl W2.heap.size (v1) ([] ++ D.take p) rfl HR1.out (cutY ad (p + 1) n cap) (D.drop (p + 1)) rfl ((HSrc.out _ HZ1.out).cutD Hn.out (p + 1) hpn) (by first | exact Nat.le_refl _ | (have := HZ1.out.size; first | omega | (simp; omega))) (by have := Hn.out; first | (simp; omega) | (simp [List.length_append, List.length_take, List.length_drop]; omega)) ?_
  intro v2 w2 hr2 hg2 ha2
  simp only [List.getElem_toArray, List.getElem_cons_succ, List.getElem_cons_zero, Act.put, List.setIfInBounds_toArray, List.set_cons_zero, List.set_cons_succ]
  refine wpList_assign rfl (.tmp 28) rfl (v2) rfl ?_
  simp only [List.getElem_toArray, List.getElem_cons_succ, List.getElem_cons_zero, Act.put, List.setIfInBounds_toArray, List.set_cons_zero, List.set_cons_succ]
  refine wpList_assign rfl (.const (.bool true)) rfl (.bool true) rfl ?_
  simp only [List.getElem_toArray, List.getElem_cons_succ, List.getElem_cons_zero, Act.put, List.setIfInBounds_toArray, List.set_cons_zero, List.set_cons_succ]
  refine wpList_nil ?_
  have HR2 : Hid (RowY w2 W2.heap.size v2 (([] ++ D.take p) ++ D.drop (p + 1))) := hr2
  have HZ2 : Hid (Below W2.heap.size W2 w2) := bel_grownY HZ1.out HR1.out hg2 hz1 (Nat.le_refl _)
  clear hr2 hg2 ha2
  have hz2 := HZ2.out.size
  rw [List.nil_append] at HR2
  go_wp2_with (fail)
  refine bodyPost_ret (v := .tuple #[v2, .bool true]) (by simp [results, Try.results15, go_sem]) rfl ?_
  exact ⟨v2, rfl, RowY.out (HR2.out.base HB2.out.size), HB2.out.trans (HZ2.out.mono HB2.out.size)⟩
set_option maxRecDepth 20000 in
set_option maxHeartbeats 4000000 in
theorem rputFull (u : Value) (m : Hd → Option Int) (D : List Ey) (M : Nat) (k : Hd) (y : Int) (w : World) (hs : SrcY w u D) (hT : Tells m D) (hl : D.length ≤ 200000) (o : OkH k) (hm : m k = none) (hM : M ≤ D.length) :
    Calls Try.prog 11 #[u, .int .i64 (M : Int), .agg #[.int .u32 (k.s : Int), .int .u32 (k.d : Int), .int .u16 (k.p : Int), .int .u16 (k.q : Int), .int .u8 (k.r : Int)], .int .i64 y] w fun e w' => e = .returned (.tuple #[u, .int .i64 150]) ∧ Below w.heap.size w w' := by
  have HF : Hid (∀ W, Below w.heap.size w W → Calls Try.prog 27 #[u, .agg #[.int .u32 (k.s : Int), .int .u32 (k.d : Int), .int .u16 (k.p : Int), .int .u16 (k.q : Int), .int .u8 (k.r : Int)]] W fun e w' => e = .returned (.tuple #[.int .i64 (plY D k : Int), .bool (m k).isSome]) ∧ Below W.heap.size W w') := fun W hb => by
    have := rfindY u D k W (hs.keep hb) hT.ok hl o
    rw [hT.is o] at this
    exact this
  have HS : Hid (SrcY w u D) := hs
  have HT : Hid (Tells m D) := hT
  have HB0 : Hid (Below w.heap.size w (w.alloc (.cells #[.int .u32 (k.s : Int), .int .u32 (k.d : Int), .int .u16 (k.p : Int), .int .u16 (k.q : Int), .int .u8 (k.r : Int)] 36))) := (Below.refl _ _).alloc (Nat.le_refl _) _
  have HQ0 : Hid ((w.alloc (.cells #[.int .u32 (k.s : Int), .int .u32 (k.d : Int), .int .u16 (k.p : Int), .int .u16 (k.q : Int), .int .u8 (k.r : Int)] 36)).heap[w.heap.size]? = some (.cells #[.int .u32 (k.s : Int), .int .u32 (k.d : Int), .int .u16 (k.p : Int), .int .u16 (k.q : Int), .int .u8 (k.r : Int)] 36)) := blk_new w _
  have hp := plY_le D k
  obtain ⟨ad, cap, rfl, hcap, hat⟩ := hs
  obtain ⟨n, hn⟩ : ∃ n, n = D.length := ⟨_, rfl⟩
  obtain ⟨p, hpp⟩ : ∃ p, p = plY D k := ⟨_, rfl⟩
  have Hn : Hid (n = D.length) := hn
  have Hp : Hid (p = plY D k) := hpp
  rw [← hn] at hl hcap HF HS hp hM ⊢
  rw [← hpp] at hp HF
  try rw [← hpp]
  clear hat hn hpp hT
  have hn0 : (n : Int) ≤ 200000 := by omega
  have hpc : p ≤ cap := by omega
  go_enter Try.func11, Try.ntmps11
  go_upto_region 1 with (fail)
  generalize w.alloc (.cells #[.int .u32 (k.s : Int), .int .u32 (k.d : Int), .int .u16 (k.p : Int), .int .u16 (k.q : Int), .int .u8 (k.r : Int)] 36) = W1 at *
  obtain ⟨k0, k1, k2, k3, k4⟩ := blk5 HQ0.out
  go_wp2_with (fail)
  refine (HF.out _ HB0.out).mono ?_
  rintro e W2 ⟨rfl, hb2⟩
  have HB2 : Hid (Below w.heap.size w W2) := HB0.out.trans (hb2.mono HB0.out.size)
  have HQ2 : Hid (W2.heap[w.heap.size]? = some (.cells #[.int .u32 (k.s : Int), .int .u32 (k.d : Int), .int .u16 (k.p : Int), .int .u16 (k.q : Int), .int .u8 (k.r : Int)] 36)) := blk_on HQ0.out hb2
  clear hb2 k0 k1 k2 k3 k4 HF HQ0 HB0
  clear W1
  have hHB2 := HB2.out.size
  rw [hm]
  clear hm
  have hMi : (M : Int) ≤ (n : Int) := by omega
  go_wp2_with (fail)
  refine bodyPost_ret (v := .tuple #[.slice ad n cap, .int .i64 150]) (by simp [results, Try.results11, go_sem]) rfl ?_
  exact ⟨rfl, HB2.out⟩
set_option maxRecDepth 20000 in
set_option maxHeartbeats 4000000 in
theorem rputSet (u : Value) (m : Hd → Option Int) (D : List Ey) (M : Nat) (k : Hd) (y : Int) (w : World) (hs : SrcY w u D) (hT : Tells m D) (hl : D.length ≤ 200000) (o : OkH k) (hm : (m k).isSome = true) :
    Calls Try.prog 11 #[u, .int .i64 (M : Int), .agg #[.int .u32 (k.s : Int), .int .u32 (k.d : Int), .int .u16 (k.p : Int), .int .u16 (k.q : Int), .int .u8 (k.r : Int)], .int .i64 y] w fun e w' => ∃ v', e = .returned (.tuple #[v', .int .i64 0]) ∧ OutY w w' v' (D.take (plY D k) ++ [⟨k, y⟩] ++ D.drop (plY D k + 1)) ∧ Below w.heap.size w w' := by
  have HF : Hid (∀ W, Below w.heap.size w W → Calls Try.prog 27 #[u, .agg #[.int .u32 (k.s : Int), .int .u32 (k.d : Int), .int .u16 (k.p : Int), .int .u16 (k.q : Int), .int .u8 (k.r : Int)]] W fun e w' => e = .returned (.tuple #[.int .i64 (plY D k : Int), .bool (m k).isSome]) ∧ Below W.heap.size W w') := fun W hb => by
    have := rfindY u D k W (hs.keep hb) hT.ok hl o
    rw [hT.is o] at this
    exact this
  have HS : Hid (SrcY w u D) := hs
  have HT : Hid (Tells m D) := hT
  have HB0 : Hid (Below w.heap.size w (w.alloc (.cells #[.int .u32 (k.s : Int), .int .u32 (k.d : Int), .int .u16 (k.p : Int), .int .u16 (k.q : Int), .int .u8 (k.r : Int)] 36))) := (Below.refl _ _).alloc (Nat.le_refl _) _
  have HQ0 : Hid ((w.alloc (.cells #[.int .u32 (k.s : Int), .int .u32 (k.d : Int), .int .u16 (k.p : Int), .int .u16 (k.q : Int), .int .u8 (k.r : Int)] 36)).heap[w.heap.size]? = some (.cells #[.int .u32 (k.s : Int), .int .u32 (k.d : Int), .int .u16 (k.p : Int), .int .u16 (k.q : Int), .int .u8 (k.r : Int)] 36)) := blk_new w _
  have hp := plY_le D k
  obtain ⟨ad, cap, rfl, hcap, hat⟩ := hs
  obtain ⟨n, hn⟩ : ∃ n, n = D.length := ⟨_, rfl⟩
  obtain ⟨p, hpp⟩ : ∃ p, p = plY D k := ⟨_, rfl⟩
  have Hn : Hid (n = D.length) := hn
  have Hp : Hid (p = plY D k) := hpp
  rw [← hn] at hl hcap HF HS hp ⊢
  rw [← hpp] at hp HF
  try rw [← hpp]
  clear hat hn hpp hT
  have hn0 : (n : Int) ≤ 200000 := by omega
  have hpc : p ≤ cap := by omega
  go_enter Try.func11, Try.ntmps11
  go_upto_region 1 with (fail)
  generalize w.alloc (.cells #[.int .u32 (k.s : Int), .int .u32 (k.d : Int), .int .u16 (k.p : Int), .int .u16 (k.q : Int), .int .u8 (k.r : Int)] 36) = W1 at *
  obtain ⟨k0, k1, k2, k3, k4⟩ := blk5 HQ0.out
  go_wp2_with (fail)
  refine (HF.out _ HB0.out).mono ?_
  rintro e W2 ⟨rfl, hb2⟩
  have HB2 : Hid (Below w.heap.size w W2) := HB0.out.trans (hb2.mono HB0.out.size)
  have HQ2 : Hid (W2.heap[w.heap.size]? = some (.cells #[.int .u32 (k.s : Int), .int .u32 (k.d : Int), .int .u16 (k.p : Int), .int .u16 (k.q : Int), .int .u8 (k.r : Int)] 36)) := blk_on HQ0.out hb2
  clear hb2 k0 k1 k2 k3 k4 HF HQ0 HB0
  clear W1
  have hHB2 := HB2.out.size
  obtain ⟨y0, hy0⟩ := Option.isSome_iff_exists.1 hm
  have HX : Hid (D[p]? = some ⟨k, y0⟩) := by have := HT.out.at_some o hy0; rw [← Hp.out] at this; exact this
  have hpn : p < n := by have := (List.getElem?_eq_some_iff.1 HX.out).1; rw [← Hn.out] at this; exact this
  have hpi : (p : Int) < (n : Int) := by omega
  rw [hm]
  clear hm hy0
  have HSrc : Hid (∀ W, Below W2.heap.size W2 W → SrcY W (.slice ad n cap) D) := fun W hb => (HS.out.keep HB2.out).keep hb
  have HZ0 : Hid (Below W2.heap.size W2 W2) := Below.refl _ _
  go_upto_region 4 with (fail)
  refine wp_region_lit ?_
  refine wpList_move rfl (.tmp 12) rfl (.slice none 0 0) rfl ?_
  simp only [List.getElem_toArray, List.getElem_cons_succ, List.getElem_cons_zero, Act.put, List.setIfInBounds_toArray, List.set_cons_zero, List.set_cons_succ]
  refine wpList_move rfl (.tmp 0) rfl (.slice ad n cap) rfl ?_
  simp only [List.getElem_toArray, List.getElem_cons_succ, List.getElem_cons_zero, Act.put, List.setIfInBounds_toArray, List.set_cons_zero, List.set_cons_succ]
  refine wpList_appendSY rfl (.tmp 21) (.tmp 22) rfl W2.heap.size (.slice none 0 0) ([]) rfl (RowY.nil _ _) (.slice ad n cap) (D) rfl (HSrc.out _ HZ0.out) (by first | exact Nat.le_refl _ | (have := HZ0.out.size; first | omega | (simp; omega))) (by have := Hn.out; first | (simp; omega) | (simp [List.length_append, List.length_take, List.length_drop]; omega)) ?_
  intro v1 w1 hr1 hg1 ha1
  simp only [List.getElem_toArray, List.getElem_cons_succ, List.getElem_cons_zero, Act.put, List.setIfInBounds_toArray, List.set_cons_zero, List.set_cons_succ]
  refine wpList_assign rfl (.tmp 23) rfl (v1) rfl ?_
  simp only [List.getElem_toArray, List.getElem_cons_succ, List.getElem_cons_zero, Act.put, List.setIfInBounds_toArray, List.set_cons_zero, List.set_cons_succ]
  refine wpList_nil ?_
  have HR1 : Hid (RowY w1 W2.heap.size v1 ([] ++ D)) := hr1
  have HZ1 : Hid (Below W2.heap.size W2 w1) := bel_grownY HZ0.out (RowY.nil _ _) hg1 (Nat.le_refl _) (Nat.le_refl _)
  clear hr1 hg1 ha1
  have hz1 := HZ1.out.size
  rw [List.nil_append] at HR1
  obtain ⟨g, c1, rfl, hc1, hg1, hg2⟩ := HR1.out.some (by rw [← Hn.out]; omega)
  obtain ⟨g', off, e', hg', x0, x1, x2, x3, x4, x5⟩ := srcY_at HR1.out.src HX.out
  cases e'
  rw [Nat.zero_add] at x5
  have hfz := HR1.out.frozen (p * 6 + 5)
  rw [← Hn.out] at HR1 hc1 ⊢
  clear x0 x1 x2 x3 x4
  have HO : Hid (SrcY (w1.setCell ⟨g, p * 6 + 5, none⟩ (.int .i64 y)) (.slice (some ⟨g, 0, none⟩) n c1) (D.take p ++ [⟨k, y⟩] ++ D.drop (p + 1))) := HR1.out.src.set5 HX.out
  have HZ2 : Hid (Below W2.heap.size W2 (w1.setCell ⟨g, p * 6 + 5, none⟩ (.int .i64 y))) := (HZ1.out).setCell (show W2.heap.size ≤ (⟨g, p * 6 + 5, none⟩ : Addr).block from hg1) _
  go_wp2_with (fail)
  refine bodyPost_ret (v := .tuple #[.slice (some ⟨g, 0, none⟩) n c1, .int .i64 0]) (by simp [results, Try.results11, go_sem]) rfl ?_
  exact ⟨_, rfl, ⟨by have := HO.out; rw [List.append_assoc] at this; exact this, fun b hb => by cases hb; simp; omega⟩, HB2.out.trans (HZ2.out.mono HB2.out.size)⟩
set_option maxRecDepth 20000 in
set_option maxHeartbeats 4000000 in
theorem rputIns (u : Value) (m : Hd → Option Int) (D : List Ey) (M : Nat) (k : Hd) (y : Int) (w : World) (hs : SrcY w u D) (hT : Tells m D) (hl : D.length ≤ 200000) (o : OkH k) (hm : m k = none) (hM : D.length < M) :
    Calls Try.prog 11 #[u, .int .i64 (M : Int), .agg #[.int .u32 (k.s : Int), .int .u32 (k.d : Int), .int .u16 (k.p : Int), .int .u16 (k.q : Int), .int .u8 (k.r : Int)], .int .i64 y] w fun e w' => ∃ v', e = .returned (.tuple #[v', .int .i64 0]) ∧ OutY w w' v' (D.take (plY D k) ++ [⟨k, y⟩] ++ D.drop (plY D k)) ∧ Below w.heap.size w w' := by
  have HF : Hid (∀ W, Below w.heap.size w W → Calls Try.prog 27 #[u, .agg #[.int .u32 (k.s : Int), .int .u32 (k.d : Int), .int .u16 (k.p : Int), .int .u16 (k.q : Int), .int .u8 (k.r : Int)]] W fun e w' => e = .returned (.tuple #[.int .i64 (plY D k : Int), .bool (m k).isSome]) ∧ Below W.heap.size W w') := fun W hb => by
    have := rfindY u D k W (hs.keep hb) hT.ok hl o
    rw [hT.is o] at this
    exact this
  have HS : Hid (SrcY w u D) := hs
  have HT : Hid (Tells m D) := hT
  have HB0 : Hid (Below w.heap.size w (w.alloc (.cells #[.int .u32 (k.s : Int), .int .u32 (k.d : Int), .int .u16 (k.p : Int), .int .u16 (k.q : Int), .int .u8 (k.r : Int)] 36))) := (Below.refl _ _).alloc (Nat.le_refl _) _
  have HQ0 : Hid ((w.alloc (.cells #[.int .u32 (k.s : Int), .int .u32 (k.d : Int), .int .u16 (k.p : Int), .int .u16 (k.q : Int), .int .u8 (k.r : Int)] 36)).heap[w.heap.size]? = some (.cells #[.int .u32 (k.s : Int), .int .u32 (k.d : Int), .int .u16 (k.p : Int), .int .u16 (k.q : Int), .int .u8 (k.r : Int)] 36)) := blk_new w _
  have hp := plY_le D k
  obtain ⟨ad, cap, rfl, hcap, hat⟩ := hs
  obtain ⟨n, hn⟩ : ∃ n, n = D.length := ⟨_, rfl⟩
  obtain ⟨p, hpp⟩ : ∃ p, p = plY D k := ⟨_, rfl⟩
  have Hn : Hid (n = D.length) := hn
  have Hp : Hid (p = plY D k) := hpp
  rw [← hn] at hl hcap HF HS hp hM ⊢
  rw [← hpp] at hp HF
  try rw [← hpp]
  clear hat hn hpp hT
  have hn0 : (n : Int) ≤ 200000 := by omega
  have hpc : p ≤ cap := by omega
  go_enter Try.func11, Try.ntmps11
  go_upto_region 1 with (fail)
  generalize w.alloc (.cells #[.int .u32 (k.s : Int), .int .u32 (k.d : Int), .int .u16 (k.p : Int), .int .u16 (k.q : Int), .int .u8 (k.r : Int)] 36) = W1 at *
  obtain ⟨k0, k1, k2, k3, k4⟩ := blk5 HQ0.out
  go_wp2_with (fail)
  refine (HF.out _ HB0.out).mono ?_
  rintro e W2 ⟨rfl, hb2⟩
  have HB2 : Hid (Below w.heap.size w W2) := HB0.out.trans (hb2.mono HB0.out.size)
  have HQ2 : Hid (W2.heap[w.heap.size]? = some (.cells #[.int .u32 (k.s : Int), .int .u32 (k.d : Int), .int .u16 (k.p : Int), .int .u16 (k.q : Int), .int .u8 (k.r : Int)] 36)) := blk_on HQ0.out hb2
  clear hb2 k0 k1 k2 k3 k4 HF HQ0 HB0
  clear W1
  have hHB2 := HB2.out.size
  rw [hm]
  clear hm
  have hMi : ¬ (M : Int) ≤ (n : Int) := by omega
  have HSrc : Hid (∀ W, Below W2.heap.size W2 W → SrcY W (.slice ad n cap) D) := fun W hb => (HS.out.keep HB2.out).keep hb
  have HZ0 : Hid (Below W2.heap.size W2 W2) := Below.refl _ _
  go_upto_region 10 with (fail)
  refine wp_region_lit ?_
  refine wpList_move rfl (.tmp 13) rfl (.slice none 0 0) rfl ?_
  simp only [List.getElem_toArray, List.getElem_cons_succ, List.getElem_cons_zero, Act.put, List.setIfInBounds_toArray, List.set_cons_zero, List.set_cons_succ]
  refine wpList_move rfl (.tmp 0) rfl (.slice ad n cap) rfl ?_
  simp only [List.getElem_toArray, List.getElem_cons_succ, List.getElem_cons_zero, Act.put, List.setIfInBounds_toArray, List.set_cons_zero, List.set_cons_succ]
  refine wpList_move rfl (.tmp 10) rfl (.int .i64 (p : Int)) rfl ?_
  simp only [List.getElem_toArray, List.getElem_cons_succ, List.getElem_cons_zero, Act.put, List.setIfInBounds_toArray, List.set_cons_zero, List.set_cons_succ]
  refine wpList_cut rfl 32 (.tmp 36) none (some (.tmp 37)) none rfl (.slice ad p cap) (cut_h' _ ad n cap p _ (rfl) (by omega)) ?_
  simp only [List.getElem_toArray, List.getElem_cons_succ, List.getElem_cons_zero, Act.put, List.setIfInBounds_toArray, List.set_cons_zero, List.set_cons_succ]
  refine wpList_appendSY rfl (.tmp 35) (.tmp 38) rfl W2.heap.size (.slice none 0 0) ([]) rfl (RowY.nil _ _) (.slice ad p cap) (D.take p) rfl ((HSrc.out _ HZ0.out).cut0 p (by rw [← Hn.out]; exact hp)) (by first | exact Nat.le_refl _ | (have := HZ0.out.size; first | omega | (simp; omega))) (by have := Hn.out; first | (simp; omega) | (simp [List.length_append, List.length_take, List.length_drop]; omega)) ?_
  intro v1 w1 hr1 hg1 ha1
  simp only [List.getElem_toArray, List.getElem_cons_succ, List.getElem_cons_zero, Act.put, List.setIfInBounds_toArray, List.set_cons_zero, List.set_cons_succ]
  refine wpList_assign rfl (.tmp 39) rfl (v1) rfl ?_
  simp only [List.getElem_toArray, List.getElem_cons_succ, List.getElem_cons_zero, Act.put, List.setIfInBounds_toArray, List.set_cons_zero, List.set_cons_succ]
  refine wpList_nil ?_
  have HR1 : Hid (RowY w1 W2.heap.size v1 ([] ++ D.take p)) := hr1
  have HZ1 : Hid (Below W2.heap.size W2 w1) := bel_grownY HZ0.out (RowY.nil _ _) hg1 (Nat.le_refl _) (Nat.le_refl _)
  clear hr1 hg1 ha1
  have hz1 := HZ1.out.size
  have HRb : Hid (w1.heap[w.heap.size]? = some (.cells #[.int .u32 (k.s : Int), .int .u32 (k.d : Int), .int .u16 (k.p : Int), .int .u16 (k.q : Int), .int .u8 (k.r : Int)] 36)) := by show _ = _; rw [HZ1.out.block _ (blk_lt HQ2.out)]; exact HQ2.out
  obtain ⟨d0, d1, d2, d3, d4⟩ := blk5 HRb.out
  go_upto_region 12 with ((at_builtin; refine wpList_appendSY rfl (.tmp 40) (.tmp 44) rfl W2.heap.size v1 ([] ++ D.take p) rfl (HR1.out.alloc _) _ [⟨k, y⟩] rfl (RowY.one w1 0 ⟨k, y⟩ (Nat.zero_le _)).src (by simp; omega) (by have := Hn.out; first | (simp; omega) | (simp [List.length_append, List.length_take, List.length_drop]; omega)) ?_; intro v2 w2 hr2 hg2 ha2))
  have HZa : Hid (Below W2.heap.size W2 (w1.alloc (.cells #[.int .u32 (k.s : Int), .int .u32 (k.d : Int), .int .u16 (k.p : Int), .int .u16 (k.q : Int), .int .u8 (k.r : Int), .int .i64 y] 52))) := HZ1.out.alloc hz1 _
  have HR2 : Hid (RowY w2 W2.heap.size v2 (([] ++ D.take p) ++ [⟨k, y⟩])) := hr2
  have HZ2 : Hid (Below W2.heap.size W2 w2) := bel_grownY HZa.out (HR1.out.alloc _) hg2 (by simp; omega) (Nat.le_refl _)
  clear hr2 hg2 ha2
  clear d0 d1 d2 d3 d4
  have hz2 := HZ2.out.size
  go_upto_region 12 with (fail)
  refine wp_region_lit ?_
  refine wpList_move rfl (.tmp 13) rfl (v2) rfl ?_
  simp only [List.getElem_toArray, List.getElem_cons_succ, List.getElem_cons_zero, Act.put, List.setIfInBounds_toArray, List.set_cons_zero, List.set_cons_succ]
  refine wpList_move rfl (.tmp 0) rfl (.slice ad n cap) rfl ?_
  simp only [List.getElem_toArray, List.getElem_cons_succ, List.getElem_cons_zero, Act.put, List.setIfInBounds_toArray, List.set_cons_zero, List.set_cons_succ]
  refine wpList_move rfl (.tmp 10) rfl (.int .i64 (p : Int)) rfl ?_
  simp only [List.getElem_toArray, List.getElem_cons_succ, List.getElem_cons_zero, Act.put, List.setIfInBounds_toArray, List.set_cons_zero, List.set_cons_succ]
  refine wpList_cut rfl 32 (.tmp 47) (some (.tmp 48)) none none rfl (cutY ad p n cap) (cut_l' _ ad n cap p _ (rfl) (by omega)) ?_
  simp only [List.getElem_toArray, List.getElem_cons_succ, List.getElem_cons_zero, Act.put, List.setIfInBounds_toArray, List.set_cons_zero, List.set_cons_succ]
  refine wpList_appendSY rfl (.tmp 46) (.tmp 49) rfl W2.heap.size (v2) (([] ++ D.take p) ++ [⟨k, y⟩]) rfl HR2.out (cutY ad p n cap) (D.drop p) rfl ((HSrc.out _ HZ2.out).cutD Hn.out p hp) (by first | exact Nat.le_refl _ | (have := HZ2.out.size; first | omega | (simp; omega))) (by have := Hn.out; first | (simp; omega) | (simp [List.length_append, List.length_take, List.length_drop]; omega)) ?_
  intro v3 w3 hr3 hg3 ha3
  simp only [List.getElem_toArray, List.getElem_cons_succ, List.getElem_cons_zero, Act.put, List.setIfInBounds_toArray, List.set_cons_zero, List.set_cons_succ]
  refine wpList_assign rfl (.tmp 50) rfl (v3) rfl ?_
  simp only [List.getElem_toArray, List.getElem_cons_succ, List.getElem_cons_zero, Act.put, List.setIfInBounds_toArray, List.set_cons_zero, List.set_cons_succ]
  refine wpList_assign rfl (.const (.int .i64 0)) rfl (.int .i64 0) rfl ?_
  simp only [List.getElem_toArray, List.getElem_cons_succ, List.getElem_cons_zero, Act.put, List.setIfInBounds_toArray, List.set_cons_zero, List.set_cons_succ]
  refine wpList_nil ?_
  have HR3 : Hid (RowY w3 W2.heap.size v3 ((([] ++ D.take p) ++ [⟨k, y⟩]) ++ D.drop p)) := hr3
  have HZ3 : Hid (Below W2.heap.size W2 w3) := bel_grownY HZ2.out HR2.out hg3 hz2 (Nat.le_refl _)
  clear hr3 hg3 ha3
  have hz3 := HZ3.out.size
  rw [List.nil_append] at HR3
  go_wp2_with (fail)
  refine bodyPost_ret (v := .tuple #[v3, .int .i64 0]) (by simp [results, Try.results11, go_sem]) rfl ?_
  exact ⟨v3, rfl, RowY.out (HR3.out.base HB2.out.size), HB2.out.trans (HZ3.out.mono HB2.out.size)⟩

end Go.Proofs.Ythfjdoenofkghaa
