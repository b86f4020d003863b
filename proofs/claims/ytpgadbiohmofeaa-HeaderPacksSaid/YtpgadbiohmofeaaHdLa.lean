/-
  HeaderPacks, out of what the functions of header hand back. Written by tools/mkHdLa.py.
-/
import Derived.Test.YtpgadbiohmofeaaHdAw
import Derived.Test.YtpgadbiohmofeaaHdLe
namespace Go.Proofs.Ytpgadbiohmofeaa
open Go.RowKit
set_option linter.unusedVariables false
set_option linter.unusedSimpArgs false

theorem unp_alike (hUn : UnpN) (hUc : UnpC) (l : List Nat) (hl : l.length ≤ 16777216) (bd : BdB l) : ∃ (y : Hd) (e : Int),
    (∀ v w, SrcB w v l → Calls Try.prog 10 #[v] w fun r w' => r = .returned (.tuple #[.agg #[.int .u32 (y.s : Int), .int .u32 (y.d : Int), .int .u16 (y.p : Int), .int .u16 (y.q : Int), .int .u8 (y.r : Int)], .int .i64 e]) ∧ Below w.heap.size w w')
    ∧ (∀ v w, SrcB w v l → Calls Try.prog 11 #[v] w fun r w' => r = .returned (.tuple #[.agg #[.int .u32 (y.s : Int), .int .u32 (y.d : Int), .int .u16 (y.p : Int), .int .u16 (y.q : Int), .int .u8 (y.r : Int)], .int .i64 e]) ∧ Below w.heap.size w w') := by
  by_cases h : l.length = 13
  · exact ⟨hdB l, 0, fun v w hs => hUc l v w hs h bd, fun v w hs => runpC l v w hs h bd⟩
  · exact ⟨h0, 60, fun v w hs => hUn l v w hs h hl, fun v w hs => runpN l v w hs h (by omega)⟩
theorem grown_trans {a b c : World} {r : Option Nat} (h : a.grownBy b r) (k : b.grownBy c r) : a.grownBy c r :=
  ⟨k.os.trans h.os, k.tape.trans h.tape, k.output.trans h.output, Nat.le_trans h.size k.size, fun x hx hne => (k.block x (Nat.lt_of_lt_of_le hx h.size) hne).trans (h.block x hx hne)⟩
/-- The first k bytes turned to 77. -/
def sevs (l : List Nat) (k : Nat) : List Nat := List.replicate k 77 ++ l.drop k
theorem sevs_length (l : List Nat) (k : Nat) (h : k ≤ l.length) : (sevs l k).length = l.length := by unfold sevs; rw [List.length_append, List.length_replicate, List.length_drop]; omega
theorem sevs_set (l : List Nat) (k : Nat) (h : k < l.length) : (sevs l k).set k 77 = sevs l (k + 1) := by
  unfold sevs
  rw [List.set_append_right _ _ (by simp), List.length_replicate, Nat.sub_self, List.drop_eq_getElem_cons h, List.set_cons_zero, List.replicate_succ']
  simp
theorem RowB.cell13 {w : World} {b g n cap k : Nat} {l : List Nat} (h : RowB w b (.slice (some ⟨g, 0, none⟩) n cap) l) (hn : n = l.length) (hk : k < l.length) : w.cell? ⟨g, k, none⟩ = some (.int .u8 ((l[k]'hk : Nat) : Int)) := by
  subst hn
  obtain ⟨ty, h'⟩ := h
  rw [h'.cellAt k (by omega), flatB_at l k hk]
theorem cell_gone {w w' : World} {g : Nat} (hg : w.grownBy w' (some g)) {b o : Nat} {v : Value} (h : w.cell? ⟨b, o, none⟩ = some v) (hne : b ≠ g) : w'.cell? ⟨b, o, none⟩ = some v := hg.cell h (fun e => hne (by simpa using e))
set_option maxRecDepth 100000 in
set_option maxHeartbeats 8000000 in
theorem headerPacks_core (hP : PackC) (hUn : UnpN) (hUc : UnpC) (hA : ∀ w : World, Calls Try.prog 9 #[] w fun e w' => e = .returned (.bool true) ∧ Below w.heap.size w w') (h : Hd) (o : OkH h) (l : List Nat) (vb : Value) (w : World) (hs : SrcB w vb l) (ml : l.length ≤ 9223372036854775807) (bd : BdB l) :
    Calls Try.prog 3 #[.agg #[.int .u32 (h.s : Int), .int .u32 (h.d : Int), .int .u16 (h.p : Int), .int .u16 (h.q : Int), .int .u8 (h.r : Int)], vb] w fun e w' => e = .returned (.bool true) ∧ Below w.heap.size w w' := by
  obtain ⟨ad, cap, rfl⟩ := hs.form
  by_cases hbig : l.length ≤ 16777216
  · obtain ⟨y, er, u1, u2⟩ := unp_alike hUn hUc l hbig bd
    have k1 := fun W => hP h W o
    have k2 := fun W => rpackT h W o
    have k3 := fun v u W h1 h2 => sameB (bytesH h) (by rw [bytesH_length]; omega) v u W h1 h2
    have k4 := fun v u W h1 h2 => sameB l (by omega) v u W h1 h2
    clear hP hUn hUc
    obtain ⟨i0, hi, hz0, hz1, hz2⟩ := info_parts info_u8
    have hmk : ∀ W : World, (Instr.makeSlice 26 (.int .i64 (l.length : Int)) (.int .i64 ((l.length : Int) + 1))).run Try.prog W = .ok (.slice (some ⟨W.heap.size, 0, none⟩) l.length (l.length + 1)) (W.alloc (.cells (madeCells #[.int .u8 0] (l.length + 1)) 5)) := fun W => by
      have := run_make (P := Try.prog) W 26 5 i0 (.int .u8 0) Try.underlying26 hi hz0 .i64 .i64 (l.length : Int) ((l.length : Int) + 1) (by omega) (by omega) (by rw [hz2]; omega) (by omega)
      have e2 : ((l.length : Int) + 1).toNat = l.length + 1 := by omega
      simpa [hz1, Value.cells, e2] using this
    have hs0 : SrcB (w.alloc (.cells #[.int .u32 (h.s : Int), .int .u32 (h.d : Int), .int .u16 (h.p : Int), .int .u16 (h.q : Int), .int .u8 (h.r : Int)] 25)) (.slice ad l.length cap) l := hs.keep ((Below.refl _ _).alloc (Nat.le_refl _) _)
    obtain ⟨w1, hcp, C1, z1, F1, B1, L1⟩ := lentB (w.alloc (.cells #[.int .u32 (h.s : Int), .int .u32 (h.d : Int), .int .u16 (h.p : Int), .int .u16 (h.q : Int), .int .u8 (h.r : Int)] 25)) l _ hs0 3
    simp only [World.size_alloc] at hcp C1 z1 F1 B1 L1
    obtain ⟨n, hn⟩ : ∃ n, n = l.length := ⟨_, rfl⟩
    have HLn : Hid (n = l.length) := hn
    have HC1 : Hid (∀ k (hk : k < l.length), w1.cell? ⟨w.heap.size + 1, k, none⟩ = some (.int .u8 ((l[k]'hk : Nat) : Int))) := C1
    have HB1 : Hid (Below (w.heap.size + 1) (w.alloc (.cells #[.int .u32 (h.s : Int), .int .u32 (h.d : Int), .int .u16 (h.p : Int), .int .u16 (h.q : Int), .int .u8 (h.r : Int)] 25)) w1) := B1
    have fz := F1 l.length
    have HSn : Hid (SrcB w (.slice ad n cap) l) := by show SrcB _ _ _; rw [hn]; exact hs
    rw [← hn] at hmk hcp z1 fz hbig ⊢
    clear hi hz0 hz1 hz2 C1 F1 B1 hs hs0 hn bd
    have hng : ¬ (16777216 : Int) < ((n : Nat) : Int) := by omega
    have hnd : decide ((16777216 : Int) < ((n : Nat) : Int)) = false := decide_eq_false hng
    have hn0 : (0 : Int) ≤ ((n : Nat) : Int) := by omega
    go_enter Try.func3, Try.ntmps3
    go_wp2_with (fail)
    obtain ⟨w2, hw2⟩ : ∃ w2, w2 = w1.setCell ⟨w.heap.size + 1, n, none⟩ (.int .u8 99) := ⟨_, rfl⟩
    have HC2 : Hid (∀ k (hk : k < l.length), w2.cell? ⟨w.heap.size + 1, k, none⟩ = some (.int .u8 ((l[k]'hk : Nat) : Int))) := fun k hk => by
      have h1 := HC1.out k hk
      have h2 := HLn.out
      have h3 : ¬ k = n := by omega
      have h4 : ¬ n = k := by omega
      rw [hw2]
      simp [go_sem, h1, h3, h4]
    have z0 : w2.cell? ⟨w.heap.size + 1, n, none⟩ = some (.int .u8 99) := by rw [hw2]; simp [go_sem, z1]
    have HB2 : Hid (Below (w.heap.size + 1) (w.alloc (.cells #[.int .u32 (h.s : Int), .int .u32 (h.d : Int), .int .u16 (h.p : Int), .int .u16 (h.q : Int), .int .u8 (h.r : Int)] 25)) w2) := by rw [hw2]; exact HB1.out.setCell (Nat.le_refl _) _
    have HBw : Hid (Below w.heap.size w w2) := ((Below.refl _ _).alloc (Nat.le_refl _) _).trans (HB2.out.mono (by omega))
    have L2 : w.heap.size + 1 < w2.heap.size := World.block_lt_of_cell? _ _ z0
    have hc0 : w2.cell? ⟨w.heap.size, 0, none⟩ = some (.int .u32 (h.s : Int)) := by rw [HB2.out.cell (by show w.heap.size < _; omega)]; simp [go_sem]
    have hc1 : w2.cell? ⟨w.heap.size, 1, none⟩ = some (.int .u32 (h.d : Int)) := by rw [HB2.out.cell (by show w.heap.size < _; omega)]; simp [go_sem]
    have hc2 : w2.cell? ⟨w.heap.size, 2, none⟩ = some (.int .u16 (h.p : Int)) := by rw [HB2.out.cell (by show w.heap.size < _; omega)]; simp [go_sem]
    have hc3 : w2.cell? ⟨w.heap.size, 3, none⟩ = some (.int .u16 (h.q : Int)) := by rw [HB2.out.cell (by show w.heap.size < _; omega)]; simp [go_sem]
    have hc4 : w2.cell? ⟨w.heap.size, 4, none⟩ = some (.int .u8 (h.r : Int)) := by rw [HB2.out.cell (by show w.heap.size < _; omega)]; simp [go_sem]
    rw [← hw2]
    have SI : Hid (∀ W, Below w2.heap.size w2 W → SrcB W (.slice (some ⟨w.heap.size + 1, 0, none⟩) n (n + 1)) l) := fun W hb =>
      ⟨some ⟨w.heap.size + 1, 0, none⟩, n + 1, by rw [HLn.out], by have := HLn.out; omega, fun _ => ⟨w.heap.size + 1, 0, rfl, fun k hk => by rw [Nat.zero_add]; exact cell_on1 hb (HC2.out k hk)⟩⟩
    have HS2 : Hid (SrcB w2 (.slice ad n cap) l) := HSn.out.keep HBw.out
    clear hw2 HC1 HB1 z1 fz hmk hcp L1 HC2 HB2 HSn
    go_wp2_with (fail)
    refine (u1 _ _ (SI.out _ (Below.refl _ _))).mono ?_
    rintro e w3 ⟨rfl, hb3⟩
    have hz3 := hb3.size
    (try simp at hz3)
    have h0_3 : w3.cell? ⟨w.heap.size, 0, none⟩ = some (.int .u32 (h.s : Int)) := cell_on hb3 hc0
    have h1_3 : w3.cell? ⟨w.heap.size, 1, none⟩ = some (.int .u32 (h.d : Int)) := cell_on hb3 hc1
    have h2_3 : w3.cell? ⟨w.heap.size, 2, none⟩ = some (.int .u16 (h.p : Int)) := cell_on hb3 hc2
    have h3_3 : w3.cell? ⟨w.heap.size, 3, none⟩ = some (.int .u16 (h.q : Int)) := cell_on hb3 hc3
    have h4_3 : w3.cell? ⟨w.heap.size, 4, none⟩ = some (.int .u8 (h.r : Int)) := cell_on hb3 hc4
    have z_3 : w3.cell? ⟨w.heap.size + 1, n, none⟩ = some (.int .u8 99) := cell_on hb3 z0
    have hg3_0 : w.heap.size < w3.heap.size := by omega
    have hg3_1 : w.heap.size + 1 < w3.heap.size := by omega
    have hl3 : w2.heap.size ≤ w3.heap.size := by omega
    have hw3 : Hid (Below w2.heap.size w2 w3) := (Below.refl _ _).trans (hb3.mono (by first | omega | (simp; done) | (simp; omega)))
    clear hb3 hc0 hc1 hc2 hc3 hc4 z0
    go_wp2_with (fail)
    refine (u2 _ _ (HS2.out.keep (hw3.out.alloc (by first | omega | (simp; done) | (simp; omega)) _))).mono ?_
    rintro e w4 ⟨rfl, hb4⟩
    have hz4 := hb4.size
    (try simp at hz4)
    have h0_4 : w4.cell? ⟨w.heap.size, 0, none⟩ = some (.int .u32 (h.s : Int)) := cell_on hb4 (cell_alloc h0_3)
    have h1_4 : w4.cell? ⟨w.heap.size, 1, none⟩ = some (.int .u32 (h.d : Int)) := cell_on hb4 (cell_alloc h1_3)
    have h2_4 : w4.cell? ⟨w.heap.size, 2, none⟩ = some (.int .u16 (h.p : Int)) := cell_on hb4 (cell_alloc h2_3)
    have h3_4 : w4.cell? ⟨w.heap.size, 3, none⟩ = some (.int .u16 (h.q : Int)) := cell_on hb4 (cell_alloc h3_3)
    have h4_4 : w4.cell? ⟨w.heap.size, 4, none⟩ = some (.int .u8 (h.r : Int)) := cell_on hb4 (cell_alloc h4_3)
    have z_4 : w4.cell? ⟨w.heap.size + 1, n, none⟩ = some (.int .u8 99) := cell_on hb4 (cell_alloc z_3)
    have u0_4 : w4.cell? ⟨w3.heap.size, 0, none⟩ = some (.int .u32 (y.s : Int)) := cell_on hb4 (show (w3.alloc (.cells #[.int .u32 (y.s : Int), .int .u32 (y.d : Int), .int .u16 (y.p : Int), .int .u16 (y.q : Int), .int .u8 (y.r : Int)] 25)).cell? ⟨w3.heap.size, 0, none⟩ = some (.int .u32 (y.s : Int)) from by simp [go_sem])
    have u1_4 : w4.cell? ⟨w3.heap.size, 1, none⟩ = some (.int .u32 (y.d : Int)) := cell_on hb4 (show (w3.alloc (.cells #[.int .u32 (y.s : Int), .int .u32 (y.d : Int), .int .u16 (y.p : Int), .int .u16 (y.q : Int), .int .u8 (y.r : Int)] 25)).cell? ⟨w3.heap.size, 1, none⟩ = some (.int .u32 (y.d : Int)) from by simp [go_sem])
    have u2_4 : w4.cell? ⟨w3.heap.size, 2, none⟩ = some (.int .u16 (y.p : Int)) := cell_on hb4 (show (w3.alloc (.cells #[.int .u32 (y.s : Int), .int .u32 (y.d : Int), .int .u16 (y.p : Int), .int .u16 (y.q : Int), .int .u8 (y.r : Int)] 25)).cell? ⟨w3.heap.size, 2, none⟩ = some (.int .u16 (y.p : Int)) from by simp [go_sem])
    have u3_4 : w4.cell? ⟨w3.heap.size, 3, none⟩ = some (.int .u16 (y.q : Int)) := cell_on hb4 (show (w3.alloc (.cells #[.int .u32 (y.s : Int), .int .u32 (y.d : Int), .int .u16 (y.p : Int), .int .u16 (y.q : Int), .int .u8 (y.r : Int)] 25)).cell? ⟨w3.heap.size, 3, none⟩ = some (.int .u16 (y.q : Int)) from by simp [go_sem])
    have u4_4 : w4.cell? ⟨w3.heap.size, 4, none⟩ = some (.int .u8 (y.r : Int)) := cell_on hb4 (show (w3.alloc (.cells #[.int .u32 (y.s : Int), .int .u32 (y.d : Int), .int .u16 (y.p : Int), .int .u16 (y.q : Int), .int .u8 (y.r : Int)] 25)).cell? ⟨w3.heap.size, 4, none⟩ = some (.int .u8 (y.r : Int)) from by simp [go_sem])
    have hg4_0 : w.heap.size < w4.heap.size := by omega
    have hg4_1 : w.heap.size + 1 < w4.heap.size := by omega
    have hg4_2 : w3.heap.size < w4.heap.size := by omega
    have hl4 : w2.heap.size ≤ w4.heap.size := by omega
    have hw4 : Hid (Below w2.heap.size w2 w4) := (hw3.out.alloc (by first | omega | (simp; done) | (simp; omega)) _).trans (hb4.mono (by first | omega | (simp; done) | (simp; omega)))
    clear hb4 h0_3 h1_3 h2_3 h3_3 h4_3 z_3 hg3_0 hg3_1 hw3
    go_wp2_with (fail)
    refine (k1 _).mono ?_
    rintro e w5 ⟨vp, rfl, rp, hb5⟩
    have lo_p : Hid (∀ x, vp.ownBlock = some x → w4.heap.size + 1 ≤ x) := fun x hx => by have := (rp.lt x hx).1; (try simp at this); omega
    have hz5 := hb5.size
    (try simp at hz5)
    have p_5 : Hid (RowB w5 w2.heap.size vp (bytesH h)) := rp.base (by first | omega | (simp; done) | (simp; omega))
    clear rp
    have h0_5 : w5.cell? ⟨w.heap.size, 0, none⟩ = some (.int .u32 (h.s : Int)) := cell_on hb5 (cell_alloc h0_4)
    have h1_5 : w5.cell? ⟨w.heap.size, 1, none⟩ = some (.int .u32 (h.d : Int)) := cell_on hb5 (cell_alloc h1_4)
    have h2_5 : w5.cell? ⟨w.heap.size, 2, none⟩ = some (.int .u16 (h.p : Int)) := cell_on hb5 (cell_alloc h2_4)
    have h3_5 : w5.cell? ⟨w.heap.size, 3, none⟩ = some (.int .u16 (h.q : Int)) := cell_on hb5 (cell_alloc h3_4)
    have h4_5 : w5.cell? ⟨w.heap.size, 4, none⟩ = some (.int .u8 (h.r : Int)) := cell_on hb5 (cell_alloc h4_4)
    have z_5 : w5.cell? ⟨w.heap.size + 1, n, none⟩ = some (.int .u8 99) := cell_on hb5 (cell_alloc z_4)
    have u0_5 : w5.cell? ⟨w3.heap.size, 0, none⟩ = some (.int .u32 (y.s : Int)) := cell_on hb5 (cell_alloc u0_4)
    have u1_5 : w5.cell? ⟨w3.heap.size, 1, none⟩ = some (.int .u32 (y.d : Int)) := cell_on hb5 (cell_alloc u1_4)
    have u2_5 : w5.cell? ⟨w3.heap.size, 2, none⟩ = some (.int .u16 (y.p : Int)) := cell_on hb5 (cell_alloc u2_4)
    have u3_5 : w5.cell? ⟨w3.heap.size, 3, none⟩ = some (.int .u16 (y.q : Int)) := cell_on hb5 (cell_alloc u3_4)
    have u4_5 : w5.cell? ⟨w3.heap.size, 4, none⟩ = some (.int .u8 (y.r : Int)) := cell_on hb5 (cell_alloc u4_4)
    have v0_5 : w5.cell? ⟨w4.heap.size, 0, none⟩ = some (.int .u32 (y.s : Int)) := cell_on hb5 (show (w4.alloc (.cells #[.int .u32 (y.s : Int), .int .u32 (y.d : Int), .int .u16 (y.p : Int), .int .u16 (y.q : Int), .int .u8 (y.r : Int)] 25)).cell? ⟨w4.heap.size, 0, none⟩ = some (.int .u32 (y.s : Int)) from by simp [go_sem])
    have v1_5 : w5.cell? ⟨w4.heap.size, 1, none⟩ = some (.int .u32 (y.d : Int)) := cell_on hb5 (show (w4.alloc (.cells #[.int .u32 (y.s : Int), .int .u32 (y.d : Int), .int .u16 (y.p : Int), .int .u16 (y.q : Int), .int .u8 (y.r : Int)] 25)).cell? ⟨w4.heap.size, 1, none⟩ = some (.int .u32 (y.d : Int)) from by simp [go_sem])
    have v2_5 : w5.cell? ⟨w4.heap.size, 2, none⟩ = some (.int .u16 (y.p : Int)) := cell_on hb5 (show (w4.alloc (.cells #[.int .u32 (y.s : Int), .int .u32 (y.d : Int), .int .u16 (y.p : Int), .int .u16 (y.q : Int), .int .u8 (y.r : Int)] 25)).cell? ⟨w4.heap.size, 2, none⟩ = some (.int .u16 (y.p : Int)) from by simp [go_sem])
    have v3_5 : w5.cell? ⟨w4.heap.size, 3, none⟩ = some (.int .u16 (y.q : Int)) := cell_on hb5 (show (w4.alloc (.cells #[.int .u32 (y.s : Int), .int .u32 (y.d : Int), .int .u16 (y.p : Int), .int .u16 (y.q : Int), .int .u8 (y.r : Int)] 25)).cell? ⟨w4.heap.size, 3, none⟩ = some (.int .u16 (y.q : Int)) from by simp [go_sem])
    have v4_5 : w5.cell? ⟨w4.heap.size, 4, none⟩ = some (.int .u8 (y.r : Int)) := cell_on hb5 (show (w4.alloc (.cells #[.int .u32 (y.s : Int), .int .u32 (y.d : Int), .int .u16 (y.p : Int), .int .u16 (y.q : Int), .int .u8 (y.r : Int)] 25)).cell? ⟨w4.heap.size, 4, none⟩ = some (.int .u8 (y.r : Int)) from by simp [go_sem])
    have hg5_0 : w.heap.size < w5.heap.size := by omega
    have hg5_1 : w.heap.size + 1 < w5.heap.size := by omega
    have hg5_2 : w3.heap.size < w5.heap.size := by omega
    have hg5_3 : w4.heap.size < w5.heap.size := by omega
    have hl5 : w2.heap.size ≤ w5.heap.size := by omega
    have hw5 : Hid (Below w2.heap.size w2 w5) := (hw4.out.alloc (by first | omega | (simp; done) | (simp; omega)) _).trans (hb5.mono (by first | omega | (simp; done) | (simp; omega)))
    clear hb5 h0_4 h1_4 h2_4 h3_4 h4_4 z_4 u0_4 u1_4 u2_4 u3_4 u4_4 hg4_0 hg4_1 hg4_2 hw4
    obtain ⟨ad1, cap1, hv1, hca1, hat1⟩ := p_5.out.form
    rw [bytesH_length] at hv1 hca1
    subst hv1
    obtain ⟨g, rfl, hg0, hg1, _⟩ := hat1 (by rw [bytesH_length]; omega)
    have hgl : w4.heap.size + 1 ≤ g := lo_p.out g rfl
    clear hat1 lo_p
    go_wp2_with (fail)
    refine (k1 _).mono ?_
    rintro e w6 ⟨vq, rfl, rq, hb6⟩
    have lo_q : Hid (∀ x, vq.ownBlock = some x → w5.heap.size ≤ x) := fun x hx => by have := (rq.lt x hx).1; (try simp at this); omega
    have hz6 := hb6.size
    (try simp at hz6)
    have q_6 : Hid (RowB w6 w2.heap.size vq (bytesH h)) := rq.base (by first | omega | (simp; done) | (simp; omega))
    clear rq
    have h0_6 : w6.cell? ⟨w.heap.size, 0, none⟩ = some (.int .u32 (h.s : Int)) := cell_on hb6 h0_5
    have h1_6 : w6.cell? ⟨w.heap.size, 1, none⟩ = some (.int .u32 (h.d : Int)) := cell_on hb6 h1_5
    have h2_6 : w6.cell? ⟨w.heap.size, 2, none⟩ = some (.int .u16 (h.p : Int)) := cell_on hb6 h2_5
    have h3_6 : w6.cell? ⟨w.heap.size, 3, none⟩ = some (.int .u16 (h.q : Int)) := cell_on hb6 h3_5
    have h4_6 : w6.cell? ⟨w.heap.size, 4, none⟩ = some (.int .u8 (h.r : Int)) := cell_on hb6 h4_5
    have z_6 : w6.cell? ⟨w.heap.size + 1, n, none⟩ = some (.int .u8 99) := cell_on hb6 z_5
    have u0_6 : w6.cell? ⟨w3.heap.size, 0, none⟩ = some (.int .u32 (y.s : Int)) := cell_on hb6 u0_5
    have u1_6 : w6.cell? ⟨w3.heap.size, 1, none⟩ = some (.int .u32 (y.d : Int)) := cell_on hb6 u1_5
    have u2_6 : w6.cell? ⟨w3.heap.size, 2, none⟩ = some (.int .u16 (y.p : Int)) := cell_on hb6 u2_5
    have u3_6 : w6.cell? ⟨w3.heap.size, 3, none⟩ = some (.int .u16 (y.q : Int)) := cell_on hb6 u3_5
    have u4_6 : w6.cell? ⟨w3.heap.size, 4, none⟩ = some (.int .u8 (y.r : Int)) := cell_on hb6 u4_5
    have v0_6 : w6.cell? ⟨w4.heap.size, 0, none⟩ = some (.int .u32 (y.s : Int)) := cell_on hb6 v0_5
    have v1_6 : w6.cell? ⟨w4.heap.size, 1, none⟩ = some (.int .u32 (y.d : Int)) := cell_on hb6 v1_5
    have v2_6 : w6.cell? ⟨w4.heap.size, 2, none⟩ = some (.int .u16 (y.p : Int)) := cell_on hb6 v2_5
    have v3_6 : w6.cell? ⟨w4.heap.size, 3, none⟩ = some (.int .u16 (y.q : Int)) := cell_on hb6 v3_5
    have v4_6 : w6.cell? ⟨w4.heap.size, 4, none⟩ = some (.int .u8 (y.r : Int)) := cell_on hb6 v4_5
    have p_6 : Hid (RowB w6 w2.heap.size (.slice (some ⟨g, 0, none⟩) 13 cap1) (bytesH h)) := RowB.on p_5.out hb6
    have hg6_0 : w.heap.size < w6.heap.size := by omega
    have hg6_1 : w.heap.size + 1 < w6.heap.size := by omega
    have hg6_2 : w3.heap.size < w6.heap.size := by omega
    have hg6_3 : w4.heap.size < w6.heap.size := by omega
    have hl6 : w2.heap.size ≤ w6.heap.size := by omega
    have hw6 : Hid (Below w2.heap.size w2 w6) := hw5.out.trans (hb6.mono (by first | omega | (simp; done) | (simp; omega)))
    clear hb6 h0_5 h1_5 h2_5 h3_5 h4_5 z_5 u0_5 u1_5 u2_5 u3_5 u4_5 v0_5 v1_5 v2_5 v3_5 v4_5 p_5 hg5_0 hg5_1 hg5_2 hg5_3 hw5
    go_wp2_with (fail)
    refine (k2 _).mono ?_
    rintro e w7 ⟨vk, rfl, rk, hb7⟩
    have lo_k : Hid (∀ x, vk.ownBlock = some x → w6.heap.size ≤ x) := fun x hx => by have := (rk.lt x hx).1; (try simp at this); omega
    have hz7 := hb7.size
    (try simp at hz7)
    have k_7 : Hid (RowB w7 w2.heap.size vk (bytesH h)) := rk.base (by first | omega | (simp; done) | (simp; omega))
    clear rk
    have h0_7 : w7.cell? ⟨w.heap.size, 0, none⟩ = some (.int .u32 (h.s : Int)) := cell_on hb7 h0_6
    have h1_7 : w7.cell? ⟨w.heap.size, 1, none⟩ = some (.int .u32 (h.d : Int)) := cell_on hb7 h1_6
    have h2_7 : w7.cell? ⟨w.heap.size, 2, none⟩ = some (.int .u16 (h.p : Int)) := cell_on hb7 h2_6
    have h3_7 : w7.cell? ⟨w.heap.size, 3, none⟩ = some (.int .u16 (h.q : Int)) := cell_on hb7 h3_6
    have h4_7 : w7.cell? ⟨w.heap.size, 4, none⟩ = some (.int .u8 (h.r : Int)) := cell_on hb7 h4_6
    have z_7 : w7.cell? ⟨w.heap.size + 1, n, none⟩ = some (.int .u8 99) := cell_on hb7 z_6
    have u0_7 : w7.cell? ⟨w3.heap.size, 0, none⟩ = some (.int .u32 (y.s : Int)) := cell_on hb7 u0_6
    have u1_7 : w7.cell? ⟨w3.heap.size, 1, none⟩ = some (.int .u32 (y.d : Int)) := cell_on hb7 u1_6
    have u2_7 : w7.cell? ⟨w3.heap.size, 2, none⟩ = some (.int .u16 (y.p : Int)) := cell_on hb7 u2_6
    have u3_7 : w7.cell? ⟨w3.heap.size, 3, none⟩ = some (.int .u16 (y.q : Int)) := cell_on hb7 u3_6
    have u4_7 : w7.cell? ⟨w3.heap.size, 4, none⟩ = some (.int .u8 (y.r : Int)) := cell_on hb7 u4_6
    have v0_7 : w7.cell? ⟨w4.heap.size, 0, none⟩ = some (.int .u32 (y.s : Int)) := cell_on hb7 v0_6
    have v1_7 : w7.cell? ⟨w4.heap.size, 1, none⟩ = some (.int .u32 (y.d : Int)) := cell_on hb7 v1_6
    have v2_7 : w7.cell? ⟨w4.heap.size, 2, none⟩ = some (.int .u16 (y.p : Int)) := cell_on hb7 v2_6
    have v3_7 : w7.cell? ⟨w4.heap.size, 3, none⟩ = some (.int .u16 (y.q : Int)) := cell_on hb7 v3_6
    have v4_7 : w7.cell? ⟨w4.heap.size, 4, none⟩ = some (.int .u8 (y.r : Int)) := cell_on hb7 v4_6
    have p_7 : Hid (RowB w7 w2.heap.size (.slice (some ⟨g, 0, none⟩) 13 cap1) (bytesH h)) := RowB.on p_6.out hb7
    have q_7 : Hid (RowB w7 w2.heap.size vq (bytesH h)) := RowB.on q_6.out hb7
    have hg7_0 : w.heap.size < w7.heap.size := by omega
    have hg7_1 : w.heap.size + 1 < w7.heap.size := by omega
    have hg7_2 : w3.heap.size < w7.heap.size := by omega
    have hg7_3 : w4.heap.size < w7.heap.size := by omega
    have hl7 : w2.heap.size ≤ w7.heap.size := by omega
    have hw7 : Hid (Below w2.heap.size w2 w7) := hw6.out.trans (hb7.mono (by first | omega | (simp; done) | (simp; omega)))
    clear hb7 h0_6 h1_6 h2_6 h3_6 h4_6 z_6 u0_6 u1_6 u2_6 u3_6 u4_6 v0_6 v1_6 v2_6 v3_6 v4_6 p_6 q_6 hg6_0 hg6_1 hg6_2 hg6_3 hw6
    go_wp2_with (fail)
    refine (k3 _ _ _ p_7.out.src k_7.out.src).mono ?_
    rintro e w8 ⟨rfl, hb8⟩
    have hz8 := hb8.size
    (try simp at hz8)
    have h0_8 : w8.cell? ⟨w.heap.size, 0, none⟩ = some (.int .u32 (h.s : Int)) := cell_on hb8 h0_7
    have h1_8 : w8.cell? ⟨w.heap.size, 1, none⟩ = some (.int .u32 (h.d : Int)) := cell_on hb8 h1_7
    have h2_8 : w8.cell? ⟨w.heap.size, 2, none⟩ = some (.int .u16 (h.p : Int)) := cell_on hb8 h2_7
    have h3_8 : w8.cell? ⟨w.heap.size, 3, none⟩ = some (.int .u16 (h.q : Int)) := cell_on hb8 h3_7
    have h4_8 : w8.cell? ⟨w.heap.size, 4, none⟩ = some (.int .u8 (h.r : Int)) := cell_on hb8 h4_7
    have z_8 : w8.cell? ⟨w.heap.size + 1, n, none⟩ = some (.int .u8 99) := cell_on hb8 z_7
    have u0_8 : w8.cell? ⟨w3.heap.size, 0, none⟩ = some (.int .u32 (y.s : Int)) := cell_on hb8 u0_7
    have u1_8 : w8.cell? ⟨w3.heap.size, 1, none⟩ = some (.int .u32 (y.d : Int)) := cell_on hb8 u1_7
    have u2_8 : w8.cell? ⟨w3.heap.size, 2, none⟩ = some (.int .u16 (y.p : Int)) := cell_on hb8 u2_7
    have u3_8 : w8.cell? ⟨w3.heap.size, 3, none⟩ = some (.int .u16 (y.q : Int)) := cell_on hb8 u3_7
    have u4_8 : w8.cell? ⟨w3.heap.size, 4, none⟩ = some (.int .u8 (y.r : Int)) := cell_on hb8 u4_7
    have v0_8 : w8.cell? ⟨w4.heap.size, 0, none⟩ = some (.int .u32 (y.s : Int)) := cell_on hb8 v0_7
    have v1_8 : w8.cell? ⟨w4.heap.size, 1, none⟩ = some (.int .u32 (y.d : Int)) := cell_on hb8 v1_7
    have v2_8 : w8.cell? ⟨w4.heap.size, 2, none⟩ = some (.int .u16 (y.p : Int)) := cell_on hb8 v2_7
    have v3_8 : w8.cell? ⟨w4.heap.size, 3, none⟩ = some (.int .u16 (y.q : Int)) := cell_on hb8 v3_7
    have v4_8 : w8.cell? ⟨w4.heap.size, 4, none⟩ = some (.int .u8 (y.r : Int)) := cell_on hb8 v4_7
    have p_8 : Hid (RowB w8 w2.heap.size (.slice (some ⟨g, 0, none⟩) 13 cap1) (bytesH h)) := RowB.on p_7.out hb8
    have q_8 : Hid (RowB w8 w2.heap.size vq (bytesH h)) := RowB.on q_7.out hb8
    have k_8 : Hid (RowB w8 w2.heap.size vk (bytesH h)) := RowB.on k_7.out hb8
    have hg8_0 : w.heap.size < w8.heap.size := by omega
    have hg8_1 : w.heap.size + 1 < w8.heap.size := by omega
    have hg8_2 : w3.heap.size < w8.heap.size := by omega
    have hg8_3 : w4.heap.size < w8.heap.size := by omega
    have hl8 : w2.heap.size ≤ w8.heap.size := by omega
    have hw8 : Hid (Below w2.heap.size w2 w8) := hw7.out.trans (hb8.mono (by first | omega | (simp; done) | (simp; omega)))
    clear hb8 h0_7 h1_7 h2_7 h3_7 h4_7 z_7 u0_7 u1_7 u2_7 u3_7 u4_7 v0_7 v1_7 v2_7 v3_7 v4_7 p_7 q_7 k_7 hg7_0 hg7_1 hg7_2 hg7_3 hw7
    go_wp2_with (fail)
    refine (k3 _ _ _ q_8.out.src k_8.out.src).mono ?_
    rintro e w9 ⟨rfl, hb9⟩
    have hz9 := hb9.size
    (try simp at hz9)
    have h0_9 : w9.cell? ⟨w.heap.size, 0, none⟩ = some (.int .u32 (h.s : Int)) := cell_on hb9 h0_8
    have h1_9 : w9.cell? ⟨w.heap.size, 1, none⟩ = some (.int .u32 (h.d : Int)) := cell_on hb9 h1_8
    have h2_9 : w9.cell? ⟨w.heap.size, 2, none⟩ = some (.int .u16 (h.p : Int)) := cell_on hb9 h2_8
    have h3_9 : w9.cell? ⟨w.heap.size, 3, none⟩ = some (.int .u16 (h.q : Int)) := cell_on hb9 h3_8
    have h4_9 : w9.cell? ⟨w.heap.size, 4, none⟩ = some (.int .u8 (h.r : Int)) := cell_on hb9 h4_8
    have z_9 : w9.cell? ⟨w.heap.size + 1, n, none⟩ = some (.int .u8 99) := cell_on hb9 z_8
    have u0_9 : w9.cell? ⟨w3.heap.size, 0, none⟩ = some (.int .u32 (y.s : Int)) := cell_on hb9 u0_8
    have u1_9 : w9.cell? ⟨w3.heap.size, 1, none⟩ = some (.int .u32 (y.d : Int)) := cell_on hb9 u1_8
    have u2_9 : w9.cell? ⟨w3.heap.size, 2, none⟩ = some (.int .u16 (y.p : Int)) := cell_on hb9 u2_8
    have u3_9 : w9.cell? ⟨w3.heap.size, 3, none⟩ = some (.int .u16 (y.q : Int)) := cell_on hb9 u3_8
    have u4_9 : w9.cell? ⟨w3.heap.size, 4, none⟩ = some (.int .u8 (y.r : Int)) := cell_on hb9 u4_8
    have v0_9 : w9.cell? ⟨w4.heap.size, 0, none⟩ = some (.int .u32 (y.s : Int)) := cell_on hb9 v0_8
    have v1_9 : w9.cell? ⟨w4.heap.size, 1, none⟩ = some (.int .u32 (y.d : Int)) := cell_on hb9 v1_8
    have v2_9 : w9.cell? ⟨w4.heap.size, 2, none⟩ = some (.int .u16 (y.p : Int)) := cell_on hb9 v2_8
    have v3_9 : w9.cell? ⟨w4.heap.size, 3, none⟩ = some (.int .u16 (y.q : Int)) := cell_on hb9 v3_8
    have v4_9 : w9.cell? ⟨w4.heap.size, 4, none⟩ = some (.int .u8 (y.r : Int)) := cell_on hb9 v4_8
    have p_9 : Hid (RowB w9 w2.heap.size (.slice (some ⟨g, 0, none⟩) 13 cap1) (bytesH h)) := RowB.on p_8.out hb9
    have q_9 : Hid (RowB w9 w2.heap.size vq (bytesH h)) := RowB.on q_8.out hb9
    have k_9 : Hid (RowB w9 w2.heap.size vk (bytesH h)) := RowB.on k_8.out hb9
    have hg9_0 : w.heap.size < w9.heap.size := by omega
    have hg9_1 : w.heap.size + 1 < w9.heap.size := by omega
    have hg9_2 : w3.heap.size < w9.heap.size := by omega
    have hg9_3 : w4.heap.size < w9.heap.size := by omega
    have hl9 : w2.heap.size ≤ w9.heap.size := by omega
    have hw9 : Hid (Below w2.heap.size w2 w9) := hw8.out.trans (hb9.mono (by first | omega | (simp; done) | (simp; omega)))
    clear hb9 h0_8 h1_8 h2_8 h3_8 h4_8 z_8 u0_8 u1_8 u2_8 u3_8 u4_8 v0_8 v1_8 v2_8 v3_8 v4_8 p_8 q_8 k_8 hg8_0 hg8_1 hg8_2 hg8_3 hw8
    go_wp2_with (fail)
    go_loopw [15] (fun iv wr => ∃ k : Nat, k ≤ 13 ∧ iv = .int .i64 (k : Int) ∧ Hid (RowB wr w2.heap.size (.slice (some ⟨g, 0, none⟩) 13 cap1) (sevs (bytesH h) k)) ∧ Hid (w9.grownBy wr (some g))) (fun iv _ => 13 - (intOf iv).toNat)
    case atStart => exact ⟨0, by omega, rfl, p_9.out, ⟨rfl, rfl, rfl, Nat.le_refl _, fun _ _ _ => rfl⟩⟩
    case round =>
      obtain ⟨k, hk, rfl, hrow, hgr⟩ := hrel
      by_cases hlt : k < 13
      · have x0 := hrow.out.cell13 (k := k) (by rw [sevs_length _ _ (by rw [bytesH_length]; omega), bytesH_length]) (by rw [sevs_length _ _ (by rw [bytesH_length]; omega), bytesH_length]; omega)
        have fz := hrow.out.frozen k
        have hp := hrow.out.put k 77
        rw [sevs_set _ _ (by rw [bytesH_length]; omega)] at hp
        have hp1 : Hid (RowB (wr.setCell ⟨g, k, none⟩ (.int .u8 77)) w2.heap.size (.slice (some ⟨g, 0, none⟩) 13 cap1) (sevs (bytesH h) (k + 1))) := hp.1
        have hp2 : Hid (w9.grownBy (wr.setCell ⟨g, k, none⟩ (.int .u8 77)) (some g)) := grown_trans hgr.out hp.2
        have hlt' : (k : Int) < 13 := by omega
        have hk0 : (0 : Int) ≤ (k : Int) := by omega
        clear hp hrow hgr
        generalize (sevs (bytesH h) k)[k]'_ = xx at x0
        go_wp2_with (fail)
        go_roundw
        case rel => exact ⟨k + 1, by omega, by go_num, hp1.out, hp2.out⟩
        case measure => simp [intOf]; omega
      · obtain rfl : k = 13 := by omega
        have hl13 : (sevs (bytesH h) 13).length = 13 := by rw [sevs_length _ _ (by rw [bytesH_length]; omega), bytesH_length]
        have hgw : w2.heap.size ≤ g := by omega
        have hzr := hgr.out.size
        go_wp2_with (at_builtin; refine wpList_append_bytes rfl (.tmp 74) (.tmp 75) rfl w2.heap.size _ (sevs (bytesH h) 13) rfl (hrow.out.alloc _) w2.heap.size _ [78] rfl (RowB.one wr w2.heap.size 78 rfl rfl (by omega)) (by simp; omega) (by rw [hl13]; simp) ?_; intro v5 w5 hrow5 hgr5; obtain ⟨ad5, cap5, hv5, _, _⟩ := hrow5.form; rw [List.length_append, hl13] at hv5; subst hv5)
        have G5 : Hid (w9.grownBy w5 (some g)) := grown_trans (grown_trans hgr.out (World.grownBy_alloc _ _ _)) hgr5
        have hz5 := G5.out.size
        clear hgr hrow hrow5 hgr5 hzr
        have h0_z : w5.cell? ⟨w.heap.size, 0, none⟩ = some (.int .u32 (h.s : Int)) := cell_gone G5.out h0_9 (by omega)
        have h1_z : w5.cell? ⟨w.heap.size, 1, none⟩ = some (.int .u32 (h.d : Int)) := cell_gone G5.out h1_9 (by omega)
        have h2_z : w5.cell? ⟨w.heap.size, 2, none⟩ = some (.int .u16 (h.p : Int)) := cell_gone G5.out h2_9 (by omega)
        have h3_z : w5.cell? ⟨w.heap.size, 3, none⟩ = some (.int .u16 (h.q : Int)) := cell_gone G5.out h3_9 (by omega)
        have h4_z : w5.cell? ⟨w.heap.size, 4, none⟩ = some (.int .u8 (h.r : Int)) := cell_gone G5.out h4_9 (by omega)
        have z_z : w5.cell? ⟨w.heap.size + 1, n, none⟩ = some (.int .u8 99) := cell_gone G5.out z_9 (by omega)
        have u0_z : w5.cell? ⟨w3.heap.size, 0, none⟩ = some (.int .u32 (y.s : Int)) := cell_gone G5.out u0_9 (by omega)
        have u1_z : w5.cell? ⟨w3.heap.size, 1, none⟩ = some (.int .u32 (y.d : Int)) := cell_gone G5.out u1_9 (by omega)
        have u2_z : w5.cell? ⟨w3.heap.size, 2, none⟩ = some (.int .u16 (y.p : Int)) := cell_gone G5.out u2_9 (by omega)
        have u3_z : w5.cell? ⟨w3.heap.size, 3, none⟩ = some (.int .u16 (y.q : Int)) := cell_gone G5.out u3_9 (by omega)
        have u4_z : w5.cell? ⟨w3.heap.size, 4, none⟩ = some (.int .u8 (y.r : Int)) := cell_gone G5.out u4_9 (by omega)
        have v0_z : w5.cell? ⟨w4.heap.size, 0, none⟩ = some (.int .u32 (y.s : Int)) := cell_gone G5.out v0_9 (by omega)
        have v1_z : w5.cell? ⟨w4.heap.size, 1, none⟩ = some (.int .u32 (y.d : Int)) := cell_gone G5.out v1_9 (by omega)
        have v2_z : w5.cell? ⟨w4.heap.size, 2, none⟩ = some (.int .u16 (y.p : Int)) := cell_gone G5.out v2_9 (by omega)
        have v3_z : w5.cell? ⟨w4.heap.size, 3, none⟩ = some (.int .u16 (y.q : Int)) := cell_gone G5.out v3_9 (by omega)
        have v4_z : w5.cell? ⟨w4.heap.size, 4, none⟩ = some (.int .u8 (y.r : Int)) := cell_gone G5.out v4_9 (by omega)
        have q_z : Hid (RowB w5 w2.heap.size vq (bytesH h)) := RowB.kept q_9.out G5.out (.inr (fun e => by have := lo_q.out g e; omega))
        have k_z : Hid (RowB w5 w2.heap.size vk (bytesH h)) := RowB.kept k_9.out G5.out (.inr (fun e => by have := lo_k.out g e; omega))
        have hwz : Hid (Below w2.heap.size w2 w5) := hw9.out.grown G5.out hw9.out.size (fun k hk => by cases hk; exact hgw)
        have hl5 : w2.heap.size ≤ w5.heap.size := hwz.out.size
        clear h0_9 h1_9 h2_9 h3_9 h4_9 z_9 u0_9 u1_9 u2_9 u3_9 u4_9 v0_9 v1_9 v2_9 v3_9 v4_9 q_9 k_9 hw9 lo_q lo_k G5
        go_wp2_with (fail)
        refine (u1 _ _ (SI.out _ hwz.out)).mono ?_
        rintro e w21 ⟨rfl, hb21⟩
        have hz21 := hb21.size
        (try simp at hz21)
        have h0_21 : w21.cell? ⟨w.heap.size, 0, none⟩ = some (.int .u32 (h.s : Int)) := cell_on hb21 h0_z
        have h1_21 : w21.cell? ⟨w.heap.size, 1, none⟩ = some (.int .u32 (h.d : Int)) := cell_on hb21 h1_z
        have h2_21 : w21.cell? ⟨w.heap.size, 2, none⟩ = some (.int .u16 (h.p : Int)) := cell_on hb21 h2_z
        have h3_21 : w21.cell? ⟨w.heap.size, 3, none⟩ = some (.int .u16 (h.q : Int)) := cell_on hb21 h3_z
        have h4_21 : w21.cell? ⟨w.heap.size, 4, none⟩ = some (.int .u8 (h.r : Int)) := cell_on hb21 h4_z
        have z_21 : w21.cell? ⟨w.heap.size + 1, n, none⟩ = some (.int .u8 99) := cell_on hb21 z_z
        have u0_21 : w21.cell? ⟨w3.heap.size, 0, none⟩ = some (.int .u32 (y.s : Int)) := cell_on hb21 u0_z
        have u1_21 : w21.cell? ⟨w3.heap.size, 1, none⟩ = some (.int .u32 (y.d : Int)) := cell_on hb21 u1_z
        have u2_21 : w21.cell? ⟨w3.heap.size, 2, none⟩ = some (.int .u16 (y.p : Int)) := cell_on hb21 u2_z
        have u3_21 : w21.cell? ⟨w3.heap.size, 3, none⟩ = some (.int .u16 (y.q : Int)) := cell_on hb21 u3_z
        have u4_21 : w21.cell? ⟨w3.heap.size, 4, none⟩ = some (.int .u8 (y.r : Int)) := cell_on hb21 u4_z
        have v0_21 : w21.cell? ⟨w4.heap.size, 0, none⟩ = some (.int .u32 (y.s : Int)) := cell_on hb21 v0_z
        have v1_21 : w21.cell? ⟨w4.heap.size, 1, none⟩ = some (.int .u32 (y.d : Int)) := cell_on hb21 v1_z
        have v2_21 : w21.cell? ⟨w4.heap.size, 2, none⟩ = some (.int .u16 (y.p : Int)) := cell_on hb21 v2_z
        have v3_21 : w21.cell? ⟨w4.heap.size, 3, none⟩ = some (.int .u16 (y.q : Int)) := cell_on hb21 v3_z
        have v4_21 : w21.cell? ⟨w4.heap.size, 4, none⟩ = some (.int .u8 (y.r : Int)) := cell_on hb21 v4_z
        have q_21 : Hid (RowB w21 w2.heap.size vq (bytesH h)) := RowB.on q_z.out hb21
        have k_21 : Hid (RowB w21 w2.heap.size vk (bytesH h)) := RowB.on k_z.out hb21
        have hg21_0 : w.heap.size < w21.heap.size := by omega
        have hg21_1 : w.heap.size + 1 < w21.heap.size := by omega
        have hg21_2 : w3.heap.size < w21.heap.size := by omega
        have hg21_3 : w4.heap.size < w21.heap.size := by omega
        have hl21 : w2.heap.size ≤ w21.heap.size := by omega
        have hw21 : Hid (Below w2.heap.size w2 w21) := hwz.out.trans (hb21.mono (by first | omega | (simp; done) | (simp; omega)))
        clear hb21 h0_z h1_z h2_z h3_z h4_z z_z u0_z u1_z u2_z u3_z u4_z v0_z v1_z v2_z v3_z v4_z q_z k_z hwz
        go_wp2_with (fail)
        refine (k3 _ _ _ (RowB.alloc q_21.out _).src (RowB.alloc k_21.out _).src).mono ?_
        rintro e w22 ⟨rfl, hb22⟩
        have hz22 := hb22.size
        (try simp at hz22)
        have h0_22 : w22.cell? ⟨w.heap.size, 0, none⟩ = some (.int .u32 (h.s : Int)) := cell_on hb22 (cell_alloc h0_21)
        have h1_22 : w22.cell? ⟨w.heap.size, 1, none⟩ = some (.int .u32 (h.d : Int)) := cell_on hb22 (cell_alloc h1_21)
        have h2_22 : w22.cell? ⟨w.heap.size, 2, none⟩ = some (.int .u16 (h.p : Int)) := cell_on hb22 (cell_alloc h2_21)
        have h3_22 : w22.cell? ⟨w.heap.size, 3, none⟩ = some (.int .u16 (h.q : Int)) := cell_on hb22 (cell_alloc h3_21)
        have h4_22 : w22.cell? ⟨w.heap.size, 4, none⟩ = some (.int .u8 (h.r : Int)) := cell_on hb22 (cell_alloc h4_21)
        have z_22 : w22.cell? ⟨w.heap.size + 1, n, none⟩ = some (.int .u8 99) := cell_on hb22 (cell_alloc z_21)
        have u0_22 : w22.cell? ⟨w3.heap.size, 0, none⟩ = some (.int .u32 (y.s : Int)) := cell_on hb22 (cell_alloc u0_21)
        have u1_22 : w22.cell? ⟨w3.heap.size, 1, none⟩ = some (.int .u32 (y.d : Int)) := cell_on hb22 (cell_alloc u1_21)
        have u2_22 : w22.cell? ⟨w3.heap.size, 2, none⟩ = some (.int .u16 (y.p : Int)) := cell_on hb22 (cell_alloc u2_21)
        have u3_22 : w22.cell? ⟨w3.heap.size, 3, none⟩ = some (.int .u16 (y.q : Int)) := cell_on hb22 (cell_alloc u3_21)
        have u4_22 : w22.cell? ⟨w3.heap.size, 4, none⟩ = some (.int .u8 (y.r : Int)) := cell_on hb22 (cell_alloc u4_21)
        have v0_22 : w22.cell? ⟨w4.heap.size, 0, none⟩ = some (.int .u32 (y.s : Int)) := cell_on hb22 (cell_alloc v0_21)
        have v1_22 : w22.cell? ⟨w4.heap.size, 1, none⟩ = some (.int .u32 (y.d : Int)) := cell_on hb22 (cell_alloc v1_21)
        have v2_22 : w22.cell? ⟨w4.heap.size, 2, none⟩ = some (.int .u16 (y.p : Int)) := cell_on hb22 (cell_alloc v2_21)
        have v3_22 : w22.cell? ⟨w4.heap.size, 3, none⟩ = some (.int .u16 (y.q : Int)) := cell_on hb22 (cell_alloc v3_21)
        have v4_22 : w22.cell? ⟨w4.heap.size, 4, none⟩ = some (.int .u8 (y.r : Int)) := cell_on hb22 (cell_alloc v4_21)
        have q_22 : Hid (RowB w22 w2.heap.size vq (bytesH h)) := RowB.on (RowB.alloc q_21.out _) hb22
        have k_22 : Hid (RowB w22 w2.heap.size vk (bytesH h)) := RowB.on (RowB.alloc k_21.out _) hb22
        have x0_22 : w22.cell? ⟨w21.heap.size, 0, none⟩ = some (.int .u32 (y.s : Int)) := cell_on hb22 (show (w21.alloc (.cells #[.int .u32 (y.s : Int), .int .u32 (y.d : Int), .int .u16 (y.p : Int), .int .u16 (y.q : Int), .int .u8 (y.r : Int)] 25)).cell? ⟨w21.heap.size, 0, none⟩ = some (.int .u32 (y.s : Int)) from by simp [go_sem])
        have x1_22 : w22.cell? ⟨w21.heap.size, 1, none⟩ = some (.int .u32 (y.d : Int)) := cell_on hb22 (show (w21.alloc (.cells #[.int .u32 (y.s : Int), .int .u32 (y.d : Int), .int .u16 (y.p : Int), .int .u16 (y.q : Int), .int .u8 (y.r : Int)] 25)).cell? ⟨w21.heap.size, 1, none⟩ = some (.int .u32 (y.d : Int)) from by simp [go_sem])
        have x2_22 : w22.cell? ⟨w21.heap.size, 2, none⟩ = some (.int .u16 (y.p : Int)) := cell_on hb22 (show (w21.alloc (.cells #[.int .u32 (y.s : Int), .int .u32 (y.d : Int), .int .u16 (y.p : Int), .int .u16 (y.q : Int), .int .u8 (y.r : Int)] 25)).cell? ⟨w21.heap.size, 2, none⟩ = some (.int .u16 (y.p : Int)) from by simp [go_sem])
        have x3_22 : w22.cell? ⟨w21.heap.size, 3, none⟩ = some (.int .u16 (y.q : Int)) := cell_on hb22 (show (w21.alloc (.cells #[.int .u32 (y.s : Int), .int .u32 (y.d : Int), .int .u16 (y.p : Int), .int .u16 (y.q : Int), .int .u8 (y.r : Int)] 25)).cell? ⟨w21.heap.size, 3, none⟩ = some (.int .u16 (y.q : Int)) from by simp [go_sem])
        have x4_22 : w22.cell? ⟨w21.heap.size, 4, none⟩ = some (.int .u8 (y.r : Int)) := cell_on hb22 (show (w21.alloc (.cells #[.int .u32 (y.s : Int), .int .u32 (y.d : Int), .int .u16 (y.p : Int), .int .u16 (y.q : Int), .int .u8 (y.r : Int)] 25)).cell? ⟨w21.heap.size, 4, none⟩ = some (.int .u8 (y.r : Int)) from by simp [go_sem])
        have hg22_0 : w.heap.size < w22.heap.size := by omega
        have hg22_1 : w.heap.size + 1 < w22.heap.size := by omega
        have hg22_2 : w3.heap.size < w22.heap.size := by omega
        have hg22_3 : w4.heap.size < w22.heap.size := by omega
        have hg22_4 : w21.heap.size < w22.heap.size := by omega
        have hl22 : w2.heap.size ≤ w22.heap.size := by omega
        have hw22 : Hid (Below w2.heap.size w2 w22) := (hw21.out.alloc (by first | omega | (simp; done) | (simp; omega)) _).trans (hb22.mono (by first | omega | (simp; done) | (simp; omega)))
        clear hb22 h0_21 h1_21 h2_21 h3_21 h4_21 z_21 u0_21 u1_21 u2_21 u3_21 u4_21 v0_21 v1_21 v2_21 v3_21 v4_21 q_21 k_21 hg21_0 hg21_1 hg21_2 hg21_3 hw21
        go_wp2_with (fail)
        refine (k1 _).mono ?_
        rintro e w23 ⟨vs, rfl, rs, hb23⟩
        have lo_s : Hid (∀ x, vs.ownBlock = some x → w22.heap.size ≤ x) := fun x hx => by have := (rs.lt x hx).1; (try simp at this); omega
        have hz23 := hb23.size
        (try simp at hz23)
        have s_23 : Hid (RowB w23 w2.heap.size vs (bytesH h)) := rs.base (by first | omega | (simp; done) | (simp; omega))
        clear rs
        have h0_23 : w23.cell? ⟨w.heap.size, 0, none⟩ = some (.int .u32 (h.s : Int)) := cell_on hb23 h0_22
        have h1_23 : w23.cell? ⟨w.heap.size, 1, none⟩ = some (.int .u32 (h.d : Int)) := cell_on hb23 h1_22
        have h2_23 : w23.cell? ⟨w.heap.size, 2, none⟩ = some (.int .u16 (h.p : Int)) := cell_on hb23 h2_22
        have h3_23 : w23.cell? ⟨w.heap.size, 3, none⟩ = some (.int .u16 (h.q : Int)) := cell_on hb23 h3_22
        have h4_23 : w23.cell? ⟨w.heap.size, 4, none⟩ = some (.int .u8 (h.r : Int)) := cell_on hb23 h4_22
        have z_23 : w23.cell? ⟨w.heap.size + 1, n, none⟩ = some (.int .u8 99) := cell_on hb23 z_22
        have u0_23 : w23.cell? ⟨w3.heap.size, 0, none⟩ = some (.int .u32 (y.s : Int)) := cell_on hb23 u0_22
        have u1_23 : w23.cell? ⟨w3.heap.size, 1, none⟩ = some (.int .u32 (y.d : Int)) := cell_on hb23 u1_22
        have u2_23 : w23.cell? ⟨w3.heap.size, 2, none⟩ = some (.int .u16 (y.p : Int)) := cell_on hb23 u2_22
        have u3_23 : w23.cell? ⟨w3.heap.size, 3, none⟩ = some (.int .u16 (y.q : Int)) := cell_on hb23 u3_22
        have u4_23 : w23.cell? ⟨w3.heap.size, 4, none⟩ = some (.int .u8 (y.r : Int)) := cell_on hb23 u4_22
        have v0_23 : w23.cell? ⟨w4.heap.size, 0, none⟩ = some (.int .u32 (y.s : Int)) := cell_on hb23 v0_22
        have v1_23 : w23.cell? ⟨w4.heap.size, 1, none⟩ = some (.int .u32 (y.d : Int)) := cell_on hb23 v1_22
        have v2_23 : w23.cell? ⟨w4.heap.size, 2, none⟩ = some (.int .u16 (y.p : Int)) := cell_on hb23 v2_22
        have v3_23 : w23.cell? ⟨w4.heap.size, 3, none⟩ = some (.int .u16 (y.q : Int)) := cell_on hb23 v3_22
        have v4_23 : w23.cell? ⟨w4.heap.size, 4, none⟩ = some (.int .u8 (y.r : Int)) := cell_on hb23 v4_22
        have q_23 : Hid (RowB w23 w2.heap.size vq (bytesH h)) := RowB.on q_22.out hb23
        have k_23 : Hid (RowB w23 w2.heap.size vk (bytesH h)) := RowB.on k_22.out hb23
        have x0_23 : w23.cell? ⟨w21.heap.size, 0, none⟩ = some (.int .u32 (y.s : Int)) := cell_on hb23 x0_22
        have x1_23 : w23.cell? ⟨w21.heap.size, 1, none⟩ = some (.int .u32 (y.d : Int)) := cell_on hb23 x1_22
        have x2_23 : w23.cell? ⟨w21.heap.size, 2, none⟩ = some (.int .u16 (y.p : Int)) := cell_on hb23 x2_22
        have x3_23 : w23.cell? ⟨w21.heap.size, 3, none⟩ = some (.int .u16 (y.q : Int)) := cell_on hb23 x3_22
        have x4_23 : w23.cell? ⟨w21.heap.size, 4, none⟩ = some (.int .u8 (y.r : Int)) := cell_on hb23 x4_22
        have hg23_0 : w.heap.size < w23.heap.size := by omega
        have hg23_1 : w.heap.size + 1 < w23.heap.size := by omega
        have hg23_2 : w3.heap.size < w23.heap.size := by omega
        have hg23_3 : w4.heap.size < w23.heap.size := by omega
        have hg23_4 : w21.heap.size < w23.heap.size := by omega
        have hl23 : w2.heap.size ≤ w23.heap.size := by omega
        have hw23 : Hid (Below w2.heap.size w2 w23) := hw22.out.trans (hb23.mono (by first | omega | (simp; done) | (simp; omega)))
        clear hb23 h0_22 h1_22 h2_22 h3_22 h4_22 z_22 u0_22 u1_22 u2_22 u3_22 u4_22 v0_22 v1_22 v2_22 v3_22 v4_22 q_22 k_22 x0_22 x1_22 x2_22 x3_22 x4_22 hg22_0 hg22_1 hg22_2 hg22_3 hg22_4 hw22
        go_wp2_with (fail)
        refine (k3 _ _ _ s_23.out.src k_23.out.src).mono ?_
        rintro e w24 ⟨rfl, hb24⟩
        have hz24 := hb24.size
        (try simp at hz24)
        have h0_24 : w24.cell? ⟨w.heap.size, 0, none⟩ = some (.int .u32 (h.s : Int)) := cell_on hb24 h0_23
        have h1_24 : w24.cell? ⟨w.heap.size, 1, none⟩ = some (.int .u32 (h.d : Int)) := cell_on hb24 h1_23
        have h2_24 : w24.cell? ⟨w.heap.size, 2, none⟩ = some (.int .u16 (h.p : Int)) := cell_on hb24 h2_23
        have h3_24 : w24.cell? ⟨w.heap.size, 3, none⟩ = some (.int .u16 (h.q : Int)) := cell_on hb24 h3_23
        have h4_24 : w24.cell? ⟨w.heap.size, 4, none⟩ = some (.int .u8 (h.r : Int)) := cell_on hb24 h4_23
        have z_24 : w24.cell? ⟨w.heap.size + 1, n, none⟩ = some (.int .u8 99) := cell_on hb24 z_23
        have u0_24 : w24.cell? ⟨w3.heap.size, 0, none⟩ = some (.int .u32 (y.s : Int)) := cell_on hb24 u0_23
        have u1_24 : w24.cell? ⟨w3.heap.size, 1, none⟩ = some (.int .u32 (y.d : Int)) := cell_on hb24 u1_23
        have u2_24 : w24.cell? ⟨w3.heap.size, 2, none⟩ = some (.int .u16 (y.p : Int)) := cell_on hb24 u2_23
        have u3_24 : w24.cell? ⟨w3.heap.size, 3, none⟩ = some (.int .u16 (y.q : Int)) := cell_on hb24 u3_23
        have u4_24 : w24.cell? ⟨w3.heap.size, 4, none⟩ = some (.int .u8 (y.r : Int)) := cell_on hb24 u4_23
        have v0_24 : w24.cell? ⟨w4.heap.size, 0, none⟩ = some (.int .u32 (y.s : Int)) := cell_on hb24 v0_23
        have v1_24 : w24.cell? ⟨w4.heap.size, 1, none⟩ = some (.int .u32 (y.d : Int)) := cell_on hb24 v1_23
        have v2_24 : w24.cell? ⟨w4.heap.size, 2, none⟩ = some (.int .u16 (y.p : Int)) := cell_on hb24 v2_23
        have v3_24 : w24.cell? ⟨w4.heap.size, 3, none⟩ = some (.int .u16 (y.q : Int)) := cell_on hb24 v3_23
        have v4_24 : w24.cell? ⟨w4.heap.size, 4, none⟩ = some (.int .u8 (y.r : Int)) := cell_on hb24 v4_23
        have q_24 : Hid (RowB w24 w2.heap.size vq (bytesH h)) := RowB.on q_23.out hb24
        have k_24 : Hid (RowB w24 w2.heap.size vk (bytesH h)) := RowB.on k_23.out hb24
        have x0_24 : w24.cell? ⟨w21.heap.size, 0, none⟩ = some (.int .u32 (y.s : Int)) := cell_on hb24 x0_23
        have x1_24 : w24.cell? ⟨w21.heap.size, 1, none⟩ = some (.int .u32 (y.d : Int)) := cell_on hb24 x1_23
        have x2_24 : w24.cell? ⟨w21.heap.size, 2, none⟩ = some (.int .u16 (y.p : Int)) := cell_on hb24 x2_23
        have x3_24 : w24.cell? ⟨w21.heap.size, 3, none⟩ = some (.int .u16 (y.q : Int)) := cell_on hb24 x3_23
        have x4_24 : w24.cell? ⟨w21.heap.size, 4, none⟩ = some (.int .u8 (y.r : Int)) := cell_on hb24 x4_23
        have s_24 : Hid (RowB w24 w2.heap.size vs (bytesH h)) := RowB.on s_23.out hb24
        have hg24_0 : w.heap.size < w24.heap.size := by omega
        have hg24_1 : w.heap.size + 1 < w24.heap.size := by omega
        have hg24_2 : w3.heap.size < w24.heap.size := by omega
        have hg24_3 : w4.heap.size < w24.heap.size := by omega
        have hg24_4 : w21.heap.size < w24.heap.size := by omega
        have hl24 : w2.heap.size ≤ w24.heap.size := by omega
        have hw24 : Hid (Below w2.heap.size w2 w24) := hw23.out.trans (hb24.mono (by first | omega | (simp; done) | (simp; omega)))
        clear hb24 h0_23 h1_23 h2_23 h3_23 h4_23 z_23 u0_23 u1_23 u2_23 u3_23 u4_23 v0_23 v1_23 v2_23 v3_23 v4_23 q_23 k_23 x0_23 x1_23 x2_23 x3_23 x4_23 s_23 hg23_0 hg23_1 hg23_2 hg23_3 hg23_4 hw23
        go_wp2_with (fail)
        refine (hA _).mono ?_
        rintro e w25 ⟨rfl, hb25⟩
        have hz25 := hb25.size
        (try simp at hz25)
        have h0_25 : w25.cell? ⟨w.heap.size, 0, none⟩ = some (.int .u32 (h.s : Int)) := cell_on hb25 h0_24
        have h1_25 : w25.cell? ⟨w.heap.size, 1, none⟩ = some (.int .u32 (h.d : Int)) := cell_on hb25 h1_24
        have h2_25 : w25.cell? ⟨w.heap.size, 2, none⟩ = some (.int .u16 (h.p : Int)) := cell_on hb25 h2_24
        have h3_25 : w25.cell? ⟨w.heap.size, 3, none⟩ = some (.int .u16 (h.q : Int)) := cell_on hb25 h3_24
        have h4_25 : w25.cell? ⟨w.heap.size, 4, none⟩ = some (.int .u8 (h.r : Int)) := cell_on hb25 h4_24
        have z_25 : w25.cell? ⟨w.heap.size + 1, n, none⟩ = some (.int .u8 99) := cell_on hb25 z_24
        have u0_25 : w25.cell? ⟨w3.heap.size, 0, none⟩ = some (.int .u32 (y.s : Int)) := cell_on hb25 u0_24
        have u1_25 : w25.cell? ⟨w3.heap.size, 1, none⟩ = some (.int .u32 (y.d : Int)) := cell_on hb25 u1_24
        have u2_25 : w25.cell? ⟨w3.heap.size, 2, none⟩ = some (.int .u16 (y.p : Int)) := cell_on hb25 u2_24
        have u3_25 : w25.cell? ⟨w3.heap.size, 3, none⟩ = some (.int .u16 (y.q : Int)) := cell_on hb25 u3_24
        have u4_25 : w25.cell? ⟨w3.heap.size, 4, none⟩ = some (.int .u8 (y.r : Int)) := cell_on hb25 u4_24
        have v0_25 : w25.cell? ⟨w4.heap.size, 0, none⟩ = some (.int .u32 (y.s : Int)) := cell_on hb25 v0_24
        have v1_25 : w25.cell? ⟨w4.heap.size, 1, none⟩ = some (.int .u32 (y.d : Int)) := cell_on hb25 v1_24
        have v2_25 : w25.cell? ⟨w4.heap.size, 2, none⟩ = some (.int .u16 (y.p : Int)) := cell_on hb25 v2_24
        have v3_25 : w25.cell? ⟨w4.heap.size, 3, none⟩ = some (.int .u16 (y.q : Int)) := cell_on hb25 v3_24
        have v4_25 : w25.cell? ⟨w4.heap.size, 4, none⟩ = some (.int .u8 (y.r : Int)) := cell_on hb25 v4_24
        have q_25 : Hid (RowB w25 w2.heap.size vq (bytesH h)) := RowB.on q_24.out hb25
        have k_25 : Hid (RowB w25 w2.heap.size vk (bytesH h)) := RowB.on k_24.out hb25
        have x0_25 : w25.cell? ⟨w21.heap.size, 0, none⟩ = some (.int .u32 (y.s : Int)) := cell_on hb25 x0_24
        have x1_25 : w25.cell? ⟨w21.heap.size, 1, none⟩ = some (.int .u32 (y.d : Int)) := cell_on hb25 x1_24
        have x2_25 : w25.cell? ⟨w21.heap.size, 2, none⟩ = some (.int .u16 (y.p : Int)) := cell_on hb25 x2_24
        have x3_25 : w25.cell? ⟨w21.heap.size, 3, none⟩ = some (.int .u16 (y.q : Int)) := cell_on hb25 x3_24
        have x4_25 : w25.cell? ⟨w21.heap.size, 4, none⟩ = some (.int .u8 (y.r : Int)) := cell_on hb25 x4_24
        have s_25 : Hid (RowB w25 w2.heap.size vs (bytesH h)) := RowB.on s_24.out hb25
        have hg25_0 : w.heap.size < w25.heap.size := by omega
        have hg25_1 : w.heap.size + 1 < w25.heap.size := by omega
        have hg25_2 : w3.heap.size < w25.heap.size := by omega
        have hg25_3 : w4.heap.size < w25.heap.size := by omega
        have hg25_4 : w21.heap.size < w25.heap.size := by omega
        have hl25 : w2.heap.size ≤ w25.heap.size := by omega
        have hw25 : Hid (Below w2.heap.size w2 w25) := hw24.out.trans (hb25.mono (by first | omega | (simp; done) | (simp; omega)))
        clear hb25 h0_24 h1_24 h2_24 h3_24 h4_24 z_24 u0_24 u1_24 u2_24 u3_24 u4_24 v0_24 v1_24 v2_24 v3_24 v4_24 q_24 k_24 x0_24 x1_24 x2_24 x3_24 x4_24 s_24 hg24_0 hg24_1 hg24_2 hg24_3 hg24_4 hw24
        go_wp2_with (fail)
        refine (k4 _ _ _ (SI.out _ hw25.out) (HS2.out.keep hw25.out)).mono ?_
        rintro e w26 ⟨rfl, hb26⟩
        have hz26 := hb26.size
        (try simp at hz26)
        have h0_26 : w26.cell? ⟨w.heap.size, 0, none⟩ = some (.int .u32 (h.s : Int)) := cell_on hb26 h0_25
        have h1_26 : w26.cell? ⟨w.heap.size, 1, none⟩ = some (.int .u32 (h.d : Int)) := cell_on hb26 h1_25
        have h2_26 : w26.cell? ⟨w.heap.size, 2, none⟩ = some (.int .u16 (h.p : Int)) := cell_on hb26 h2_25
        have h3_26 : w26.cell? ⟨w.heap.size, 3, none⟩ = some (.int .u16 (h.q : Int)) := cell_on hb26 h3_25
        have h4_26 : w26.cell? ⟨w.heap.size, 4, none⟩ = some (.int .u8 (h.r : Int)) := cell_on hb26 h4_25
        have z_26 : w26.cell? ⟨w.heap.size + 1, n, none⟩ = some (.int .u8 99) := cell_on hb26 z_25
        have u0_26 : w26.cell? ⟨w3.heap.size, 0, none⟩ = some (.int .u32 (y.s : Int)) := cell_on hb26 u0_25
        have u1_26 : w26.cell? ⟨w3.heap.size, 1, none⟩ = some (.int .u32 (y.d : Int)) := cell_on hb26 u1_25
        have u2_26 : w26.cell? ⟨w3.heap.size, 2, none⟩ = some (.int .u16 (y.p : Int)) := cell_on hb26 u2_25
        have u3_26 : w26.cell? ⟨w3.heap.size, 3, none⟩ = some (.int .u16 (y.q : Int)) := cell_on hb26 u3_25
        have u4_26 : w26.cell? ⟨w3.heap.size, 4, none⟩ = some (.int .u8 (y.r : Int)) := cell_on hb26 u4_25
        have v0_26 : w26.cell? ⟨w4.heap.size, 0, none⟩ = some (.int .u32 (y.s : Int)) := cell_on hb26 v0_25
        have v1_26 : w26.cell? ⟨w4.heap.size, 1, none⟩ = some (.int .u32 (y.d : Int)) := cell_on hb26 v1_25
        have v2_26 : w26.cell? ⟨w4.heap.size, 2, none⟩ = some (.int .u16 (y.p : Int)) := cell_on hb26 v2_25
        have v3_26 : w26.cell? ⟨w4.heap.size, 3, none⟩ = some (.int .u16 (y.q : Int)) := cell_on hb26 v3_25
        have v4_26 : w26.cell? ⟨w4.heap.size, 4, none⟩ = some (.int .u8 (y.r : Int)) := cell_on hb26 v4_25
        have q_26 : Hid (RowB w26 w2.heap.size vq (bytesH h)) := RowB.on q_25.out hb26
        have k_26 : Hid (RowB w26 w2.heap.size vk (bytesH h)) := RowB.on k_25.out hb26
        have x0_26 : w26.cell? ⟨w21.heap.size, 0, none⟩ = some (.int .u32 (y.s : Int)) := cell_on hb26 x0_25
        have x1_26 : w26.cell? ⟨w21.heap.size, 1, none⟩ = some (.int .u32 (y.d : Int)) := cell_on hb26 x1_25
        have x2_26 : w26.cell? ⟨w21.heap.size, 2, none⟩ = some (.int .u16 (y.p : Int)) := cell_on hb26 x2_25
        have x3_26 : w26.cell? ⟨w21.heap.size, 3, none⟩ = some (.int .u16 (y.q : Int)) := cell_on hb26 x3_25
        have x4_26 : w26.cell? ⟨w21.heap.size, 4, none⟩ = some (.int .u8 (y.r : Int)) := cell_on hb26 x4_25
        have s_26 : Hid (RowB w26 w2.heap.size vs (bytesH h)) := RowB.on s_25.out hb26
        have hg26_0 : w.heap.size < w26.heap.size := by omega
        have hg26_1 : w.heap.size + 1 < w26.heap.size := by omega
        have hg26_2 : w3.heap.size < w26.heap.size := by omega
        have hg26_3 : w4.heap.size < w26.heap.size := by omega
        have hg26_4 : w21.heap.size < w26.heap.size := by omega
        have hl26 : w2.heap.size ≤ w26.heap.size := by omega
        have hw26 : Hid (Below w2.heap.size w2 w26) := hw25.out.trans (hb26.mono (by first | omega | (simp; done) | (simp; omega)))
        clear hb26 h0_25 h1_25 h2_25 h3_25 h4_25 z_25 u0_25 u1_25 u2_25 u3_25 u4_25 v0_25 v1_25 v2_25 v3_25 v4_25 q_25 k_25 x0_25 x1_25 x2_25 x3_25 x4_25 s_25 hg25_0 hg25_1 hg25_2 hg25_3 hg25_4 hw25
        go_wp2_with (fail)
        go_ret
        exact ⟨ret_same (by simp), HBw.out.trans (hw26.out.mono (by omega))⟩
  · have hm' : (16777216 : Int) < (l.length : Int) := by omega
    clear hbig
    go_enter Try.func3, Try.ntmps3
    go_wp2_with (fail)
    refine (hA _).mono ?_
    rintro e w1 ⟨rfl, hb1⟩
    have hw1 : Hid (Below w.heap.size w w1) := ((Below.refl _ _).alloc (Nat.le_refl _) _).trans (hb1.mono (by simp))
    clear hb1
    go_wp2
    go_ret
    exact ⟨rfl, hw1.out⟩
end Go.Proofs.Ytpgadbiohmofeaa
