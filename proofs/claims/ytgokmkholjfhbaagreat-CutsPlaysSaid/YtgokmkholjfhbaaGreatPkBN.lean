/-
  PkBN: CtW, one behind the other (tools/pack.py).
-/
import Derived.Test.YtgokmkholjfhbaaGreatPkBM
import Derived.Test.YtgokmkholjfhbaaGreatPkAE
set_option linter.unusedVariables false
set_option linter.unusedSimpArgs false
namespace Go.Proofs.YtgokmkholjfhbaaGreat
open Go.RowKit
def eC : Cf := ⟨10, 1, 100, 100, 100, 4, 8⟩
def eA : Ru := ⟨1, 167772160, 8, 0, 0, (0, 65535), (0, 65535), (0, 0), 2⟩
def eB : Ru := ⟨2, 0, 0, 167772160, 8, (0, 65535), (0, 65535), (0, 0), 3⟩
theorem eC_bd : BdC eC := by unfold BdC I64 eC; decide
theorem eC_ok : okC eC = true := by decide
theorem eA_bd : BdR eA := by unfold BdR I64 eA; decide
theorem eB_bd : BdR eB := by unfold BdR I64 eB; decide
theorem ex_a : insE [] eC.m 0 eA = 0 := by decide +kernel
theorem ex_b : insE [eA] eC.m 1 eB = 0 := by decide +kernel
theorem ex_c : insE [eA, eB] eC.m 0 eA = 111 := by decide +kernel
theorem ex_al : insL [] eC.m 0 eA = [eA] := by rw [show insL [] eC.m 0 eA = putL [] (0 : Int).toNat eA from if_pos ex_a]; rfl
theorem ex_bl : insL [eA] eC.m 1 eB = [eA, eB] := by rw [show insL [eA] eC.m 1 eB = putL [eA] (1 : Int).toNat eB from if_pos ex_b]; rfl
theorem ex_cl : insL [eA, eB] eC.m 0 eA = [eA, eB] := if_neg (by rw [ex_c]; decide)
theorem ex_m1 : mat [eA, eB] ⟨167772169, 167772160, 0, 0, 0⟩ = 0 := by decide +kernel
theorem ex_m2 : mat [eA, eB] ⟨150994944, 167772160, 0, 0, 0⟩ = 1 := by decide +kernel
theorem ex_m3 : mat [eA, eB] ⟨150994944, 150994944, 0, 0, 0⟩ = -1 := by decide +kernel
theorem okE (a b : Nat) (ha : a < 4294967296) (hb : b < 4294967296) : OkH ⟨a, b, 0, 0, 0⟩ := ⟨ha, hb, show (0 : Nat) < 65536 by decide, show (0 : Nat) < 65536 by decide, show (0 : Nat) < 256 by decide⟩
theorem every18 (i a : Int) (w : World) : Calls Tryz.prog 17 #[.int .i64 i, .int .i64 a] w fun e w' => e = .returned (.agg #[.int .i64 (allR i a).i, .int .u32 ((allR i a).s : Int), .int .i64 (allR i a).sl, .int .u32 ((allR i a).d : Int), .int .i64 (allR i a).dl, .int .u16 ((allR i a).p.1 : Int), .int .u16 ((allR i a).p.2 : Int), .int .u16 ((allR i a).q.1 : Int), .int .u16 ((allR i a).q.2 : Int), .int .u8 ((allR i a).m.1 : Int), .int .u8 ((allR i a).m.2 : Int), .int .i64 (allR i a).act]) ∧ Below w.heap.size w w' := by
 go_enter Tryz.func17, Tryz.ntmps17
 go_wp2
 refine bodyPost_ret (results_blk Tryz.results17 rfl (blk_new w _) Tryz.underlying64 rfl (by kernel_rfl)) rfl ?_
 exact ⟨rfl, (Below.refl _ _).alloc (Nat.le_refl _) _⟩
theorem example18 (w : World) : Calls Tryz.prog 16 #[] w fun e w' => e = .returned (.agg #[.int .i64 10, .int .i64 1, .int .i64 100, .int .i64 100, .int .i64 100, .int .i64 4, .int .i64 8]) ∧ Below w.heap.size w w' := by
 go_enter Tryz.func16, Tryz.ntmps16
 go_wp2
 refine bodyPost_ret (results_blk Tryz.results16 rfl (blk_new w _) Tryz.underlying24 rfl (by kernel_rfl)) rfl ?_
 exact ⟨rfl, (Below.refl _ _).alloc (Nat.le_refl _) _⟩
theorem Did.blk {w w' : World} {X : Nat} {c : Cf} {l' : List Ru} {S : Nat → Prop} (h : Did w w' X c l' S) {B : Nat} {o : Obj} (hb : w.heap[B]? = some o) (hn : B ≠ X) (hs : ¬ S B) : w'.heap[B]? = some o := by
 rw [h.2.block B (blk_lt hb) hn hs]; exact hb
theorem Did.below {w0 w w' : World} {X : Nat} {c : Cf} {l' : List Ru} {S : Nat → Prop} (h : Did w w' X c l' S) (hb : Below w0.heap.size w0 w) (hX : w0.heap.size ≤ X) (hS : ∀ k, S k → w0.heap.size ≤ k) : Below w0.heap.size w0 w' :=
 h.2.below hb hb.size hX hS
set_option maxHeartbeats 8000000 in
set_option maxRecDepth 20000 in
theorem awake18 (w : World) : Calls Tryz.prog 8 #[] w fun e w' => e = .returned (.bool true) ∧ Below w.heap.size w w' := by
 go_enter Tryz.func8, Tryz.ntmps8
 go_wp2_with (go_at_call 16; fail)
 refine (example18 _).mono ?_
 rintro e w1 ⟨rfl, hb1⟩
 have HB1 : Hid (Below w.heap.size w w1) := hb1
 clear hb1
 go_wp2_with (go_at_call 7; fail)
 refine (newE eC eC_bd eC_ok _).mono ?_
 rintro e w2 ⟨X, rfl, hE2, hX2, hb2⟩
 have HB2 : Hid (Below w.heap.size w w2) := HB1.out.trans (hb2.mono HB1.out.size)
 have HX : Hid (w.heap.size ≤ X) := Nat.le_trans HB1.out.size hX2
 have HL1 : Hid (w.heap.size ≤ w1.heap.size) := HB1.out.size
 have HE2 : Hid (Eng w2 X eC [] (fun k => w1.heap.size ≤ k ∧ k < X)) := hE2
 clear hE2 hX2 hb2
 go_wp2_with (go_at_call 17; fail)
 refine (every18 1 2 _).mono ?_
 rintro e w3 ⟨rfl, hb3⟩
 have HB3 : Hid (Below w.heap.size w w3) := HB2.out.trans (hb3.mono HB2.out.size)
 have HE3 : Hid (Eng w3 X eC [] (fun k => w1.heap.size ≤ k ∧ k < X)) := HE2.out.on hb3
 have HA3 : Hid ((w3.alloc (.cells #[.int .i64 1, .int .u32 0, .int .i64 0, .int .u32 0, .int .i64 0, .int .u16 0, .int .u16 65535, .int .u16 0, .int .u16 65535, .int .u8 0, .int .u8 0, .int .i64 2] 64)).heap[w3.heap.size]? = some (.cells #[.int .i64 1, .int .u32 0, .int .i64 0, .int .u32 0, .int .i64 0, .int .u16 0, .int .u16 65535, .int .u16 0, .int .u16 65535, .int .u8 0, .int .u8 0, .int .i64 2] 64 (0, 0))) := blk_new w3 _
 have hba : Below w3.heap.size w3 (w3.alloc (.cells #[.int .i64 1, .int .u32 0, .int .i64 0, .int .u32 0, .int .i64 0, .int .u16 0, .int .u16 65535, .int .u16 0, .int .u16 65535, .int .u8 0, .int .u8 0, .int .i64 2] 64)) := (Below.refl _ _).alloc (Nat.le_refl _) _
 have HBa : Hid (Below w.heap.size w (w3.alloc (.cells #[.int .i64 1, .int .u32 0, .int .i64 0, .int .u32 0, .int .i64 0, .int .u16 0, .int .u16 65535, .int .u16 0, .int .u16 65535, .int .u8 0, .int .u8 0, .int .i64 2] 64))) := HB3.out.trans (hba.mono HB3.out.size)
 have HEa : Hid (Eng (w3.alloc (.cells #[.int .i64 1, .int .u32 0, .int .i64 0, .int .u32 0, .int .i64 0, .int .u16 0, .int .u16 65535, .int .u16 0, .int .u16 65535, .int .u8 0, .int .u8 0, .int .i64 2] 64)) X eC [] (fun k => w1.heap.size ≤ k ∧ k < X)) := HE3.out.on hba
 have HXa : Hid (X < w3.heap.size) := HE3.out.lt
 clear hb3 hba HB1 HB2 HE2
 simp only [allR]
 go_wp2_with (first | (refine wpList_store_blk rfl 58 (.tmp 27) (.tmp 26) rfl w3.heap.size 1 #[.int .u32 167772160, .int .i64 8] #[.int .i64 1, .int .u32 167772160, .int .i64 8, .int .u32 0, .int .i64 0, .int .u16 0, .int .u16 65535, .int .u16 0, .int .u16 65535, .int .u8 0, .int .u8 0, .int .i64 2] rfl rfl 64 _ HA3.out (Nat.le_of_ble_eq_true rfl) rfl (by kernel_rfl) rfl ?_; intro w4 hA4 ho4) | (go_at_call 17; fail))
 have HA4 : Hid _ := hA4
 have hb4 : Below w3.heap.size (w3.alloc (.cells #[.int .i64 1, .int .u32 0, .int .i64 0, .int .u32 0, .int .i64 0, .int .u16 0, .int .u16 65535, .int .u16 0, .int .u16 65535, .int .u8 0, .int .u8 0, .int .i64 2] 64)) w4 := ho4.below (Nat.le_refl _)
 have HB4 : Hid (Below w.heap.size w w4) := HBa.out.trans (hb4.mono HB3.out.size)
 have HE4 : Hid (Eng w4 X eC [] (fun k => w1.heap.size ≤ k ∧ k < X)) := HEa.out.stay (Nat.le_of_eq ho4.size.symm) (fun k _ e => ho4.block k (by have := HXa.out; omega))
 have Hba : Hid (w3.heap.size < w4.heap.size) := blk_lt hA4
 generalize hBa : w3.heap.size = Ba at *
 clear hA4 ho4 hb4 hBa HA3 HEa HBa HB3 HE3
 clear w3
 refine (every18 2 3 _).mono ?_
 rintro e w5 ⟨rfl, hb5⟩
 have HB5 : Hid (Below w.heap.size w w5) := HB4.out.trans (hb5.mono HB4.out.size)
 have HE5 : Hid (Eng w5 X eC [] (fun k => w1.heap.size ≤ k ∧ k < X)) := HE4.out.on hb5
 have HA5 : Hid (w5.heap[Ba]? = some (.cells #[.int .i64 1, .int .u32 167772160, .int .i64 8, .int .u32 0, .int .i64 0, .int .u16 0, .int .u16 65535, .int .u16 0, .int .u16 65535, .int .u8 0, .int .u8 0, .int .i64 2] 64 (0, 0))) := blk_on HA4.out hb5
 have HC5 : Hid ((w5.alloc (.cells #[.int .i64 2, .int .u32 0, .int .i64 0, .int .u32 0, .int .i64 0, .int .u16 0, .int .u16 65535, .int .u16 0, .int .u16 65535, .int .u8 0, .int .u8 0, .int .i64 3] 64)).heap[w5.heap.size]? = some (.cells #[.int .i64 2, .int .u32 0, .int .i64 0, .int .u32 0, .int .i64 0, .int .u16 0, .int .u16 65535, .int .u16 0, .int .u16 65535, .int .u8 0, .int .u8 0, .int .i64 3] 64 (0, 0))) := blk_new w5 _
 have hba : Below w5.heap.size w5 (w5.alloc (.cells #[.int .i64 2, .int .u32 0, .int .i64 0, .int .u32 0, .int .i64 0, .int .u16 0, .int .u16 65535, .int .u16 0, .int .u16 65535, .int .u8 0, .int .u8 0, .int .i64 3] 64)) := (Below.refl _ _).alloc (Nat.le_refl _) _
 have HBa : Hid (Below w.heap.size w (w5.alloc (.cells #[.int .i64 2, .int .u32 0, .int .i64 0, .int .u32 0, .int .i64 0, .int .u16 0, .int .u16 65535, .int .u16 0, .int .u16 65535, .int .u8 0, .int .u8 0, .int .i64 3] 64))) := HB5.out.trans (hba.mono HB5.out.size)
 have HEa : Hid (Eng (w5.alloc (.cells #[.int .i64 2, .int .u32 0, .int .i64 0, .int .u32 0, .int .i64 0, .int .u16 0, .int .u16 65535, .int .u16 0, .int .u16 65535, .int .u8 0, .int .u8 0, .int .i64 3] 64)) X eC [] (fun k => w1.heap.size ≤ k ∧ k < X)) := HE5.out.on hba
 have HXb : Hid (X < w5.heap.size) := HE5.out.lt
 have HAb : Hid ((w5.alloc (.cells #[.int .i64 2, .int .u32 0, .int .i64 0, .int .u32 0, .int .i64 0, .int .u16 0, .int .u16 65535, .int .u16 0, .int .u16 65535, .int .u8 0, .int .u8 0, .int .i64 3] 64)).heap[Ba]? = some (.cells #[.int .i64 1, .int .u32 167772160, .int .i64 8, .int .u32 0, .int .i64 0, .int .u16 0, .int .u16 65535, .int .u16 0, .int .u16 65535, .int .u8 0, .int .u8 0, .int .i64 2] 64 (0, 0))) := blk_on HA5.out hba
 have HAl : Hid (Ba < w5.heap.size) := blk_lt HA5.out
 clear hb5 hba HB4 HE4 HA4
 simp only [allR]
 go_wp2_with (first | (refine wpList_store_blk rfl 58 (.tmp 30) (.tmp 29) rfl w5.heap.size 3 #[.int .u32 167772160, .int .i64 8] #[.int .i64 2, .int .u32 0, .int .i64 0, .int .u32 167772160, .int .i64 8, .int .u16 0, .int .u16 65535, .int .u16 0, .int .u16 65535, .int .u8 0, .int .u8 0, .int .i64 3] rfl rfl 64 _ HC5.out (Nat.le_of_ble_eq_true rfl) rfl (by kernel_rfl) rfl ?_; intro w6 hC6 ho6; have hA6 : w6.heap[Ba]? = some (.cells #[.int .i64 1, .int .u32 167772160, .int .i64 8, .int .u32 0, .int .i64 0, .int .u16 0, .int .u16 65535, .int .u16 0, .int .u16 65535, .int .u8 0, .int .u8 0, .int .i64 2] 64 (0, 0)) := (ho6.block Ba (by have := HAl.out; omega)).trans HAb.out; obtain ⟨a0, a1, a2, a3, a4, a5, a6, a7, a8, a9, a10, a11⟩ := blk12 hA6) | (go_at_call 18; fail))
 have HA6 : Hid _ := hA6
 have HC6 : Hid _ := hC6
 have HB6 : Hid (Below w.heap.size w w6) := HBa.out.trans ((ho6.below (Nat.le_refl _)).mono HB5.out.size)
 have HE6 : Hid (Eng w6 X eC [] (fun k => w1.heap.size ≤ k ∧ k < X)) := HEa.out.stay (Nat.le_of_eq ho6.size.symm) (fun k _ e => ho6.block k (by have := HXb.out; omega))
 have HXn : Hid (X < Ba ∧ X < w5.heap.size) := ⟨HXa.out, HXb.out⟩
 generalize hBb : w5.heap.size = Bb at *
 clear hA6 hC6 ho6 hBb HC5 HEa HBa HB5 HE5 HA5 HAb HAl a0 a1 a2 a3 a4 a5 a6 a7 a8 a9 a10 a11
 clear w5
 have hI1 := insertE X eC [] _ 0 eA w6 HE6.out eA_bd eC_bd (by decide)
 rw [ex_a, ex_al] at hI1
 refine hI1.mono ?_
 rintro e w7 ⟨rfl, hd7⟩
 have HL6 : Hid (Ba < w6.heap.size ∧ Bb < w6.heap.size ∧ w.heap.size ≤ w6.heap.size) := ⟨blk_lt HA6.out, blk_lt HC6.out, HB6.out.size⟩
 have HB7 : Hid (Below w.heap.size w w7) := hd7.below HB6.out HX.out (fun k hk => by have := HL1.out; omega)
 have HA7 : Hid (w7.heap[Ba]? = _) := hd7.blk HA6.out (by have := HXn.out; omega) (by have := HXn.out; omega)
 have HC7 : Hid (w7.heap[Bb]? = _) := hd7.blk HC6.out (by have := HXn.out; omega) (by have := HXn.out; omega)
 have hI2 := insertE X eC [eA] _ 1 eB w7 hd7.1 eB_bd eC_bd (by decide)
 rw [ex_b, ex_bl] at hI2
 obtain ⟨b0, b1, b2, b3, b4, b5, b6, b7, b8, b9, b10, b11⟩ := blk12 HC7.out
 clear hd7 hI1 HE6 HA6 HC6 HB6
 go_wp2_with (go_at_call 18; fail)
 refine hI2.mono ?_
 rintro e w8 ⟨rfl, hd8⟩
 have HL7 : Hid (w.heap.size ≤ w7.heap.size) := HB7.out.size
 have HB8 : Hid (Below w.heap.size w w8) := hd8.below HB7.out HX.out (fun k hk => by have := HL1.out; have := HL6.out; omega)
 have HA8 : Hid (w8.heap[Ba]? = _) := hd8.blk HA7.out (by have := HXn.out; omega) (by have := HXn.out; have := HL6.out; omega)
 have hI3 := insertE X eC [eA, eB] _ 0 eA w8 hd8.1 eA_bd eC_bd (by decide)
 rw [ex_c, ex_cl] at hI3
 clear b0 b1 b2 b3 b4 b5 b6 b7 b8 b9 b10 b11
 obtain ⟨b0, b1, b2, b3, b4, b5, b6, b7, b8, b9, b10, b11⟩ := blk12 HA8.out
 clear hd8 hI2 HA7 HC7 HB7
 go_wp2_with (go_at_call 18; fail)
 refine hI3.mono ?_
 rintro e w9 ⟨rfl, hd9⟩
 have HB9 : Hid (Below w.heap.size w w9) := hd9.below HB8.out HX.out (fun k hk => by have := HL1.out; have := HL6.out; have := HL7.out; omega)
 obtain ⟨S9, HE9⟩ : ∃ S9, Hid (Eng w9 X eC [eA, eB] S9) := ⟨_, hd9.1⟩
 have hc1 : 1 ≤ rlK eC [eA, eB] ⟨167772169, 167772160, 0, 0, 0⟩ := (leaf_mat (lfK HE9.out.ok HE9.out.bd HE9.out.cf (okE _ _ (by decide) (by decide)))).2.2 (by rw [ex_m1]; rfl)
 clear b0 b1 b2 b3 b4 b5 b6 b7 b8 b9 b10 b11 hd9 hI3 HA8 HB8 HL1 HL6 HL7
 generalize w9 = U0 at *
 have hK := askE X eC [eA, eB] _ ⟨167772169, 167772160, 0, 0, 0⟩ U0 HE9.out (okE _ _ (by decide) (by decide))
 unfold vdV stV at hK
 rw [ex_m1] at hK
 generalize rlK eC [eA, eB] ⟨167772169, 167772160, 0, 0, 0⟩ = C1 at *
 generalize dpK eC [eA, eB] ⟨167772169, 167772160, 0, 0, 0⟩ = K1 at *
 go_wp2_with (go_at_call 9; fail)
 refine hK.mono ?_
 rintro e V1 ⟨rfl, hb⟩
 have ev : vdH 0 = true ∧ vdI [eA, eB] 0 = 1 ∧ vdA eC.a [eA, eB] 0 = 2 := by decide
 rw [ev.1, ev.2.1, ev.2.2]
 have hU : Below U0.heap.size U0 ((V1.alloc (.cells #[.bool true, .int .i64 1, .int .i64 2] 36)).alloc (.cells #[.int .i64 ((K1 : Int) + 1), .int .i64 C1, .int .i64 K1, .int .i64 0, .int .i64 0] 38)) := hb.trans ((((Below.refl _ _).alloc (Nat.le_refl _) _).alloc (by simp) _).mono hb.size)
 have HB_1 : Hid (Below w.heap.size w ((V1.alloc (.cells #[.bool true, .int .i64 1, .int .i64 2] 36)).alloc (.cells #[.int .i64 ((K1 : Int) + 1), .int .i64 C1, .int .i64 K1, .int .i64 0, .int .i64 0] 38))) := HB9.out.trans (hU.mono HB9.out.size)
 have HE_1 : Hid (Eng ((V1.alloc (.cells #[.bool true, .int .i64 1, .int .i64 2] 36)).alloc (.cells #[.int .i64 ((K1 : Int) + 1), .int .i64 C1, .int .i64 K1, .int .i64 0, .int .i64 0] 38)) X eC [eA, eB] S9) := HE9.out.on hU
 have HV1_1 : Hid (((V1.alloc (.cells #[.bool true, .int .i64 1, .int .i64 2] 36)).alloc (.cells #[.int .i64 ((K1 : Int) + 1), .int .i64 C1, .int .i64 K1, .int .i64 0, .int .i64 0] 38)).heap[V1.heap.size]? = some (.cells #[.bool true, .int .i64 1, .int .i64 2] 36 (0, 0))) := blk_alloc (blk_new V1 _) _
 have HS1_1 : Hid (((V1.alloc (.cells #[.bool true, .int .i64 1, .int .i64 2] 36)).alloc (.cells #[.int .i64 ((K1 : Int) + 1), .int .i64 C1, .int .i64 K1, .int .i64 0, .int .i64 0] 38)).heap[V1.heap.size + 1]? = some (.cells #[.int .i64 ((K1 : Int) + 1), .int .i64 C1, .int .i64 K1, .int .i64 0, .int .i64 0] 38 (0, 0))) := by
  have := blk_new (V1.alloc (.cells #[.bool true, .int .i64 1, .int .i64 2] 36)) (.cells #[.int .i64 ((K1 : Int) + 1), .int .i64 C1, .int .i64 K1, .int .i64 0, .int .i64 0] 38)
  show _ = _
  simpa using this
 clear hK hb ev hU HB9 HE9
 go_upto_region 12 with (fail)
 try simp only [World.size_alloc]
 generalize ((V1.alloc (.cells #[.bool true, .int .i64 1, .int .i64 2] 36)).alloc (.cells #[.int .i64 ((K1 : Int) + 1), .int .i64 C1, .int .i64 K1, .int .i64 0, .int .i64 0] 38)) = U1 at *
 generalize V1.heap.size = Q1 at *
 clear V1
 have hK := askE X eC [eA, eB] _ ⟨150994944, 167772160, 0, 0, 0⟩ U1 HE_1.out (okE _ _ (by decide) (by decide))
 unfold vdV stV at hK
 rw [ex_m2] at hK
 generalize rlK eC [eA, eB] ⟨150994944, 167772160, 0, 0, 0⟩ = C2 at *
 generalize dpK eC [eA, eB] ⟨150994944, 167772160, 0, 0, 0⟩ = K2 at *
 go_wp2_with (go_at_call 9; fail)
 refine hK.mono ?_
 rintro e V2 ⟨rfl, hb⟩
 have ev : vdH 1 = true ∧ vdI [eA, eB] 1 = 2 ∧ vdA eC.a [eA, eB] 1 = 3 := by decide
 rw [ev.1, ev.2.1, ev.2.2]
 have hU : Below U1.heap.size U1 ((V2.alloc (.cells #[.bool true, .int .i64 2, .int .i64 3] 36)).alloc (.cells #[.int .i64 ((K2 : Int) + 1), .int .i64 C2, .int .i64 K2, .int .i64 0, .int .i64 0] 38)) := hb.trans ((((Below.refl _ _).alloc (Nat.le_refl _) _).alloc (by simp) _).mono hb.size)
 have HB_2 : Hid (Below w.heap.size w ((V2.alloc (.cells #[.bool true, .int .i64 2, .int .i64 3] 36)).alloc (.cells #[.int .i64 ((K2 : Int) + 1), .int .i64 C2, .int .i64 K2, .int .i64 0, .int .i64 0] 38))) := HB_1.out.trans (hU.mono HB_1.out.size)
 have HE_2 : Hid (Eng ((V2.alloc (.cells #[.bool true, .int .i64 2, .int .i64 3] 36)).alloc (.cells #[.int .i64 ((K2 : Int) + 1), .int .i64 C2, .int .i64 K2, .int .i64 0, .int .i64 0] 38)) X eC [eA, eB] S9) := HE_1.out.on hU
 have HV2_2 : Hid (((V2.alloc (.cells #[.bool true, .int .i64 2, .int .i64 3] 36)).alloc (.cells #[.int .i64 ((K2 : Int) + 1), .int .i64 C2, .int .i64 K2, .int .i64 0, .int .i64 0] 38)).heap[V2.heap.size]? = some (.cells #[.bool true, .int .i64 2, .int .i64 3] 36 (0, 0))) := blk_alloc (blk_new V2 _) _
 have HV1_2 : Hid _ := blk_on HV1_1.out hU
 have HS1_2 : Hid _ := blk_on HS1_1.out hU
 clear hK hb ev hU HB_1 HE_1
 clear HV1_1 HS1_1
 go_upto_region 13 with (fail)
 try simp only [World.size_alloc]
 generalize ((V2.alloc (.cells #[.bool true, .int .i64 2, .int .i64 3] 36)).alloc (.cells #[.int .i64 ((K2 : Int) + 1), .int .i64 C2, .int .i64 K2, .int .i64 0, .int .i64 0] 38)) = U2 at *
 generalize V2.heap.size = Q2 at *
 clear V2
 have hK := askE X eC [eA, eB] _ ⟨150994944, 150994944, 0, 0, 0⟩ U2 HE_2.out (okE _ _ (by decide) (by decide))
 unfold vdV stV at hK
 rw [ex_m3] at hK
 generalize rlK eC [eA, eB] ⟨150994944, 150994944, 0, 0, 0⟩ = C3 at *
 generalize dpK eC [eA, eB] ⟨150994944, 150994944, 0, 0, 0⟩ = K3 at *
 go_wp2_with (go_at_call 9; fail)
 refine hK.mono ?_
 rintro e V3 ⟨rfl, hb⟩
 have ev : vdH (-1) = false ∧ vdI [eA, eB] (-1) = 0 ∧ vdA eC.a [eA, eB] (-1) = 1 := by decide
 rw [ev.1, ev.2.1, ev.2.2]
 have hU : Below U2.heap.size U2 ((V3.alloc (.cells #[.bool false, .int .i64 0, .int .i64 1] 36)).alloc (.cells #[.int .i64 ((K3 : Int) + 1), .int .i64 C3, .int .i64 K3, .int .i64 0, .int .i64 0] 38)) := hb.trans ((((Below.refl _ _).alloc (Nat.le_refl _) _).alloc (by simp) _).mono hb.size)
 have HB_3 : Hid (Below w.heap.size w ((V3.alloc (.cells #[.bool false, .int .i64 0, .int .i64 1] 36)).alloc (.cells #[.int .i64 ((K3 : Int) + 1), .int .i64 C3, .int .i64 K3, .int .i64 0, .int .i64 0] 38))) := HB_2.out.trans (hU.mono HB_2.out.size)
 have HE_3 : Hid (Eng ((V3.alloc (.cells #[.bool false, .int .i64 0, .int .i64 1] 36)).alloc (.cells #[.int .i64 ((K3 : Int) + 1), .int .i64 C3, .int .i64 K3, .int .i64 0, .int .i64 0] 38)) X eC [eA, eB] S9) := HE_2.out.on hU
 have HV3_3 : Hid (((V3.alloc (.cells #[.bool false, .int .i64 0, .int .i64 1] 36)).alloc (.cells #[.int .i64 ((K3 : Int) + 1), .int .i64 C3, .int .i64 K3, .int .i64 0, .int .i64 0] 38)).heap[V3.heap.size]? = some (.cells #[.bool false, .int .i64 0, .int .i64 1] 36 (0, 0))) := blk_alloc (blk_new V3 _) _
 have HV1_3 : Hid _ := blk_on HV1_2.out hU
 have HV2_3 : Hid _ := blk_on HV2_2.out hU
 have HS1_3 : Hid _ := blk_on HS1_2.out hU
 clear hK hb ev hU HB_2 HE_2
 clear HV1_2 HV2_2 HS1_2
 go_upto_region 14 with (fail)
 try simp only [World.size_alloc]
 generalize ((V3.alloc (.cells #[.bool false, .int .i64 0, .int .i64 1] 36)).alloc (.cells #[.int .i64 ((K3 : Int) + 1), .int .i64 C3, .int .i64 K3, .int .i64 0, .int .i64 0] 38)) = U3 at *
 generalize V3.heap.size = Q3 at *
 clear V3
 have hc1i : (1 : Int) ≤ (C1 : Int) := by omega
 obtain ⟨a0, a1, a2⟩ := blk3 HV1_3.out
 obtain ⟨c0, c1, c2, c3, c4⟩ := blk5 HS1_3.out
 obtain ⟨d0, d1, d2⟩ := blk3 HV2_3.out
 obtain ⟨g0, g1, g2⟩ := blk3 HV3_3.out
 go_wp2_with (fail)
 go_ret
 exact ⟨rfl, HB_3.out⟩
end Go.Proofs.YtgokmkholjfhbaaGreat
