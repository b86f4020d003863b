/-
  PkBD: TpW TpX TpTe, one behind the other (tools/pack.py).
-/
import Derived.Test.YtfpmljgmfapoiaaGreatPkBA
import Derived.Test.YtfpmljgmfapoiaaGreatPkAZ
import Derived.Test.YtfpmljgmfapoiaaGreatPkBB
import Derived.Test.YtfpmljgmfapoiaaGreatPkBC
import Derived.Test.YtfpmljgmfapoiaaGreatPkAD
import Derived.Test.YtfpmljgmfapoiaaGreatPkAJ
import Derived.Test.YtfpmljgmfapoiaaGreatPkAY
/-
  The document's examples, as the laws play them.
-/
namespace Go.Proofs.YtfpmljgmfapoiaaGreat
open Go.RowKit
set_option linter.unusedVariables false
set_option linter.unusedSimpArgs false

def eC : Cf := ⟨10, 1, 100, 100, 100, 4, 8⟩
def eA : Ru := ⟨1, 167772160, 8, 0, 0, (0, 65535), (0, 65535), (0, 0), 2⟩
def eB : Ru := ⟨2, 0, 0, 167772160, 8, (0, 65535), (0, 65535), (0, 0), 3⟩
theorem eC_bd : BdC eC := by unfold BdC I64 eC; decide
theorem eC_ok : okC eC = true := by decide
theorem eA_bd : BdR eA := by unfold BdR I64 eA; decide
theorem eB_bd : BdR eB := by unfold BdR I64 eB; decide
theorem ex_a : pinE eC [] 0 eA = 0 := by decide +kernel
theorem ex_b : pinE eC [eA] 1 eB = 0 := by decide +kernel
theorem ex_c : pinE eC [eA, eB] 0 eA = 111 := by decide +kernel
theorem ex_al : pinL eC [] 0 eA = [eA] := by unfold pinL; rw [if_pos ex_a]; rfl
theorem ex_bl : pinL eC [eA] 1 eB = [eA, eB] := by unfold pinL; rw [if_pos ex_b]; rfl
theorem ex_cl : pinL eC [eA, eB] 0 eA = [eA, eB] := by unfold pinL; rw [if_neg (by rw [ex_c]; decide)]
theorem ex_m1 : mat [eA, eB] ⟨167772169, 167772160, 0, 0, 0⟩ = 0 := by decide +kernel
theorem ex_m2 : mat [eA, eB] ⟨150994944, 167772160, 0, 0, 0⟩ = 1 := by decide +kernel
theorem ex_m3 : mat [eA, eB] ⟨150994944, 150994944, 0, 0, 0⟩ = -1 := by decide +kernel
theorem okE (a b : Nat) (ha : a < 4294967296) (hb : b < 4294967296) : OkH ⟨a, b, 0, 0, 0⟩ := ⟨ha, hb, show (0 : Nat) < 65536 by decide, show (0 : Nat) < 65536 by decide, show (0 : Nat) < 256 by decide⟩
theorem every19 (i a : Int) (w : World) : Calls Tryz.prog 12 #[.int .i64 i, .int .i64 a] w fun e w' => e = .returned (.agg #[.int .i64 (allR i a).i, .int .u32 ((allR i a).s : Int), .int .i64 (allR i a).sl, .int .u32 ((allR i a).d : Int), .int .i64 (allR i a).dl, .int .u16 ((allR i a).p.1 : Int), .int .u16 ((allR i a).p.2 : Int), .int .u16 ((allR i a).q.1 : Int), .int .u16 ((allR i a).q.2 : Int), .int .u8 ((allR i a).m.1 : Int), .int .u8 ((allR i a).m.2 : Int), .int .i64 (allR i a).act]) ∧ Below w.heap.size w w' := by
  go_enter Tryz.func12, Tryz.ntmps12
  go_wp2
  refine bodyPost_ret (results_blk Tryz.results12 rfl (blk_new w _) Tryz.underlying52 rfl (by kernel_rfl)) rfl ?_
  exact ⟨rfl, (Below.refl _ _).alloc (Nat.le_refl _) _⟩
theorem example19 (w : World) : Calls Tryz.prog 11 #[] w fun e w' => e = .returned (.agg #[.int .i64 10, .int .i64 1, .int .i64 100, .int .i64 100, .int .i64 100, .int .i64 4, .int .i64 8]) ∧ Below w.heap.size w w' := by
  go_enter Tryz.func11, Tryz.ntmps11
  go_wp2
  refine bodyPost_ret (results_blk Tryz.results11 rfl (blk_new w _) Tryz.underlying24 rfl (by kernel_rfl)) rfl ?_
  exact ⟨rfl, (Below.refl _ _).alloc (Nat.le_refl _) _⟩
theorem Did.eng {w w' : World} {X : Nat} {c : Cf} {l' : List Ru} {S : Nat → Prop} (h : Did w w' X c l' S) : ∃ L', Eng w' X c l' L' (fun k => S k ∨ (w.heap.size ≤ k ∧ k < w'.heap.size)) := by
  obtain ⟨L', h, _⟩ := h
  exact ⟨L', h⟩
theorem Did.grs {w w' : World} {X : Nat} {c : Cf} {l' : List Ru} {S : Nat → Prop} (h : Did w w' X c l' S) : Grs w w' X S := by
  obtain ⟨L', _, h⟩ := h
  exact h
theorem Did.blk {w w' : World} {X : Nat} {c : Cf} {l' : List Ru} {S : Nat → Prop} (h : Did w w' X c l' S) {B : Nat} {o : Obj} (hb : w.heap[B]? = some o) (hn : B ≠ X) (hs : ¬ S B) : w'.heap[B]? = some o := by
  rw [h.grs.block B (blk_lt hb) hn hs]; exact hb
theorem Did.below {w0 w w' : World} {X : Nat} {c : Cf} {l' : List Ru} {S : Nat → Prop} (h : Did w w' X c l' S) (hb : Below w0.heap.size w0 w) (hX : w0.heap.size ≤ X) (hS : ∀ k, S k → w0.heap.size ≤ k) : Below w0.heap.size w0 w' :=
  h.grs.below hb hb.size hX hS
set_option maxHeartbeats 8000000 in
set_option maxRecDepth 20000 in
theorem awake19 (w : World) : Calls Tryz.prog 7 #[] w fun e w' => e = .returned (.bool true) ∧ Below w.heap.size w w' := by
  go_enter Tryz.func7, Tryz.ntmps7
  go_wp2_with (go_at_call 11; fail)
  refine (example19 _).mono ?_
  rintro e w1 ⟨rfl, hb1⟩
  have HB1 : Hid (Below w.heap.size w w1) := hb1
  clear hb1
  go_wp2_with (go_at_call 8; fail)
  refine (newE eC eC_bd eC_ok _).mono ?_
  rintro e w2 ⟨X, rfl, hE2, hX2, hb2⟩
  have HB2 : Hid (Below w.heap.size w w2) := HB1.out.trans (hb2.mono HB1.out.size)
  have HX : Hid (w.heap.size ≤ X) := Nat.le_trans HB1.out.size hX2
  have HL1 : Hid (w.heap.size ≤ w1.heap.size) := HB1.out.size
  have HE2 : Hid (Eng w2 X eC [] (fun _ => []) (fun k => w1.heap.size ≤ k ∧ k < X)) := hE2
  clear hE2 hX2 hb2
  go_wp2_with (go_at_call 12; fail)
  refine (every19 1 2 _).mono ?_
  rintro e w3 ⟨rfl, hb3⟩
  have HB3 : Hid (Below w.heap.size w w3) := HB2.out.trans (hb3.mono HB2.out.size)
  have HE3 : Hid (Eng w3 X eC [] (fun _ => []) (fun k => w1.heap.size ≤ k ∧ k < X)) := HE2.out.on hb3
  have HA3 : Hid ((w3.alloc (.cells #[.int .i64 1, .int .u32 0, .int .i64 0, .int .u32 0, .int .i64 0, .int .u16 0, .int .u16 65535, .int .u16 0, .int .u16 65535, .int .u8 0, .int .u8 0, .int .i64 2] 52)).heap[w3.heap.size]? = some (.cells #[.int .i64 1, .int .u32 0, .int .i64 0, .int .u32 0, .int .i64 0, .int .u16 0, .int .u16 65535, .int .u16 0, .int .u16 65535, .int .u8 0, .int .u8 0, .int .i64 2] 52 (0, 0))) := blk_new w3 _
  have hba : Below w3.heap.size w3 (w3.alloc (.cells #[.int .i64 1, .int .u32 0, .int .i64 0, .int .u32 0, .int .i64 0, .int .u16 0, .int .u16 65535, .int .u16 0, .int .u16 65535, .int .u8 0, .int .u8 0, .int .i64 2] 52)) := (Below.refl _ _).alloc (Nat.le_refl _) _
  have HBa : Hid (Below w.heap.size w (w3.alloc (.cells #[.int .i64 1, .int .u32 0, .int .i64 0, .int .u32 0, .int .i64 0, .int .u16 0, .int .u16 65535, .int .u16 0, .int .u16 65535, .int .u8 0, .int .u8 0, .int .i64 2] 52))) := HB3.out.trans (hba.mono HB3.out.size)
  have HEa : Hid (Eng (w3.alloc (.cells #[.int .i64 1, .int .u32 0, .int .i64 0, .int .u32 0, .int .i64 0, .int .u16 0, .int .u16 65535, .int .u16 0, .int .u16 65535, .int .u8 0, .int .u8 0, .int .i64 2] 52)) X eC [] (fun _ => []) (fun k => w1.heap.size ≤ k ∧ k < X)) := HE3.out.on hba
  have HXa : Hid (X < w3.heap.size) := HE3.out.lt
  clear hb3 hba HB1 HB2 HE2
  simp only [allR]
  go_wp2_with (first | (refine wpList_store_blk rfl 45 (.tmp 27) (.tmp 26) rfl w3.heap.size 1 #[.int .u32 167772160, .int .i64 8] #[.int .i64 1, .int .u32 167772160, .int .i64 8, .int .u32 0, .int .i64 0, .int .u16 0, .int .u16 65535, .int .u16 0, .int .u16 65535, .int .u8 0, .int .u8 0, .int .i64 2] rfl rfl 52 _ HA3.out (Nat.le_of_ble_eq_true rfl) rfl (by kernel_rfl) rfl ?_; intro w4 hA4 ho4) | (go_at_call 12; fail))
  have HA4 : Hid _ := hA4
  have hb4 : Below w3.heap.size (w3.alloc (.cells #[.int .i64 1, .int .u32 0, .int .i64 0, .int .u32 0, .int .i64 0, .int .u16 0, .int .u16 65535, .int .u16 0, .int .u16 65535, .int .u8 0, .int .u8 0, .int .i64 2] 52)) w4 := ho4.below (Nat.le_refl _)
  have HB4 : Hid (Below w.heap.size w w4) := HBa.out.trans (hb4.mono HB3.out.size)
  have HE4 : Hid (Eng w4 X eC [] (fun _ => []) (fun k => w1.heap.size ≤ k ∧ k < X)) := HEa.out.stay (Nat.le_of_eq ho4.size.symm) (fun k _ e => ho4.block k (by have := HXa.out; omega))
  have Hba : Hid (w3.heap.size < w4.heap.size) := blk_lt hA4
  generalize hBa : w3.heap.size = Ba at *
  clear hA4 ho4 hb4 hBa HA3 HEa HBa HB3 HE3
  clear w3
  refine (every19 2 3 _).mono ?_
  rintro e w5 ⟨rfl, hb5⟩
  have HB5 : Hid (Below w.heap.size w w5) := HB4.out.trans (hb5.mono HB4.out.size)
  have HE5 : Hid (Eng w5 X eC [] (fun _ => []) (fun k => w1.heap.size ≤ k ∧ k < X)) := HE4.out.on hb5
  have HA5 : Hid (w5.heap[Ba]? = some (.cells #[.int .i64 1, .int .u32 167772160, .int .i64 8, .int .u32 0, .int .i64 0, .int .u16 0, .int .u16 65535, .int .u16 0, .int .u16 65535, .int .u8 0, .int .u8 0, .int .i64 2] 52 (0, 0))) := blk_on HA4.out hb5
  have HC5 : Hid ((w5.alloc (.cells #[.int .i64 2, .int .u32 0, .int .i64 0, .int .u32 0, .int .i64 0, .int .u16 0, .int .u16 65535, .int .u16 0, .int .u16 65535, .int .u8 0, .int .u8 0, .int .i64 3] 52)).heap[w5.heap.size]? = some (.cells #[.int .i64 2, .int .u32 0, .int .i64 0, .int .u32 0, .int .i64 0, .int .u16 0, .int .u16 65535, .int .u16 0, .int .u16 65535, .int .u8 0, .int .u8 0, .int .i64 3] 52 (0, 0))) := blk_new w5 _
  have hba : Below w5.heap.size w5 (w5.alloc (.cells #[.int .i64 2, .int .u32 0, .int .i64 0, .int .u32 0, .int .i64 0, .int .u16 0, .int .u16 65535, .int .u16 0, .int .u16 65535, .int .u8 0, .int .u8 0, .int .i64 3] 52)) := (Below.refl _ _).alloc (Nat.le_refl _) _
  have HBa : Hid (Below w.heap.size w (w5.alloc (.cells #[.int .i64 2, .int .u32 0, .int .i64 0, .int .u32 0, .int .i64 0, .int .u16 0, .int .u16 65535, .int .u16 0, .int .u16 65535, .int .u8 0, .int .u8 0, .int .i64 3] 52))) := HB5.out.trans (hba.mono HB5.out.size)
  have HEa : Hid (Eng (w5.alloc (.cells #[.int .i64 2, .int .u32 0, .int .i64 0, .int .u32 0, .int .i64 0, .int .u16 0, .int .u16 65535, .int .u16 0, .int .u16 65535, .int .u8 0, .int .u8 0, .int .i64 3] 52)) X eC [] (fun _ => []) (fun k => w1.heap.size ≤ k ∧ k < X)) := HE5.out.on hba
  have HXb : Hid (X < w5.heap.size) := HE5.out.lt
  have HAb : Hid ((w5.alloc (.cells #[.int .i64 2, .int .u32 0, .int .i64 0, .int .u32 0, .int .i64 0, .int .u16 0, .int .u16 65535, .int .u16 0, .int .u16 65535, .int .u8 0, .int .u8 0, .int .i64 3] 52)).heap[Ba]? = some (.cells #[.int .i64 1, .int .u32 167772160, .int .i64 8, .int .u32 0, .int .i64 0, .int .u16 0, .int .u16 65535, .int .u16 0, .int .u16 65535, .int .u8 0, .int .u8 0, .int .i64 2] 52 (0, 0))) := blk_on HA5.out hba
  have HAl : Hid (Ba < w5.heap.size) := blk_lt HA5.out
  clear hb5 hba HB4 HE4 HA4
  simp only [allR]
  go_wp2_with (first | (refine wpList_store_blk rfl 45 (.tmp 30) (.tmp 29) rfl w5.heap.size 3 #[.int .u32 167772160, .int .i64 8] #[.int .i64 2, .int .u32 0, .int .i64 0, .int .u32 167772160, .int .i64 8, .int .u16 0, .int .u16 65535, .int .u16 0, .int .u16 65535, .int .u8 0, .int .u8 0, .int .i64 3] rfl rfl 52 _ HC5.out (Nat.le_of_ble_eq_true rfl) rfl (by kernel_rfl) rfl ?_; intro w6 hC6 ho6; have hA6 : w6.heap[Ba]? = some (.cells #[.int .i64 1, .int .u32 167772160, .int .i64 8, .int .u32 0, .int .i64 0, .int .u16 0, .int .u16 65535, .int .u16 0, .int .u16 65535, .int .u8 0, .int .u8 0, .int .i64 2] 52 (0, 0)) := (ho6.block Ba (by have := HAl.out; omega)).trans HAb.out; obtain ⟨a0, a1, a2, a3, a4, a5, a6, a7, a8, a9, a10, a11⟩ := blk12 hA6) | (go_at_call 13; fail))
  have HA6 : Hid _ := hA6
  have HC6 : Hid _ := hC6
  have HB6 : Hid (Below w.heap.size w w6) := HBa.out.trans ((ho6.below (Nat.le_refl _)).mono HB5.out.size)
  have HE6 : Hid (Eng w6 X eC [] (fun _ => []) (fun k => w1.heap.size ≤ k ∧ k < X)) := HEa.out.stay (Nat.le_of_eq ho6.size.symm) (fun k _ e => ho6.block k (by have := HXb.out; omega))
  have HXn : Hid (X < Ba ∧ X < w5.heap.size) := ⟨HXa.out, HXb.out⟩
  generalize hBb : w5.heap.size = Bb at *
  clear hA6 hC6 ho6 hBb HC5 HEa HBa HB5 HE5 HA5 HAb HAl a0 a1 a2 a3 a4 a5 a6 a7 a8 a9 a10 a11
  clear w5
  have hI1 := insertE X eC [] _ _ 0 eA w6 HE6.out eA_bd eC_bd (by decide)
  rw [ex_a, ex_al] at hI1
  refine hI1.mono ?_
  rintro e w7 ⟨rfl, hd7⟩
  have HL6 : Hid (Ba < w6.heap.size ∧ Bb < w6.heap.size ∧ w.heap.size ≤ w6.heap.size) := ⟨blk_lt HA6.out, blk_lt HC6.out, HB6.out.size⟩
  have HB7 : Hid (Below w.heap.size w w7) := hd7.below HB6.out HX.out (fun k hk => by have := HL1.out; omega)
  have HA7 : Hid (w7.heap[Ba]? = _) := hd7.blk HA6.out (by have := HXn.out; omega) (by have := HXn.out; omega)
  have HC7 : Hid (w7.heap[Bb]? = _) := hd7.blk HC6.out (by have := HXn.out; omega) (by have := HXn.out; omega)
  obtain ⟨L7, hE7⟩ := hd7.eng
  have hI2 := insertE X eC [eA] _ _ 1 eB w7 hE7 eB_bd eC_bd (by decide)
  rw [ex_b, ex_bl] at hI2
  obtain ⟨b0, b1, b2, b3, b4, b5, b6, b7, b8, b9, b10, b11⟩ := blk12 HC7.out
  clear hd7 hE7 hI1 HE6 HA6 HC6 HB6
  go_wp2_with (go_at_call 13; fail)
  refine hI2.mono ?_
  rintro e w8 ⟨rfl, hd8⟩
  have HL7 : Hid (w.heap.size ≤ w7.heap.size) := HB7.out.size
  have HB8 : Hid (Below w.heap.size w w8) := hd8.below HB7.out HX.out (fun k hk => by have := HL1.out; have := HL6.out; omega)
  have HA8 : Hid (w8.heap[Ba]? = _) := hd8.blk HA7.out (by have := HXn.out; omega) (by have := HXn.out; have := HL6.out; omega)
  obtain ⟨L8, hE8⟩ := hd8.eng
  have hI3 := insertE X eC [eA, eB] _ _ 0 eA w8 hE8 eA_bd eC_bd (by decide)
  rw [ex_c, ex_cl] at hI3
  clear b0 b1 b2 b3 b4 b5 b6 b7 b8 b9 b10 b11
  obtain ⟨b0, b1, b2, b3, b4, b5, b6, b7, b8, b9, b10, b11⟩ := blk12 HA8.out
  clear hd8 hE8 hI2 HA7 HC7 HB7
  go_wp2_with (go_at_call 13; fail)
  refine hI3.mono ?_
  rintro e w9 ⟨rfl, hd9⟩
  have HB9 : Hid (Below w.heap.size w w9) := hd9.below HB8.out HX.out (fun k hk => by have := HL1.out; have := HL6.out; have := HL7.out; omega)
  obtain ⟨L9, hE9⟩ := hd9.eng
  obtain ⟨S9, HE9⟩ : ∃ S9, Hid (Eng w9 X eC [eA, eB] L9 S9) := ⟨_, hE9⟩
  clear hE9
  have hc1 : 1 ≤ (askR [eA, eB] L9 ⟨167772169, 167772160, 0, 0, 0⟩).ru := by
    rcases (ask_ok HE9.out.ok (okE 167772169 167772160 (by decide) (by decide)) (prK L9 ⟨167772169, 167772160, 0, 0, 0⟩) (askR [eA, eB] L9 ⟨167772169, 167772160, 0, 0, 0⟩) rfl).1 with h | h
    · have := h.2.1; rw [ex_m1] at this; cases this
    · exact h.2.2
  clear b0 b1 b2 b3 b4 b5 b6 b7 b8 b9 b10 b11 hd9 hI3 HA8 HB8 HL1 HL6 HL7
  generalize w9 = U0 at *
  have hK := askE X eC [eA, eB] _ _ ⟨167772169, 167772160, 0, 0, 0⟩ U0 HE9.out (okE _ _ (by decide) (by decide))
  unfold vdV stC at hK
  rw [ex_m1] at hK
  generalize (askR [eA, eB] L9 ⟨167772169, 167772160, 0, 0, 0⟩).ru = C1 at *
  generalize (askR [eA, eB] L9 ⟨167772169, 167772160, 0, 0, 0⟩).tb = K1 at *
  generalize (askR [eA, eB] L9 ⟨167772169, 167772160, 0, 0, 0⟩).pb = P1 at *
  go_wp2_with (go_at_call 14; fail)
  refine hK.mono ?_
  rintro e V1 ⟨rfl, hb⟩
  have ev : vdH 0 = true ∧ vdI [eA, eB] 0 = 1 ∧ vdA eC.a [eA, eB] 0 = 2 := by decide
  rw [ev.1, ev.2.1, ev.2.2]
  have hU : Below U0.heap.size U0 ((V1.alloc (.cells #[.bool true, .int .i64 1, .int .i64 2] 62)).alloc (.cells #[.int .i64 0, .int .i64 C1, .int .i64 0, .int .i64 K1, .int .i64 P1] 64)) := hb.trans ((((Below.refl _ _).alloc (Nat.le_refl _) _).alloc (by simp) _).mono hb.size)
  have HB_1 : Hid (Below w.heap.size w ((V1.alloc (.cells #[.bool true, .int .i64 1, .int .i64 2] 62)).alloc (.cells #[.int .i64 0, .int .i64 C1, .int .i64 0, .int .i64 K1, .int .i64 P1] 64))) := HB9.out.trans (hU.mono HB9.out.size)
  have HE_1 : Hid (Eng ((V1.alloc (.cells #[.bool true, .int .i64 1, .int .i64 2] 62)).alloc (.cells #[.int .i64 0, .int .i64 C1, .int .i64 0, .int .i64 K1, .int .i64 P1] 64)) X eC [eA, eB] L9 S9) := HE9.out.on hU
  have HV1_1 : Hid (((V1.alloc (.cells #[.bool true, .int .i64 1, .int .i64 2] 62)).alloc (.cells #[.int .i64 0, .int .i64 C1, .int .i64 0, .int .i64 K1, .int .i64 P1] 64)).heap[V1.heap.size]? = some (.cells #[.bool true, .int .i64 1, .int .i64 2] 62 (0, 0))) := blk_alloc (blk_new V1 _) _
  have HS1_1 : Hid (((V1.alloc (.cells #[.bool true, .int .i64 1, .int .i64 2] 62)).alloc (.cells #[.int .i64 0, .int .i64 C1, .int .i64 0, .int .i64 K1, .int .i64 P1] 64)).heap[V1.heap.size + 1]? = some (.cells #[.int .i64 0, .int .i64 C1, .int .i64 0, .int .i64 K1, .int .i64 P1] 64 (0, 0))) := by
    have := blk_new (V1.alloc (.cells #[.bool true, .int .i64 1, .int .i64 2] 62)) (.cells #[.int .i64 0, .int .i64 C1, .int .i64 0, .int .i64 K1, .int .i64 P1] 64)
    show _ = _
    simpa using this
  clear hK hb ev hU HB9 HE9
  go_upto_region 12 with (fail)
  try simp only [World.size_alloc]
  generalize ((V1.alloc (.cells #[.bool true, .int .i64 1, .int .i64 2] 62)).alloc (.cells #[.int .i64 0, .int .i64 C1, .int .i64 0, .int .i64 K1, .int .i64 P1] 64)) = U1 at *
  generalize V1.heap.size = Q1 at *
  clear V1
  have hK := askE X eC [eA, eB] _ _ ⟨150994944, 167772160, 0, 0, 0⟩ U1 HE_1.out (okE _ _ (by decide) (by decide))
  unfold vdV stC at hK
  rw [ex_m2] at hK
  generalize (askR [eA, eB] L9 ⟨150994944, 167772160, 0, 0, 0⟩).ru = C2 at *
  generalize (askR [eA, eB] L9 ⟨150994944, 167772160, 0, 0, 0⟩).tb = K2 at *
  generalize (askR [eA, eB] L9 ⟨150994944, 167772160, 0, 0, 0⟩).pb = P2 at *
  go_wp2_with (go_at_call 14; fail)
  refine hK.mono ?_
  rintro e V2 ⟨rfl, hb⟩
  have ev : vdH 1 = true ∧ vdI [eA, eB] 1 = 2 ∧ vdA eC.a [eA, eB] 1 = 3 := by decide
  rw [ev.1, ev.2.1, ev.2.2]
  have hU : Below U1.heap.size U1 ((V2.alloc (.cells #[.bool true, .int .i64 2, .int .i64 3] 62)).alloc (.cells #[.int .i64 0, .int .i64 C2, .int .i64 0, .int .i64 K2, .int .i64 P2] 64)) := hb.trans ((((Below.refl _ _).alloc (Nat.le_refl _) _).alloc (by simp) _).mono hb.size)
  have HB_2 : Hid (Below w.heap.size w ((V2.alloc (.cells #[.bool true, .int .i64 2, .int .i64 3] 62)).alloc (.cells #[.int .i64 0, .int .i64 C2, .int .i64 0, .int .i64 K2, .int .i64 P2] 64))) := HB_1.out.trans (hU.mono HB_1.out.size)
  have HE_2 : Hid (Eng ((V2.alloc (.cells #[.bool true, .int .i64 2, .int .i64 3] 62)).alloc (.cells #[.int .i64 0, .int .i64 C2, .int .i64 0, .int .i64 K2, .int .i64 P2] 64)) X eC [eA, eB] L9 S9) := HE_1.out.on hU
  have HV2_2 : Hid (((V2.alloc (.cells #[.bool true, .int .i64 2, .int .i64 3] 62)).alloc (.cells #[.int .i64 0, .int .i64 C2, .int .i64 0, .int .i64 K2, .int .i64 P2] 64)).heap[V2.heap.size]? = some (.cells #[.bool true, .int .i64 2, .int .i64 3] 62 (0, 0))) := blk_alloc (blk_new V2 _) _
  have HV1_2 : Hid _ := blk_on HV1_1.out hU
  have HS1_2 : Hid _ := blk_on HS1_1.out hU
  clear hK hb ev hU HB_1 HE_1
  clear HV1_1 HS1_1
  go_upto_region 13 with (fail)
  try simp only [World.size_alloc]
  generalize ((V2.alloc (.cells #[.bool true, .int .i64 2, .int .i64 3] 62)).alloc (.cells #[.int .i64 0, .int .i64 C2, .int .i64 0, .int .i64 K2, .int .i64 P2] 64)) = U2 at *
  generalize V2.heap.size = Q2 at *
  clear V2
  have hK := askE X eC [eA, eB] _ _ ⟨150994944, 150994944, 0, 0, 0⟩ U2 HE_2.out (okE _ _ (by decide) (by decide))
  unfold vdV stC at hK
  rw [ex_m3] at hK
  generalize (askR [eA, eB] L9 ⟨150994944, 150994944, 0, 0, 0⟩).ru = C3 at *
  generalize (askR [eA, eB] L9 ⟨150994944, 150994944, 0, 0, 0⟩).tb = K3 at *
  generalize (askR [eA, eB] L9 ⟨150994944, 150994944, 0, 0, 0⟩).pb = P3 at *
  go_wp2_with (go_at_call 14; fail)
  refine hK.mono ?_
  rintro e V3 ⟨rfl, hb⟩
  have ev : vdH (-1) = false ∧ vdI [eA, eB] (-1) = 0 ∧ vdA eC.a [eA, eB] (-1) = 1 := by decide
  rw [ev.1, ev.2.1, ev.2.2]
  have hU : Below U2.heap.size U2 ((V3.alloc (.cells #[.bool false, .int .i64 0, .int .i64 1] 62)).alloc (.cells #[.int .i64 0, .int .i64 C3, .int .i64 0, .int .i64 K3, .int .i64 P3] 64)) := hb.trans ((((Below.refl _ _).alloc (Nat.le_refl _) _).alloc (by simp) _).mono hb.size)
  have HB_3 : Hid (Below w.heap.size w ((V3.alloc (.cells #[.bool false, .int .i64 0, .int .i64 1] 62)).alloc (.cells #[.int .i64 0, .int .i64 C3, .int .i64 0, .int .i64 K3, .int .i64 P3] 64))) := HB_2.out.trans (hU.mono HB_2.out.size)
  have HE_3 : Hid (Eng ((V3.alloc (.cells #[.bool false, .int .i64 0, .int .i64 1] 62)).alloc (.cells #[.int .i64 0, .int .i64 C3, .int .i64 0, .int .i64 K3, .int .i64 P3] 64)) X eC [eA, eB] L9 S9) := HE_2.out.on hU
  have HV3_3 : Hid (((V3.alloc (.cells #[.bool false, .int .i64 0, .int .i64 1] 62)).alloc (.cells #[.int .i64 0, .int .i64 C3, .int .i64 0, .int .i64 K3, .int .i64 P3] 64)).heap[V3.heap.size]? = some (.cells #[.bool false, .int .i64 0, .int .i64 1] 62 (0, 0))) := blk_alloc (blk_new V3 _) _
  have HV1_3 : Hid _ := blk_on HV1_2.out hU
  have HV2_3 : Hid _ := blk_on HV2_2.out hU
  have HS1_3 : Hid _ := blk_on HS1_2.out hU
  clear hK hb ev hU HB_2 HE_2
  clear HV1_2 HV2_2 HS1_2
  go_upto_region 14 with (fail)
  try simp only [World.size_alloc]
  generalize ((V3.alloc (.cells #[.bool false, .int .i64 0, .int .i64 1] 62)).alloc (.cells #[.int .i64 0, .int .i64 C3, .int .i64 0, .int .i64 K3, .int .i64 P3] 64)) = U3 at *
  generalize V3.heap.size = Q3 at *
  clear V3
  have hc1i : (1 : Int) ≤ (C1 : Int) := by omega
  obtain ⟨a0, a1, a2⟩ := blk3 HV1_3.out
  obtain ⟨c0, c1, c2, c3, c4⟩ := blk5 HS1_3.out
  obtain ⟨d0, d1, d2⟩ := blk3 HV2_3.out
  obtain ⟨g0, g1, g2⟩ := blk3 HV3_3.out
  go_wp2_with (fail)
  go_ret
  exact ⟨rfl, HB_3.out⟩
end Go.Proofs.YtfpmljgmfapoiaaGreat
/-
  The document's Size and Fits.
-/
namespace Go.Proofs.YtfpmljgmfapoiaaGreat
open Go.RowKit
set_option linter.unusedVariables false
set_option linter.unusedSimpArgs false

theorem blk4 {w : World} {B : Nat} {v0 v1 v2 v3 : Value} {t : TypeId} {fr : Nat × Nat} (h : w.heap[B]? = some (.cells #[v0, v1, v2, v3] t fr)) : w.cell? ⟨B, 0, none⟩ = some v0 ∧ w.cell? ⟨B, 1, none⟩ = some v1 ∧ w.cell? ⟨B, 2, none⟩ = some v2 ∧ w.cell? ⟨B, 3, none⟩ = some v3 := ⟨blk_cell h rfl, blk_cell h rfl, blk_cell h rfl, blk_cell h rfl⟩
theorem blk7 {w : World} {B : Nat} {v0 v1 v2 v3 v4 v5 v6 : Value} {t : TypeId} {fr : Nat × Nat} (h : w.heap[B]? = some (.cells #[v0, v1, v2, v3, v4, v5, v6] t fr)) : w.cell? ⟨B, 0, none⟩ = some v0 ∧ w.cell? ⟨B, 1, none⟩ = some v1 ∧ w.cell? ⟨B, 2, none⟩ = some v2 ∧ w.cell? ⟨B, 3, none⟩ = some v3 ∧ w.cell? ⟨B, 4, none⟩ = some v4 ∧ w.cell? ⟨B, 5, none⟩ = some v5 ∧ w.cell? ⟨B, 6, none⟩ = some v6 := ⟨blk_cell h rfl, blk_cell h rfl, blk_cell h rfl, blk_cell h rfl, blk_cell h rfl, blk_cell h rfl, blk_cell h rfl⟩
set_option maxHeartbeats 2000000 in
theorem sizeK (l : List Ru) (v : Value) (w : World) (hs : SrcU w v l) (hb : ∀ R ∈ l, BdR R) :
    Calls Tryz.prog 17 #[v] w fun e w' => e = .returned (.int .i64 (tupL l : Nat)) ∧ Below w.heap.size w w' := by
  have hP := rTupleC l v w hs hb
  obtain ⟨ad, cap, rfl, hat⟩ := hs
  clear hat
  have Hz : Hid (setE l 64 ≠ 0 → tupL l = 0) := fun h => if_neg h
  generalize tupL l = Q at *
  generalize setE l 64 = E at *
  generalize l.length = n at *
  go_enter Tryz.func17, Tryz.ntmps17
  go_wp2_with (go_at_call 37; fail)
  refine hP.mono ?_
  rintro e w1 ⟨rfl, hb1⟩
  have HB1 : Hid (Below w.heap.size w w1) := hb1
  clear hb1 hP
  by_cases hE : E = 0
  · subst hE
    go_wp2_with (fail)
    go_ret
    exact ⟨rfl, HB1.out⟩
  · have hE' : (E != 0) = true := by simpa using hE
    have HQ : Hid (Q = 0) := Hz.out hE
    go_wp2_with (fail)
    go_ret
    exact ⟨ret_int (by rw [HQ.out]; rfl), HB1.out⟩
theorem budgetC (c : Cf) (w : World) : Calls Tryz.prog 18 #[.agg #[.int .i64 c.m, .int .i64 c.a, .int .i64 c.p, .int .i64 c.g, .int .i64 c.t, .int .i64 c.b, .int .i64 c.d]] w fun e w' => e = .returned (.int .i64 c.t) ∧ Below w.heap.size w w' := by
  have x2 : (w.alloc (.cells #[.int .i64 c.m, .int .i64 c.a, .int .i64 c.p, .int .i64 c.g, .int .i64 c.t, .int .i64 c.b, .int .i64 c.d] 24)).cell? ⟨w.heap.size, 4, none⟩ = some (.int .i64 c.t) := blk_cell (blk_new w _) rfl
  have HB : Hid (Below w.heap.size w (w.alloc (.cells #[.int .i64 c.m, .int .i64 c.a, .int .i64 c.p, .int .i64 c.g, .int .i64 c.t, .int .i64 c.b, .int .i64 c.d] 24))) := (Below.refl _ _).alloc (Nat.le_refl _) _
  go_enter Tryz.func18, Tryz.ntmps18
  go_wp2_with (fail)
  go_ret
  exact ⟨rfl, HB.out⟩
set_option maxHeartbeats 8000000 in
set_option maxRecDepth 20000 in
theorem fitsC (c : Cf) (l : List Ru) (u : Value) (h : Hd) (vb : Bool) (vi va : Int) (K C P n T Q : Nat) (w : World) (hs : SrcU w u l) (bd : ∀ R ∈ l, BdR R)
    (hK : K ≤ n) (hC : C ≤ l.length) (hV : 1 ≤ C ∨ vb = false) (hP : (K = 0 ∧ P = 0) ∨ (1 ≤ K ∧ 1 ≤ P ∧ P < Q)) (hl : l.length ≤ 64)
    (h0 : l.length = 0 → n = 0 ∧ T = 0 ∧ Q = 0) (h1 : 0 < l.length → 1 ≤ n ∧ n ≤ T ∧ l.length ≤ T ∧ T ≤ tupL l ∧ 1 ≤ Q) :
    Calls Tryz.prog 19 #[.agg #[.int .i64 c.m, .int .i64 c.a, .int .i64 c.p, .int .i64 c.g, .int .i64 c.t, .int .i64 c.b, .int .i64 c.d], u, .agg #[.int .u32 h.s, .int .u32 h.d, .int .u16 h.p, .int .u16 h.q, .int .u8 h.r], .agg #[.bool vb, .int .i64 vi, .int .i64 va], .agg #[.int .i64 0, .int .i64 C, .int .i64 0, .int .i64 K, .int .i64 P], .agg #[.int .i64 0, .int .i64 T, .int .i64 n, .int .i64 Q]] w fun e w' => e = .returned (.bool true) ∧ Below w.heap.size w w' := by
  have hSi : ∀ W, Below w.heap.size w W → Calls Tryz.prog 17 #[u] W fun e w' => e = .returned (.int .i64 (tupL l : Nat)) ∧ Below W.heap.size W w' := fun W hb => sizeK l u W (hs.keep hb) bd
  obtain ⟨ad, cap, hu, hat⟩ := hs
  clear hat bd
  generalize tupL l = Z at *
  generalize l.length = m at *
  subst hu
  obtain ⟨w0, hw0⟩ : ∃ w0, w0 = (((((w.alloc (.cells #[.int .i64 c.m, .int .i64 c.a, .int .i64 c.p, .int .i64 c.g, .int .i64 c.t, .int .i64 c.b, .int .i64 c.d] 24)).alloc (.cells #[.int .u32 h.s, .int .u32 h.d, .int .u16 h.p, .int .u16 h.q, .int .u8 h.r] 54)).alloc (.cells #[.bool vb, .int .i64 vi, .int .i64 va] 62)).alloc (.cells #[.int .i64 0, .int .i64 C, .int .i64 0, .int .i64 K, .int .i64 P] 64)).alloc (.cells #[.int .i64 0, .int .i64 T, .int .i64 n, .int .i64 Q] 106)) := ⟨_, rfl⟩
  have HB0 : Hid (Below w.heap.size w w0) := by rw [hw0]; exact (Below.alloc (Below.alloc (Below.alloc (Below.alloc (Below.alloc (Below.refl _ _) (Nat.le_refl _) _) (by simp <;> omega) _) (by simp <;> omega) _) (by simp <;> omega) _) (by simp <;> omega) _)
  have Kh : w0.heap[w.heap.size + 1]? = some (.cells #[.int .u32 h.s, .int .u32 h.d, .int .u16 h.p, .int .u16 h.q, .int .u8 h.r] 54 (0, 0)) := by have := blk_alloc (blk_alloc (blk_alloc (blk_new (w.alloc (.cells #[.int .i64 c.m, .int .i64 c.a, .int .i64 c.p, .int .i64 c.g, .int .i64 c.t, .int .i64 c.b, .int .i64 c.d] 24)) (.cells #[.int .u32 h.s, .int .u32 h.d, .int .u16 h.p, .int .u16 h.q, .int .u8 h.r] 54)) (.cells #[.bool vb, .int .i64 vi, .int .i64 va] 62)) (.cells #[.int .i64 0, .int .i64 C, .int .i64 0, .int .i64 K, .int .i64 P] 64)) (.cells #[.int .i64 0, .int .i64 T, .int .i64 n, .int .i64 Q] 106); rw [← hw0] at this; simpa using this
  have Kv : w0.heap[w.heap.size + 1 + 1]? = some (.cells #[.bool vb, .int .i64 vi, .int .i64 va] 62 (0, 0)) := by have := blk_alloc (blk_alloc (blk_new ((w.alloc (.cells #[.int .i64 c.m, .int .i64 c.a, .int .i64 c.p, .int .i64 c.g, .int .i64 c.t, .int .i64 c.b, .int .i64 c.d] 24)).alloc (.cells #[.int .u32 h.s, .int .u32 h.d, .int .u16 h.p, .int .u16 h.q, .int .u8 h.r] 54)) (.cells #[.bool vb, .int .i64 vi, .int .i64 va] 62)) (.cells #[.int .i64 0, .int .i64 C, .int .i64 0, .int .i64 K, .int .i64 P] 64)) (.cells #[.int .i64 0, .int .i64 T, .int .i64 n, .int .i64 Q] 106); rw [← hw0] at this; simpa using this
  have Ks : w0.heap[w.heap.size + 1 + 1 + 1]? = some (.cells #[.int .i64 0, .int .i64 C, .int .i64 0, .int .i64 K, .int .i64 P] 64 (0, 0)) := by have := blk_alloc (blk_new (((w.alloc (.cells #[.int .i64 c.m, .int .i64 c.a, .int .i64 c.p, .int .i64 c.g, .int .i64 c.t, .int .i64 c.b, .int .i64 c.d] 24)).alloc (.cells #[.int .u32 h.s, .int .u32 h.d, .int .u16 h.p, .int .u16 h.q, .int .u8 h.r] 54)).alloc (.cells #[.bool vb, .int .i64 vi, .int .i64 va] 62)) (.cells #[.int .i64 0, .int .i64 C, .int .i64 0, .int .i64 K, .int .i64 P] 64)) (.cells #[.int .i64 0, .int .i64 T, .int .i64 n, .int .i64 Q] 106); rw [← hw0] at this; simpa using this
  have Kt : w0.heap[w.heap.size + 1 + 1 + 1 + 1]? = some (.cells #[.int .i64 0, .int .i64 T, .int .i64 n, .int .i64 Q] 106 (0, 0)) := by have := blk_new ((((w.alloc (.cells #[.int .i64 c.m, .int .i64 c.a, .int .i64 c.p, .int .i64 c.g, .int .i64 c.t, .int .i64 c.b, .int .i64 c.d] 24)).alloc (.cells #[.int .u32 h.s, .int .u32 h.d, .int .u16 h.p, .int .u16 h.q, .int .u8 h.r] 54)).alloc (.cells #[.bool vb, .int .i64 vi, .int .i64 va] 62)).alloc (.cells #[.int .i64 0, .int .i64 C, .int .i64 0, .int .i64 K, .int .i64 P] 64)) (.cells #[.int .i64 0, .int .i64 T, .int .i64 n, .int .i64 Q] 106); rw [← hw0] at this; simpa using this
  have hw0s : (((((w.alloc (.cells #[.int .i64 c.m, .int .i64 c.a, .int .i64 c.p, .int .i64 c.g, .int .i64 c.t, .int .i64 c.b, .int .i64 c.d] 24)).alloc (.cells #[.int .u32 h.s, .int .u32 h.d, .int .u16 h.p, .int .u16 h.q, .int .u8 h.r] 54)).alloc (.cells #[.bool vb, .int .i64 vi, .int .i64 va] 62)).alloc (.cells #[.int .i64 0, .int .i64 C, .int .i64 0, .int .i64 K, .int .i64 P] 64)).alloc (.cells #[.int .i64 0, .int .i64 T, .int .i64 n, .int .i64 Q] 106)) = w0 := hw0.symm
  have Hw0s : Hid _ := hw0s
  clear hw0 hw0s
  have Kh : Hid _ := Kh
  have Kv : Hid _ := Kv
  have Ks : Hid _ := Ks
  have Kt : Hid _ := Kt
  have i1 : ¬ (K : Int) < 0 := by omega
  have i2 : ¬ (n : Int) < (K : Int) := by omega
  have i3 : ¬ (C : Int) < 0 := by omega
  have i4 : ¬ (m : Int) < (C : Int) := by omega
  go_enter Tryz.func19, Tryz.ntmps19
  go_upto_region 1 with (fail)
  have hw0s := Hw0s.out
  try simp only [hw0s, World.size_alloc]
  clear hw0s Hw0s
  obtain ⟨Bt, hBt⟩ : ∃ B, B = w.heap.size + 1 + 1 + 1 + 1 := ⟨_, rfl⟩
  rw [← hBt] at Kt ⊢
  obtain ⟨Bs, hBs⟩ : ∃ B, B = w.heap.size + 1 + 1 + 1 := ⟨_, rfl⟩
  rw [← hBs] at Ks ⊢
  obtain ⟨Bv, hBv⟩ : ∃ B, B = w.heap.size + 1 + 1 := ⟨_, rfl⟩
  rw [← hBv] at Kv ⊢
  obtain ⟨Bh, hBh⟩ : ∃ B, B = w.heap.size + 1 := ⟨_, rfl⟩
  rw [← hBh] at Kh ⊢
  clear hBt hBs hBv hBh
  obtain ⟨z0, z1, z2, z3, z4⟩ := blk5 Kh.out
  obtain ⟨v0, v1, v2⟩ := blk3 Kv.out
  obtain ⟨s0, s1, s2, s3, s4⟩ := blk5 Ks.out
  obtain ⟨t0, t1, t2, t3⟩ := blk4 Kt.out
  have ltt := blk_lt Kt.out
  clear Kh Kv Ks Kt
  by_cases hm : m = 0
  · obtain ⟨e1, e2, e3⟩ := h0 hm
    subst hm e1 e2 e3
    clear h1 h0
    rcases hP with ⟨k1, k2⟩ | ⟨k1, k2, k3⟩
    · subst k1 k2
      clear i1 i2 hK
      by_cases hc1 : 1 ≤ C
      · omega
      · obtain rfl : C = 0 := by omega
        obtain rfl : vb = false := hV.resolve_left (by omega)
        clear hV hC hc1
        go_wp2_with (fail)
        go_ret
        exact ⟨rfl, HB0.out⟩
    · omega
  · obtain ⟨e1, e2, e3, e4, e5⟩ := h1 (by omega)
    have j1 : (1 : Int) ≤ (n : Int) := by omega
    have j2 : (n : Int) ≤ (T : Int) := by omega
    have j3 : (m : Int) ≤ (T : Int) := by omega
    have j4 : (T : Int) ≤ (Z : Int) := by omega
    have j5 : (1 : Int) ≤ (Q : Int) := by omega
    have j6 : ¬ (m : Int) = 0 := by omega
    have j7 : ((m : Int) == 0) = false := by rw [beq_eq_false_iff_ne]; exact j6
    clear e1 e2 e3 e4 e5 h0 h1
    rcases hP with ⟨k1, k2⟩ | ⟨k1, k2, k3⟩
    · subst k1 k2
      clear i1 i2 hK
      by_cases hc1 : 1 ≤ C
      · have c1 : ¬ (C : Int) = 0 := by omega
        have c2 : ((C : Int) == 0) = false := by rw [beq_eq_false_iff_ne]; exact c1
        clear hV hC hc1
        go_upto_region 7 with (fail)
        have kne : Nonempty (Kin (w0)) := ⟨⟨_, Below.refl _ _⟩⟩
        have kc0 : ∀ y : Kin (w0), y.val.cell? ⟨Bt, 0, none⟩ = some (.int .i64 0) := fun y => by rw [kin_cell (by first | omega | (simp <;> omega))]; first | assumption | (simp [go_sem]; done) | simp [go_sem, *]
        have kc1 : ∀ y : Kin (w0), y.val.cell? ⟨Bt, 1, none⟩ = some (.int .i64 T) := fun y => by rw [kin_cell (by first | omega | (simp <;> omega))]; first | assumption | (simp [go_sem]; done) | simp [go_sem, *]
        have kc2 : ∀ y : Kin (w0), y.val.cell? ⟨Bt, 2, none⟩ = some (.int .i64 n) := fun y => by rw [kin_cell (by first | omega | (simp <;> omega))]; first | assumption | (simp [go_sem]; done) | simp [go_sem, *]
        have kc3 : ∀ y : Kin (w0), y.val.cell? ⟨Bt, 3, none⟩ = some (.int .i64 Q) := fun y => by rw [kin_cell (by first | omega | (simp <;> omega))]; first | assumption | (simp [go_sem]; done) | simp [go_sem, *]
        refine wp_region_kin (w0) (Below.refl _ _) (by kernel_rfl) (by kernel_rfl) ?_
        repeat (go_big_quiet_step (first | (go_at_call 17; exact kin_call (hSi _ (HB0.out.trans (Below.mono (Kin.is _) HB0.out.size))))))
        refine wpQuiet_nil ?_
        rintro wq ⟨⟨xq, hxq⟩, hyq⟩
        have hq : Below (w0).heap.size (w0) wq := by rw [hyq]; exact hxq
        clear hyq hxq xq
        clear kne kc0 kc1 kc2 kc3
        obtain ⟨hcq, hfq⟩ := bcell hq
        have hzq := hq.size
        try simp at hzq
        go_wp2_with (fail)
        go_ret
        exact ⟨rfl, HB0.out.trans (hq.mono HB0.out.size)⟩
      · obtain rfl : C = 0 := by omega
        obtain rfl : vb = false := hV.resolve_left (by omega)
        clear hV hC hc1
        go_upto_region 7 with (fail)
        have kne : Nonempty (Kin (w0)) := ⟨⟨_, Below.refl _ _⟩⟩
        have kc0 : ∀ y : Kin (w0), y.val.cell? ⟨Bt, 0, none⟩ = some (.int .i64 0) := fun y => by rw [kin_cell (by first | omega | (simp <;> omega))]; first | assumption | (simp [go_sem]; done) | simp [go_sem, *]
        have kc1 : ∀ y : Kin (w0), y.val.cell? ⟨Bt, 1, none⟩ = some (.int .i64 T) := fun y => by rw [kin_cell (by first | omega | (simp <;> omega))]; first | assumption | (simp [go_sem]; done) | simp [go_sem, *]
        have kc2 : ∀ y : Kin (w0), y.val.cell? ⟨Bt, 2, none⟩ = some (.int .i64 n) := fun y => by rw [kin_cell (by first | omega | (simp <;> omega))]; first | assumption | (simp [go_sem]; done) | simp [go_sem, *]
        have kc3 : ∀ y : Kin (w0), y.val.cell? ⟨Bt, 3, none⟩ = some (.int .i64 Q) := fun y => by rw [kin_cell (by first | omega | (simp <;> omega))]; first | assumption | (simp [go_sem]; done) | simp [go_sem, *]
        refine wp_region_kin (w0) (Below.refl _ _) (by kernel_rfl) (by kernel_rfl) ?_
        repeat (go_big_quiet_step (first | (go_at_call 17; exact kin_call (hSi _ (HB0.out.trans (Below.mono (Kin.is _) HB0.out.size))))))
        refine wpQuiet_nil ?_
        rintro wq ⟨⟨xq, hxq⟩, hyq⟩
        have hq : Below (w0).heap.size (w0) wq := by rw [hyq]; exact hxq
        clear hyq hxq xq
        clear kne kc0 kc1 kc2 kc3
        obtain ⟨hcq, hfq⟩ := bcell hq
        have hzq := hq.size
        try simp at hzq
        go_wp2_with (fail)
        go_ret
        exact ⟨rfl, HB0.out.trans (hq.mono HB0.out.size)⟩
    · have g1 : ¬ (K : Int) = 0 := by omega
      have g2 : ((K : Int) == 0) = false := by rw [beq_eq_false_iff_ne]; exact g1
      have g3 : (0 : Int) < (K : Int) := by omega
      have g4 : ¬ (P : Int) < 1 := by omega
      have g5 : ¬ (Q : Int) ≤ (P : Int) := by omega
      clear k1 k2 k3 hK
      by_cases hc1 : 1 ≤ C
      · have c1 : ¬ (C : Int) = 0 := by omega
        have c2 : ((C : Int) == 0) = false := by rw [beq_eq_false_iff_ne]; exact c1
        clear hV hC hc1
        go_upto_region 7 with (fail)
        have kne : Nonempty (Kin (w0)) := ⟨⟨_, Below.refl _ _⟩⟩
        have kc0 : ∀ y : Kin (w0), y.val.cell? ⟨Bt, 0, none⟩ = some (.int .i64 0) := fun y => by rw [kin_cell (by first | omega | (simp <;> omega))]; first | assumption | (simp [go_sem]; done) | simp [go_sem, *]
        have kc1 : ∀ y : Kin (w0), y.val.cell? ⟨Bt, 1, none⟩ = some (.int .i64 T) := fun y => by rw [kin_cell (by first | omega | (simp <;> omega))]; first | assumption | (simp [go_sem]; done) | simp [go_sem, *]
        have kc2 : ∀ y : Kin (w0), y.val.cell? ⟨Bt, 2, none⟩ = some (.int .i64 n) := fun y => by rw [kin_cell (by first | omega | (simp <;> omega))]; first | assumption | (simp [go_sem]; done) | simp [go_sem, *]
        have kc3 : ∀ y : Kin (w0), y.val.cell? ⟨Bt, 3, none⟩ = some (.int .i64 Q) := fun y => by rw [kin_cell (by first | omega | (simp <;> omega))]; first | assumption | (simp [go_sem]; done) | simp [go_sem, *]
        refine wp_region_kin (w0) (Below.refl _ _) (by kernel_rfl) (by kernel_rfl) ?_
        repeat (go_big_quiet_step (first | (go_at_call 17; exact kin_call (hSi _ (HB0.out.trans (Below.mono (Kin.is _) HB0.out.size))))))
        refine wpQuiet_nil ?_
        rintro wq ⟨⟨xq, hxq⟩, hyq⟩
        have hq : Below (w0).heap.size (w0) wq := by rw [hyq]; exact hxq
        clear hyq hxq xq
        clear kne kc0 kc1 kc2 kc3
        obtain ⟨hcq, hfq⟩ := bcell hq
        have hzq := hq.size
        try simp at hzq
        go_wp2_with (fail)
        go_ret
        exact ⟨rfl, HB0.out.trans (hq.mono HB0.out.size)⟩
      · obtain rfl : C = 0 := by omega
        obtain rfl : vb = false := hV.resolve_left (by omega)
        clear hV hC hc1
        go_upto_region 7 with (fail)
        have kne : Nonempty (Kin (w0)) := ⟨⟨_, Below.refl _ _⟩⟩
        have kc0 : ∀ y : Kin (w0), y.val.cell? ⟨Bt, 0, none⟩ = some (.int .i64 0) := fun y => by rw [kin_cell (by first | omega | (simp <;> omega))]; first | assumption | (simp [go_sem]; done) | simp [go_sem, *]
        have kc1 : ∀ y : Kin (w0), y.val.cell? ⟨Bt, 1, none⟩ = some (.int .i64 T) := fun y => by rw [kin_cell (by first | omega | (simp <;> omega))]; first | assumption | (simp [go_sem]; done) | simp [go_sem, *]
        have kc2 : ∀ y : Kin (w0), y.val.cell? ⟨Bt, 2, none⟩ = some (.int .i64 n) := fun y => by rw [kin_cell (by first | omega | (simp <;> omega))]; first | assumption | (simp [go_sem]; done) | simp [go_sem, *]
        have kc3 : ∀ y : Kin (w0), y.val.cell? ⟨Bt, 3, none⟩ = some (.int .i64 Q) := fun y => by rw [kin_cell (by first | omega | (simp <;> omega))]; first | assumption | (simp [go_sem]; done) | simp [go_sem, *]
        refine wp_region_kin (w0) (Below.refl _ _) (by kernel_rfl) (by kernel_rfl) ?_
        repeat (go_big_quiet_step (first | (go_at_call 17; exact kin_call (hSi _ (HB0.out.trans (Below.mono (Kin.is _) HB0.out.size))))))
        refine wpQuiet_nil ?_
        rintro wq ⟨⟨xq, hxq⟩, hyq⟩
        have hq : Below (w0).heap.size (w0) wq := by rw [hyq]; exact hxq
        clear hyq hxq xq
        clear kne kc0 kc1 kc2 kc3
        obtain ⟨hcq, hfq⟩ := bcell hq
        have hzq := hq.size
        try simp at hzq
        go_wp2_with (fail)
        go_ret
        exact ⟨rfl, HB0.out.trans (hq.mono HB0.out.size)⟩
end Go.Proofs.YtfpmljgmfapoiaaGreat
/-
  Values compared with themselves.
-/
namespace Go.Proofs.YtfpmljgmfapoiaaGreat
open Go.RowKit
set_option linter.unusedVariables false
set_option linter.unusedSimpArgs false

set_option maxHeartbeats 2000000 in
theorem eqR_self (a : Ru) (w : World) : Sem.run Tryz.prog (binOp .eql 52 (.agg #[.int .i64 a.i, .int .u32 a.s, .int .i64 a.sl, .int .u32 a.d, .int .i64 a.dl, .int .u16 a.p.1, .int .u16 a.p.2, .int .u16 a.q.1, .int .u16 a.q.2, .int .u8 a.m.1, .int .u8 a.m.2, .int .i64 a.act]) (.agg #[.int .i64 a.i, .int .u32 a.s, .int .i64 a.sl, .int .u32 a.d, .int .i64 a.dl, .int .u16 a.p.1, .int .u16 a.p.2, .int .u16 a.q.1, .int .u16 a.q.2, .int .u8 a.m.1, .int .u8 a.m.2, .int .i64 a.act])) w = .ok (.bool true) w := by
  simp [go_sem]
set_option maxHeartbeats 2000000 in
theorem neR_self (a : Ru) (w : World) : Sem.run Tryz.prog (binOp .neq 52 (.agg #[.int .i64 a.i, .int .u32 a.s, .int .i64 a.sl, .int .u32 a.d, .int .i64 a.dl, .int .u16 a.p.1, .int .u16 a.p.2, .int .u16 a.q.1, .int .u16 a.q.2, .int .u8 a.m.1, .int .u8 a.m.2, .int .i64 a.act]) (.agg #[.int .i64 a.i, .int .u32 a.s, .int .i64 a.sl, .int .u32 a.d, .int .i64 a.dl, .int .u16 a.p.1, .int .u16 a.p.2, .int .u16 a.q.1, .int .u16 a.q.2, .int .u8 a.m.1, .int .u8 a.m.2, .int .i64 a.act])) w = .ok (.bool false) w := by
  simp [go_sem]
end Go.Proofs.YtfpmljgmfapoiaaGreat
