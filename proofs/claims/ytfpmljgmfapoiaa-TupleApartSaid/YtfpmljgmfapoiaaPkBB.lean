/-
  PkBB: TpW TpCk, one behind the other (tools/pack.py).
-/
import Derived.Test.YtfpmljgmfapoiaaPkAY
import Derived.Test.YtfpmljgmfapoiaaPkAX
import Derived.Test.YtfpmljgmfapoiaaPkAZ
import Derived.Test.YtfpmljgmfapoiaaPkBA
import Derived.Test.YtfpmljgmfapoiaaPkAD
/-
  The document's examples, as the laws play them.
-/
namespace Go.Proofs.Ytfpmljgmfapoiaa
open Go.RowKit
set_option linter.unusedVariables false
set_option linter.unusedSimpArgs false

def eC : Cf := ⟨10, 1, 100, 100, 100, 4, 8⟩
def eA : Ru := ⟨1, 167772160, 8, 0, 0, (0, 65535), (0, 65535), (0, 0), 2⟩
def eB : Ru := ⟨2, 0, 0, 167772160, 8, (0, 65535), (0, 65535), (0, 0), 3⟩
theorem eC_bd : BdC eC := by unfold BdC I64 eC; decide
theorem eC_ok : okC eC = true := by decide
theorem eA_bd : BdR eA := by unfold BdR I64 eA; decide
theorem eB_bd : BdR eB := by unfold BdR I64 eB; decide
theorem ex_a : pinE eC [] 0 eA = 0 := by decide +kernel
theorem ex_b : pinE eC [eA] 1 eB = 0 := by decide +kernel
theorem ex_c : pinE eC [eA, eB] 0 eA = 111 := by decide +kernel
theorem ex_al : pinL eC [] 0 eA = [eA] := by unfold pinL; rw [if_pos ex_a]; rfl
theorem ex_bl : pinL eC [eA] 1 eB = [eA, eB] := by unfold pinL; rw [if_pos ex_b]; rfl
theorem ex_cl : pinL eC [eA, eB] 0 eA = [eA, eB] := by unfold pinL; rw [if_neg (by rw [ex_c]; decide)]
theorem ex_m1 : mat [eA, eB] ⟨167772169, 167772160, 0, 0, 0⟩ = 0 := by decide +kernel
theorem ex_m2 : mat [eA, eB] ⟨150994944, 167772160, 0, 0, 0⟩ = 1 := by decide +kernel
theorem ex_m3 : mat [eA, eB] ⟨150994944, 150994944, 0, 0, 0⟩ = -1 := by decide +kernel
theorem okE (a b : Nat) (ha : a < 4294967296) (hb : b < 4294967296) : OkH ⟨a, b, 0, 0, 0⟩ := ⟨ha, hb, show (0 : Nat) < 65536 by decide, show (0 : Nat) < 65536 by decide, show (0 : Nat) < 256 by decide⟩
theorem every19 (i a : Int) (w : World) : Calls Try.prog 21 #[.int .i64 i, .int .i64 a] w fun e w' => e = .returned (.agg #[.int .i64 (allR i a).i, .int .u32 ((allR i a).s : Int), .int .i64 (allR i a).sl, .int .u32 ((allR i a).d : Int), .int .i64 (allR i a).dl, .int .u16 ((allR i a).p.1 : Int), .int .u16 ((allR i a).p.2 : Int), .int .u16 ((allR i a).q.1 : Int), .int .u16 ((allR i a).q.2 : Int), .int .u8 ((allR i a).m.1 : Int), .int .u8 ((allR i a).m.2 : Int), .int .i64 (allR i a).act]) ∧ Below w.heap.size w w' := by
  go_enter Try.func21, Try.ntmps21
  go_wp2
  refine bodyPost_ret (results_blk Try.results21 rfl (blk_new w _) Try.underlying60 rfl (by kernel_rfl)) rfl ?_
  exact ⟨rfl, (Below.refl _ _).alloc (Nat.le_refl _) _⟩
theorem example19 (w : World) : Calls Try.prog 17 #[] w fun e w' => e = .returned (.agg #[.int .i64 10, .int .i64 1, .int .i64 100, .int .i64 100, .int .i64 100, .int .i64 4, .int .i64 8]) ∧ Below w.heap.size w w' := by
  go_enter Try.func17, Try.ntmps17
  go_wp2
  refine bodyPost_ret (results_blk Try.results17 rfl (blk_new w _) Try.underlying24 rfl (by kernel_rfl)) rfl ?_
  exact ⟨rfl, (Below.refl _ _).alloc (Nat.le_refl _) _⟩
theorem Did.eng {w w' : World} {X : Nat} {c : Cf} {l' : List Ru} {S : Nat → Prop} (h : Did w w' X c l' S) : ∃ L', Eng w' X c l' L' (fun k => S k ∨ (w.heap.size ≤ k ∧ k < w'.heap.size)) := by
  obtain ⟨L', h, _⟩ := h
  exact ⟨L', h⟩
theorem Did.grs {w w' : World} {X : Nat} {c : Cf} {l' : List Ru} {S : Nat → Prop} (h : Did w w' X c l' S) : Grs w w' X S := by
  obtain ⟨L', _, h⟩ := h
  exact h
theorem Did.blk {w w' : World} {X : Nat} {c : Cf} {l' : List Ru} {S : Nat → Prop} (h : Did w w' X c l' S) {B : Nat} {o : Obj} (hb : w.heap[B]? = some o) (hn : B ≠ X) (hs : ¬ S B) : w'.heap[B]? = some o := by
  rw [h.grs.block B (blk_lt hb) hn hs]; exact hb
theorem Did.below {w0 w w' : World} {X : Nat} {c : Cf} {l' : List Ru} {S : Nat → Prop} (h : Did w w' X c l' S) (hb : Below w0.heap.size w0 w) (hX : w0.heap.size ≤ X) (hS : ∀ k, S k → w0.heap.size ≤ k) : Below w0.heap.size w0 w' :=
  h.grs.below hb hb.size hX hS
set_option maxHeartbeats 8000000 in
set_option maxRecDepth 20000 in
theorem awake19 (w : World) : Calls Try.prog 9 #[] w fun e w' => e = .returned (.bool true) ∧ Below w.heap.size w w' := by
  go_enter Try.func9, Try.ntmps9
  go_wp2_with (go_at_call 17; fail)
  refine (example19 _).mono ?_
  rintro e w1 ⟨rfl, hb1⟩
  have HB1 : Hid (Below w.heap.size w w1) := hb1
  clear hb1
  go_wp2_with (go_at_call 8; fail)
  refine (newE eC eC_bd eC_ok _).mono ?_
  rintro e w2 ⟨X, rfl, hE2, hX2, hb2⟩
  have HB2 : Hid (Below w.heap.size w w2) := HB1.out.trans (hb2.mono HB1.out.size)
  have HX : Hid (w.heap.size ≤ X) := Nat.le_trans HB1.out.size hX2
  have HL1 : Hid (w.heap.size ≤ w1.heap.size) := HB1.out.size
  have HE2 : Hid (Eng w2 X eC [] (fun _ => []) (fun k => w1.heap.size ≤ k ∧ k < X)) := hE2
  clear hE2 hX2 hb2
  go_wp2_with (go_at_call 21; fail)
  refine (every19 1 2 _).mono ?_
  rintro e w3 ⟨rfl, hb3⟩
  have HB3 : Hid (Below w.heap.size w w3) := HB2.out.trans (hb3.mono HB2.out.size)
  have HE3 : Hid (Eng w3 X eC [] (fun _ => []) (fun k => w1.heap.size ≤ k ∧ k < X)) := HE2.out.on hb3
  have HA3 : Hid ((w3.alloc (.cells #[.int .i64 1, .int .u32 0, .int .i64 0, .int .u32 0, .int .i64 0, .int .u16 0, .int .u16 65535, .int .u16 0, .int .u16 65535, .int .u8 0, .int .u8 0, .int .i64 2] 60)).heap[w3.heap.size]? = some (.cells #[.int .i64 1, .int .u32 0, .int .i64 0, .int .u32 0, .int .i64 0, .int .u16 0, .int .u16 65535, .int .u16 0, .int .u16 65535, .int .u8 0, .int .u8 0, .int .i64 2] 60 (0, 0))) := blk_new w3 _
  have hba : Below w3.heap.size w3 (w3.alloc (.cells #[.int .i64 1, .int .u32 0, .int .i64 0, .int .u32 0, .int .i64 0, .int .u16 0, .int .u16 65535, .int .u16 0, .int .u16 65535, .int .u8 0, .int .u8 0, .int .i64 2] 60)) := (Below.refl _ _).alloc (Nat.le_refl _) _
  have HBa : Hid (Below w.heap.size w (w3.alloc (.cells #[.int .i64 1, .int .u32 0, .int .i64 0, .int .u32 0, .int .i64 0, .int .u16 0, .int .u16 65535, .int .u16 0, .int .u16 65535, .int .u8 0, .int .u8 0, .int .i64 2] 60))) := HB3.out.trans (hba.mono HB3.out.size)
  have HEa : Hid (Eng (w3.alloc (.cells #[.int .i64 1, .int .u32 0, .int .i64 0, .int .u32 0, .int .i64 0, .int .u16 0, .int .u16 65535, .int .u16 0, .int .u16 65535, .int .u8 0, .int .u8 0, .int .i64 2] 60)) X eC [] (fun _ => []) (fun k => w1.heap.size ≤ k ∧ k < X)) := HE3.out.on hba
  have HXa : Hid (X < w3.heap.size) := HE3.out.lt
  clear hb3 hba HB1 HB2 HE2
  simp only [allR]
  go_wp2_with (first | (refine wpList_store_blk rfl 54 (.tmp 27) (.tmp 26) rfl w3.heap.size 1 #[.int .u32 167772160, .int .i64 8] #[.int .i64 1, .int .u32 167772160, .int .i64 8, .int .u32 0, .int .i64 0, .int .u16 0, .int .u16 65535, .int .u16 0, .int .u16 65535, .int .u8 0, .int .u8 0, .int .i64 2] rfl rfl 60 _ HA3.out (Nat.le_of_ble_eq_true rfl) rfl (by kernel_rfl) rfl ?_; intro w4 hA4 ho4) | (go_at_call 21; fail))
  have HA4 : Hid _ := hA4
  have hb4 : Below w3.heap.size (w3.alloc (.cells #[.int .i64 1, .int .u32 0, .int .i64 0, .int .u32 0, .int .i64 0, .int .u16 0, .int .u16 65535, .int .u16 0, .int .u16 65535, .int .u8 0, .int .u8 0, .int .i64 2] 60)) w4 := ho4.below (Nat.le_refl _)
  have HB4 : Hid (Below w.heap.size w w4) := HBa.out.trans (hb4.mono HB3.out.size)
  have HE4 : Hid (Eng w4 X eC [] (fun _ => []) (fun k => w1.heap.size ≤ k ∧ k < X)) := HEa.out.stay (Nat.le_of_eq ho4.size.symm) (fun k _ e => ho4.block k (by have := HXa.out; omega))
  have Hba : Hid (w3.heap.size < w4.heap.size) := blk_lt hA4
  generalize hBa : w3.heap.size = Ba at *
  clear hA4 ho4 hb4 hBa HA3 HEa HBa HB3 HE3
  clear w3
  refine (every19 2 3 _).mono ?_
  rintro e w5 ⟨rfl, hb5⟩
  have HB5 : Hid (Below w.heap.size w w5) := HB4.out.trans (hb5.mono HB4.out.size)
  have HE5 : Hid (Eng w5 X eC [] (fun _ => []) (fun k => w1.heap.size ≤ k ∧ k < X)) := HE4.out.on hb5
  have HA5 : Hid (w5.heap[Ba]? = some (.cells #[.int .i64 1, .int .u32 167772160, .int .i64 8, .int .u32 0, .int .i64 0, .int .u16 0, .int .u16 65535, .int .u16 0, .int .u16 65535, .int .u8 0, .int .u8 0, .int .i64 2] 60 (0, 0))) := blk_on HA4.out hb5
  have HC5 : Hid ((w5.alloc (.cells #[.int .i64 2, .int .u32 0, .int .i64 0, .int .u32 0, .int .i64 0, .int .u16 0, .int .u16 65535, .int .u16 0, .int .u16 65535, .int .u8 0, .int .u8 0, .int .i64 3] 60)).heap[w5.heap.size]? = some (.cells #[.int .i64 2, .int .u32 0, .int .i64 0, .int .u32 0, .int .i64 0, .int .u16 0, .int .u16 65535, .int .u16 0, .int .u16 65535, .int .u8 0, .int .u8 0, .int .i64 3] 60 (0, 0))) := blk_new w5 _
  have hba : Below w5.heap.size w5 (w5.alloc (.cells #[.int .i64 2, .int .u32 0, .int .i64 0, .int .u32 0, .int .i64 0, .int .u16 0, .int .u16 65535, .int .u16 0, .int .u16 65535, .int .u8 0, .int .u8 0, .int .i64 3] 60)) := (Below.refl _ _).alloc (Nat.le_refl _) _
  have HBa : Hid (Below w.heap.size w (w5.alloc (.cells #[.int .i64 2, .int .u32 0, .int .i64 0, .int .u32 0, .int .i64 0, .int .u16 0, .int .u16 65535, .int .u16 0, .int .u16 65535, .int .u8 0, .int .u8 0, .int .i64 3] 60))) := HB5.out.trans (hba.mono HB5.out.size)
  have HEa : Hid (Eng (w5.alloc (.cells #[.int .i64 2, .int .u32 0, .int .i64 0, .int .u32 0, .int .i64 0, .int .u16 0, .int .u16 65535, .int .u16 0, .int .u16 65535, .int .u8 0, .int .u8 0, .int .i64 3] 60)) X eC [] (fun _ => []) (fun k => w1.heap.size ≤ k ∧ k < X)) := HE5.out.on hba
  have HXb : Hid (X < w5.heap.size) := HE5.out.lt
  have HAb : Hid ((w5.alloc (.cells #[.int .i64 2, .int .u32 0, .int .i64 0, .int .u32 0, .int .i64 0, .int .u16 0, .int .u16 65535, .int .u16 0, .int .u16 65535, .int .u8 0, .int .u8 0, .int .i64 3] 60)).heap[Ba]? = some (.cells #[.int .i64 1, .int .u32 167772160, .int .i64 8, .int .u32 0, .int .i64 0, .int .u16 0, .int .u16 65535, .int .u16 0, .int .u16 65535, .int .u8 0, .int .u8 0, .int .i64 2] 60 (0, 0))) := blk_on HA5.out hba
  have HAl : Hid (Ba < w5.heap.size) := blk_lt HA5.out
  clear hb5 hba HB4 HE4 HA4
  simp only [allR]
  go_wp2_with (first | (refine wpList_store_blk rfl 54 (.tmp 30) (.tmp 29) rfl w5.heap.size 3 #[.int .u32 167772160, .int .i64 8] #[.int .i64 2, .int .u32 0, .int .i64 0, .int .u32 167772160, .int .i64 8, .int .u16 0, .int .u16 65535, .int .u16 0, .int .u16 65535, .int .u8 0, .int .u8 0, .int .i64 3] rfl rfl 60 _ HC5.out (Nat.le_of_ble_eq_true rfl) rfl (by kernel_rfl) rfl ?_; intro w6 hC6 ho6; have hA6 : w6.heap[Ba]? = some (.cells #[.int .i64 1, .int .u32 167772160, .int .i64 8, .int .u32 0, .int .i64 0, .int .u16 0, .int .u16 65535, .int .u16 0, .int .u16 65535, .int .u8 0, .int .u8 0, .int .i64 2] 60 (0, 0)) := (ho6.block Ba (by have := HAl.out; omega)).trans HAb.out; obtain ⟨a0, a1, a2, a3, a4, a5, a6, a7, a8, a9, a10, a11⟩ := blk12 hA6) | (go_at_call 15; fail))
  have HA6 : Hid _ := hA6
  have HC6 : Hid _ := hC6
  have HB6 : Hid (Below w.heap.size w w6) := HBa.out.trans ((ho6.below (Nat.le_refl _)).mono HB5.out.size)
  have HE6 : Hid (Eng w6 X eC [] (fun _ => []) (fun k => w1.heap.size ≤ k ∧ k < X)) := HEa.out.stay (Nat.le_of_eq ho6.size.symm) (fun k _ e => ho6.block k (by have := HXb.out; omega))
  have HXn : Hid (X < Ba ∧ X < w5.heap.size) := ⟨HXa.out, HXb.out⟩
  generalize hBb : w5.heap.size = Bb at *
  clear hA6 hC6 ho6 hBb HC5 HEa HBa HB5 HE5 HA5 HAb HAl a0 a1 a2 a3 a4 a5 a6 a7 a8 a9 a10 a11
  clear w5
  have hI1 := insertE X eC [] _ _ 0 eA w6 HE6.out eA_bd eC_bd (by decide)
  rw [ex_a, ex_al] at hI1
  refine hI1.mono ?_
  rintro e w7 ⟨rfl, hd7⟩
  have HL6 : Hid (Ba < w6.heap.size ∧ Bb < w6.heap.size ∧ w.heap.size ≤ w6.heap.size) := ⟨blk_lt HA6.out, blk_lt HC6.out, HB6.out.size⟩
  have HB7 : Hid (Below w.heap.size w w7) := hd7.below HB6.out HX.out (fun k hk => by have := HL1.out; omega)
  have HA7 : Hid (w7.heap[Ba]? = _) := hd7.blk HA6.out (by have := HXn.out; omega) (by have := HXn.out; omega)
  have HC7 : Hid (w7.heap[Bb]? = _) := hd7.blk HC6.out (by have := HXn.out; omega) (by have := HXn.out; omega)
  obtain ⟨L7, hE7⟩ := hd7.eng
  have hI2 := insertE X eC [eA] _ _ 1 eB w7 hE7 eB_bd eC_bd (by decide)
  rw [ex_b, ex_bl] at hI2
  obtain ⟨b0, b1, b2, b3, b4, b5, b6, b7, b8, b9, b10, b11⟩ := blk12 HC7.out
  clear hd7 hE7 hI1 HE6 HA6 HC6 HB6
  go_wp2_with (go_at_call 15; fail)
  refine hI2.mono ?_
  rintro e w8 ⟨rfl, hd8⟩
  have HL7 : Hid (w.heap.size ≤ w7.heap.size) := HB7.out.size
  have HB8 : Hid (Below w.heap.size w w8) := hd8.below HB7.out HX.out (fun k hk => by have := HL1.out; have := HL6.out; omega)
  have HA8 : Hid (w8.heap[Ba]? = _) := hd8.blk HA7.out (by have := HXn.out; omega) (by have := HXn.out; have := HL6.out; omega)
  obtain ⟨L8, hE8⟩ := hd8.eng
  have hI3 := insertE X eC [eA, eB] _ _ 0 eA w8 hE8 eA_bd eC_bd (by decide)
  rw [ex_c, ex_cl] at hI3
  clear b0 b1 b2 b3 b4 b5 b6 b7 b8 b9 b10 b11
  obtain ⟨b0, b1, b2, b3, b4, b5, b6, b7, b8, b9, b10, b11⟩ := blk12 HA8.out
  clear hd8 hE8 hI2 HA7 HC7 HB7
  go_wp2_with (go_at_call 15; fail)
  refine hI3.mono ?_
  rintro e w9 ⟨rfl, hd9⟩
  have HB9 : Hid (Below w.heap.size w w9) := hd9.below HB8.out HX.out (fun k hk => by have := HL1.out; have := HL6.out; have := HL7.out; omega)
  obtain ⟨L9, hE9⟩ := hd9.eng
  obtain ⟨S9, HE9⟩ : ∃ S9, Hid (Eng w9 X eC [eA, eB] L9 S9) := ⟨_, hE9⟩
  clear hE9
  have hc1 : 1 ≤ (askR [eA, eB] L9 ⟨167772169, 167772160, 0, 0, 0⟩).ru := by
    rcases (ask_ok HE9.out.ok (okE 167772169 167772160 (by decide) (by decide)) (prK L9 ⟨167772169, 167772160, 0, 0, 0⟩) (askR [eA, eB] L9 ⟨167772169, 167772160, 0, 0, 0⟩) rfl).1 with h | h
    · have := h.2.1; rw [ex_m1] at this; cases this
    · exact h.2.2
  clear b0 b1 b2 b3 b4 b5 b6 b7 b8 b9 b10 b11 hd9 hI3 HA8 HB8 HL1 HL6 HL7
  generalize w9 = U0 at *
  have hK := askE X eC [eA, eB] _ _ ⟨167772169, 167772160, 0, 0, 0⟩ U0 HE9.out (okE _ _ (by decide) (by decide))
  unfold vdV stC at hK
  rw [ex_m1] at hK
  generalize (askR [eA, eB] L9 ⟨167772169, 167772160, 0, 0, 0⟩).ru = C1 at *
  generalize (askR [eA, eB] L9 ⟨167772169, 167772160, 0, 0, 0⟩).tb = K1 at *
  generalize (askR [eA, eB] L9 ⟨167772169, 167772160, 0, 0, 0⟩).pb = P1 at *
  go_wp2_with (go_at_call 10; fail)
  refine hK.mono ?_
  rintro e V1 ⟨rfl, hb⟩
  have ev : vdH 0 = true ∧ vdI [eA, eB] 0 = 1 ∧ vdA eC.a [eA, eB] 0 = 2 := by decide
  rw [ev.1, ev.2.1, ev.2.2]
  have hU : Below U0.heap.size U0 ((V1.alloc (.cells #[.bool true, .int .i64 1, .int .i64 2] 36)).alloc (.cells #[.int .i64 0, .int .i64 C1, .int .i64 0, .int .i64 K1, .int .i64 P1] 38)) := hb.trans ((((Below.refl _ _).alloc (Nat.le_refl _) _).alloc (by simp) _).mono hb.size)
  have HB_1 : Hid (Below w.heap.size w ((V1.alloc (.cells #[.bool true, .int .i64 1, .int .i64 2] 36)).alloc (.cells #[.int .i64 0, .int .i64 C1, .int .i64 0, .int .i64 K1, .int .i64 P1] 38))) := HB9.out.trans (hU.mono HB9.out.size)
  have HE_1 : Hid (Eng ((V1.alloc (.cells #[.bool true, .int .i64 1, .int .i64 2] 36)).alloc (.cells #[.int .i64 0, .int .i64 C1, .int .i64 0, .int .i64 K1, .int .i64 P1] 38)) X eC [eA, eB] L9 S9) := HE9.out.on hU
  have HV1_1 : Hid (((V1.alloc (.cells #[.bool true, .int .i64 1, .int .i64 2] 36)).alloc (.cells #[.int .i64 0, .int .i64 C1, .int .i64 0, .int .i64 K1, .int .i64 P1] 38)).heap[V1.heap.size]? = some (.cells #[.bool true, .int .i64 1, .int .i64 2] 36 (0, 0))) := blk_alloc (blk_new V1 _) _
  have HS1_1 : Hid (((V1.alloc (.cells #[.bool true, .int .i64 1, .int .i64 2] 36)).alloc (.cells #[.int .i64 0, .int .i64 C1, .int .i64 0, .int .i64 K1, .int .i64 P1] 38)).heap[V1.heap.size + 1]? = some (.cells #[.int .i64 0, .int .i64 C1, .int .i64 0, .int .i64 K1, .int .i64 P1] 38 (0, 0))) := by
    have := blk_new (V1.alloc (.cells #[.bool true, .int .i64 1, .int .i64 2] 36)) (.cells #[.int .i64 0, .int .i64 C1, .int .i64 0, .int .i64 K1, .int .i64 P1] 38)
    show _ = _
    simpa using this
  clear hK hb ev hU HB9 HE9
  go_upto_region 12 with (fail)
  try simp only [World.size_alloc]
  generalize ((V1.alloc (.cells #[.bool true, .int .i64 1, .int .i64 2] 36)).alloc (.cells #[.int .i64 0, .int .i64 C1, .int .i64 0, .int .i64 K1, .int .i64 P1] 38)) = U1 at *
  generalize V1.heap.size = Q1 at *
  clear V1
  have hK := askE X eC [eA, eB] _ _ ⟨150994944, 167772160, 0, 0, 0⟩ U1 HE_1.out (okE _ _ (by decide) (by decide))
  unfold vdV stC at hK
  rw [ex_m2] at hK
  generalize (askR [eA, eB] L9 ⟨150994944, 167772160, 0, 0, 0⟩).ru = C2 at *
  generalize (askR [eA, eB] L9 ⟨150994944, 167772160, 0, 0, 0⟩).tb = K2 at *
  generalize (askR [eA, eB] L9 ⟨150994944, 167772160, 0, 0, 0⟩).pb = P2 at *
  go_wp2_with (go_at_call 10; fail)
  refine hK.mono ?_
  rintro e V2 ⟨rfl, hb⟩
  have ev : vdH 1 = true ∧ vdI [eA, eB] 1 = 2 ∧ vdA eC.a [eA, eB] 1 = 3 := by decide
  rw [ev.1, ev.2.1, ev.2.2]
  have hU : Below U1.heap.size U1 ((V2.alloc (.cells #[.bool true, .int .i64 2, .int .i64 3] 36)).alloc (.cells #[.int .i64 0, .int .i64 C2, .int .i64 0, .int .i64 K2, .int .i64 P2] 38)) := hb.trans ((((Below.refl _ _).alloc (Nat.le_refl _) _).alloc (by simp) _).mono hb.size)
  have HB_2 : Hid (Below w.heap.size w ((V2.alloc (.cells #[.bool true, .int .i64 2, .int .i64 3] 36)).alloc (.cells #[.int .i64 0, .int .i64 C2, .int .i64 0, .int .i64 K2, .int .i64 P2] 38))) := HB_1.out.trans (hU.mono HB_1.out.size)
  have HE_2 : Hid (Eng ((V2.alloc (.cells #[.bool true, .int .i64 2, .int .i64 3] 36)).alloc (.cells #[.int .i64 0, .int .i64 C2, .int .i64 0, .int .i64 K2, .int .i64 P2] 38)) X eC [eA, eB] L9 S9) := HE_1.out.on hU
  have HV2_2 : Hid (((V2.alloc (.cells #[.bool true, .int .i64 2, .int .i64 3] 36)).alloc (.cells #[.int .i64 0, .int .i64 C2, .int .i64 0, .int .i64 K2, .int .i64 P2] 38)).heap[V2.heap.size]? = some (.cells #[.bool true, .int .i64 2, .int .i64 3] 36 (0, 0))) := blk_alloc (blk_new V2 _) _
  have HV1_2 : Hid _ := blk_on HV1_1.out hU
  have HS1_2 : Hid _ := blk_on HS1_1.out hU
  clear hK hb ev hU HB_1 HE_1
  clear HV1_1 HS1_1
  go_upto_region 13 with (fail)
  try simp only [World.size_alloc]
  generalize ((V2.alloc (.cells #[.bool true, .int .i64 2, .int .i64 3] 36)).alloc (.cells #[.int .i64 0, .int .i64 C2, .int .i64 0, .int .i64 K2, .int .i64 P2] 38)) = U2 at *
  generalize V2.heap.size = Q2 at *
  clear V2
  have hK := askE X eC [eA, eB] _ _ ⟨150994944, 150994944, 0, 0, 0⟩ U2 HE_2.out (okE _ _ (by decide) (by decide))
  unfold vdV stC at hK
  rw [ex_m3] at hK
  generalize (askR [eA, eB] L9 ⟨150994944, 150994944, 0, 0, 0⟩).ru = C3 at *
  generalize (askR [eA, eB] L9 ⟨150994944, 150994944, 0, 0, 0⟩).tb = K3 at *
  generalize (askR [eA, eB] L9 ⟨150994944, 150994944, 0, 0, 0⟩).pb = P3 at *
  go_wp2_with (go_at_call 10; fail)
  refine hK.mono ?_
  rintro e V3 ⟨rfl, hb⟩
  have ev : vdH (-1) = false ∧ vdI [eA, eB] (-1) = 0 ∧ vdA eC.a [eA, eB] (-1) = 1 := by decide
  rw [ev.1, ev.2.1, ev.2.2]
  have hU : Below U2.heap.size U2 ((V3.alloc (.cells #[.bool false, .int .i64 0, .int .i64 1] 36)).alloc (.cells #[.int .i64 0, .int .i64 C3, .int .i64 0, .int .i64 K3, .int .i64 P3] 38)) := hb.trans ((((Below.refl _ _).alloc (Nat.le_refl _) _).alloc (by simp) _).mono hb.size)
  have HB_3 : Hid (Below w.heap.size w ((V3.alloc (.cells #[.bool false, .int .i64 0, .int .i64 1] 36)).alloc (.cells #[.int .i64 0, .int .i64 C3, .int .i64 0, .int .i64 K3, .int .i64 P3] 38))) := HB_2.out.trans (hU.mono HB_2.out.size)
  have HE_3 : Hid (Eng ((V3.alloc (.cells #[.bool false, .int .i64 0, .int .i64 1] 36)).alloc (.cells #[.int .i64 0, .int .i64 C3, .int .i64 0, .int .i64 K3, .int .i64 P3] 38)) X eC [eA, eB] L9 S9) := HE_2.out.on hU
  have HV3_3 : Hid (((V3.alloc (.cells #[.bool false, .int .i64 0, .int .i64 1] 36)).alloc (.cells #[.int .i64 0, .int .i64 C3, .int .i64 0, .int .i64 K3, .int .i64 P3] 38)).heap[V3.heap.size]? = some (.cells #[.bool false, .int .i64 0, .int .i64 1] 36 (0, 0))) := blk_alloc (blk_new V3 _) _
  have HV1_3 : Hid _ := blk_on HV1_2.out hU
  have HV2_3 : Hid _ := blk_on HV2_2.out hU
  have HS1_3 : Hid _ := blk_on HS1_2.out hU
  clear hK hb ev hU HB_2 HE_2
  clear HV1_2 HV2_2 HS1_2
  go_upto_region 14 with (fail)
  try simp only [World.size_alloc]
  generalize ((V3.alloc (.cells #[.bool false, .int .i64 0, .int .i64 1] 36)).alloc (.cells #[.int .i64 0, .int .i64 C3, .int .i64 0, .int .i64 K3, .int .i64 P3] 38)) = U3 at *
  generalize V3.heap.size = Q3 at *
  clear V3
  have hc1i : (1 : Int) ≤ (C1 : Int) := by omega
  obtain ⟨a0, a1, a2⟩ := blk3 HV1_3.out
  obtain ⟨c0, c1, c2, c3, c4⟩ := blk5 HS1_3.out
  obtain ⟨d0, d1, d2⟩ := blk3 HV2_3.out
  obtain ⟨g0, g1, g2⟩ := blk3 HV3_3.out
  go_wp2_with (fail)
  go_ret
  exact ⟨rfl, HB_3.out⟩
end Go.Proofs.Ytfpmljgmfapoiaa
/-
  An engine that comes to its rules one by one, in any order, beside one that was set: the mathematics, and what holds of the two.
-/
namespace Go.Proofs.Ytfpmljgmfapoiaa
open Go.RowKit
set_option linter.unusedVariables false
set_option linter.unusedSimpArgs false

/-- The rules that are in. -/
def sel : List Bool → List Ru → List Ru
  | b :: B, R :: l => if b = true then R :: sel B l else sel B l
  | _, _ => []
theorem sel_sub : ∀ (B : List Bool) (l : List Ru), (sel B l).Sublist l
  | [], l => by cases l <;> simp [sel]
  | b :: B, [] => by simp [sel]
  | b :: B, R :: l => by
    unfold sel
    split
    · exact (sel_sub B l).cons_cons R
    · exact (sel_sub B l).cons R
theorem sel_len : ∀ (B : List Bool) (l : List Ru), B.length = l.length → (sel B l).length = B.count true
  | [], l, h => by cases l <;> simp [sel]
  | b :: B, [], h => by simp at h
  | b :: B, R :: l, h => by
    have ih := sel_len B l (by simpa using h)
    unfold sel
    cases b <;> simp [ih]
theorem sel_none (n : Nat) (l : List Ru) : sel (List.replicate n false) l = [] := by
  induction n generalizing l with
  | zero => cases l <;> rfl
  | succ n ih =>
    cases l with
    | nil => rfl
    | cons R l => rw [List.replicate_succ]; unfold sel; rw [if_neg (by decide)]; exact ih l
theorem sel_all : ∀ (B : List Bool) (l : List Ru), B.length = l.length → (∀ b ∈ B, b = true) → sel B l = l
  | [], l, h, _ => by cases l with | nil => rfl | cons R l => simp at h
  | b :: B, [], h, _ => by simp at h
  | b :: B, R :: l, h, hb => by
    unfold sel
    rw [if_pos (hb b (by simp)), sel_all B l (by simpa using h) (fun x hx => hb x (by simp [hx]))]
theorem sel_set : ∀ (B : List Bool) (l : List Ru) (k : Nat) (hB : B.length = l.length) (hk : k < l.length), B[k]? = some false → sel (B.set k true) l = putL (sel B l) ((B.take k).count true) l[k]
  | [], l, k, hB, hk, hf => by simp at hf
  | b :: B, [], k, hB, hk, hf => by simp at hk
  | b :: B, R :: l, 0, hB, hk, hf => by
    have : b = false := by simpa using hf
    subst this
    simp [sel, putL]
  | b :: B, R :: l, k + 1, hB, hk, hf => by
    have ih := sel_set B l k (by simpa using hB) (by simpa using hk) (by simpa using hf)
    rw [List.set_cons_succ]
    unfold sel
    cases b with
    | false => rw [if_neg (by decide), if_neg (by decide), ih]; simp
    | true => rw [if_pos rfl, if_pos rfl, ih]; simp [putL]
theorem sel_not {B : List Bool} {l : List Ru} {k : Nat} (hB : B.length = l.length) (hk : k < l.length) (hf : B[k]? = some false) (o : OkN l) : fnd (sel B l) l[k].i = -1 := by
  have h1 : ((sel (B.set k true) l).map Ru.i).Nodup := ((sel_sub (B.set k true) l).map Ru.i).nodup o.one
  rw [sel_set B l k hB hk hf] at h1
  have hp : (putL (sel B l) ((B.take k).count true) l[k]).Perm (l[k] :: sel B l) := by
    unfold putL
    refine List.perm_middle.trans ?_
    rw [List.take_append_drop]
  rw [(hp.map Ru.i).nodup_iff, List.map_cons, List.nodup_cons] at h1
  rw [fnd_none]
  intro R hR e
  exact h1.1 (List.mem_map.2 ⟨R, hR, e⟩)
theorem cnt_false {B : List Bool} (h : B.count true < B.length) : ∃ j : Nat, B[j]? = some false := by
  apply Classical.byContradiction
  intro hn
  have : ∀ b ∈ B, true = b := fun b hb => by
    obtain ⟨j, hj, e⟩ := List.mem_iff_getElem.1 hb
    cases hb' : b with
    | true => rfl
    | false => exact absurd ⟨j, by rw [List.getElem?_eq_getElem hj, e, hb']⟩ hn
  have := List.count_eq_length.2 this
  omega
theorem cnt_set : ∀ (B : List Bool) (k : Nat), B[k]? = some false → (B.set k true).count true = B.count true + 1
  | [], k, h => by simp at h
  | b :: B, 0, h => by
    have : b = false := by simpa using h
    subst this
    simp
  | b :: B, k + 1, h => by
    have := cnt_set B k (by simpa using h)
    rw [List.set_cons_succ]
    cases b <;> simp [this]
theorem cntB_step {B : List Bool} {m : Nat} (h : m < B.length) : (B.take (m + 1)).count true = (B.take m).count true + if B[m] = true then 1 else 0 := by
  rw [take_at h, List.count_append]
  cases hb : B[m] <;> simp [hb]
theorem cnt_take (B : List Bool) (k : Nat) : (B.take k).count true ≤ B.count true := (List.take_sublist k B).count_le true
def aC : Cf := ⟨64, 4, 1048576, 1048576, 1048576, 4, 8⟩
theorem aC_bd : BdC aC := by unfold BdC I64 aC; decide
theorem aC_ok : okC aC = true := by decide
theorem tupL_le {l : List Ru} (h : l.length ≤ 64) : tupL l ≤ 57600 := by
  have := tup_le l
  unfold tupL
  split <;> omega
theorem room_a {l : List Ru} (h : l.length ≤ 64) : roomE aC l = 0 := by
  unfold roomE
  have hp := tupL_le h
  have e : aC.t = 1048576 := rfl
  rw [if_neg (by rw [e]; omega)]
theorem pin_a {L : List Ru} (o : OkN L) (p : Int) (R : Ru) : pinE aC L p R = insE L 64 p R := by
  have e : aC.m = 64 := rfl
  unfold pinE
  rw [e]
  by_cases h : insE L 64 p R = 0
  · rw [if_pos h, h]; exact room_a (okN_ins o h (by decide)).few
  · rw [if_neg h]
theorem pinL_a {L : List Ru} (o : OkN L) {p : Int} {R : Ru} (h : insE L 64 p R = 0) : pinL aC L p R = putL L p.toNat R := by
  unfold pinL; rw [pin_a o, if_pos h]
theorem ins_sel {B : List Bool} {l : List Ru} {k : Nat} (hB : B.length = l.length) (hk : k < l.length) (hf : B[k]? = some false) (o : OkN l) : insE (sel B l) 64 (((B.take k).count true : Nat) : Int) l[k] = 0 := by
  have hj : joinE (sel B l) l[k] = 0 := joinE_ok.2 ⟨(okR_err _).1 (o.may _ (List.getElem_mem hk)), sel_not hB hk hf o⟩
  have h1 := cnt_take B k
  have h2 := cnt_set B k hf
  have h3 : (B.set k true).count true ≤ (B.set k true).length := List.count_le_length
  rw [List.length_set] at h3
  have h4 := o.few
  unfold insE
  rw [if_pos hj, sel_len B l hB, if_pos (by omega), if_neg (by omega)]
theorem put_sel {B : List Bool} {l : List Ru} {k : Nat} (hB : B.length = l.length) (hk : k < l.length) (hf : B[k]? = some false) (o : OkN l) : pinE aC (sel B l) (((B.take k).count true : Nat) : Int) l[k] = 0 ∧ pinL aC (sel B l) (((B.take k).count true : Nat) : Int) l[k] = sel (B.set k true) l := by
  have os := okN_sub o (sel_sub B l)
  have h := ins_sel hB hk hf o
  refine ⟨by rw [pin_a os]; exact h, ?_⟩
  rw [pinL_a os h, sel_set B l k hB hk hf, Int.toNat_natCast]
/-- Another rule comes ahead of all and goes again. -/
theorem in_out {L : List Ru} (o : OkN L) {R : Ru} (h : pinE aC L 0 R = 0) : delE (pinL aC L 0 R) R.i = 0 ∧ delL (pinL aC L 0 R) R.i = L := by
  rw [pin_a o] at h
  rw [pinL_a o h]
  have e : putL L (0 : Int).toNat R = R :: L := by simp [putL]
  rw [e]
  have f : fnd (R :: L) R.i = 0 := by unfold fnd fndK; rw [if_pos rfl]; rfl
  refine ⟨if_pos (by rw [f]; decide), ?_⟩
  unfold delL
  rw [if_pos (by rw [f]; decide), f]
  simp [outL]
theorem madeB (n : Nat) : madeCells #[.bool false] n = ((List.replicate n false).map Value.bool).toArray := by
  apply Array.toList_inj.1
  apply List.ext_getElem
  · rw [Array.length_toList, size_madeCells]; simp
  · intro k h1 h2
    simp only [madeCells, Array.getElem_toList, Array.getElem_map, Array.getElem_range]
    simp [Nat.mod_one]
theorem infoB : (Try.prog.info? 4).map (fun i => (i.zero, i.size, i.bytes)) = some (some (.bool false), 1, 1) := by kernel_rfl
theorem only_setCellF (w : World) (t j : Nat) (u : Value) : Only t w (w.setCell ⟨t, j, none⟩ u) :=
  ⟨rfl, rfl, rfl, by simp, fun k hk => Below.heap_setCell w ⟨t, j, none⟩ u k hk⟩
theorem gr_only {w w1 w2 : World} {X : Nat} (hg : w.grownBy w1 (some X)) (ho : Only X w1 w2) : w.grownBy w2 (some X) :=
  ⟨ho.os.trans hg.os, ho.tape.trans hg.tape, ho.output.trans hg.output, Nat.le_trans hg.size (Nat.le_of_eq ho.size.symm), fun k hk e => by rw [ho.block k (fun e' => e (by rw [e'])), hg.block k hk e]⟩
/-- The two engines and the marks. -/
structure Alk (w W : World) (X Y Bi : Nat) (l M : List Ru) (B : List Bool) : Prop where
  eb : ∃ (L L' : Tp → List Hx.SlI) (S S' : Nat → Prop), Eng W X aC l L S ∧ Eng W Y aC M L' S' ∧ ¬ S Y ∧ ¬ S Bi ∧ ¬ S' X ∧ ¬ S' Bi ∧ (∀ k, S k → S' k → False) ∧ (∀ k, S' k → w.heap.size ≤ k) ∧ ∀ k, S k → k < W.heap.size
  xy : X ≠ Y
  bx : Bi ≠ X
  by' : Bi ≠ Y
  blk : W.heap[Bi]? = some (.cells (B.map Value.bool).toArray 4 (0, 0))
  wy : w.heap.size ≤ Y
  wb : w.heap.size ≤ Bi
  bel : Below w.heap.size w W
theorem Alk.on {w W W' : World} {X Y Bi : Nat} {l M : List Ru} {B : List Bool} (h : Alk w W X Y Bi l M B) (hb : Below W.heap.size W W') : Alk w W' X Y Bi l M B := by
  obtain ⟨L, L', S, S', a, b, a1, a2, b1, b2, dj, lo, hi⟩ := h.eb
  exact ⟨⟨L, L', S, S', a.on hb, b.on hb, a1, a2, b1, b2, dj, lo, fun k e => Nat.lt_of_lt_of_le (hi k e) hb.size⟩, h.xy, h.bx, h.by', blk_on h.blk hb, h.wy, h.wb, h.bel.trans (hb.mono h.bel.size)⟩
theorem Alk.okM {w W : World} {X Y Bi : Nat} {l M : List Ru} {B : List Bool} (h : Alk w W X Y Bi l M B) : OkN M := by
  obtain ⟨L, L', S, S', a, b, _⟩ := h.eb
  exact b.ok
theorem Alk.did {w W : World} {X Y Bi : Nat} {l M : List Ru} {B : List Bool} (h : Alk w W X Y Bi l M B) : ∃ (L' : Tp → List Hx.SlI) (S : Nat → Prop), Eng W Y aC M L' S ∧ ∀ {W' : World} {M' : List Ru}, Did W W' Y aC M' S → Alk w W' X Y Bi l M' B := by
  obtain ⟨L, L', S, S', a, b, a1, a2, b1, b2, dj, lo, hi⟩ := h.eb
  refine ⟨L', S', b, fun {W' M'} hd => ?_⟩
  obtain ⟨L2, hE, hg⟩ := hd
  have hbl := blk_lt h.blk
  have hz := h.bel.size
  have hXl := a.lt
  refine ⟨⟨L, _, S, _, a.stay hg.size (fun k hk e => hg.block k hk ?_ ?_), hE, a1, a2, ?_, ?_, ?_, ?_, ?_⟩, h.xy, h.bx, h.by', ?_, h.wy, h.wb, hg.below h.bel h.bel.size h.wy lo⟩
  · rintro rfl
    rcases e with e | e
    · exact h.xy e.symm
    · exact a1 e
  · intro e2
    rcases e with rfl | e
    · exact b1 e2
    · exact dj k e e2
  · rintro (e | ⟨e, _⟩)
    · exact b1 e
    · omega
  · rintro (e | ⟨e, _⟩)
    · exact b2 e
    · omega
  · rintro k e (e2 | ⟨e2, _⟩)
    · exact dj k e e2
    · have := hi k e; omega
  · rintro k (e2 | ⟨e2, _⟩)
    · exact lo k e2
    · omega
  · intro k e
    have := hi k e
    have := hg.size
    omega
  · rw [hg.block Bi hbl h.by' b2]; exact h.blk
theorem Alk.ins {w W : World} {X Y Bi : Nat} {l M : List Ru} {B : List Bool} (h : Alk w W X Y Bi l M B) (p : Int) (R : Ru) (b : BdR R) :
    Calls Try.prog 15 #[.pointer (some ⟨Y, 0, none⟩), .int .i64 p, .agg #[.int .i64 R.i, .int .u32 R.s, .int .i64 R.sl, .int .u32 R.d, .int .i64 R.dl, .int .u16 R.p.1, .int .u16 R.p.2, .int .u16 R.q.1, .int .u16 R.q.2, .int .u8 R.m.1, .int .u8 R.m.2, .int .i64 R.act]] W fun e W' => e = .returned (.int .i64 (pinE aC M p R)) ∧ Alk w W' X Y Bi l (pinL aC M p R) B := by
  obtain ⟨L', S, hE, hd⟩ := h.did
  exact (insertE Y aC M L' S p R W hE b aC_bd (by decide)).mono fun e W' ⟨he, h2⟩ => ⟨he, hd h2⟩
theorem Alk.del {w W : World} {X Y Bi : Nat} {l M : List Ru} {B : List Bool} (h : Alk w W X Y Bi l M B) (x : Int) :
    Calls Try.prog 16 #[.pointer (some ⟨Y, 0, none⟩), .int .i64 x] W fun e W' => e = .returned (.int .i64 (delE M x)) ∧ Alk w W' X Y Bi l (delL M x) B := by
  obtain ⟨L', S, hE, hd⟩ := h.did
  exact (deleteE Y aC M L' S x W hE).mono fun e W' ⟨he, h2⟩ => ⟨he, hd h2⟩
theorem Alk.set {w W : World} {X Y Bi : Nat} {l M : List Ru} {B : List Bool} (h : Alk w W X Y Bi l M B) (k : Nat) (b : Bool) : Alk w (W.setCell ⟨Bi, k, none⟩ (.bool b)) X Y Bi l M (B.set k b) := by
  obtain ⟨L, L', S, S', a, b', a1, a2, b1, b2, dj, lo, hi⟩ := h.eb
  have hg : W.grownBy (W.setCell ⟨Bi, k, none⟩ (.bool b)) (some Bi) := gr_only (World.grownBy.refl _ _) (only_setCellF W Bi k _)
  refine ⟨⟨L, L', S, S', a.stay hg.size (fun j hj e => hg.block j hj (fun e2 => ?_)), b'.stay hg.size (fun j hj e => hg.block j hj (fun e2 => ?_)), a1, a2, b1, b2, dj, lo, fun j e => Nat.lt_of_lt_of_le (hi j e) hg.size⟩, h.xy, h.bx, h.by', ?_, h.wy, h.wb, h.bel.grown hg h.bel.size (fun k e => by injection e with e; have := h.wb; omega)⟩
  · injection e2 with e2
    subst e2
    rcases e with e | e
    · exact h.bx e
    · exact a2 e
  · injection e2 with e2
    subst e2
    rcases e with e | e
    · exact h.by' e
    · exact b2 e
  have := blk_set (j := k) h.blk (.bool b)
  rw [this]
  congr 2
  simp [List.map_set]
theorem Alk.cell {w W : World} {X Y Bi : Nat} {l M : List Ru} {B : List Bool} (h : Alk w W X Y Bi l M B) {k : Nat} {b : Bool} (hk : B[k]? = some b) : W.cell? ⟨Bi, k, none⟩ = some (.bool b) ∧ W.frozen? ⟨Bi, k, none⟩ = false :=
  ⟨blk_cell h.blk (by simp [hk]), blk_free h.blk k⟩
theorem Alk.askX {w W : World} {X Y Bi : Nat} {l M : List Ru} {B : List Bool} (hA : Alk w W X Y Bi l M B) (h : Hd) (oh : OkH h) :
    Calls Try.prog 10 #[.pointer (some ⟨X, 0, none⟩), .agg #[.int .u32 h.s, .int .u32 h.d, .int .u16 h.p, .int .u16 h.q, .int .u8 h.r]] W fun e W' => ∃ a b d : Int, e = .returned (.tuple #[vdV aC l h, .agg #[.int .i64 0, .int .i64 a, .int .i64 0, .int .i64 b, .int .i64 d]]) ∧ Below W.heap.size W W' := by
  obtain ⟨L, L', S, S', a, b, _⟩ := hA.eb
  exact (askE X aC l _ _ h W a oh).mono fun e W' ⟨he, hb⟩ => ⟨_, _, _, he, hb⟩
theorem Alk.askY {w W : World} {X Y Bi : Nat} {l M : List Ru} {B : List Bool} (hA : Alk w W X Y Bi l M B) (h : Hd) (oh : OkH h) :
    Calls Try.prog 10 #[.pointer (some ⟨Y, 0, none⟩), .agg #[.int .u32 h.s, .int .u32 h.d, .int .u16 h.p, .int .u16 h.q, .int .u8 h.r]] W fun e W' => ∃ a b d : Int, e = .returned (.tuple #[vdV aC M h, .agg #[.int .i64 0, .int .i64 a, .int .i64 0, .int .i64 b, .int .i64 d]]) ∧ Below W.heap.size W W' := by
  obtain ⟨L, L', S, S', a, b, _⟩ := hA.eb
  exact (askE Y aC M _ _ h W b oh).mono fun e W' ⟨he, hb⟩ => ⟨_, _, _, he, hb⟩
set_option maxHeartbeats 1000000 in
theorem pickC (c : Int) (n : Nat) (w : World) (hc : I64 c) (h0 : 0 < n) (hn : n ≤ 64) : Calls Try.prog 14 #[.int .i64 c, .int .i64 n] w fun e w' => ∃ k : Nat, k < n ∧ e = .returned (.int .i64 k) ∧ w' = w := by
  have key : ∀ d : Int, 0 ≤ d → (d % (n : Int)).toNat < n ∧ d % (n : Int) = (((d % (n : Int)).toNat : Nat) : Int) := fun d h1 => by
    have e2 := Int.emod_nonneg d (b := (n : Int)) (by omega)
    have e3 := Int.emod_lt_of_pos d (b := (n : Int)) (by omega)
    exact ⟨by omega, by omega⟩
  unfold I64 at hc
  have hn0 : ¬ (n : Int) = 0 := by omega
  have hn1 : ((n : Int) == 0) = false := by rw [beq_eq_false_iff_ne]; exact hn0
  by_cases hneg : c < 0
  · have Hk : Hid _ := key (-(c + 1)) (by omega)
    have He : Hid (-((c + 1).tmod (n : Int)) = (-(c + 1)) % (n : Int)) := by
      show _ = _
      rw [← Int.neg_tmod]
      exact Int.tmod_eq_emod_of_nonneg (by omega)
    clear key
    go_enter Try.func14, Try.ntmps14
    go_wp2
    go_ret
    exact ⟨_, Hk.out.1, ret_int (He.out.trans Hk.out.2), rfl⟩
  · have Hk : Hid _ := key c (by omega)
    clear key
    go_enter Try.func14, Try.ntmps14
    go_wp2
    go_ret
    exact ⟨_, Hk.out.1, ret_int Hk.out.2, rfl⟩
end Go.Proofs.Ytfpmljgmfapoiaa
