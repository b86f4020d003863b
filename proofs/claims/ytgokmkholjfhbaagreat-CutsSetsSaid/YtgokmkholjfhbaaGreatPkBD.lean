/-
  PkBD: BxF BxP BxI, one behind the other (tools/pack.py).
-/
import Derived.Test.YtgokmkholjfhbaaGreatPkAN
import Derived.Test.YtgokmkholjfhbaaGreatPkAD
import Derived.Laws.EntriesVeiled
import Derived.Test.YtgokmkholjfhbaaGreatPkAE
import Derived.Test.YtgokmkholjfhbaaGreatPkAF
import Derived.Test.YtgokmkholjfhbaaGreatPkAA
set_option linter.unusedVariables false
set_option linter.unusedSimpArgs false
namespace Go.Proofs.YtgokmkholjfhbaaGreat.Xb
open Go.RowKit
theorem srcX (w : World) :
  Calls Tryz.prog 99 #[] w fun e w' => e = .returned (.agg #[.func (.func 124) #[] #[], .func (.func 126) #[] #[], .func (.func 128) #[] #[], .func (.func 129) #[] #[], .func (.func 131) #[] #[]]) ∧ Below w.heap.size w w' := by
 go_enter Tryz.func99, Tryz.ntmps99
 go_wp2
 exact bodyPost_ret (v := .agg #[.func (.func 124) #[] #[], .func (.func 126) #[] #[], .func (.func 128) #[] #[], .func (.func 129) #[] #[], .func (.func 131) #[] #[]]) (by simp [results, Tryz.results99, go_sem]) rfl ⟨rfl, belA⟩
theorem dstX (w : World) :
  Calls Tryz.prog 100 #[] w fun e w' => e = .returned (.agg #[.func (.func 135) #[] #[], .func (.func 136) #[] #[], .func (.func 137) #[] #[], .func (.func 138) #[] #[], .func (.func 139) #[] #[]]) ∧ Below w.heap.size w w' := by
 go_enter Tryz.func100, Tryz.ntmps100
 go_wp2
 exact bodyPost_ret (v := .agg #[.func (.func 135) #[] #[], .func (.func 136) #[] #[], .func (.func 137) #[] #[], .func (.func 138) #[] #[], .func (.func 139) #[] #[]]) (by simp [results, Tryz.results100, go_sem]) rfl ⟨rfl, belA⟩
theorem sportX (w : World) :
  Calls Tryz.prog 101 #[] w fun e w' => e = .returned (.agg #[.func (.func 141) #[] #[], .func (.func 142) #[] #[], .func (.func 144) #[] #[], .func (.func 145) #[] #[], .func (.func 146) #[] #[]]) ∧ Below w.heap.size w w' := by
 go_enter Tryz.func101, Tryz.ntmps101
 go_wp2
 exact bodyPost_ret (v := .agg #[.func (.func 141) #[] #[], .func (.func 142) #[] #[], .func (.func 144) #[] #[], .func (.func 145) #[] #[], .func (.func 146) #[] #[]]) (by simp [results, Tryz.results101, go_sem]) rfl ⟨rfl, belA⟩
theorem dportX (w : World) :
  Calls Tryz.prog 102 #[] w fun e w' => e = .returned (.agg #[.func (.func 150) #[] #[], .func (.func 151) #[] #[], .func (.func 152) #[] #[], .func (.func 153) #[] #[], .func (.func 154) #[] #[]]) ∧ Below w.heap.size w w' := by
 go_enter Tryz.func102, Tryz.ntmps102
 go_wp2
 exact bodyPost_ret (v := .agg #[.func (.func 150) #[] #[], .func (.func 151) #[] #[], .func (.func 152) #[] #[], .func (.func 153) #[] #[], .func (.func 154) #[] #[]]) (by simp [results, Tryz.results102, go_sem]) rfl ⟨rfl, belA⟩
theorem protoX (w : World) :
  Calls Tryz.prog 103 #[] w fun e w' => e = .returned (.agg #[.func (.func 156) #[] #[], .func (.func 157) #[] #[], .func (.func 159) #[] #[], .func (.func 160) #[] #[], .func (.func 161) #[] #[]]) ∧ Below w.heap.size w w' := by
 go_enter Tryz.func103, Tryz.ntmps103
 go_wp2
 exact bodyPost_ret (v := .agg #[.func (.func 156) #[] #[], .func (.func 157) #[] #[], .func (.func 159) #[] #[], .func (.func 160) #[] #[], .func (.func 161) #[] #[]]) (by simp [results, Tryz.results103, go_sem]) rfl ⟨rfl, belA⟩
theorem fieldsX (w : World) :
  Calls Tryz.prog 66 #[] w fun e w' => e = .returned (.agg #[.func (.func 124) #[] #[], .func (.func 126) #[] #[], .func (.func 128) #[] #[], .func (.func 129) #[] #[], .func (.func 131) #[] #[], .func (.func 135) #[] #[], .func (.func 136) #[] #[], .func (.func 137) #[] #[], .func (.func 138) #[] #[], .func (.func 139) #[] #[], .func (.func 141) #[] #[], .func (.func 142) #[] #[], .func (.func 144) #[] #[], .func (.func 145) #[] #[], .func (.func 146) #[] #[], .func (.func 150) #[] #[], .func (.func 151) #[] #[], .func (.func 152) #[] #[], .func (.func 153) #[] #[], .func (.func 154) #[] #[], .func (.func 156) #[] #[], .func (.func 157) #[] #[], .func (.func 159) #[] #[], .func (.func 160) #[] #[], .func (.func 161) #[] #[]]) ∧ Below w.heap.size w w' := by
 go_enter Tryz.func66, Tryz.ntmps66
 go_wp2_with (fail)
 refine (srcX _).mono ?_
 rintro e w1 ⟨rfl, hb1⟩
 go_wp2_with (fail)
 refine (dstX _).mono ?_
 rintro e w2 ⟨rfl, hb2⟩
 go_wp2_with (fail)
 refine (sportX _).mono ?_
 rintro e w3 ⟨rfl, hb3⟩
 go_wp2_with (fail)
 refine (dportX _).mono ?_
 rintro e w4 ⟨rfl, hb4⟩
 go_wp2_with (fail)
 refine (protoX _).mono ?_
 rintro e w5 ⟨rfl, hb5⟩
 have hz1 := hb1.size
 have hz2 := hb2.size
 have hz3 := hb3.size
 have hz4 := hb4.size
 have hz5 := hb5.size
 simp at hz1
 have hK : w5.heap[w.heap.size]? = some (.cells #[.nilFunc, .nilFunc, .nilFunc, .nilFunc, .nilFunc, .nilFunc, .nilFunc, .nilFunc, .nilFunc, .nilFunc, .nilFunc, .nilFunc, .nilFunc, .nilFunc, .nilFunc, .nilFunc, .nilFunc, .nilFunc, .nilFunc, .nilFunc, .nilFunc, .nilFunc, .nilFunc, .nilFunc, .nilFunc] 144 (0, 0)) := blk_on (blk_on (blk_on (blk_on (blk_on (blk_new w _) hb1) hb2) hb3) hb4) hb5
 have hbl : Hid (Below w.heap.size w w5) := ((((((Below.refl _ w).alloc (Nat.le_refl _) _).trans (hb1.mono (by simp))).trans (hb2.mono (by omega))).trans (hb3.mono (by omega))).trans (hb4.mono (by omega))).trans (hb5.mono (by omega))
 clear hb1 hb2 hb3 hb4 hb5
 go_wp2_with (refine wpList_store_blk rfl 144 (.tmp 0) (.tmp 6) rfl w.heap.size 0 #[.func (.func 124) #[] #[], .func (.func 126) #[] #[], .func (.func 128) #[] #[], .func (.func 129) #[] #[], .func (.func 131) #[] #[], .func (.func 135) #[] #[], .func (.func 136) #[] #[], .func (.func 137) #[] #[], .func (.func 138) #[] #[], .func (.func 139) #[] #[], .func (.func 141) #[] #[], .func (.func 142) #[] #[], .func (.func 144) #[] #[], .func (.func 145) #[] #[], .func (.func 146) #[] #[], .func (.func 150) #[] #[], .func (.func 151) #[] #[], .func (.func 152) #[] #[], .func (.func 153) #[] #[], .func (.func 154) #[] #[], .func (.func 156) #[] #[], .func (.func 157) #[] #[], .func (.func 159) #[] #[], .func (.func 160) #[] #[], .func (.func 161) #[] #[]] #[.func (.func 124) #[] #[], .func (.func 126) #[] #[], .func (.func 128) #[] #[], .func (.func 129) #[] #[], .func (.func 131) #[] #[], .func (.func 135) #[] #[], .func (.func 136) #[] #[], .func (.func 137) #[] #[], .func (.func 138) #[] #[], .func (.func 139) #[] #[], .func (.func 141) #[] #[], .func (.func 142) #[] #[], .func (.func 144) #[] #[], .func (.func 145) #[] #[], .func (.func 146) #[] #[], .func (.func 150) #[] #[], .func (.func 151) #[] #[], .func (.func 152) #[] #[], .func (.func 153) #[] #[], .func (.func 154) #[] #[], .func (.func 156) #[] #[], .func (.func 157) #[] #[], .func (.func 159) #[] #[], .func (.func 160) #[] #[], .func (.func 161) #[] #[]] rfl rfl 144 _ hK (Nat.le_refl _) rfl (by kernel_rfl) rfl ?_; intro w6 h6 ho6)
 exact bodyPost_ret (results_blk Tryz.results66 rfl h6 Tryz.underlying144 rfl (by kernel_rfl)) rfl ⟨rfl, hbl.out.trans (ho6.below (Nat.le_refl _))⟩
def chkR (a b : Nat) : Int := if b < a then 70 else 0
theorem checkR (a b : Nat) (w : World) :
  Calls Tryz.prog 125 #[.agg #[.int .u32 a, .int .u32 b]] w fun e w' => e = .returned (.int .i64 (chkR a b)) ∧ Below w.heap.size w w' := by
 by_cases h : b < a
 ·rw [show chkR a b = 70 from if_pos h]
  have h' : (b : Int) < (a : Int) := by omega
  clear h
  go_enter Tryz.func125, Tryz.ntmps125
  go_wp2
  go_ret
  exact ⟨rfl, belA⟩
 ·rw [show chkR a b = 0 from if_neg h]
  have h' : ¬ (b : Int) < (a : Int) := by omega
  clear h
  go_enter Tryz.func125, Tryz.ntmps125
  go_wp2
  go_ret
  exact ⟨rfl, belA⟩
theorem src1 (X : Bx) (w : World) (b : BdX X) :
  Calls Tryz.prog 124 #[.agg #[.int .u32 X.a.1, .int .u32 X.a.2, .int .u32 X.b.1, .int .u32 X.b.2, .int .u16 X.c.1, .int .u16 X.c.2, .int .u16 X.d.1, .int .u16 X.d.2, .int .u8 X.m.1, .int .u8 X.m.2]] w fun e w' => e = .returned (.int .i64 (chkR X.a.1 X.a.2)) ∧ Below w.heap.size w w' := by
 have hM := fun W => (checkR X.a.1 X.a.2 W)
 clear b
 go_enter Tryz.func124, Tryz.ntmps124
 go_wp2_with (fail)
 refine (hM _).mono ?_
 rintro e w1 ⟨rfl, hb1⟩
 go_wp2
 go_ret
 exact ⟨rfl, belA⟩
theorem dst1 (X : Bx) (w : World) (b : BdX X) :
  Calls Tryz.prog 135 #[.agg #[.int .u32 X.a.1, .int .u32 X.a.2, .int .u32 X.b.1, .int .u32 X.b.2, .int .u16 X.c.1, .int .u16 X.c.2, .int .u16 X.d.1, .int .u16 X.d.2, .int .u8 X.m.1, .int .u8 X.m.2]] w fun e w' => e = .returned (.int .i64 (chkR X.b.1 X.b.2)) ∧ Below w.heap.size w w' := by
 have hM := fun W => (checkR X.b.1 X.b.2 W)
 clear b
 go_enter Tryz.func135, Tryz.ntmps135
 go_wp2_with (fail)
 refine (hM _).mono ?_
 rintro e w1 ⟨rfl, hb1⟩
 go_wp2
 go_ret
 exact ⟨rfl, belA⟩
theorem sport1 (X : Bx) (w : World) (b : BdX X) :
  Calls Tryz.prog 141 #[.agg #[.int .u32 X.a.1, .int .u32 X.a.2, .int .u32 X.b.1, .int .u32 X.b.2, .int .u16 X.c.1, .int .u16 X.c.2, .int .u16 X.d.1, .int .u16 X.d.2, .int .u8 X.m.1, .int .u8 X.m.2]] w fun e w' => e = .returned (.int .i64 (chkS X.c.1 X.c.2)) ∧ Below w.heap.size w w' := by
 have hM := fun W => (checkS X.c.1 X.c.2 W)
 clear b
 go_enter Tryz.func141, Tryz.ntmps141
 go_wp2_with (fail)
 refine (hM _).mono ?_
 rintro e w1 ⟨rfl, hb1⟩
 go_wp2
 go_ret
 exact ⟨rfl, belA⟩
theorem dport1 (X : Bx) (w : World) (b : BdX X) :
  Calls Tryz.prog 150 #[.agg #[.int .u32 X.a.1, .int .u32 X.a.2, .int .u32 X.b.1, .int .u32 X.b.2, .int .u16 X.c.1, .int .u16 X.c.2, .int .u16 X.d.1, .int .u16 X.d.2, .int .u8 X.m.1, .int .u8 X.m.2]] w fun e w' => e = .returned (.int .i64 (chkS X.d.1 X.d.2)) ∧ Below w.heap.size w w' := by
 have hM := fun W => (checkS X.d.1 X.d.2 W)
 clear b
 go_enter Tryz.func150, Tryz.ntmps150
 go_wp2_with (fail)
 refine (hM _).mono ?_
 rintro e w1 ⟨rfl, hb1⟩
 go_wp2
 go_ret
 exact ⟨rfl, belA⟩
theorem proto1 (X : Bx) (w : World) (b : BdX X) :
  Calls Tryz.prog 156 #[.agg #[.int .u32 X.a.1, .int .u32 X.a.2, .int .u32 X.b.1, .int .u32 X.b.2, .int .u16 X.c.1, .int .u16 X.c.2, .int .u16 X.d.1, .int .u16 X.d.2, .int .u8 X.m.1, .int .u8 X.m.2]] w fun e w' => e = .returned (.int .i64 (chk X.m.1 X.m.2)) ∧ Below w.heap.size w w' := by
 have hM := fun W => (checkM X.m.1 X.m.2 W b.2.2.2.2.2.2.2.2.1 b.2.2.2.2.2.2.2.2.2)
 clear b
 go_enter Tryz.func156, Tryz.ntmps156
 go_wp2_with (fail)
 refine (hM _).mono ?_
 rintro e w1 ⟨rfl, hb1⟩
 go_wp2
 go_ret
 exact ⟨rfl, belA⟩
def brI (s : Nat × Nat) (x : Nat) : Nat := min (max x s.1) s.2
def brM (m : Nat × Nat) (x : Nat) : Nat := (x &&& (255 - m.2)) ||| m.1
theorem src3 (X : Bx) (h : Hd) (w : World) (b : BdX X) (o : OkH h) :
  Calls Tryz.prog 128 #[.agg #[.int .u32 h.s, .int .u32 h.d, .int .u16 h.p, .int .u16 h.q, .int .u8 h.r], .agg #[.int .u32 X.a.1, .int .u32 X.a.2, .int .u32 X.b.1, .int .u32 X.b.2, .int .u16 X.c.1, .int .u16 X.c.2, .int .u16 X.d.1, .int .u16 X.d.2, .int .u8 X.m.1, .int .u8 X.m.2]] w fun e w' => e = .returned (.agg #[.int .u32 ((⟨brI X.a h.s, h.d, h.p, h.q, h.r⟩ : Hd).s : Int), .int .u32 ((⟨brI X.a h.s, h.d, h.p, h.q, h.r⟩ : Hd).d : Int), .int .u16 ((⟨brI X.a h.s, h.d, h.p, h.q, h.r⟩ : Hd).p : Int), .int .u16 ((⟨brI X.a h.s, h.d, h.p, h.q, h.r⟩ : Hd).q : Int), .int .u8 ((⟨brI X.a h.s, h.d, h.p, h.q, h.r⟩ : Hd).r : Int)]) ∧ Below w.heap.size w w' := by
 obtain ⟨z, hz⟩ : ∃ z, z = brI X.a h.s := ⟨_, rfl⟩
 rw [← hz]
 clear b o
 have HZ : Hid (z = brI X.a h.s) := hz
 clear hz
 by_cases h1 : h.s < X.a.1
 ·by_cases h2 : X.a.2 < X.a.1
  ·obtain rfl : z = X.a.2 := by rw [HZ.out]; unfold brI; omega
   go_enter Tryz.func128, Tryz.ntmps128
   go_wp2
   exact bodyPost_ret (by simp [results, Tryz.results128, go_sem]) rfl ⟨rfl, belA⟩
  ·obtain rfl : z = X.a.1 := by rw [HZ.out]; unfold brI; omega
   go_enter Tryz.func128, Tryz.ntmps128
   go_wp2
   exact bodyPost_ret (by simp [results, Tryz.results128, go_sem]) rfl ⟨rfl, belA⟩
 ·by_cases h2 : X.a.2 < h.s
  ·obtain rfl : z = X.a.2 := by rw [HZ.out]; unfold brI; omega
   go_enter Tryz.func128, Tryz.ntmps128
   go_wp2
   exact bodyPost_ret (by simp [results, Tryz.results128, go_sem]) rfl ⟨rfl, belA⟩
  ·obtain rfl : z = h.s := by rw [HZ.out]; unfold brI; omega
   go_enter Tryz.func128, Tryz.ntmps128
   go_wp2
   exact bodyPost_ret (by simp [results, Tryz.results128, go_sem]) rfl ⟨rfl, belA⟩
theorem dst3 (X : Bx) (h : Hd) (w : World) (b : BdX X) (o : OkH h) :
  Calls Tryz.prog 137 #[.agg #[.int .u32 h.s, .int .u32 h.d, .int .u16 h.p, .int .u16 h.q, .int .u8 h.r], .agg #[.int .u32 X.a.1, .int .u32 X.a.2, .int .u32 X.b.1, .int .u32 X.b.2, .int .u16 X.c.1, .int .u16 X.c.2, .int .u16 X.d.1, .int .u16 X.d.2, .int .u8 X.m.1, .int .u8 X.m.2]] w fun e w' => e = .returned (.agg #[.int .u32 ((⟨h.s, brI X.b h.d, h.p, h.q, h.r⟩ : Hd).s : Int), .int .u32 ((⟨h.s, brI X.b h.d, h.p, h.q, h.r⟩ : Hd).d : Int), .int .u16 ((⟨h.s, brI X.b h.d, h.p, h.q, h.r⟩ : Hd).p : Int), .int .u16 ((⟨h.s, brI X.b h.d, h.p, h.q, h.r⟩ : Hd).q : Int), .int .u8 ((⟨h.s, brI X.b h.d, h.p, h.q, h.r⟩ : Hd).r : Int)]) ∧ Below w.heap.size w w' := by
 obtain ⟨z, hz⟩ : ∃ z, z = brI X.b h.d := ⟨_, rfl⟩
 rw [← hz]
 clear b o
 have HZ : Hid (z = brI X.b h.d) := hz
 clear hz
 by_cases h1 : h.d < X.b.1
 ·by_cases h2 : X.b.2 < X.b.1
  ·obtain rfl : z = X.b.2 := by rw [HZ.out]; unfold brI; omega
   go_enter Tryz.func137, Tryz.ntmps137
   go_wp2
   exact bodyPost_ret (by simp [results, Tryz.results137, go_sem]) rfl ⟨rfl, belA⟩
  ·obtain rfl : z = X.b.1 := by rw [HZ.out]; unfold brI; omega
   go_enter Tryz.func137, Tryz.ntmps137
   go_wp2
   exact bodyPost_ret (by simp [results, Tryz.results137, go_sem]) rfl ⟨rfl, belA⟩
 ·by_cases h2 : X.b.2 < h.d
  ·obtain rfl : z = X.b.2 := by rw [HZ.out]; unfold brI; omega
   go_enter Tryz.func137, Tryz.ntmps137
   go_wp2
   exact bodyPost_ret (by simp [results, Tryz.results137, go_sem]) rfl ⟨rfl, belA⟩
  ·obtain rfl : z = h.d := by rw [HZ.out]; unfold brI; omega
   go_enter Tryz.func137, Tryz.ntmps137
   go_wp2
   exact bodyPost_ret (by simp [results, Tryz.results137, go_sem]) rfl ⟨rfl, belA⟩
theorem sport3 (X : Bx) (h : Hd) (w : World) (b : BdX X) (o : OkH h) :
  Calls Tryz.prog 144 #[.agg #[.int .u32 h.s, .int .u32 h.d, .int .u16 h.p, .int .u16 h.q, .int .u8 h.r], .agg #[.int .u32 X.a.1, .int .u32 X.a.2, .int .u32 X.b.1, .int .u32 X.b.2, .int .u16 X.c.1, .int .u16 X.c.2, .int .u16 X.d.1, .int .u16 X.d.2, .int .u8 X.m.1, .int .u8 X.m.2]] w fun e w' => e = .returned (.agg #[.int .u32 ((⟨h.s, h.d, brI X.c h.p, h.q, h.r⟩ : Hd).s : Int), .int .u32 ((⟨h.s, h.d, brI X.c h.p, h.q, h.r⟩ : Hd).d : Int), .int .u16 ((⟨h.s, h.d, brI X.c h.p, h.q, h.r⟩ : Hd).p : Int), .int .u16 ((⟨h.s, h.d, brI X.c h.p, h.q, h.r⟩ : Hd).q : Int), .int .u8 ((⟨h.s, h.d, brI X.c h.p, h.q, h.r⟩ : Hd).r : Int)]) ∧ Below w.heap.size w w' := by
 obtain ⟨z, hz⟩ : ∃ z, z = brI X.c h.p := ⟨_, rfl⟩
 rw [← hz]
 clear b o
 have HZ : Hid (z = brI X.c h.p) := hz
 clear hz
 by_cases h1 : h.p < X.c.1
 ·by_cases h2 : X.c.2 < X.c.1
  ·obtain rfl : z = X.c.2 := by rw [HZ.out]; unfold brI; omega
   go_enter Tryz.func144, Tryz.ntmps144
   go_wp2
   exact bodyPost_ret (by simp [results, Tryz.results144, go_sem]) rfl ⟨rfl, belA⟩
  ·obtain rfl : z = X.c.1 := by rw [HZ.out]; unfold brI; omega
   go_enter Tryz.func144, Tryz.ntmps144
   go_wp2
   exact bodyPost_ret (by simp [results, Tryz.results144, go_sem]) rfl ⟨rfl, belA⟩
 ·by_cases h2 : X.c.2 < h.p
  ·obtain rfl : z = X.c.2 := by rw [HZ.out]; unfold brI; omega
   go_enter Tryz.func144, Tryz.ntmps144
   go_wp2
   exact bodyPost_ret (by simp [results, Tryz.results144, go_sem]) rfl ⟨rfl, belA⟩
  ·obtain rfl : z = h.p := by rw [HZ.out]; unfold brI; omega
   go_enter Tryz.func144, Tryz.ntmps144
   go_wp2
   exact bodyPost_ret (by simp [results, Tryz.results144, go_sem]) rfl ⟨rfl, belA⟩
theorem dport3 (X : Bx) (h : Hd) (w : World) (b : BdX X) (o : OkH h) :
  Calls Tryz.prog 152 #[.agg #[.int .u32 h.s, .int .u32 h.d, .int .u16 h.p, .int .u16 h.q, .int .u8 h.r], .agg #[.int .u32 X.a.1, .int .u32 X.a.2, .int .u32 X.b.1, .int .u32 X.b.2, .int .u16 X.c.1, .int .u16 X.c.2, .int .u16 X.d.1, .int .u16 X.d.2, .int .u8 X.m.1, .int .u8 X.m.2]] w fun e w' => e = .returned (.agg #[.int .u32 ((⟨h.s, h.d, h.p, brI X.d h.q, h.r⟩ : Hd).s : Int), .int .u32 ((⟨h.s, h.d, h.p, brI X.d h.q, h.r⟩ : Hd).d : Int), .int .u16 ((⟨h.s, h.d, h.p, brI X.d h.q, h.r⟩ : Hd).p : Int), .int .u16 ((⟨h.s, h.d, h.p, brI X.d h.q, h.r⟩ : Hd).q : Int), .int .u8 ((⟨h.s, h.d, h.p, brI X.d h.q, h.r⟩ : Hd).r : Int)]) ∧ Below w.heap.size w w' := by
 obtain ⟨z, hz⟩ : ∃ z, z = brI X.d h.q := ⟨_, rfl⟩
 rw [← hz]
 clear b o
 have HZ : Hid (z = brI X.d h.q) := hz
 clear hz
 by_cases h1 : h.q < X.d.1
 ·by_cases h2 : X.d.2 < X.d.1
  ·obtain rfl : z = X.d.2 := by rw [HZ.out]; unfold brI; omega
   go_enter Tryz.func152, Tryz.ntmps152
   go_wp2
   exact bodyPost_ret (by simp [results, Tryz.results152, go_sem]) rfl ⟨rfl, belA⟩
  ·obtain rfl : z = X.d.1 := by rw [HZ.out]; unfold brI; omega
   go_enter Tryz.func152, Tryz.ntmps152
   go_wp2
   exact bodyPost_ret (by simp [results, Tryz.results152, go_sem]) rfl ⟨rfl, belA⟩
 ·by_cases h2 : X.d.2 < h.q
  ·obtain rfl : z = X.d.2 := by rw [HZ.out]; unfold brI; omega
   go_enter Tryz.func152, Tryz.ntmps152
   go_wp2
   exact bodyPost_ret (by simp [results, Tryz.results152, go_sem]) rfl ⟨rfl, belA⟩
  ·obtain rfl : z = h.q := by rw [HZ.out]; unfold brI; omega
   go_enter Tryz.func152, Tryz.ntmps152
   go_wp2
   exact bodyPost_ret (by simp [results, Tryz.results152, go_sem]) rfl ⟨rfl, belA⟩
theorem proto3 (X : Bx) (h : Hd) (w : World) (b : BdX X) (o : OkH h) :
  Calls Tryz.prog 159 #[.agg #[.int .u32 h.s, .int .u32 h.d, .int .u16 h.p, .int .u16 h.q, .int .u8 h.r], .agg #[.int .u32 X.a.1, .int .u32 X.a.2, .int .u32 X.b.1, .int .u32 X.b.2, .int .u16 X.c.1, .int .u16 X.c.2, .int .u16 X.d.1, .int .u16 X.d.2, .int .u8 X.m.1, .int .u8 X.m.2]] w fun e w' => e = .returned (.agg #[.int .u32 ((⟨h.s, h.d, h.p, h.q, brM X.m h.r⟩ : Hd).s : Int), .int .u32 ((⟨h.s, h.d, h.p, h.q, brM X.m h.r⟩ : Hd).d : Int), .int .u16 ((⟨h.s, h.d, h.p, h.q, brM X.m h.r⟩ : Hd).p : Int), .int .u16 ((⟨h.s, h.d, h.p, h.q, brM X.m h.r⟩ : Hd).q : Int), .int .u8 ((⟨h.s, h.d, h.p, h.q, brM X.m h.r⟩ : Hd).r : Int)]) ∧ Below w.heap.size w w' := by
 have e1 : bits .andNot .u8 (h.r : Int) (X.m.2 : Int) = ((h.r &&& (255 - X.m.2) : Nat) : Int) := u8_andNot_nat _ _ o.2.2.2.2 b.2.2.2.2.2.2.2.2.2
 have e2 : bits .or .u8 ((h.r &&& (255 - X.m.2) : Nat) : Int) (X.m.1 : Int) = ((brM X.m h.r : Nat) : Int) := u8_or_nat _ _ (and_lt o.2.2.2.2) b.2.2.2.2.2.2.2.2.1
 obtain ⟨z, hz⟩ : ∃ z, z = brM X.m h.r := ⟨_, rfl⟩
 rw [← hz] at e2 ⊢
 generalize h.r &&& (255 - X.m.2) = y at e1 e2
 clear b o hz
 go_enter Tryz.func159, Tryz.ntmps159
 go_wp2
 exact bodyPost_ret (by simp [results, Tryz.results159, go_sem]) rfl ⟨rfl, belA⟩
theorem idx_src (W : World) : (Instr.index 144 (.agg #[.func (.func 124) #[] #[], .func (.func 126) #[] #[], .func (.func 128) #[] #[], .func (.func 129) #[] #[], .func (.func 131) #[] #[], .func (.func 135) #[] #[], .func (.func 136) #[] #[], .func (.func 137) #[] #[], .func (.func 138) #[] #[], .func (.func 139) #[] #[], .func (.func 141) #[] #[], .func (.func 142) #[] #[], .func (.func 144) #[] #[], .func (.func 145) #[] #[], .func (.func 146) #[] #[], .func (.func 150) #[] #[], .func (.func 151) #[] #[], .func (.func 152) #[] #[], .func (.func 153) #[] #[], .func (.func 154) #[] #[], .func (.func 156) #[] #[], .func (.func 157) #[] #[], .func (.func 159) #[] #[], .func (.func 160) #[] #[], .func (.func 161) #[] #[]]) (.int .i64 0)).run Tryz.prog W = .ok (.agg #[.func (.func 124) #[] #[], .func (.func 126) #[] #[], .func (.func 128) #[] #[], .func (.func 129) #[] #[], .func (.func 131) #[] #[]]) W := by
 simp [Instr.index, run_underlying Tryz.underlying144, asIntOf, go_sem]
theorem idx_dst (W : World) : (Instr.index 144 (.agg #[.func (.func 124) #[] #[], .func (.func 126) #[] #[], .func (.func 128) #[] #[], .func (.func 129) #[] #[], .func (.func 131) #[] #[], .func (.func 135) #[] #[], .func (.func 136) #[] #[], .func (.func 137) #[] #[], .func (.func 138) #[] #[], .func (.func 139) #[] #[], .func (.func 141) #[] #[], .func (.func 142) #[] #[], .func (.func 144) #[] #[], .func (.func 145) #[] #[], .func (.func 146) #[] #[], .func (.func 150) #[] #[], .func (.func 151) #[] #[], .func (.func 152) #[] #[], .func (.func 153) #[] #[], .func (.func 154) #[] #[], .func (.func 156) #[] #[], .func (.func 157) #[] #[], .func (.func 159) #[] #[], .func (.func 160) #[] #[], .func (.func 161) #[] #[]]) (.int .i64 1)).run Tryz.prog W = .ok (.agg #[.func (.func 135) #[] #[], .func (.func 136) #[] #[], .func (.func 137) #[] #[], .func (.func 138) #[] #[], .func (.func 139) #[] #[]]) W := by
 simp [Instr.index, run_underlying Tryz.underlying144, asIntOf, go_sem]
theorem idx_sport (W : World) : (Instr.index 144 (.agg #[.func (.func 124) #[] #[], .func (.func 126) #[] #[], .func (.func 128) #[] #[], .func (.func 129) #[] #[], .func (.func 131) #[] #[], .func (.func 135) #[] #[], .func (.func 136) #[] #[], .func (.func 137) #[] #[], .func (.func 138) #[] #[], .func (.func 139) #[] #[], .func (.func 141) #[] #[], .func (.func 142) #[] #[], .func (.func 144) #[] #[], .func (.func 145) #[] #[], .func (.func 146) #[] #[], .func (.func 150) #[] #[], .func (.func 151) #[] #[], .func (.func 152) #[] #[], .func (.func 153) #[] #[], .func (.func 154) #[] #[], .func (.func 156) #[] #[], .func (.func 157) #[] #[], .func (.func 159) #[] #[], .func (.func 160) #[] #[], .func (.func 161) #[] #[]]) (.int .i64 2)).run Tryz.prog W = .ok (.agg #[.func (.func 141) #[] #[], .func (.func 142) #[] #[], .func (.func 144) #[] #[], .func (.func 145) #[] #[], .func (.func 146) #[] #[]]) W := by
 simp [Instr.index, run_underlying Tryz.underlying144, asIntOf, go_sem]
theorem idx_dport (W : World) : (Instr.index 144 (.agg #[.func (.func 124) #[] #[], .func (.func 126) #[] #[], .func (.func 128) #[] #[], .func (.func 129) #[] #[], .func (.func 131) #[] #[], .func (.func 135) #[] #[], .func (.func 136) #[] #[], .func (.func 137) #[] #[], .func (.func 138) #[] #[], .func (.func 139) #[] #[], .func (.func 141) #[] #[], .func (.func 142) #[] #[], .func (.func 144) #[] #[], .func (.func 145) #[] #[], .func (.func 146) #[] #[], .func (.func 150) #[] #[], .func (.func 151) #[] #[], .func (.func 152) #[] #[], .func (.func 153) #[] #[], .func (.func 154) #[] #[], .func (.func 156) #[] #[], .func (.func 157) #[] #[], .func (.func 159) #[] #[], .func (.func 160) #[] #[], .func (.func 161) #[] #[]]) (.int .i64 3)).run Tryz.prog W = .ok (.agg #[.func (.func 150) #[] #[], .func (.func 151) #[] #[], .func (.func 152) #[] #[], .func (.func 153) #[] #[], .func (.func 154) #[] #[]]) W := by
 simp [Instr.index, run_underlying Tryz.underlying144, asIntOf, go_sem]
theorem idx_proto (W : World) : (Instr.index 144 (.agg #[.func (.func 124) #[] #[], .func (.func 126) #[] #[], .func (.func 128) #[] #[], .func (.func 129) #[] #[], .func (.func 131) #[] #[], .func (.func 135) #[] #[], .func (.func 136) #[] #[], .func (.func 137) #[] #[], .func (.func 138) #[] #[], .func (.func 139) #[] #[], .func (.func 141) #[] #[], .func (.func 142) #[] #[], .func (.func 144) #[] #[], .func (.func 145) #[] #[], .func (.func 146) #[] #[], .func (.func 150) #[] #[], .func (.func 151) #[] #[], .func (.func 152) #[] #[], .func (.func 153) #[] #[], .func (.func 154) #[] #[], .func (.func 156) #[] #[], .func (.func 157) #[] #[], .func (.func 159) #[] #[], .func (.func 160) #[] #[], .func (.func 161) #[] #[]]) (.int .i64 4)).run Tryz.prog W = .ok (.agg #[.func (.func 156) #[] #[], .func (.func 157) #[] #[], .func (.func 159) #[] #[], .func (.func 160) #[] #[], .func (.func 161) #[] #[]]) W := by
 simp [Instr.index, run_underlying Tryz.underlying144, asIntOf, go_sem]
end Go.Proofs.YtgokmkholjfhbaaGreat.Xb

