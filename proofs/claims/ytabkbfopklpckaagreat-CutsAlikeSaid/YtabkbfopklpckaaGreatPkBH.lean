/-
  PkBH: BxF BxP, one behind the other (tools/pack.py).
-/
import Derived.Test.YtabkbfopklpckaaGreatPkAN
import Derived.Test.YtabkbfopklpckaaGreatPkAD
import Derived.Laws.EntriesVeiled
import Derived.Test.YtabkbfopklpckaaGreatPkAE
import Derived.Test.YtabkbfopklpckaaGreatPkAF
import Derived.Test.YtabkbfopklpckaaGreatPkAA
set_option linter.unusedVariables false
set_option linter.unusedSimpArgs false
namespace Go.Proofs.YtabkbfopklpckaaGreat.Xb
open Go.RowKit
theorem srcX (w : World) :
  Calls Tryz.prog 109 #[] w fun e w' => e = .returned (.agg #[.func (.func 134) #[] #[], .func (.func 136) #[] #[], .func (.func 138) #[] #[], .func (.func 139) #[] #[], .func (.func 141) #[] #[]]) ∧ Below w.heap.size w w' := by
 go_enter Tryz.func109, Tryz.ntmps109
 go_wp2
 exact bodyPost_ret (v := .agg #[.func (.func 134) #[] #[], .func (.func 136) #[] #[], .func (.func 138) #[] #[], .func (.func 139) #[] #[], .func (.func 141) #[] #[]]) (by simp [results, Tryz.results109, go_sem]) rfl ⟨rfl, by (repeat (first | assumption | exact Below.refl _ _ | refine Below.drew ?_ | refine bel_drewN ?_ _ | refine Below.setCell ?_ (by first | omega | (simp; done) | (simp; omega)) _ | refine Below.alloc ?_ (by first | omega | (simp; done) | (simp; omega)) _ | refine bel_of ?_ (by assumption)))⟩
theorem dstX (w : World) :
  Calls Tryz.prog 110 #[] w fun e w' => e = .returned (.agg #[.func (.func 145) #[] #[], .func (.func 146) #[] #[], .func (.func 147) #[] #[], .func (.func 148) #[] #[], .func (.func 149) #[] #[]]) ∧ Below w.heap.size w w' := by
 go_enter Tryz.func110, Tryz.ntmps110
 go_wp2
 exact bodyPost_ret (v := .agg #[.func (.func 145) #[] #[], .func (.func 146) #[] #[], .func (.func 147) #[] #[], .func (.func 148) #[] #[], .func (.func 149) #[] #[]]) (by simp [results, Tryz.results110, go_sem]) rfl ⟨rfl, by (repeat (first | assumption | exact Below.refl _ _ | refine Below.drew ?_ | refine bel_drewN ?_ _ | refine Below.setCell ?_ (by first | omega | (simp; done) | (simp; omega)) _ | refine Below.alloc ?_ (by first | omega | (simp; done) | (simp; omega)) _ | refine bel_of ?_ (by assumption)))⟩
theorem sportX (w : World) :
  Calls Tryz.prog 111 #[] w fun e w' => e = .returned (.agg #[.func (.func 151) #[] #[], .func (.func 152) #[] #[], .func (.func 154) #[] #[], .func (.func 155) #[] #[], .func (.func 156) #[] #[]]) ∧ Below w.heap.size w w' := by
 go_enter Tryz.func111, Tryz.ntmps111
 go_wp2
 exact bodyPost_ret (v := .agg #[.func (.func 151) #[] #[], .func (.func 152) #[] #[], .func (.func 154) #[] #[], .func (.func 155) #[] #[], .func (.func 156) #[] #[]]) (by simp [results, Tryz.results111, go_sem]) rfl ⟨rfl, by (repeat (first | assumption | exact Below.refl _ _ | refine Below.drew ?_ | refine bel_drewN ?_ _ | refine Below.setCell ?_ (by first | omega | (simp; done) | (simp; omega)) _ | refine Below.alloc ?_ (by first | omega | (simp; done) | (simp; omega)) _ | refine bel_of ?_ (by assumption)))⟩
theorem dportX (w : World) :
  Calls Tryz.prog 112 #[] w fun e w' => e = .returned (.agg #[.func (.func 160) #[] #[], .func (.func 161) #[] #[], .func (.func 162) #[] #[], .func (.func 163) #[] #[], .func (.func 164) #[] #[]]) ∧ Below w.heap.size w w' := by
 go_enter Tryz.func112, Tryz.ntmps112
 go_wp2
 exact bodyPost_ret (v := .agg #[.func (.func 160) #[] #[], .func (.func 161) #[] #[], .func (.func 162) #[] #[], .func (.func 163) #[] #[], .func (.func 164) #[] #[]]) (by simp [results, Tryz.results112, go_sem]) rfl ⟨rfl, by (repeat (first | assumption | exact Below.refl _ _ | refine Below.drew ?_ | refine bel_drewN ?_ _ | refine Below.setCell ?_ (by first | omega | (simp; done) | (simp; omega)) _ | refine Below.alloc ?_ (by first | omega | (simp; done) | (simp; omega)) _ | refine bel_of ?_ (by assumption)))⟩
theorem protoX (w : World) :
  Calls Tryz.prog 113 #[] w fun e w' => e = .returned (.agg #[.func (.func 166) #[] #[], .func (.func 167) #[] #[], .func (.func 169) #[] #[], .func (.func 170) #[] #[], .func (.func 171) #[] #[]]) ∧ Below w.heap.size w w' := by
 go_enter Tryz.func113, Tryz.ntmps113
 go_wp2
 exact bodyPost_ret (v := .agg #[.func (.func 166) #[] #[], .func (.func 167) #[] #[], .func (.func 169) #[] #[], .func (.func 170) #[] #[], .func (.func 171) #[] #[]]) (by simp [results, Tryz.results113, go_sem]) rfl ⟨rfl, by (repeat (first | assumption | exact Below.refl _ _ | refine Below.drew ?_ | refine bel_drewN ?_ _ | refine Below.setCell ?_ (by first | omega | (simp; done) | (simp; omega)) _ | refine Below.alloc ?_ (by first | omega | (simp; done) | (simp; omega)) _ | refine bel_of ?_ (by assumption)))⟩
theorem fieldsX (w : World) :
  Calls Tryz.prog 76 #[] w fun e w' => e = .returned (.agg #[.func (.func 134) #[] #[], .func (.func 136) #[] #[], .func (.func 138) #[] #[], .func (.func 139) #[] #[], .func (.func 141) #[] #[], .func (.func 145) #[] #[], .func (.func 146) #[] #[], .func (.func 147) #[] #[], .func (.func 148) #[] #[], .func (.func 149) #[] #[], .func (.func 151) #[] #[], .func (.func 152) #[] #[], .func (.func 154) #[] #[], .func (.func 155) #[] #[], .func (.func 156) #[] #[], .func (.func 160) #[] #[], .func (.func 161) #[] #[], .func (.func 162) #[] #[], .func (.func 163) #[] #[], .func (.func 164) #[] #[], .func (.func 166) #[] #[], .func (.func 167) #[] #[], .func (.func 169) #[] #[], .func (.func 170) #[] #[], .func (.func 171) #[] #[]]) ∧ Below w.heap.size w w' := by
 go_enter Tryz.func76, Tryz.ntmps76
 go_wp2_with (fail)
 refine (srcX _).mono ?_
 rintro e w1 ⟨rfl, hb1⟩
 go_wp2_with (fail)
 refine (dstX _).mono ?_
 rintro e w2 ⟨rfl, hb2⟩
 go_wp2_with (fail)
 refine (sportX _).mono ?_
 rintro e w3 ⟨rfl, hb3⟩
 go_wp2_with (fail)
 refine (dportX _).mono ?_
 rintro e w4 ⟨rfl, hb4⟩
 go_wp2_with (fail)
 refine (protoX _).mono ?_
 rintro e w5 ⟨rfl, hb5⟩
 have hz1 := hb1.size
 have hz2 := hb2.size
 have hz3 := hb3.size
 have hz4 := hb4.size
 have hz5 := hb5.size
 simp at hz1
 have hK : w5.heap[w.heap.size]? = some (.cells #[.nilFunc, .nilFunc, .nilFunc, .nilFunc, .nilFunc, .nilFunc, .nilFunc, .nilFunc, .nilFunc, .nilFunc, .nilFunc, .nilFunc, .nilFunc, .nilFunc, .nilFunc, .nilFunc, .nilFunc, .nilFunc, .nilFunc, .nilFunc, .nilFunc, .nilFunc, .nilFunc, .nilFunc, .nilFunc] 149 (0, 0)) := blk_on (blk_on (blk_on (blk_on (blk_on (blk_new w _) hb1) hb2) hb3) hb4) hb5
 have hbl : Hid (Below w.heap.size w w5) := ((((((Below.refl _ w).alloc (Nat.le_refl _) _).trans (hb1.mono (by simp))).trans (hb2.mono (by omega))).trans (hb3.mono (by omega))).trans (hb4.mono (by omega))).trans (hb5.mono (by omega))
 clear hb1 hb2 hb3 hb4 hb5
 go_wp2_with (refine wpList_store_blk rfl 149 (.tmp 0) (.tmp 6) rfl w.heap.size 0 #[.func (.func 134) #[] #[], .func (.func 136) #[] #[], .func (.func 138) #[] #[], .func (.func 139) #[] #[], .func (.func 141) #[] #[], .func (.func 145) #[] #[], .func (.func 146) #[] #[], .func (.func 147) #[] #[], .func (.func 148) #[] #[], .func (.func 149) #[] #[], .func (.func 151) #[] #[], .func (.func 152) #[] #[], .func (.func 154) #[] #[], .func (.func 155) #[] #[], .func (.func 156) #[] #[], .func (.func 160) #[] #[], .func (.func 161) #[] #[], .func (.func 162) #[] #[], .func (.func 163) #[] #[], .func (.func 164) #[] #[], .func (.func 166) #[] #[], .func (.func 167) #[] #[], .func (.func 169) #[] #[], .func (.func 170) #[] #[], .func (.func 171) #[] #[]] #[.func (.func 134) #[] #[], .func (.func 136) #[] #[], .func (.func 138) #[] #[], .func (.func 139) #[] #[], .func (.func 141) #[] #[], .func (.func 145) #[] #[], .func (.func 146) #[] #[], .func (.func 147) #[] #[], .func (.func 148) #[] #[], .func (.func 149) #[] #[], .func (.func 151) #[] #[], .func (.func 152) #[] #[], .func (.func 154) #[] #[], .func (.func 155) #[] #[], .func (.func 156) #[] #[], .func (.func 160) #[] #[], .func (.func 161) #[] #[], .func (.func 162) #[] #[], .func (.func 163) #[] #[], .func (.func 164) #[] #[], .func (.func 166) #[] #[], .func (.func 167) #[] #[], .func (.func 169) #[] #[], .func (.func 170) #[] #[], .func (.func 171) #[] #[]] rfl rfl 149 _ hK (Nat.le_refl _) rfl (by kernel_rfl) rfl ?_; intro w6 h6 ho6)
 exact bodyPost_ret (results_blk Tryz.results76 rfl h6 Tryz.underlying149 rfl (by kernel_rfl)) rfl ⟨rfl, hbl.out.trans (ho6.below (Nat.le_refl _))⟩
def chkR (a b : Nat) : Int := if b < a then 70 else 0
theorem checkR (a b : Nat) (w : World) :
  Calls Tryz.prog 135 #[.agg #[.int .u32 a, .int .u32 b]] w fun e w' => e = .returned (.int .i64 (chkR a b)) ∧ Below w.heap.size w w' := by
 by_cases h : b < a
 ·rw [show chkR a b = 70 from if_pos h]
  have h' : (b : Int) < (a : Int) := by omega
  clear h
  go_enter Tryz.func135, Tryz.ntmps135
  go_wp2
  go_ret
  exact ⟨rfl, by (repeat (first | assumption | exact Below.refl _ _ | refine Below.drew ?_ | refine bel_drewN ?_ _ | refine Below.setCell ?_ (by first | omega | (simp; done) | (simp; omega)) _ | refine Below.alloc ?_ (by first | omega | (simp; done) | (simp; omega)) _ | refine bel_of ?_ (by assumption)))⟩
 ·rw [show chkR a b = 0 from if_neg h]
  have h' : ¬ (b : Int) < (a : Int) := by omega
  clear h
  go_enter Tryz.func135, Tryz.ntmps135
  go_wp2
  go_ret
  exact ⟨rfl, by (repeat (first | assumption | exact Below.refl _ _ | refine Below.drew ?_ | refine bel_drewN ?_ _ | refine Below.setCell ?_ (by first | omega | (simp; done) | (simp; omega)) _ | refine Below.alloc ?_ (by first | omega | (simp; done) | (simp; omega)) _ | refine bel_of ?_ (by assumption)))⟩
theorem src1 (X : Bx) (w : World) (b : BdX X) :
  Calls Tryz.prog 134 #[.agg #[.int .u32 X.a.1, .int .u32 X.a.2, .int .u32 X.b.1, .int .u32 X.b.2, .int .u16 X.c.1, .int .u16 X.c.2, .int .u16 X.d.1, .int .u16 X.d.2, .int .u8 X.m.1, .int .u8 X.m.2]] w fun e w' => e = .returned (.int .i64 (chkR X.a.1 X.a.2)) ∧ Below w.heap.size w w' := by
 have hM := fun W => (checkR X.a.1 X.a.2 W)
 clear b
 go_enter Tryz.func134, Tryz.ntmps134
 go_wp2_with (fail)
 refine (hM _).mono ?_
 rintro e w1 ⟨rfl, hb1⟩
 go_wp2
 go_ret
 exact ⟨rfl, by (repeat (first | assumption | exact Below.refl _ _ | refine Below.drew ?_ | refine bel_drewN ?_ _ | refine Below.setCell ?_ (by first | omega | (simp; done) | (simp; omega)) _ | refine Below.alloc ?_ (by first | omega | (simp; done) | (simp; omega)) _ | refine bel_of ?_ (by assumption)))⟩
theorem dst1 (X : Bx) (w : World) (b : BdX X) :
  Calls Tryz.prog 145 #[.agg #[.int .u32 X.a.1, .int .u32 X.a.2, .int .u32 X.b.1, .int .u32 X.b.2, .int .u16 X.c.1, .int .u16 X.c.2, .int .u16 X.d.1, .int .u16 X.d.2, .int .u8 X.m.1, .int .u8 X.m.2]] w fun e w' => e = .returned (.int .i64 (chkR X.b.1 X.b.2)) ∧ Below w.heap.size w w' := by
 have hM := fun W => (checkR X.b.1 X.b.2 W)
 clear b
 go_enter Tryz.func145, Tryz.ntmps145
 go_wp2_with (fail)
 refine (hM _).mono ?_
 rintro e w1 ⟨rfl, hb1⟩
 go_wp2
 go_ret
 exact ⟨rfl, by (repeat (first | assumption | exact Below.refl _ _ | refine Below.drew ?_ | refine bel_drewN ?_ _ | refine Below.setCell ?_ (by first | omega | (simp; done) | (simp; omega)) _ | refine Below.alloc ?_ (by first | omega | (simp; done) | (simp; omega)) _ | refine bel_of ?_ (by assumption)))⟩
theorem sport1 (X : Bx) (w : World) (b : BdX X) :
  Calls Tryz.prog 151 #[.agg #[.int .u32 X.a.1, .int .u32 X.a.2, .int .u32 X.b.1, .int .u32 X.b.2, .int .u16 X.c.1, .int .u16 X.c.2, .int .u16 X.d.1, .int .u16 X.d.2, .int .u8 X.m.1, .int .u8 X.m.2]] w fun e w' => e = .returned (.int .i64 (chkS X.c.1 X.c.2)) ∧ Below w.heap.size w w' := by
 have hM := fun W => (checkS X.c.1 X.c.2 W)
 clear b
 go_enter Tryz.func151, Tryz.ntmps151
 go_wp2_with (fail)
 refine (hM _).mono ?_
 rintro e w1 ⟨rfl, hb1⟩
 go_wp2
 go_ret
 exact ⟨rfl, by (repeat (first | assumption | exact Below.refl _ _ | refine Below.drew ?_ | refine bel_drewN ?_ _ | refine Below.setCell ?_ (by first | omega | (simp; done) | (simp; omega)) _ | refine Below.alloc ?_ (by first | omega | (simp; done) | (simp; omega)) _ | refine bel_of ?_ (by assumption)))⟩
theorem dport1 (X : Bx) (w : World) (b : BdX X) :
  Calls Tryz.prog 160 #[.agg #[.int .u32 X.a.1, .int .u32 X.a.2, .int .u32 X.b.1, .int .u32 X.b.2, .int .u16 X.c.1, .int .u16 X.c.2, .int .u16 X.d.1, .int .u16 X.d.2, .int .u8 X.m.1, .int .u8 X.m.2]] w fun e w' => e = .returned (.int .i64 (chkS X.d.1 X.d.2)) ∧ Below w.heap.size w w' := by
 have hM := fun W => (checkS X.d.1 X.d.2 W)
 clear b
 go_enter Tryz.func160, Tryz.ntmps160
 go_wp2_with (fail)
 refine (hM _).mono ?_
 rintro e w1 ⟨rfl, hb1⟩
 go_wp2
 go_ret
 exact ⟨rfl, by (repeat (first | assumption | exact Below.refl _ _ | refine Below.drew ?_ | refine bel_drewN ?_ _ | refine Below.setCell ?_ (by first | omega | (simp; done) | (simp; omega)) _ | refine Below.alloc ?_ (by first | omega | (simp; done) | (simp; omega)) _ | refine bel_of ?_ (by assumption)))⟩
theorem proto1 (X : Bx) (w : World) (b : BdX X) :
  Calls Tryz.prog 166 #[.agg #[.int .u32 X.a.1, .int .u32 X.a.2, .int .u32 X.b.1, .int .u32 X.b.2, .int .u16 X.c.1, .int .u16 X.c.2, .int .u16 X.d.1, .int .u16 X.d.2, .int .u8 X.m.1, .int .u8 X.m.2]] w fun e w' => e = .returned (.int .i64 (chk X.m.1 X.m.2)) ∧ Below w.heap.size w w' := by
 have hM := fun W => (checkM X.m.1 X.m.2 W b.2.2.2.2.2.2.2.2.1 b.2.2.2.2.2.2.2.2.2)
 clear b
 go_enter Tryz.func166, Tryz.ntmps166
 go_wp2_with (fail)
 refine (hM _).mono ?_
 rintro e w1 ⟨rfl, hb1⟩
 go_wp2
 go_ret
 exact ⟨rfl, by (repeat (first | assumption | exact Below.refl _ _ | refine Below.drew ?_ | refine bel_drewN ?_ _ | refine Below.setCell ?_ (by first | omega | (simp; done) | (simp; omega)) _ | refine Below.alloc ?_ (by first | omega | (simp; done) | (simp; omega)) _ | refine bel_of ?_ (by assumption)))⟩
def brI (s : Nat × Nat) (x : Nat) : Nat := min (max x s.1) s.2
def brM (m : Nat × Nat) (x : Nat) : Nat := (x &&& (255 - m.2)) ||| m.1
theorem src3 (X : Bx) (h : Hd) (w : World) (b : BdX X) (o : OkH h) :
  Calls Tryz.prog 138 #[.agg #[.int .u32 h.s, .int .u32 h.d, .int .u16 h.p, .int .u16 h.q, .int .u8 h.r], .agg #[.int .u32 X.a.1, .int .u32 X.a.2, .int .u32 X.b.1, .int .u32 X.b.2, .int .u16 X.c.1, .int .u16 X.c.2, .int .u16 X.d.1, .int .u16 X.d.2, .int .u8 X.m.1, .int .u8 X.m.2]] w fun e w' => e = .returned (.agg #[.int .u32 ((⟨brI X.a h.s, h.d, h.p, h.q, h.r⟩ : Hd).s : Int), .int .u32 ((⟨brI X.a h.s, h.d, h.p, h.q, h.r⟩ : Hd).d : Int), .int .u16 ((⟨brI X.a h.s, h.d, h.p, h.q, h.r⟩ : Hd).p : Int), .int .u16 ((⟨brI X.a h.s, h.d, h.p, h.q, h.r⟩ : Hd).q : Int), .int .u8 ((⟨brI X.a h.s, h.d, h.p, h.q, h.r⟩ : Hd).r : Int)]) ∧ Below w.heap.size w w' := by
 obtain ⟨z, hz⟩ : ∃ z, z = brI X.a h.s := ⟨_, rfl⟩
 rw [← hz]
 clear b o
 have HZ : Hid (z = brI X.a h.s) := hz
 clear hz
 by_cases h1 : h.s < X.a.1
 ·by_cases h2 : X.a.2 < X.a.1
  ·obtain rfl : z = X.a.2 := by rw [HZ.out]; unfold brI; omega
   go_enter Tryz.func138, Tryz.ntmps138
   go_wp2
   exact bodyPost_ret (by simp [results, Tryz.results138, go_sem]) rfl ⟨rfl, by (repeat (first | assumption | exact Below.refl _ _ | refine Below.drew ?_ | refine bel_drewN ?_ _ | refine Below.setCell ?_ (by first | omega | (simp; done) | (simp; omega)) _ | refine Below.alloc ?_ (by first | omega | (simp; done) | (simp; omega)) _ | refine bel_of ?_ (by assumption)))⟩
  ·obtain rfl : z = X.a.1 := by rw [HZ.out]; unfold brI; omega
   go_enter Tryz.func138, Tryz.ntmps138
   go_wp2
   exact bodyPost_ret (by simp [results, Tryz.results138, go_sem]) rfl ⟨rfl, by (repeat (first | assumption | exact Below.refl _ _ | refine Below.drew ?_ | refine bel_drewN ?_ _ | refine Below.setCell ?_ (by first | omega | (simp; done) | (simp; omega)) _ | refine Below.alloc ?_ (by first | omega | (simp; done) | (simp; omega)) _ | refine bel_of ?_ (by assumption)))⟩
 ·by_cases h2 : X.a.2 < h.s
  ·obtain rfl : z = X.a.2 := by rw [HZ.out]; unfold brI; omega
   go_enter Tryz.func138, Tryz.ntmps138
   go_wp2
   exact bodyPost_ret (by simp [results, Tryz.results138, go_sem]) rfl ⟨rfl, by (repeat (first | assumption | exact Below.refl _ _ | refine Below.drew ?_ | refine bel_drewN ?_ _ | refine Below.setCell ?_ (by first | omega | (simp; done) | (simp; omega)) _ | refine Below.alloc ?_ (by first | omega | (simp; done) | (simp; omega)) _ | refine bel_of ?_ (by assumption)))⟩
  ·obtain rfl : z = h.s := by rw [HZ.out]; unfold brI; omega
   go_enter Tryz.func138, Tryz.ntmps138
   go_wp2
   exact bodyPost_ret (by simp [results, Tryz.results138, go_sem]) rfl ⟨rfl, by (repeat (first | assumption | exact Below.refl _ _ | refine Below.drew ?_ | refine bel_drewN ?_ _ | refine Below.setCell ?_ (by first | omega | (simp; done) | (simp; omega)) _ | refine Below.alloc ?_ (by first | omega | (simp; done) | (simp; omega)) _ | refine bel_of ?_ (by assumption)))⟩
theorem dst3 (X : Bx) (h : Hd) (w : World) (b : BdX X) (o : OkH h) :
  Calls Tryz.prog 147 #[.agg #[.int .u32 h.s, .int .u32 h.d, .int .u16 h.p, .int .u16 h.q, .int .u8 h.r], .agg #[.int .u32 X.a.1, .int .u32 X.a.2, .int .u32 X.b.1, .int .u32 X.b.2, .int .u16 X.c.1, .int .u16 X.c.2, .int .u16 X.d.1, .int .u16 X.d.2, .int .u8 X.m.1, .int .u8 X.m.2]] w fun e w' => e = .returned (.agg #[.int .u32 ((⟨h.s, brI X.b h.d, h.p, h.q, h.r⟩ : Hd).s : Int), .int .u32 ((⟨h.s, brI X.b h.d, h.p, h.q, h.r⟩ : Hd).d : Int), .int .u16 ((⟨h.s, brI X.b h.d, h.p, h.q, h.r⟩ : Hd).p : Int), .int .u16 ((⟨h.s, brI X.b h.d, h.p, h.q, h.r⟩ : Hd).q : Int), .int .u8 ((⟨h.s, brI X.b h.d, h.p, h.q, h.r⟩ : Hd).r : Int)]) ∧ Below w.heap.size w w' := by
 obtain ⟨z, hz⟩ : ∃ z, z = brI X.b h.d := ⟨_, rfl⟩
 rw [← hz]
 clear b o
 have HZ : Hid (z = brI X.b h.d) := hz
 clear hz
 by_cases h1 : h.d < X.b.1
 ·by_cases h2 : X.b.2 < X.b.1
  ·obtain rfl : z = X.b.2 := by rw [HZ.out]; unfold brI; omega
   go_enter Tryz.func147, Tryz.ntmps147
   go_wp2
   exact bodyPost_ret (by simp [results, Tryz.results147, go_sem]) rfl ⟨rfl, by (repeat (first | assumption | exact Below.refl _ _ | refine Below.drew ?_ | refine bel_drewN ?_ _ | refine Below.setCell ?_ (by first | omega | (simp; done) | (simp; omega)) _ | refine Below.alloc ?_ (by first | omega | (simp; done) | (simp; omega)) _ | refine bel_of ?_ (by assumption)))⟩
  ·obtain rfl : z = X.b.1 := by rw [HZ.out]; unfold brI; omega
   go_enter Tryz.func147, Tryz.ntmps147
   go_wp2
   exact bodyPost_ret (by simp [results, Tryz.results147, go_sem]) rfl ⟨rfl, by (repeat (first | assumption | exact Below.refl _ _ | refine Below.drew ?_ | refine bel_drewN ?_ _ | refine Below.setCell ?_ (by first | omega | (simp; done) | (simp; omega)) _ | refine Below.alloc ?_ (by first | omega | (simp; done) | (simp; omega)) _ | refine bel_of ?_ (by assumption)))⟩
 ·by_cases h2 : X.b.2 < h.d
  ·obtain rfl : z = X.b.2 := by rw [HZ.out]; unfold brI; omega
   go_enter Tryz.func147, Tryz.ntmps147
   go_wp2
   exact bodyPost_ret (by simp [results, Tryz.results147, go_sem]) rfl ⟨rfl, by (repeat (first | assumption | exact Below.refl _ _ | refine Below.drew ?_ | refine bel_drewN ?_ _ | refine Below.setCell ?_ (by first | omega | (simp; done) | (simp; omega)) _ | refine Below.alloc ?_ (by first | omega | (simp; done) | (simp; omega)) _ | refine bel_of ?_ (by assumption)))⟩
  ·obtain rfl : z = h.d := by rw [HZ.out]; unfold brI; omega
   go_enter Tryz.func147, Tryz.ntmps147
   go_wp2
   exact bodyPost_ret (by simp [results, Tryz.results147, go_sem]) rfl ⟨rfl, by (repeat (first | assumption | exact Below.refl _ _ | refine Below.drew ?_ | refine bel_drewN ?_ _ | refine Below.setCell ?_ (by first | omega | (simp; done) | (simp; omega)) _ | refine Below.alloc ?_ (by first | omega | (simp; done) | (simp; omega)) _ | refine bel_of ?_ (by assumption)))⟩
theorem sport3 (X : Bx) (h : Hd) (w : World) (b : BdX X) (o : OkH h) :
  Calls Tryz.prog 154 #[.agg #[.int .u32 h.s, .int .u32 h.d, .int .u16 h.p, .int .u16 h.q, .int .u8 h.r], .agg #[.int .u32 X.a.1, .int .u32 X.a.2, .int .u32 X.b.1, .int .u32 X.b.2, .int .u16 X.c.1, .int .u16 X.c.2, .int .u16 X.d.1, .int .u16 X.d.2, .int .u8 X.m.1, .int .u8 X.m.2]] w fun e w' => e = .returned (.agg #[.int .u32 ((⟨h.s, h.d, brI X.c h.p, h.q, h.r⟩ : Hd).s : Int), .int .u32 ((⟨h.s, h.d, brI X.c h.p, h.q, h.r⟩ : Hd).d : Int), .int .u16 ((⟨h.s, h.d, brI X.c h.p, h.q, h.r⟩ : Hd).p : Int), .int .u16 ((⟨h.s, h.d, brI X.c h.p, h.q, h.r⟩ : Hd).q : Int), .int .u8 ((⟨h.s, h.d, brI X.c h.p, h.q, h.r⟩ : Hd).r : Int)]) ∧ Below w.heap.size w w' := by
 obtain ⟨z, hz⟩ : ∃ z, z = brI X.c h.p := ⟨_, rfl⟩
 rw [← hz]
 clear b o
 have HZ : Hid (z = brI X.c h.p) := hz
 clear hz
 by_cases h1 : h.p < X.c.1
 ·by_cases h2 : X.c.2 < X.c.1
  ·obtain rfl : z = X.c.2 := by rw [HZ.out]; unfold brI; omega
   go_enter Tryz.func154, Tryz.ntmps154
   go_wp2
   exact bodyPost_ret (by simp [results, Tryz.results154, go_sem]) rfl ⟨rfl, by (repeat (first | assumption | exact Below.refl _ _ | refine Below.drew ?_ | refine bel_drewN ?_ _ | refine Below.setCell ?_ (by first | omega | (simp; done) | (simp; omega)) _ | refine Below.alloc ?_ (by first | omega | (simp; done) | (simp; omega)) _ | refine bel_of ?_ (by assumption)))⟩
  ·obtain rfl : z = X.c.1 := by rw [HZ.out]; unfold brI; omega
   go_enter Tryz.func154, Tryz.ntmps154
   go_wp2
   exact bodyPost_ret (by simp [results, Tryz.results154, go_sem]) rfl ⟨rfl, by (repeat (first | assumption | exact Below.refl _ _ | refine Below.drew ?_ | refine bel_drewN ?_ _ | refine Below.setCell ?_ (by first | omega | (simp; done) | (simp; omega)) _ | refine Below.alloc ?_ (by first | omega | (simp; done) | (simp; omega)) _ | refine bel_of ?_ (by assumption)))⟩
 ·by_cases h2 : X.c.2 < h.p
  ·obtain rfl : z = X.c.2 := by rw [HZ.out]; unfold brI; omega
   go_enter Tryz.func154, Tryz.ntmps154
   go_wp2
   exact bodyPost_ret (by simp [results, Tryz.results154, go_sem]) rfl ⟨rfl, by (repeat (first | assumption | exact Below.refl _ _ | refine Below.drew ?_ | refine bel_drewN ?_ _ | refine Below.setCell ?_ (by first | omega | (simp; done) | (simp; omega)) _ | refine Below.alloc ?_ (by first | omega | (simp; done) | (simp; omega)) _ | refine bel_of ?_ (by assumption)))⟩
  ·obtain rfl : z = h.p := by rw [HZ.out]; unfold brI; omega
   go_enter Tryz.func154, Tryz.ntmps154
   go_wp2
   exact bodyPost_ret (by simp [results, Tryz.results154, go_sem]) rfl ⟨rfl, by (repeat (first | assumption | exact Below.refl _ _ | refine Below.drew ?_ | refine bel_drewN ?_ _ | refine Below.setCell ?_ (by first | omega | (simp; done) | (simp; omega)) _ | refine Below.alloc ?_ (by first | omega | (simp; done) | (simp; omega)) _ | refine bel_of ?_ (by assumption)))⟩
theorem dport3 (X : Bx) (h : Hd) (w : World) (b : BdX X) (o : OkH h) :
  Calls Tryz.prog 162 #[.agg #[.int .u32 h.s, .int .u32 h.d, .int .u16 h.p, .int .u16 h.q, .int .u8 h.r], .agg #[.int .u32 X.a.1, .int .u32 X.a.2, .int .u32 X.b.1, .int .u32 X.b.2, .int .u16 X.c.1, .int .u16 X.c.2, .int .u16 X.d.1, .int .u16 X.d.2, .int .u8 X.m.1, .int .u8 X.m.2]] w fun e w' => e = .returned (.agg #[.int .u32 ((⟨h.s, h.d, h.p, brI X.d h.q, h.r⟩ : Hd).s : Int), .int .u32 ((⟨h.s, h.d, h.p, brI X.d h.q, h.r⟩ : Hd).d : Int), .int .u16 ((⟨h.s, h.d, h.p, brI X.d h.q, h.r⟩ : Hd).p : Int), .int .u16 ((⟨h.s, h.d, h.p, brI X.d h.q, h.r⟩ : Hd).q : Int), .int .u8 ((⟨h.s, h.d, h.p, brI X.d h.q, h.r⟩ : Hd).r : Int)]) ∧ Below w.heap.size w w' := by
 obtain ⟨z, hz⟩ : ∃ z, z = brI X.d h.q := ⟨_, rfl⟩
 rw [← hz]
 clear b o
 have HZ : Hid (z = brI X.d h.q) := hz
 clear hz
 by_cases h1 : h.q < X.d.1
 ·by_cases h2 : X.d.2 < X.d.1
  ·obtain rfl : z = X.d.2 := by rw [HZ.out]; unfold brI; omega
   go_enter Tryz.func162, Tryz.ntmps162
   go_wp2
   exact bodyPost_ret (by simp [results, Tryz.results162, go_sem]) rfl ⟨rfl, by (repeat (first | assumption | exact Below.refl _ _ | refine Below.drew ?_ | refine bel_drewN ?_ _ | refine Below.setCell ?_ (by first | omega | (simp; done) | (simp; omega)) _ | refine Below.alloc ?_ (by first | omega | (simp; done) | (simp; omega)) _ | refine bel_of ?_ (by assumption)))⟩
  ·obtain rfl : z = X.d.1 := by rw [HZ.out]; unfold brI; omega
   go_enter Tryz.func162, Tryz.ntmps162
   go_wp2
   exact bodyPost_ret (by simp [results, Tryz.results162, go_sem]) rfl ⟨rfl, by (repeat (first | assumption | exact Below.refl _ _ | refine Below.drew ?_ | refine bel_drewN ?_ _ | refine Below.setCell ?_ (by first | omega | (simp; done) | (simp; omega)) _ | refine Below.alloc ?_ (by first | omega | (simp; done) | (simp; omega)) _ | refine bel_of ?_ (by assumption)))⟩
 ·by_cases h2 : X.d.2 < h.q
  ·obtain rfl : z = X.d.2 := by rw [HZ.out]; unfold brI; omega
   go_enter Tryz.func162, Tryz.ntmps162
   go_wp2
   exact bodyPost_ret (by simp [results, Tryz.results162, go_sem]) rfl ⟨rfl, by (repeat (first | assumption | exact Below.refl _ _ | refine Below.drew ?_ | refine bel_drewN ?_ _ | refine Below.setCell ?_ (by first | omega | (simp; done) | (simp; omega)) _ | refine Below.alloc ?_ (by first | omega | (simp; done) | (simp; omega)) _ | refine bel_of ?_ (by assumption)))⟩
  ·obtain rfl : z = h.q := by rw [HZ.out]; unfold brI; omega
   go_enter Tryz.func162, Tryz.ntmps162
   go_wp2
   exact bodyPost_ret (by simp [results, Tryz.results162, go_sem]) rfl ⟨rfl, by (repeat (first | assumption | exact Below.refl _ _ | refine Below.drew ?_ | refine bel_drewN ?_ _ | refine Below.setCell ?_ (by first | omega | (simp; done) | (simp; omega)) _ | refine Below.alloc ?_ (by first | omega | (simp; done) | (simp; omega)) _ | refine bel_of ?_ (by assumption)))⟩
theorem proto3 (X : Bx) (h : Hd) (w : World) (b : BdX X) (o : OkH h) :
  Calls Tryz.prog 169 #[.agg #[.int .u32 h.s, .int .u32 h.d, .int .u16 h.p, .int .u16 h.q, .int .u8 h.r], .agg #[.int .u32 X.a.1, .int .u32 X.a.2, .int .u32 X.b.1, .int .u32 X.b.2, .int .u16 X.c.1, .int .u16 X.c.2, .int .u16 X.d.1, .int .u16 X.d.2, .int .u8 X.m.1, .int .u8 X.m.2]] w fun e w' => e = .returned (.agg #[.int .u32 ((⟨h.s, h.d, h.p, h.q, brM X.m h.r⟩ : Hd).s : Int), .int .u32 ((⟨h.s, h.d, h.p, h.q, brM X.m h.r⟩ : Hd).d : Int), .int .u16 ((⟨h.s, h.d, h.p, h.q, brM X.m h.r⟩ : Hd).p : Int), .int .u16 ((⟨h.s, h.d, h.p, h.q, brM X.m h.r⟩ : Hd).q : Int), .int .u8 ((⟨h.s, h.d, h.p, h.q, brM X.m h.r⟩ : Hd).r : Int)]) ∧ Below w.heap.size w w' := by
 have e1 : bits .andNot .u8 (h.r : Int) (X.m.2 : Int) = ((h.r &&& (255 - X.m.2) : Nat) : Int) := u8_andNot_nat _ _ o.2.2.2.2 b.2.2.2.2.2.2.2.2.2
 have e2 : bits .or .u8 ((h.r &&& (255 - X.m.2) : Nat) : Int) (X.m.1 : Int) = ((brM X.m h.r : Nat) : Int) := u8_or_nat _ _ (and_lt o.2.2.2.2) b.2.2.2.2.2.2.2.2.1
 obtain ⟨z, hz⟩ : ∃ z, z = brM X.m h.r := ⟨_, rfl⟩
 rw [← hz] at e2 ⊢
 generalize h.r &&& (255 - X.m.2) = y at e1 e2
 clear b o hz
 go_enter Tryz.func169, Tryz.ntmps169
 go_wp2
 exact bodyPost_ret (by simp [results, Tryz.results169, go_sem]) rfl ⟨rfl, by (repeat (first | assumption | exact Below.refl _ _ | refine Below.drew ?_ | refine bel_drewN ?_ _ | refine Below.setCell ?_ (by first | omega | (simp; done) | (simp; omega)) _ | refine Below.alloc ?_ (by first | omega | (simp; done) | (simp; omega)) _ | refine bel_of ?_ (by assumption)))⟩
end Go.Proofs.YtabkbfopklpckaaGreat.Xb

