/-
  PkAS: CtR CtMk, one behind the other (tools/pack.py).
-/
import Derived.Test.YtgokmkholjfhbaaGreatPkAR
import Derived.Test.YtgokmkholjfhbaaGreatPkAE
import Derived.Test.YtgokmkholjfhbaaGreatPkAA
set_option linter.unusedVariables false
set_option linter.unusedSimpArgs false
namespace Go.Proofs.YtgokmkholjfhbaaGreat
open Go.RowKit
def SmallQ (c : Ct2) : Prop := c.1.n ≤ 4096 ∧ c.2.n ≤ 4096
set_option maxRecDepth 20000 in
set_option maxHeartbeats 8000000 in
theorem minFC (v : Value) (cs : List Ct2) (d0 : Part × Part) (ds : List (Part × Part)) (b : Nat) (w : World) (hs : SrcQ w v cs) (hr : RelQ w b cs (d0 :: ds)) (hsm : ∀ c ∈ cs, SmallQ c) (hl : cs.length ≤ 16) :
  Calls Tryz.prog 106 #[v, .func (.func 107) #[] #[]] w fun e w' => ∃ c : Ct2, e = .returned (.agg #[.int .u32 c.1.x.a.1, .int .u32 c.1.x.a.2, .int .u32 c.1.x.b.1, .int .u32 c.1.x.b.2, .int .u16 c.1.x.c.1, .int .u16 c.1.x.c.2, .int .u16 c.1.x.d.1, .int .u16 c.1.x.d.2, .int .u8 c.1.x.m.1, .int .u8 c.1.x.m.2, .slice c.1.ad c.1.n c.1.cap, .int .u32 c.2.x.a.1, .int .u32 c.2.x.a.2, .int .u32 c.2.x.b.1, .int .u32 c.2.x.b.2, .int .u16 c.2.x.c.1, .int .u16 c.2.x.c.2, .int .u16 c.2.x.d.1, .int .u16 c.2.x.d.2, .int .u8 c.2.x.m.1, .int .u8 c.2.x.m.2, .slice c.2.ad c.2.n c.2.cap]) ∧ CtR w' b c (minC d0 ds) ∧ Below w.heap.size w w' := by
 obtain ⟨ad, cap, rfl, _, _⟩ := id hs
 obtain ⟨_, hcap, hrng⟩ := hs.rng
 have hlen := hr.len
 simp only [List.length_cons] at hlen
 obtain ⟨n, hn⟩ : ∃ n, n = cs.length := ⟨_, rfl⟩
 obtain ⟨g, off, rfl, hg, r0⟩ := hrng 0 (by omega)
 rw [← hn] at hs hcap hl hlen ⊢
 have c0r := RelQ.at 0 (by omega) (by simp) hr
 rw [List.getElem_cons_zero] at c0r
 have s0 := hsm _ (List.getElem_mem (by omega : 0 < cs.length))
 obtain ⟨c0, hc0⟩ : ∃ c0, c0 = cs[0]'(by omega) := ⟨_, rfl⟩
 rw [← hc0] at r0 c0r s0
 have R0 : Hid (w.rangeAt g off (#[.int .u32 c0.1.x.a.1, .int .u32 c0.1.x.a.2, .int .u32 c0.1.x.b.1, .int .u32 c0.1.x.b.2, .int .u16 c0.1.x.c.1, .int .u16 c0.1.x.c.2, .int .u16 c0.1.x.d.1, .int .u16 c0.1.x.d.2, .int .u8 c0.1.x.m.1, .int .u8 c0.1.x.m.2, .slice c0.1.ad c0.1.n c0.1.cap, .int .u32 c0.2.x.a.1, .int .u32 c0.2.x.a.2, .int .u32 c0.2.x.b.1, .int .u32 c0.2.x.b.2, .int .u16 c0.2.x.c.1, .int .u16 c0.2.x.c.2, .int .u16 c0.2.x.d.1, .int .u16 c0.2.x.d.2, .int .u8 c0.2.x.m.1, .int .u8 c0.2.x.m.2, .slice c0.2.ad c0.2.n c0.2.cap] : Array Value).toList) := by have h := r0; rw [Nat.zero_mul, Nat.add_zero] at h; exact h
 have HR : Hid (RelQ w b cs (d0 :: ds)) := hr
 have HSm : Hid (∀ c ∈ cs, SmallQ c) := hsm
 have Hn : Hid (n = cs.length) := hn
 have Hg : Hid (∀ k (hk : k < cs.length), w.rangeAt g (off + k * 22) (encQ (cs[k]'hk))) := fun k hk => by
  obtain ⟨g', off', e, _, r⟩ := hrng k hk
  cases e
  exact r
 have HC0 : Hid (CtR w b c0 d0) := c0r
 have HS0 : Hid (SmallQ c0) := s0
 have hn1 : ¬ (n : Int) < 1 := by omega
 have hn16 : n ≤ 16 := hl
 have h0n : (0 : Int) < (n : Int) := by omega
 have Hlen : Hid (n = ds.length + 1) := hlen
 clear hs hr hsm hrng hcap r0 c0r s0 hc0 hn hl hlen
 have hbz : Below w.heap.size w (w.alloc (.cells #[.int .u32 0, .int .u32 0, .int .u32 0, .int .u32 0, .int .u16 0, .int .u16 0, .int .u16 0, .int .u16 0, .int .u8 0, .int .u8 0, .slice none 0 0, .int .u32 0, .int .u32 0, .int .u32 0, .int .u32 0, .int .u16 0, .int .u16 0, .int .u16 0, .int .u16 0, .int .u8 0, .int .u8 0, .slice none 0 0] 153)) := (Below.refl _ _).alloc (Nat.le_refl _) _
 have R0z : Hid ((w.alloc (.cells #[.int .u32 0, .int .u32 0, .int .u32 0, .int .u32 0, .int .u16 0, .int .u16 0, .int .u16 0, .int .u16 0, .int .u8 0, .int .u8 0, .slice none 0 0, .int .u32 0, .int .u32 0, .int .u32 0, .int .u32 0, .int .u16 0, .int .u16 0, .int .u16 0, .int .u16 0, .int .u8 0, .int .u8 0, .slice none 0 0] 153)).rangeAt g off (#[.int .u32 c0.1.x.a.1, .int .u32 c0.1.x.a.2, .int .u32 c0.1.x.b.1, .int .u32 c0.1.x.b.2, .int .u16 c0.1.x.c.1, .int .u16 c0.1.x.c.2, .int .u16 c0.1.x.d.1, .int .u16 c0.1.x.d.2, .int .u8 c0.1.x.m.1, .int .u8 c0.1.x.m.2, .slice c0.1.ad c0.1.n c0.1.cap, .int .u32 c0.2.x.a.1, .int .u32 c0.2.x.a.2, .int .u32 c0.2.x.b.1, .int .u32 c0.2.x.b.2, .int .u16 c0.2.x.c.1, .int .u16 c0.2.x.c.2, .int .u16 c0.2.x.d.1, .int .u16 c0.2.x.d.2, .int .u8 c0.2.x.m.1, .int .u8 c0.2.x.m.2, .slice c0.2.ad c0.2.n c0.2.cap] : Array Value).toList) := rng_on hbz R0.out
 obtain ⟨z1, z2, z3⟩ := al2 w (.cells #[.int .u32 0, .int .u32 0, .int .u32 0, .int .u32 0, .int .u16 0, .int .u16 0, .int .u16 0, .int .u16 0, .int .u8 0, .int .u8 0, .slice none 0 0, .int .u32 0, .int .u32 0, .int .u32 0, .int .u32 0, .int .u16 0, .int .u16 0, .int .u16 0, .int .u16 0, .int .u8 0, .int .u8 0, .slice none 0 0] 153) (.cells #[.int .u32 0, .int .u32 0, .int .u32 0, .int .u32 0, .int .u16 0, .int .u16 0, .int .u16 0, .int .u16 0, .int .u8 0, .int .u8 0, .slice none 0 0, .int .u32 0, .int .u32 0, .int .u32 0, .int .u32 0, .int .u16 0, .int .u16 0, .int .u16 0, .int .u16 0, .int .u8 0, .int .u8 0, .slice none 0 0] 153)
 have Z1 : Hid _ := z1
 have Z2 : Hid (((w.alloc (.cells #[.int .u32 0, .int .u32 0, .int .u32 0, .int .u32 0, .int .u16 0, .int .u16 0, .int .u16 0, .int .u16 0, .int .u8 0, .int .u8 0, .slice none 0 0, .int .u32 0, .int .u32 0, .int .u32 0, .int .u32 0, .int .u16 0, .int .u16 0, .int .u16 0, .int .u16 0, .int .u8 0, .int .u8 0, .slice none 0 0] 153)).alloc (.cells #[.int .u32 0, .int .u32 0, .int .u32 0, .int .u32 0, .int .u16 0, .int .u16 0, .int .u16 0, .int .u16 0, .int .u8 0, .int .u8 0, .slice none 0 0, .int .u32 0, .int .u32 0, .int .u32 0, .int .u32 0, .int .u16 0, .int .u16 0, .int .u16 0, .int .u16 0, .int .u8 0, .int .u8 0, .slice none 0 0] 153)).heap[w.heap.size + 1]? = some (.cells #[.int .u32 0, .int .u32 0, .int .u32 0, .int .u32 0, .int .u16 0, .int .u16 0, .int .u16 0, .int .u16 0, .int .u8 0, .int .u8 0, .slice none 0 0, .int .u32 0, .int .u32 0, .int .u32 0, .int .u32 0, .int .u16 0, .int .u16 0, .int .u16 0, .int .u16 0, .int .u8 0, .int .u8 0, .slice none 0 0] 153)) := z2
 have Z3 : Hid _ := z3
 clear hbz z1 z2 z3
 go_enter Tryz.func106, Tryz.ntmps106
 go_upto_region 4 with (first | (refine ct_loadL rfl 153 (.tmp 12) rfl g off #[.int .u32 c0.1.x.a.1, .int .u32 c0.1.x.a.2, .int .u32 c0.1.x.b.1, .int .u32 c0.1.x.b.2, .int .u16 c0.1.x.c.1, .int .u16 c0.1.x.c.2, .int .u16 c0.1.x.d.1, .int .u16 c0.1.x.d.2, .int .u8 c0.1.x.m.1, .int .u8 c0.1.x.m.2, .slice c0.1.ad c0.1.n c0.1.cap, .int .u32 c0.2.x.a.1, .int .u32 c0.2.x.a.2, .int .u32 c0.2.x.b.1, .int .u32 c0.2.x.b.2, .int .u16 c0.2.x.c.1, .int .u16 c0.2.x.c.2, .int .u16 c0.2.x.d.1, .int .u16 c0.2.x.d.2, .int .u8 c0.2.x.m.1, .int .u8 c0.2.x.m.2, .slice c0.2.ad c0.2.n c0.2.cap] rfl R0z.out Tryz.underlying153 rfl (by kernel_rfl) ?_) | (refine wpList_store_blk rfl 153 (.tmp 5) (.tmp 13) rfl (w.heap.size + 1) 0 #[.int .u32 c0.1.x.a.1, .int .u32 c0.1.x.a.2, .int .u32 c0.1.x.b.1, .int .u32 c0.1.x.b.2, .int .u16 c0.1.x.c.1, .int .u16 c0.1.x.c.2, .int .u16 c0.1.x.d.1, .int .u16 c0.1.x.d.2, .int .u8 c0.1.x.m.1, .int .u8 c0.1.x.m.2, .slice c0.1.ad c0.1.n c0.1.cap, .int .u32 c0.2.x.a.1, .int .u32 c0.2.x.a.2, .int .u32 c0.2.x.b.1, .int .u32 c0.2.x.b.2, .int .u16 c0.2.x.c.1, .int .u16 c0.2.x.c.2, .int .u16 c0.2.x.d.1, .int .u16 c0.2.x.d.2, .int .u8 c0.2.x.m.1, .int .u8 c0.2.x.m.2, .slice c0.2.ad c0.2.n c0.2.cap] #[.int .u32 c0.1.x.a.1, .int .u32 c0.1.x.a.2, .int .u32 c0.1.x.b.1, .int .u32 c0.1.x.b.2, .int .u16 c0.1.x.c.1, .int .u16 c0.1.x.c.2, .int .u16 c0.1.x.d.1, .int .u16 c0.1.x.d.2, .int .u8 c0.1.x.m.1, .int .u8 c0.1.x.m.2, .slice c0.1.ad c0.1.n c0.1.cap, .int .u32 c0.2.x.a.1, .int .u32 c0.2.x.a.2, .int .u32 c0.2.x.b.1, .int .u32 c0.2.x.b.2, .int .u16 c0.2.x.c.1, .int .u16 c0.2.x.c.2, .int .u16 c0.2.x.d.1, .int .u16 c0.2.x.d.2, .int .u8 c0.2.x.m.1, .int .u8 c0.2.x.m.2, .slice c0.2.ad c0.2.n c0.2.cap] rfl rfl 153 _ Z2.out (Nat.le_of_ble_eq_true rfl) rfl (by kernel_rfl) rfl ?_; intro w1 hw1 ho1))
 have HM1 : Hid (w1.heap[w.heap.size + 1]? = some (.cells #[.int .u32 c0.1.x.a.1, .int .u32 c0.1.x.a.2, .int .u32 c0.1.x.b.1, .int .u32 c0.1.x.b.2, .int .u16 c0.1.x.c.1, .int .u16 c0.1.x.c.2, .int .u16 c0.1.x.d.1, .int .u16 c0.1.x.d.2, .int .u8 c0.1.x.m.1, .int .u8 c0.1.x.m.2, .slice c0.1.ad c0.1.n c0.1.cap, .int .u32 c0.2.x.a.1, .int .u32 c0.2.x.a.2, .int .u32 c0.2.x.b.1, .int .u32 c0.2.x.b.2, .int .u16 c0.2.x.c.1, .int .u16 c0.2.x.c.2, .int .u16 c0.2.x.d.1, .int .u16 c0.2.x.d.2, .int .u8 c0.2.x.m.1, .int .u8 c0.2.x.m.2, .slice c0.2.ad c0.2.n c0.2.cap] 153)) := hw1
 have HZ1 : Hid (w1.heap[w.heap.size]? = some (.cells #[.int .u32 0, .int .u32 0, .int .u32 0, .int .u32 0, .int .u16 0, .int .u16 0, .int .u16 0, .int .u16 0, .int .u8 0, .int .u8 0, .slice none 0 0, .int .u32 0, .int .u32 0, .int .u32 0, .int .u32 0, .int .u16 0, .int .u16 0, .int .u16 0, .int .u16 0, .int .u8 0, .int .u8 0, .slice none 0 0] 153)) := by show _ = _; rw [ho1.block _ (by omega)]; exact Z1.out
 have HB1 : Hid (Below w.heap.size w w1) := Z3.out.trans (ho1.below (by omega))
 have HK1 : Hid (CtR w b c0 d0) := HC0.out
 clear hw1 ho1 Z1 Z2 Z3 R0 R0z HC0
 go_wp2_with (fail)
 go_loopw [6] (fun vi wr => ∃ (i : Nat) (cm : Ct2) (dm : Part × Part), 1 ≤ i ∧ i ≤ n ∧ vi = .int .i64 i ∧ Hid (wr.heap[w.heap.size + 1]? = some (.cells #[.int .u32 cm.1.x.a.1, .int .u32 cm.1.x.a.2, .int .u32 cm.1.x.b.1, .int .u32 cm.1.x.b.2, .int .u16 cm.1.x.c.1, .int .u16 cm.1.x.c.2, .int .u16 cm.1.x.d.1, .int .u16 cm.1.x.d.2, .int .u8 cm.1.x.m.1, .int .u8 cm.1.x.m.2, .slice cm.1.ad cm.1.n cm.1.cap, .int .u32 cm.2.x.a.1, .int .u32 cm.2.x.a.2, .int .u32 cm.2.x.b.1, .int .u32 cm.2.x.b.2, .int .u16 cm.2.x.c.1, .int .u16 cm.2.x.c.2, .int .u16 cm.2.x.d.1, .int .u16 cm.2.x.d.2, .int .u8 cm.2.x.m.1, .int .u8 cm.2.x.m.2, .slice cm.2.ad cm.2.n cm.2.cap] 153)) ∧ Hid (wr.heap[w.heap.size]? = some (.cells #[.int .u32 0, .int .u32 0, .int .u32 0, .int .u32 0, .int .u16 0, .int .u16 0, .int .u16 0, .int .u16 0, .int .u8 0, .int .u8 0, .slice none 0 0, .int .u32 0, .int .u32 0, .int .u32 0, .int .u32 0, .int .u16 0, .int .u16 0, .int .u16 0, .int .u16 0, .int .u8 0, .int .u8 0, .slice none 0 0] 153)) ∧ Hid (CtR w b cm dm) ∧ Hid (minC d0 ds = minC dm (ds.drop (i - 1))) ∧ Hid (SmallQ cm) ∧ Hid (Below w.heap.size w wr)) (fun vi _ => n - (intOf vi).toNat)
 case atStart => exact ⟨1, c0, d0, Nat.le_refl _, by omega, rfl, HM1.out, HZ1.out, HK1.out, by show _ = _; simp, HS0.out, HB1.out⟩
 case round =>
  clear HM1 HZ1 HK1 HB1 HS0
  obtain ⟨i, cm, dm, h1i, hin, rfl, HM, HZ, HK, HE, HSc, HB⟩ := hrel
  by_cases hlt : i < n
  ·have hic : i < cs.length := by rw [← Hn.out]; exact hlt
   have rx := rng_on HB.out (Hg.out i hic)
   have ci := RelQ.at i hic (by have := Hlen.out; simp; omega) HR.out
   have di : (d0 :: ds)[i]'(by have := Hlen.out; simp; omega) = ds[i - 1]'(by have := Hlen.out; omega) := by
    obtain ⟨j, rfl⟩ : ∃ j, i = j + 1 := ⟨i - 1, by omega⟩
    simp
   rw [di] at ci
   have hdr : ds.drop (i - 1) = ds[i - 1]'(by have := Hlen.out; omega) :: ds.drop (i - 1 + 1) := List.drop_eq_getElem_cons _
   have si := HSm.out _ (List.getElem_mem hic)
   obtain ⟨x, hx⟩ : ∃ x, x = cs[i] := ⟨_, rfl⟩
   obtain ⟨dx, hdx⟩ : ∃ dx, dx = ds[i - 1]'(by have := Hlen.out; omega) := ⟨_, rfl⟩
   rw [← hx] at rx ci si
   rw [← hdx] at ci hdr
   clear hx hdx di
   have Rx : Hid (wr.rangeAt g (off + i * 22) (#[.int .u32 x.1.x.a.1, .int .u32 x.1.x.a.2, .int .u32 x.1.x.b.1, .int .u32 x.1.x.b.2, .int .u16 x.1.x.c.1, .int .u16 x.1.x.c.2, .int .u16 x.1.x.d.1, .int .u16 x.1.x.d.2, .int .u8 x.1.x.m.1, .int .u8 x.1.x.m.2, .slice x.1.ad x.1.n x.1.cap, .int .u32 x.2.x.a.1, .int .u32 x.2.x.a.2, .int .u32 x.2.x.b.1, .int .u32 x.2.x.b.2, .int .u16 x.2.x.c.1, .int .u16 x.2.x.c.2, .int .u16 x.2.x.d.1, .int .u16 x.2.x.d.2, .int .u8 x.2.x.m.1, .int .u8 x.2.x.m.2, .slice x.2.ad x.2.n x.2.cap] : Array Value).toList) := rx
   have Rm : Hid (wr.rangeAt (w.heap.size + 1) 0 (#[.int .u32 cm.1.x.a.1, .int .u32 cm.1.x.a.2, .int .u32 cm.1.x.b.1, .int .u32 cm.1.x.b.2, .int .u16 cm.1.x.c.1, .int .u16 cm.1.x.c.2, .int .u16 cm.1.x.d.1, .int .u16 cm.1.x.d.2, .int .u8 cm.1.x.m.1, .int .u8 cm.1.x.m.2, .slice cm.1.ad cm.1.n cm.1.cap, .int .u32 cm.2.x.a.1, .int .u32 cm.2.x.a.2, .int .u32 cm.2.x.b.1, .int .u32 cm.2.x.b.2, .int .u16 cm.2.x.c.1, .int .u16 cm.2.x.c.2, .int .u16 cm.2.x.d.1, .int .u16 cm.2.x.d.2, .int .u8 cm.2.x.m.1, .int .u8 cm.2.x.m.2, .slice cm.2.ad cm.2.n cm.2.cap] : Array Value).toList) := rngAll HM.out
   have HCi : Hid (CtR w b x dx) := ci
   have HSi : Hid (SmallQ x) := si
   have hq := fun W => cmpC x cm W si.1 si.2 HSc.out.1 HSc.out.2
   have hle : decide (cmpQ x cm < 0) = lessC dx dm := cmpQ_less ci.more.1 HK.out.more.1 ci.more.2 HK.out.more.2
   have HE2 : Hid (minC d0 ds = minC (if lessC dx dm then dx else dm) (ds.drop i)) := by
    show _ = _
    rw [HE.out, hdr, minC_step, show i - 1 + 1 = i by omega]
   clear rx ci si hdr HE
   have hii : (i : Int) < (n : Int) := by omega
   have hi0 : (0 : Int) ≤ (i : Int) := by omega
   generalize hcq : cmpQ x cm = Q at *
   clear hcq
   have HL0 : Hid (decide (Q < 0) = lessC dx dm) := hle
   clear hle
   go_upto_region 7 with (fail)
   have kne : Nonempty (Kin wr) := ⟨⟨_, Below.refl _ _⟩⟩
   refine wp_region_kin wr (Below.refl _ _) (by kernel_rfl) (by kernel_rfl) ?_
   iterate 4 (go_big_quiet_step (fail))
   refine ct_load (by rfl) 153 (.tmp 23) rfl g (off + i * 22) #[.int .u32 x.1.x.a.1, .int .u32 x.1.x.a.2, .int .u32 x.1.x.b.1, .int .u32 x.1.x.b.2, .int .u16 x.1.x.c.1, .int .u16 x.1.x.c.2, .int .u16 x.1.x.d.1, .int .u16 x.1.x.d.2, .int .u8 x.1.x.m.1, .int .u8 x.1.x.m.2, .slice x.1.ad x.1.n x.1.cap, .int .u32 x.2.x.a.1, .int .u32 x.2.x.a.2, .int .u32 x.2.x.b.1, .int .u32 x.2.x.b.2, .int .u16 x.2.x.c.1, .int .u16 x.2.x.c.2, .int .u16 x.2.x.d.1, .int .u16 x.2.x.d.2, .int .u8 x.2.x.m.1, .int .u8 x.2.x.m.2, .slice x.2.ad x.2.n x.2.cap] rfl (rng_kin Rx.out) Tryz.underlying153 rfl (by kernel_rfl) ?_
   simp only [nrm]
   refine ct_load (by rfl) 153 (.tmp 5) rfl (w.heap.size + 1) 0 #[.int .u32 cm.1.x.a.1, .int .u32 cm.1.x.a.2, .int .u32 cm.1.x.b.1, .int .u32 cm.1.x.b.2, .int .u16 cm.1.x.c.1, .int .u16 cm.1.x.c.2, .int .u16 cm.1.x.d.1, .int .u16 cm.1.x.d.2, .int .u8 cm.1.x.m.1, .int .u8 cm.1.x.m.2, .slice cm.1.ad cm.1.n cm.1.cap, .int .u32 cm.2.x.a.1, .int .u32 cm.2.x.a.2, .int .u32 cm.2.x.b.1, .int .u32 cm.2.x.b.2, .int .u16 cm.2.x.c.1, .int .u16 cm.2.x.c.2, .int .u16 cm.2.x.d.1, .int .u16 cm.2.x.d.2, .int .u8 cm.2.x.m.1, .int .u8 cm.2.x.m.2, .slice cm.2.ad cm.2.n cm.2.cap] rfl (rng_kin Rm.out) Tryz.underlying153 rfl (by kernel_rfl) ?_
   simp only [nrm]
   go_big_quiet_step (first | (go_at_call 107; exact kin_call (hq _)))
   iterate 1 (go_big_quiet_step (fail))
   refine wpQuiet_nil ?_
   rintro wq ⟨⟨xq, hxq⟩, hyq⟩
   have HQ : Hid (Below wr.heap.size wr wq) := by show Below _ _ _; rw [hyq]; exact hxq
   clear hyq hxq xq kne hq
   have HMq : Hid (wq.heap[w.heap.size + 1]? = some (.cells #[.int .u32 cm.1.x.a.1, .int .u32 cm.1.x.a.2, .int .u32 cm.1.x.b.1, .int .u32 cm.1.x.b.2, .int .u16 cm.1.x.c.1, .int .u16 cm.1.x.c.2, .int .u16 cm.1.x.d.1, .int .u16 cm.1.x.d.2, .int .u8 cm.1.x.m.1, .int .u8 cm.1.x.m.2, .slice cm.1.ad cm.1.n cm.1.cap, .int .u32 cm.2.x.a.1, .int .u32 cm.2.x.a.2, .int .u32 cm.2.x.b.1, .int .u32 cm.2.x.b.2, .int .u16 cm.2.x.c.1, .int .u16 cm.2.x.c.2, .int .u16 cm.2.x.d.1, .int .u16 cm.2.x.d.2, .int .u8 cm.2.x.m.1, .int .u8 cm.2.x.m.2, .slice cm.2.ad cm.2.n cm.2.cap] 153)) := blk_on HM.out HQ.out
   have HZq : Hid (wq.heap[w.heap.size]? = some (.cells #[.int .u32 0, .int .u32 0, .int .u32 0, .int .u32 0, .int .u16 0, .int .u16 0, .int .u16 0, .int .u16 0, .int .u8 0, .int .u8 0, .slice none 0 0, .int .u32 0, .int .u32 0, .int .u32 0, .int .u32 0, .int .u16 0, .int .u16 0, .int .u16 0, .int .u16 0, .int .u8 0, .int .u8 0, .slice none 0 0] 153)) := blk_on HZ.out HQ.out
   have HBq : Hid (Below w.heap.size w wq) := HB.out.trans (HQ.out.mono HB.out.size)
   have HKq : Hid (CtR w b cm dm) := HK.out
   have HCq : Hid (CtR w b x dx) := HCi.out
   have Rxq : Hid (wq.rangeAt g (off + i * 22) (#[.int .u32 x.1.x.a.1, .int .u32 x.1.x.a.2, .int .u32 x.1.x.b.1, .int .u32 x.1.x.b.2, .int .u16 x.1.x.c.1, .int .u16 x.1.x.c.2, .int .u16 x.1.x.d.1, .int .u16 x.1.x.d.2, .int .u8 x.1.x.m.1, .int .u8 x.1.x.m.2, .slice x.1.ad x.1.n x.1.cap, .int .u32 x.2.x.a.1, .int .u32 x.2.x.a.2, .int .u32 x.2.x.b.1, .int .u32 x.2.x.b.2, .int .u16 x.2.x.c.1, .int .u16 x.2.x.c.2, .int .u16 x.2.x.d.1, .int .u16 x.2.x.d.2, .int .u8 x.2.x.m.1, .int .u8 x.2.x.m.2, .slice x.2.ad x.2.n x.2.cap] : Array Value).toList) := rng_on HQ.out Rx.out
   clear HM HZ HB HK HCi Rx Rm HQ
   by_cases hneg : Q < 0
   ·have HLe : Hid (lessC dx dm = true) := by have h := HL0.out; rw [decide_eq_true hneg] at h; exact h.symm
    have hd : decide (Q < 0) = true := decide_eq_true hneg
    go_wp2_with (first | (refine ct_loadL rfl 153 (.tmp 30) rfl g (off + i * 22) #[.int .u32 x.1.x.a.1, .int .u32 x.1.x.a.2, .int .u32 x.1.x.b.1, .int .u32 x.1.x.b.2, .int .u16 x.1.x.c.1, .int .u16 x.1.x.c.2, .int .u16 x.1.x.d.1, .int .u16 x.1.x.d.2, .int .u8 x.1.x.m.1, .int .u8 x.1.x.m.2, .slice x.1.ad x.1.n x.1.cap, .int .u32 x.2.x.a.1, .int .u32 x.2.x.a.2, .int .u32 x.2.x.b.1, .int .u32 x.2.x.b.2, .int .u16 x.2.x.c.1, .int .u16 x.2.x.c.2, .int .u16 x.2.x.d.1, .int .u16 x.2.x.d.2, .int .u8 x.2.x.m.1, .int .u8 x.2.x.m.2, .slice x.2.ad x.2.n x.2.cap] rfl Rxq.out Tryz.underlying153 rfl (by kernel_rfl) ?_) | (refine wpList_store_blk rfl 153 (.tmp 5) (.tmp 31) rfl (w.heap.size + 1) 0 #[.int .u32 x.1.x.a.1, .int .u32 x.1.x.a.2, .int .u32 x.1.x.b.1, .int .u32 x.1.x.b.2, .int .u16 x.1.x.c.1, .int .u16 x.1.x.c.2, .int .u16 x.1.x.d.1, .int .u16 x.1.x.d.2, .int .u8 x.1.x.m.1, .int .u8 x.1.x.m.2, .slice x.1.ad x.1.n x.1.cap, .int .u32 x.2.x.a.1, .int .u32 x.2.x.a.2, .int .u32 x.2.x.b.1, .int .u32 x.2.x.b.2, .int .u16 x.2.x.c.1, .int .u16 x.2.x.c.2, .int .u16 x.2.x.d.1, .int .u16 x.2.x.d.2, .int .u8 x.2.x.m.1, .int .u8 x.2.x.m.2, .slice x.2.ad x.2.n x.2.cap] #[.int .u32 x.1.x.a.1, .int .u32 x.1.x.a.2, .int .u32 x.1.x.b.1, .int .u32 x.1.x.b.2, .int .u16 x.1.x.c.1, .int .u16 x.1.x.c.2, .int .u16 x.1.x.d.1, .int .u16 x.1.x.d.2, .int .u8 x.1.x.m.1, .int .u8 x.1.x.m.2, .slice x.1.ad x.1.n x.1.cap, .int .u32 x.2.x.a.1, .int .u32 x.2.x.a.2, .int .u32 x.2.x.b.1, .int .u32 x.2.x.b.2, .int .u16 x.2.x.c.1, .int .u16 x.2.x.c.2, .int .u16 x.2.x.d.1, .int .u16 x.2.x.d.2, .int .u8 x.2.x.m.1, .int .u8 x.2.x.m.2, .slice x.2.ad x.2.n x.2.cap] rfl rfl 153 _ HMq.out (Nat.le_of_ble_eq_true rfl) rfl (by kernel_rfl) rfl ?_; intro w4 hw4 ho4))
    have hz4 : Hid (w4.heap[w.heap.size]? = some (.cells #[.int .u32 0, .int .u32 0, .int .u32 0, .int .u32 0, .int .u16 0, .int .u16 0, .int .u16 0, .int .u16 0, .int .u8 0, .int .u8 0, .slice none 0 0, .int .u32 0, .int .u32 0, .int .u32 0, .int .u32 0, .int .u16 0, .int .u16 0, .int .u16 0, .int .u16 0, .int .u8 0, .int .u8 0, .slice none 0 0] 153)) := by show _ = _; rw [ho4.block _ (by omega)]; exact HZq.out
    have hB4 : Hid (Below w.heap.size w w4) := HBq.out.trans (ho4.below (by omega))
    have hM4 : Hid (w4.heap[w.heap.size + 1]? = some (.cells #[.int .u32 x.1.x.a.1, .int .u32 x.1.x.a.2, .int .u32 x.1.x.b.1, .int .u32 x.1.x.b.2, .int .u16 x.1.x.c.1, .int .u16 x.1.x.c.2, .int .u16 x.1.x.d.1, .int .u16 x.1.x.d.2, .int .u8 x.1.x.m.1, .int .u8 x.1.x.m.2, .slice x.1.ad x.1.n x.1.cap, .int .u32 x.2.x.a.1, .int .u32 x.2.x.a.2, .int .u32 x.2.x.b.1, .int .u32 x.2.x.b.2, .int .u16 x.2.x.c.1, .int .u16 x.2.x.c.2, .int .u16 x.2.x.d.1, .int .u16 x.2.x.d.2, .int .u8 x.2.x.m.1, .int .u8 x.2.x.m.2, .slice x.2.ad x.2.n x.2.cap] 153)) := hw4
    have hK4 : Hid (CtR w b x dx) := HCq.out
    go_roundw
    case rel => exact ⟨i + 1, x, dx, by omega, by omega, by go_num, hM4.out, hz4.out, hK4.out, by have h := HE2.out; rw [HLe.out] at h; show _ = _; simpa using h, HSi.out, hB4.out⟩
    case measure => simp [intOf]; omega
   ·have HLe : Hid (lessC dx dm = false) := by have h := HL0.out; rw [decide_eq_false hneg] at h; exact h.symm
    have hd : decide (Q < 0) = false := decide_eq_false hneg
    go_wp2_with (fail)
    go_roundw
    case rel => exact ⟨i + 1, cm, dm, by omega, by omega, by go_num, HMq.out, HZq.out, HKq.out, by have h := HE2.out; rw [HLe.out] at h; show _ = _; simpa using h, HSc.out, HBq.out⟩
    case measure => simp [intOf]; omega
  ·obtain rfl : i = n := by omega
   have Rm : Hid (wr.rangeAt (w.heap.size + 1) 0 (#[.int .u32 cm.1.x.a.1, .int .u32 cm.1.x.a.2, .int .u32 cm.1.x.b.1, .int .u32 cm.1.x.b.2, .int .u16 cm.1.x.c.1, .int .u16 cm.1.x.c.2, .int .u16 cm.1.x.d.1, .int .u16 cm.1.x.d.2, .int .u8 cm.1.x.m.1, .int .u8 cm.1.x.m.2, .slice cm.1.ad cm.1.n cm.1.cap, .int .u32 cm.2.x.a.1, .int .u32 cm.2.x.a.2, .int .u32 cm.2.x.b.1, .int .u32 cm.2.x.b.2, .int .u16 cm.2.x.c.1, .int .u16 cm.2.x.c.2, .int .u16 cm.2.x.d.1, .int .u16 cm.2.x.d.2, .int .u8 cm.2.x.m.1, .int .u8 cm.2.x.m.2, .slice cm.2.ad cm.2.n cm.2.cap] : Array Value).toList) := rngAll HM.out
   go_wp2_with (first | (refine ct_loadL rfl 153 (.tmp 5) rfl (w.heap.size + 1) 0 #[.int .u32 cm.1.x.a.1, .int .u32 cm.1.x.a.2, .int .u32 cm.1.x.b.1, .int .u32 cm.1.x.b.2, .int .u16 cm.1.x.c.1, .int .u16 cm.1.x.c.2, .int .u16 cm.1.x.d.1, .int .u16 cm.1.x.d.2, .int .u8 cm.1.x.m.1, .int .u8 cm.1.x.m.2, .slice cm.1.ad cm.1.n cm.1.cap, .int .u32 cm.2.x.a.1, .int .u32 cm.2.x.a.2, .int .u32 cm.2.x.b.1, .int .u32 cm.2.x.b.2, .int .u16 cm.2.x.c.1, .int .u16 cm.2.x.c.2, .int .u16 cm.2.x.d.1, .int .u16 cm.2.x.d.2, .int .u8 cm.2.x.m.1, .int .u8 cm.2.x.m.2, .slice cm.2.ad cm.2.n cm.2.cap] rfl Rm.out Tryz.underlying153 rfl (by kernel_rfl) ?_) | (refine wpList_store_blk rfl 153 (.tmp 4) (.tmp 32) rfl w.heap.size 0 #[.int .u32 cm.1.x.a.1, .int .u32 cm.1.x.a.2, .int .u32 cm.1.x.b.1, .int .u32 cm.1.x.b.2, .int .u16 cm.1.x.c.1, .int .u16 cm.1.x.c.2, .int .u16 cm.1.x.d.1, .int .u16 cm.1.x.d.2, .int .u8 cm.1.x.m.1, .int .u8 cm.1.x.m.2, .slice cm.1.ad cm.1.n cm.1.cap, .int .u32 cm.2.x.a.1, .int .u32 cm.2.x.a.2, .int .u32 cm.2.x.b.1, .int .u32 cm.2.x.b.2, .int .u16 cm.2.x.c.1, .int .u16 cm.2.x.c.2, .int .u16 cm.2.x.d.1, .int .u16 cm.2.x.d.2, .int .u8 cm.2.x.m.1, .int .u8 cm.2.x.m.2, .slice cm.2.ad cm.2.n cm.2.cap] #[.int .u32 cm.1.x.a.1, .int .u32 cm.1.x.a.2, .int .u32 cm.1.x.b.1, .int .u32 cm.1.x.b.2, .int .u16 cm.1.x.c.1, .int .u16 cm.1.x.c.2, .int .u16 cm.1.x.d.1, .int .u16 cm.1.x.d.2, .int .u8 cm.1.x.m.1, .int .u8 cm.1.x.m.2, .slice cm.1.ad cm.1.n cm.1.cap, .int .u32 cm.2.x.a.1, .int .u32 cm.2.x.a.2, .int .u32 cm.2.x.b.1, .int .u32 cm.2.x.b.2, .int .u16 cm.2.x.c.1, .int .u16 cm.2.x.c.2, .int .u16 cm.2.x.d.1, .int .u16 cm.2.x.d.2, .int .u8 cm.2.x.m.1, .int .u8 cm.2.x.m.2, .slice cm.2.ad cm.2.n cm.2.cap] rfl rfl 153 _ HZ.out (Nat.le_of_ble_eq_true rfl) rfl (by kernel_rfl) rfl ?_; intro w5 hw5 ho5))
   refine bodyPost_ret (results_blk Tryz.results106 rfl hw5 Tryz.underlying153 rfl (by kernel_rfl)) rfl ?_
   have h := HE.out
   rw [List.drop_eq_nil_of_le (by have := Hlen.out; omega)] at h
   have h2 : minC d0 ds = dm := h
   have hfin := HB.out.trans (ho5.below (Nat.le_refl _))
   have hk5 : CtR w5 b cm (minC d0 ds) := by rw [h2]; exact HK.out.on hfin
   first | exact ⟨cm, rfl, hk5, hfin⟩ | exact ⟨cm.1, cm.2, rfl, hk5, hfin⟩
end Go.Proofs.YtgokmkholjfhbaaGreat
namespace Go.Proofs.YtgokmkholjfhbaaGreat
structure Mk (i : Nat) : Prop where
end Go.Proofs.YtgokmkholjfhbaaGreat
