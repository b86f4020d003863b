/-
  PkAR: CtQ, one behind the other (tools/pack.py).
-/
import Derived.Test.YtgokmkholjfhbaaGreatPkAQ
import Derived.Test.YtgokmkholjfhbaaGreatPkAE
set_option linter.unusedVariables false
set_option linter.unusedSimpArgs false
namespace Go.Proofs.YtgokmkholjfhbaaGreat
open Go.RowKit
theorem cmpQ_less {c1 c2 : Ct2} {d1 d2 : Part × Part} (h1 : moreQ c1 = moreC d1) (h2 : moreQ c2 = moreC d2) (h3 : bothQ c1 = bothC d1) (h4 : bothQ c2 = bothC d2) : decide (cmpQ c1 c2 < 0) = lessC d1 d2 := by
 unfold cmpQ cmpN lessC
 rw [h1, h2, h3, h4]
 rcases Nat.lt_trichotomy (moreC d1) (moreC d2) with h | h | h
 ·simp [h]
 ·simp [h, Nat.lt_irrefl]
  rcases Nat.lt_trichotomy (bothC d1) (bothC d2) with k | k | k
  ·simp [k]
  ·simp [k, Nat.lt_irrefl]
  ·simp [k, show ¬ bothC d1 < bothC d2 by omega]
 ·simp [h, show ¬ moreC d1 < moreC d2 by omega, show ¬ moreC d1 = moreC d2 by omega]
set_option maxRecDepth 20000 in
set_option maxHeartbeats 8000000 in
theorem cmpC (a b : Ct2) (w : World) (a1 : a.1.n ≤ 4096) (a2 : a.2.n ≤ 4096) (b1 : b.1.n ≤ 4096) (b2 : b.2.n ≤ 4096) : Calls Tryz.prog 107 #[.agg #[.int .u32 a.1.x.a.1, .int .u32 a.1.x.a.2, .int .u32 a.1.x.b.1, .int .u32 a.1.x.b.2, .int .u16 a.1.x.c.1, .int .u16 a.1.x.c.2, .int .u16 a.1.x.d.1, .int .u16 a.1.x.d.2, .int .u8 a.1.x.m.1, .int .u8 a.1.x.m.2, .slice a.1.ad a.1.n a.1.cap, .int .u32 a.2.x.a.1, .int .u32 a.2.x.a.2, .int .u32 a.2.x.b.1, .int .u32 a.2.x.b.2, .int .u16 a.2.x.c.1, .int .u16 a.2.x.c.2, .int .u16 a.2.x.d.1, .int .u16 a.2.x.d.2, .int .u8 a.2.x.m.1, .int .u8 a.2.x.m.2, .slice a.2.ad a.2.n a.2.cap], .agg #[.int .u32 b.1.x.a.1, .int .u32 b.1.x.a.2, .int .u32 b.1.x.b.1, .int .u32 b.1.x.b.2, .int .u16 b.1.x.c.1, .int .u16 b.1.x.c.2, .int .u16 b.1.x.d.1, .int .u16 b.1.x.d.2, .int .u8 b.1.x.m.1, .int .u8 b.1.x.m.2, .slice b.1.ad b.1.n b.1.cap, .int .u32 b.2.x.a.1, .int .u32 b.2.x.a.2, .int .u32 b.2.x.b.1, .int .u32 b.2.x.b.2, .int .u16 b.2.x.c.1, .int .u16 b.2.x.c.2, .int .u16 b.2.x.d.1, .int .u16 b.2.x.d.2, .int .u8 b.2.x.m.1, .int .u8 b.2.x.m.2, .slice b.2.ad b.2.n b.2.cap]] w fun e w' => e = .returned (.int .i64 (cmpQ a b)) ∧ Below w.heap.size w w' := by
 have HMa : Hid (∀ W, _) := fun W => moreQC a W
 have HMb : Hid (∀ W, _) := fun W => moreQC b W
 have HBa : Hid (∀ W, _) := fun W => bothQC a W a1 a2
 have HBb : Hid (∀ W, _) := fun W => bothQC b W b1 b2
 have HC1 : Hid (∀ W, _) := fun W => compareC (moreQ a) (moreQ b) W
 have HC2 : Hid (∀ W, _) := fun W => compareC (bothQ a) (bothQ b) W
 have HR : Hid (cmpQ a b = if cmpN (moreQ a) (moreQ b) = 0 then cmpN (bothQ a) (bothQ b) else cmpN (moreQ a) (moreQ b)) := rfl
 generalize cmpQ a b = R at *
 generalize moreQ a = ma at *
 generalize moreQ b = mb at *
 generalize bothQ a = ba at *
 generalize bothQ b = bb at *
 clear a1 a2 b1 b2
 obtain ⟨hp0, hz0, hb0⟩ := al2 w (.cells #[.int .u32 a.1.x.a.1, .int .u32 a.1.x.a.2, .int .u32 a.1.x.b.1, .int .u32 a.1.x.b.2, .int .u16 a.1.x.c.1, .int .u16 a.1.x.c.2, .int .u16 a.1.x.d.1, .int .u16 a.1.x.d.2, .int .u8 a.1.x.m.1, .int .u8 a.1.x.m.2, .slice a.1.ad a.1.n a.1.cap, .int .u32 a.2.x.a.1, .int .u32 a.2.x.a.2, .int .u32 a.2.x.b.1, .int .u32 a.2.x.b.2, .int .u16 a.2.x.c.1, .int .u16 a.2.x.c.2, .int .u16 a.2.x.d.1, .int .u16 a.2.x.d.2, .int .u8 a.2.x.m.1, .int .u8 a.2.x.m.2, .slice a.2.ad a.2.n a.2.cap] 153) (.cells #[.int .u32 b.1.x.a.1, .int .u32 b.1.x.a.2, .int .u32 b.1.x.b.1, .int .u32 b.1.x.b.2, .int .u16 b.1.x.c.1, .int .u16 b.1.x.c.2, .int .u16 b.1.x.d.1, .int .u16 b.1.x.d.2, .int .u8 b.1.x.m.1, .int .u8 b.1.x.m.2, .slice b.1.ad b.1.n b.1.cap, .int .u32 b.2.x.a.1, .int .u32 b.2.x.a.2, .int .u32 b.2.x.b.1, .int .u32 b.2.x.b.2, .int .u16 b.2.x.c.1, .int .u16 b.2.x.c.2, .int .u16 b.2.x.d.1, .int .u16 b.2.x.d.2, .int .u8 b.2.x.m.1, .int .u8 b.2.x.m.2, .slice b.2.ad b.2.n b.2.cap] 153)
 obtain ⟨w0, hw0⟩ : ∃ w0, w0 = (w.alloc (.cells #[.int .u32 a.1.x.a.1, .int .u32 a.1.x.a.2, .int .u32 a.1.x.b.1, .int .u32 a.1.x.b.2, .int .u16 a.1.x.c.1, .int .u16 a.1.x.c.2, .int .u16 a.1.x.d.1, .int .u16 a.1.x.d.2, .int .u8 a.1.x.m.1, .int .u8 a.1.x.m.2, .slice a.1.ad a.1.n a.1.cap, .int .u32 a.2.x.a.1, .int .u32 a.2.x.a.2, .int .u32 a.2.x.b.1, .int .u32 a.2.x.b.2, .int .u16 a.2.x.c.1, .int .u16 a.2.x.c.2, .int .u16 a.2.x.d.1, .int .u16 a.2.x.d.2, .int .u8 a.2.x.m.1, .int .u8 a.2.x.m.2, .slice a.2.ad a.2.n a.2.cap] 153)).alloc (.cells #[.int .u32 b.1.x.a.1, .int .u32 b.1.x.a.2, .int .u32 b.1.x.b.1, .int .u32 b.1.x.b.2, .int .u16 b.1.x.c.1, .int .u16 b.1.x.c.2, .int .u16 b.1.x.d.1, .int .u16 b.1.x.d.2, .int .u8 b.1.x.m.1, .int .u8 b.1.x.m.2, .slice b.1.ad b.1.n b.1.cap, .int .u32 b.2.x.a.1, .int .u32 b.2.x.a.2, .int .u32 b.2.x.b.1, .int .u32 b.2.x.b.2, .int .u16 b.2.x.c.1, .int .u16 b.2.x.c.2, .int .u16 b.2.x.d.1, .int .u16 b.2.x.d.2, .int .u8 b.2.x.m.1, .int .u8 b.2.x.m.2, .slice b.2.ad b.2.n b.2.cap] 153) := ⟨_, rfl⟩
 rw [← hw0] at hp0 hz0 hb0
 have HB0 : Hid (Below w.heap.size w w0) := hb0
 have rA : w0.rangeAt w.heap.size 0 (#[.int .u32 a.1.x.a.1, .int .u32 a.1.x.a.2, .int .u32 a.1.x.b.1, .int .u32 a.1.x.b.2, .int .u16 a.1.x.c.1, .int .u16 a.1.x.c.2, .int .u16 a.1.x.d.1, .int .u16 a.1.x.d.2, .int .u8 a.1.x.m.1, .int .u8 a.1.x.m.2, .slice a.1.ad a.1.n a.1.cap, .int .u32 a.2.x.a.1, .int .u32 a.2.x.a.2, .int .u32 a.2.x.b.1, .int .u32 a.2.x.b.2, .int .u16 a.2.x.c.1, .int .u16 a.2.x.c.2, .int .u16 a.2.x.d.1, .int .u16 a.2.x.d.2, .int .u8 a.2.x.m.1, .int .u8 a.2.x.m.2, .slice a.2.ad a.2.n a.2.cap] : Array Value).toList := rngAll hp0
 have rB : w0.rangeAt (w.heap.size + 1) 0 (#[.int .u32 b.1.x.a.1, .int .u32 b.1.x.a.2, .int .u32 b.1.x.b.1, .int .u32 b.1.x.b.2, .int .u16 b.1.x.c.1, .int .u16 b.1.x.c.2, .int .u16 b.1.x.d.1, .int .u16 b.1.x.d.2, .int .u8 b.1.x.m.1, .int .u8 b.1.x.m.2, .slice b.1.ad b.1.n b.1.cap, .int .u32 b.2.x.a.1, .int .u32 b.2.x.a.2, .int .u32 b.2.x.b.1, .int .u32 b.2.x.b.2, .int .u16 b.2.x.c.1, .int .u16 b.2.x.c.2, .int .u16 b.2.x.d.1, .int .u16 b.2.x.d.2, .int .u8 b.2.x.m.1, .int .u8 b.2.x.m.2, .slice b.2.ad b.2.n b.2.cap] : Array Value).toList := rngAll hz0
 have Hw0 : Hid ((w.alloc (.cells #[.int .u32 a.1.x.a.1, .int .u32 a.1.x.a.2, .int .u32 a.1.x.b.1, .int .u32 a.1.x.b.2, .int .u16 a.1.x.c.1, .int .u16 a.1.x.c.2, .int .u16 a.1.x.d.1, .int .u16 a.1.x.d.2, .int .u8 a.1.x.m.1, .int .u8 a.1.x.m.2, .slice a.1.ad a.1.n a.1.cap, .int .u32 a.2.x.a.1, .int .u32 a.2.x.a.2, .int .u32 a.2.x.b.1, .int .u32 a.2.x.b.2, .int .u16 a.2.x.c.1, .int .u16 a.2.x.c.2, .int .u16 a.2.x.d.1, .int .u16 a.2.x.d.2, .int .u8 a.2.x.m.1, .int .u8 a.2.x.m.2, .slice a.2.ad a.2.n a.2.cap] 153)).alloc (.cells #[.int .u32 b.1.x.a.1, .int .u32 b.1.x.a.2, .int .u32 b.1.x.b.1, .int .u32 b.1.x.b.2, .int .u16 b.1.x.c.1, .int .u16 b.1.x.c.2, .int .u16 b.1.x.d.1, .int .u16 b.1.x.d.2, .int .u8 b.1.x.m.1, .int .u8 b.1.x.m.2, .slice b.1.ad b.1.n b.1.cap, .int .u32 b.2.x.a.1, .int .u32 b.2.x.a.2, .int .u32 b.2.x.b.1, .int .u32 b.2.x.b.2, .int .u16 b.2.x.c.1, .int .u16 b.2.x.c.2, .int .u16 b.2.x.d.1, .int .u16 b.2.x.d.2, .int .u8 b.2.x.m.1, .int .u8 b.2.x.m.2, .slice b.2.ad b.2.n b.2.cap] 153) = w0) := hw0.symm
 clear hp0 hz0 hb0 hw0
 go_enter Tryz.func107, Tryz.ntmps107
 go_upto_region 1 with (fail)
 rw [Hw0.out]
 clear Hw0
 refine wp_region_held_drew (S := fun w' => Below w0.heap.size w0 w') (by kernel_rfl) (Below.drew (Below.refl _ _)) (fun hS0 => ?_)
 show wpAnyH _ _ _ _ _ 13 _ _ _
 obtain ⟨wd, hwd⟩ : ∃ x, x = w0.drew := ⟨_, rfl⟩
 have hzd : Hid (w0.heap.size = wd.heap.size) := by rw [hwd]; rfl
 rw [← hwd] at hS0 ⊢
 clear hwd
 refine wpLd (i := 0) rfl (yieldsIf_load_mid rfl 153 (.tmp 2) rfl w.heap.size 0 rfl (#[.int .u32 a.1.x.a.1, .int .u32 a.1.x.a.2, .int .u32 a.1.x.b.1, .int .u32 a.1.x.b.2, .int .u16 a.1.x.c.1, .int .u16 a.1.x.c.2, .int .u16 a.1.x.d.1, .int .u16 a.1.x.d.2, .int .u8 a.1.x.m.1, .int .u8 a.1.x.m.2, .slice a.1.ad a.1.n a.1.cap, .int .u32 a.2.x.a.1, .int .u32 a.2.x.a.2, .int .u32 a.2.x.b.1, .int .u32 a.2.x.b.2, .int .u16 a.2.x.c.1, .int .u16 a.2.x.c.2, .int .u16 a.2.x.d.1, .int .u16 a.2.x.d.2, .int .u8 a.2.x.m.1, .int .u8 a.2.x.m.2, .slice a.2.ad a.2.n a.2.cap] : Array Value).toList _ (fun w' hw' => rng_on hw' rA) Tryz.underlying153 rfl (by kernel_rfl)) hS0 ?_
 try simp only [nrm]
 refine wpLd (i := 2) rfl (yieldsIf_load_mid rfl 153 (.tmp 3) rfl (w.heap.size + 1) 0 rfl (#[.int .u32 b.1.x.a.1, .int .u32 b.1.x.a.2, .int .u32 b.1.x.b.1, .int .u32 b.1.x.b.2, .int .u16 b.1.x.c.1, .int .u16 b.1.x.c.2, .int .u16 b.1.x.d.1, .int .u16 b.1.x.d.2, .int .u8 b.1.x.m.1, .int .u8 b.1.x.m.2, .slice b.1.ad b.1.n b.1.cap, .int .u32 b.2.x.a.1, .int .u32 b.2.x.a.2, .int .u32 b.2.x.b.1, .int .u32 b.2.x.b.2, .int .u16 b.2.x.c.1, .int .u16 b.2.x.c.2, .int .u16 b.2.x.d.1, .int .u16 b.2.x.d.2, .int .u8 b.2.x.m.1, .int .u8 b.2.x.m.2, .slice b.2.ad b.2.n b.2.cap] : Array Value).toList _ (fun w' hw' => rng_on hw' rB) Tryz.underlying153 rfl (by kernel_rfl)) hS0 ?_
 try simp only [nrm]
 refine wpLd (i := 5) rfl (yieldsIf_load_mid rfl 153 (.tmp 2) rfl w.heap.size 0 rfl (#[.int .u32 a.1.x.a.1, .int .u32 a.1.x.a.2, .int .u32 a.1.x.b.1, .int .u32 a.1.x.b.2, .int .u16 a.1.x.c.1, .int .u16 a.1.x.c.2, .int .u16 a.1.x.d.1, .int .u16 a.1.x.d.2, .int .u8 a.1.x.m.1, .int .u8 a.1.x.m.2, .slice a.1.ad a.1.n a.1.cap, .int .u32 a.2.x.a.1, .int .u32 a.2.x.a.2, .int .u32 a.2.x.b.1, .int .u32 a.2.x.b.2, .int .u16 a.2.x.c.1, .int .u16 a.2.x.c.2, .int .u16 a.2.x.d.1, .int .u16 a.2.x.d.2, .int .u8 a.2.x.m.1, .int .u8 a.2.x.m.2, .slice a.2.ad a.2.n a.2.cap] : Array Value).toList _ (fun w' hw' => rng_on hw' rA) Tryz.underlying153 rfl (by kernel_rfl)) hS0 ?_
 try simp only [nrm]
 refine wpLd (i := 7) rfl (yieldsIf_load_mid rfl 153 (.tmp 3) rfl (w.heap.size + 1) 0 rfl (#[.int .u32 b.1.x.a.1, .int .u32 b.1.x.a.2, .int .u32 b.1.x.b.1, .int .u32 b.1.x.b.2, .int .u16 b.1.x.c.1, .int .u16 b.1.x.c.2, .int .u16 b.1.x.d.1, .int .u16 b.1.x.d.2, .int .u8 b.1.x.m.1, .int .u8 b.1.x.m.2, .slice b.1.ad b.1.n b.1.cap, .int .u32 b.2.x.a.1, .int .u32 b.2.x.a.2, .int .u32 b.2.x.b.1, .int .u32 b.2.x.b.2, .int .u16 b.2.x.c.1, .int .u16 b.2.x.c.2, .int .u16 b.2.x.d.1, .int .u16 b.2.x.d.2, .int .u8 b.2.x.m.1, .int .u8 b.2.x.m.2, .slice b.2.ad b.2.n b.2.cap] : Array Value).toList _ (fun w' hw' => rng_on hw' rB) Tryz.underlying153 rfl (by kernel_rfl)) hS0 ?_
 try simp only [nrm]
 refine wpO 1 (fun K' hK' => ?_)
 go_wp2_with (go_at_call 110; refine (HMa.out _).mono ?_; rintro e wa1 ⟨rfl, hb1⟩)
 have hz1 : Hid (wd.heap.size ≤ wa1.heap.size) := hb1.size
 have hs1 : Below w0.heap.size w0 wa1 := hS0.trans (hb1.mono hS0.size)
 refine ⟨hs1, ?_⟩
 refine wpO 3 (fun K' hK' => ?_)
 go_wp2_with (go_at_call 110; refine (HMb.out _).mono ?_; rintro e wa2 ⟨rfl, hb2⟩)
 have hz2 : Hid (wa1.heap.size ≤ wa2.heap.size) := hb2.size
 have hs2 := thn hs1 hb2
 refine ⟨hs2, ?_⟩
 refine wpO 4 (fun K' hK' => ?_)
 go_wp2_with (go_at_call 109; refine (HC1.out _).mono ?_; rintro e w' ⟨rfl, hw⟩; obtain rfl := hw.symm; clear hw)
 refine ⟨hs2, ?_⟩
 refine wpO 6 (fun K' hK' => ?_)
 go_wp2_with (go_at_call 111; refine (HBa.out _).mono ?_; rintro e wa4 ⟨rfl, hb4⟩)
 have hz4 : Hid (wa2.heap.size ≤ wa4.heap.size) := hb4.size
 have hs4 := thn hs2 hb4
 refine ⟨hs4, ?_⟩
 refine wpO 8 (fun K' hK' => ?_)
 go_wp2_with (go_at_call 111; refine (HBb.out _).mono ?_; rintro e wa5 ⟨rfl, hb5⟩)
 have hz5 : Hid (wa4.heap.size ≤ wa5.heap.size) := hb5.size
 have hs5 := thn hs4 hb5
 refine ⟨hs5, ?_⟩
 refine wpO 9 (fun K' hK' => ?_)
 go_wp2_with (go_at_call 109; refine (HC2.out _).mono ?_; rintro e w' ⟨rfl, hw⟩; obtain rfl := hw.symm; clear hw)
 refine ⟨hs5, ?_⟩
 refine wpO 10 (fun K' hK' => ?_)
 go_wp2_with (fail)
 have hb7 : Below wa5.heap.size wa5 (wa5.alloc (.cells #[.int .i64 (cmpN ma mb), .int .i64 (cmpN ba bb)] 3)) := (Below.refl _ _).alloc (Nat.le_refl _) _
 have hn7 := blk_new wa5 (.cells #[.int .i64 (cmpN ma mb), .int .i64 (cmpN ba bb)] 3)
 obtain ⟨wa7, hw7⟩ : ∃ x, x = wa5.alloc (.cells #[.int .i64 (cmpN ma mb), .int .i64 (cmpN ba bb)] 3) := ⟨_, rfl⟩
 have hz7 : Hid (wa7.heap.size = wa5.heap.size + 1) := by show _ = _; rw [hw7]; simp
 rw [← hw7] at hb7 hn7 ⊢
 clear hw7
 have hs7 := thn hs5 hb7
 refine ⟨hs7, ?_⟩
 refine wpO 11 (fun K' hK' => ?_)
 go_wp2_with (go_at_call 108; refine (orC (cmpN ma mb) (cmpN ba bb) _ _ (blk_cell hn7 rfl) (blk_cell hn7 rfl)).mono ?_; rw [← HR.out]; rintro e w' ⟨rfl, hw⟩; obtain rfl := hw.symm; clear hw)
 refine ⟨hs7, ?_⟩
 have zhzd := hzd.out
 have zhz1 := hz1.out
 have zhz2 := hz2.out
 have zhz4 := hz4.out
 have zhz5 := hz5.out
 have zhz7 := hz7.out
 refine wpTk (i := 12) (v := .int .i64 R) hs7 ?_
 simp only [nrm]
 refine wpAnyH_done (by kernel_rfl) ?_ _
 try simp only [nrm]
 clear zhzd zhz1 zhz2 zhz4 zhz5 zhz7
 have HS9 := hs7
 go_wp2_with (fail)
 go_ret
 exact ⟨rfl, HB0.out.trans (HS9.mono HB0.out.size)⟩
def RelQ (W : World) (b : Nat) : List Ct2 → List (Part × Part) → Prop
 | [], [] => True
 | c :: cs, d :: ds => CtR W b c d ∧ RelQ W b cs ds
 | _, _ => False
theorem RelQ.on {W W1 : World} {b : Nat} (hb : Below W.heap.size W W1) : ∀ {cs : List Ct2} {ds : List (Part × Part)}, RelQ W b cs ds → RelQ W1 b cs ds
 | [], [], _ => trivial
 | c :: cs, d :: ds, h => ⟨h.1.on hb, RelQ.on hb h.2⟩
 | [], d :: ds, h => h.elim
 | c :: cs, [], h => h.elim
theorem RelQ.len {W : World} {b : Nat} : ∀ {cs : List Ct2} {ds : List (Part × Part)}, RelQ W b cs ds → cs.length = ds.length
 | [], [], _ => rfl
 | c :: cs, d :: ds, h => by simp [RelQ.len h.2]
 | [], d :: ds, h => h.elim
 | c :: cs, [], h => h.elim
theorem RelQ.snoc {W : World} {b : Nat} {c : Ct2} {d : Part × Part} (k : CtR W b c d) : ∀ {cs : List Ct2} {ds : List (Part × Part)}, RelQ W b cs ds → RelQ W b (cs ++ [c]) (ds ++ [d])
 | [], [], _ => ⟨k, trivial⟩
 | c :: cs, d :: ds, h => ⟨h.1, RelQ.snoc k h.2⟩
 | [], d :: ds, h => h.elim
 | c :: cs, [], h => h.elim
theorem RelQ.at {W : World} {b : Nat} : ∀ {cs : List Ct2} {ds : List (Part × Part)} (i : Nat) (h1 : i < cs.length) (h2 : i < ds.length), RelQ W b cs ds → CtR W b cs[i] ds[i]
 | c :: cs, d :: ds, 0, _, _, h => h.1
 | c :: cs, d :: ds, i + 1, h1, h2, h => RelQ.at i (by simpa using h1) (by simpa using h2) h.2
 | [], d :: ds, _, _, _, h => h.elim
 | c :: cs, [], _, _, _, h => h.elim
theorem SrcQ.rng {w : World} {ad : Option Addr} {n cap : Nat} {l : List Ct2} (h : SrcQ w (.slice ad n cap) l) : n = l.length ∧ n ≤ cap ∧ (∀ k (hk : k < l.length), ∃ g off, ad = some ⟨g, off, none⟩ ∧ g < w.heap.size ∧ w.rangeAt g (off + k * 22) (encQ (l[k]'hk))) := by
 obtain ⟨ad', cap', e, hc, h2⟩ := h
 obtain ⟨rfl, e2, rfl⟩ : ad = ad' ∧ n = l.length ∧ cap = cap' := by cases e; exact ⟨rfl, rfl, rfl⟩
 refine ⟨e2, by rw [e2]; exact hc.1, fun k hk => ?_⟩
 obtain ⟨g, off, e, h3⟩ := h2 (by omega)
 have key : w.rangeAt g (off + k * 22) (encQ (l[k]'hk)) := fun j u hu => by
  have hj : j < 22 := by
   have := (List.getElem?_eq_some_iff.1 hu).1
   simpa [encQ] using this
  have := h3 k hk j hj
  rw [show off + k * 22 + j = off + (k * 22 + j) by omega]
  exact this.trans hu
 exact ⟨g, off, e, World.block_lt_of_cell? w _ (key 0 _ rfl), key⟩
theorem minC_step {d m : Part × Part} {l : List (Part × Part)} : minC m (d :: l) = minC (if lessC d m then d else m) l := rfl
set_option maxHeartbeats 1000000 in
theorem byF0 (w : World) : Calls Tryz.prog 83 #[.func (.func 84) #[] #[], .func (.func 85) #[] #[], .func (.func 86) #[] #[]] w fun e w' => ∃ bh bf bn bm : Nat, e = .returned (.func (.func 114) #[] #[.pointer (some ⟨bh, 0, none⟩), .pointer (some ⟨bf, 0, none⟩), .pointer (some ⟨bn, 0, none⟩)]) ∧ EnvT w' 85 84 113 86 bh bf bn bm ∧ Below w.heap.size w w' := by
 go_enter Tryz.func83, Tryz.ntmps83
 go_wp2
 go_ret
 refine ⟨w.heap.size + 1, w.heap.size, w.heap.size + 1 + 1 + 1, w.heap.size + 1 + 1, rfl, ⟨by simp [go_sem], by simp [go_sem], by simp [go_sem], by simp [go_sem]⟩, belA⟩
set_option maxHeartbeats 1000000 in
theorem byF1 (w : World) : Calls Tryz.prog 83 #[.func (.func 87) #[] #[], .func (.func 85) #[] #[], .func (.func 86) #[] #[]] w fun e w' => ∃ bh bf bn bm : Nat, e = .returned (.func (.func 114) #[] #[.pointer (some ⟨bh, 0, none⟩), .pointer (some ⟨bf, 0, none⟩), .pointer (some ⟨bn, 0, none⟩)]) ∧ EnvT w' 85 87 113 86 bh bf bn bm ∧ Below w.heap.size w w' := by
 go_enter Tryz.func83, Tryz.ntmps83
 go_wp2
 go_ret
 refine ⟨w.heap.size + 1, w.heap.size, w.heap.size + 1 + 1 + 1, w.heap.size + 1 + 1, rfl, ⟨by simp [go_sem], by simp [go_sem], by simp [go_sem], by simp [go_sem]⟩, belA⟩
set_option maxHeartbeats 1000000 in
theorem byF2 (w : World) : Calls Tryz.prog 88 #[.func (.func 89) #[] #[], .func (.func 90) #[] #[], .func (.func 91) #[] #[]] w fun e w' => ∃ bh bf bn bm : Nat, e = .returned (.func (.func 117) #[] #[.pointer (some ⟨bh, 0, none⟩), .pointer (some ⟨bf, 0, none⟩), .pointer (some ⟨bn, 0, none⟩)]) ∧ EnvT w' 90 89 116 91 bh bf bn bm ∧ Below w.heap.size w w' := by
 go_enter Tryz.func88, Tryz.ntmps88
 go_wp2
 go_ret
 refine ⟨w.heap.size + 1, w.heap.size, w.heap.size + 1 + 1 + 1, w.heap.size + 1 + 1, rfl, ⟨by simp [go_sem], by simp [go_sem], by simp [go_sem], by simp [go_sem]⟩, belA⟩
set_option maxHeartbeats 1000000 in
theorem byF3 (w : World) : Calls Tryz.prog 88 #[.func (.func 92) #[] #[], .func (.func 90) #[] #[], .func (.func 91) #[] #[]] w fun e w' => ∃ bh bf bn bm : Nat, e = .returned (.func (.func 117) #[] #[.pointer (some ⟨bh, 0, none⟩), .pointer (some ⟨bf, 0, none⟩), .pointer (some ⟨bn, 0, none⟩)]) ∧ EnvT w' 90 92 116 91 bh bf bn bm ∧ Below w.heap.size w w' := by
 go_enter Tryz.func88, Tryz.ntmps88
 go_wp2
 go_ret
 refine ⟨w.heap.size + 1, w.heap.size, w.heap.size + 1 + 1 + 1, w.heap.size + 1 + 1, rfl, ⟨by simp [go_sem], by simp [go_sem], by simp [go_sem], by simp [go_sem]⟩, belA⟩
set_option maxHeartbeats 1000000 in
theorem byF4 (w : World) : Calls Tryz.prog 93 #[.func (.func 94) #[] #[], .func (.func 95) #[] #[], .func (.func 96) #[] #[]] w fun e w' => ∃ bh bf bn bm : Nat, e = .returned (.func (.func 120) #[] #[.pointer (some ⟨bh, 0, none⟩), .pointer (some ⟨bf, 0, none⟩), .pointer (some ⟨bn, 0, none⟩)]) ∧ EnvT w' 95 94 119 96 bh bf bn bm ∧ Below w.heap.size w w' := by
 go_enter Tryz.func93, Tryz.ntmps93
 go_wp2
 go_ret
 refine ⟨w.heap.size + 1, w.heap.size, w.heap.size + 1 + 1 + 1, w.heap.size + 1 + 1, rfl, ⟨by simp [go_sem], by simp [go_sem], by simp [go_sem], by simp [go_sem]⟩, belA⟩
structure Tris (w : World) (g : Nat) : Prop where
 t0 : ∃ bh bf bn bm : Nat, w.cell? ⟨g, 0, none⟩ = some (.func (.func 114) #[] #[.pointer (some ⟨bh, 0, none⟩), .pointer (some ⟨bf, 0, none⟩), .pointer (some ⟨bn, 0, none⟩)]) ∧ EnvT w 85 84 113 86 bh bf bn bm
 t1 : ∃ bh bf bn bm : Nat, w.cell? ⟨g, 1, none⟩ = some (.func (.func 114) #[] #[.pointer (some ⟨bh, 0, none⟩), .pointer (some ⟨bf, 0, none⟩), .pointer (some ⟨bn, 0, none⟩)]) ∧ EnvT w 85 87 113 86 bh bf bn bm
 t2 : ∃ bh bf bn bm : Nat, w.cell? ⟨g, 2, none⟩ = some (.func (.func 117) #[] #[.pointer (some ⟨bh, 0, none⟩), .pointer (some ⟨bf, 0, none⟩), .pointer (some ⟨bn, 0, none⟩)]) ∧ EnvT w 90 89 116 91 bh bf bn bm
 t3 : ∃ bh bf bn bm : Nat, w.cell? ⟨g, 3, none⟩ = some (.func (.func 117) #[] #[.pointer (some ⟨bh, 0, none⟩), .pointer (some ⟨bf, 0, none⟩), .pointer (some ⟨bn, 0, none⟩)]) ∧ EnvT w 90 92 116 91 bh bf bn bm
 t4 : ∃ bh bf bn bm : Nat, w.cell? ⟨g, 4, none⟩ = some (.func (.func 120) #[] #[.pointer (some ⟨bh, 0, none⟩), .pointer (some ⟨bf, 0, none⟩), .pointer (some ⟨bn, 0, none⟩)]) ∧ EnvT w 95 94 119 96 bh bf bn bm
theorem Tris.on {w w1 : World} {g : Nat} (h : Tris w g) (hb : Below w.heap.size w w1) : Tris w1 g := by
 obtain ⟨⟨a0, b0, c0, d0, k0, e0⟩, ⟨a1, b1, c1, d1, k1, e1⟩, ⟨a2, b2, c2, d2, k2, e2⟩, ⟨a3, b3, c3, d3, k3, e3⟩, ⟨a4, b4, c4, d4, k4, e4⟩⟩ := h
 exact ⟨⟨a0, b0, c0, d0, cell_on1 hb k0, e0.on hb⟩, ⟨a1, b1, c1, d1, cell_on1 hb k1, e1.on hb⟩, ⟨a2, b2, c2, d2, cell_on1 hb k2, e2.on hb⟩, ⟨a3, b3, c3, d3, cell_on1 hb k3, e3.on hb⟩, ⟨a4, b4, c4, d4, cell_on1 hb k4, e4.on hb⟩⟩
set_option maxHeartbeats 2000000 in
theorem trialsC (w : World) : Calls Tryz.prog 63 #[] w fun e w' => ∃ g : Nat, e = .returned (.slice (some ⟨g, 0, none⟩) 5 5) ∧ Tris w' g ∧ w.heap.size ≤ g ∧ Below w.heap.size w w' := by
 have H0 : Hid (∀ W, _) := byF0
 have H1 : Hid (∀ W, _) := byF1
 have H2 : Hid (∀ W, _) := byF2
 have H3 : Hid (∀ W, _) := byF3
 have H4 : Hid (∀ W, _) := byF4
 go_enter Tryz.func63, Tryz.ntmps63
 go_wp2_with (fail)
 refine (H0.out _).mono ?_
 rintro e w1 ⟨bh0, bf0, bn0, bm0, rfl, he0, hb0⟩
 have E0 : Hid _ := he0
 have B0 : Hid (Below w.heap.size w w1) := hb0
 clear he0 hb0
 go_wp2_with (fail)
 refine (H1.out _).mono ?_
 rintro e w2 ⟨bh1, bf1, bn1, bm1, rfl, he1, hb1⟩
 have E1 : Hid _ := he1
 have E0' : Hid _ := E0.out.on hb1
 clear E0
 have B1 : Hid (Below w.heap.size w w2) := B0.out.trans (hb1.mono B0.out.size)
 clear he1 hb1
 go_wp2_with (fail)
 refine (H2.out _).mono ?_
 rintro e w3 ⟨bh2, bf2, bn2, bm2, rfl, he2, hb2⟩
 have E2 : Hid _ := he2
 have E0'' : Hid _ := E0'.out.on hb2
 clear E0'
 have E1' : Hid _ := E1.out.on hb2
 clear E1
 have B2 : Hid (Below w.heap.size w w3) := B1.out.trans (hb2.mono B1.out.size)
 clear he2 hb2
 go_wp2_with (fail)
 refine (H3.out _).mono ?_
 rintro e w4 ⟨bh3, bf3, bn3, bm3, rfl, he3, hb3⟩
 have E3 : Hid _ := he3
 have E0''' : Hid _ := E0''.out.on hb3
 clear E0''
 have E1'' : Hid _ := E1'.out.on hb3
 clear E1'
 have E2' : Hid _ := E2.out.on hb3
 clear E2
 have B3 : Hid (Below w.heap.size w w4) := B2.out.trans (hb3.mono B2.out.size)
 clear he3 hb3
 go_wp2_with (fail)
 refine (H4.out _).mono ?_
 rintro e w5 ⟨bh4, bf4, bn4, bm4, rfl, he4, hb4⟩
 have E4 : Hid _ := he4
 have E0'''' : Hid _ := E0'''.out.on hb4
 clear E0'''
 have E1''' : Hid _ := E1''.out.on hb4
 clear E1''
 have E2'' : Hid _ := E2'.out.on hb4
 clear E2'
 have E3' : Hid _ := E3.out.on hb4
 clear E3
 have B4 : Hid (Below w.heap.size w w5) := B3.out.trans (hb4.mono B3.out.size)
 clear he4 hb4
 go_wp2_with (fail)
 go_ret
 have ha := (Below.refl w5.heap.size w5).alloc (Nat.le_refl _) (.cells #[.func (.func 114) #[] #[.pointer (some ⟨bh0, 0, none⟩), .pointer (some ⟨bf0, 0, none⟩), .pointer (some ⟨bn0, 0, none⟩)], .func (.func 114) #[] #[.pointer (some ⟨bh1, 0, none⟩), .pointer (some ⟨bf1, 0, none⟩), .pointer (some ⟨bn1, 0, none⟩)], .func (.func 117) #[] #[.pointer (some ⟨bh2, 0, none⟩), .pointer (some ⟨bf2, 0, none⟩), .pointer (some ⟨bn2, 0, none⟩)], .func (.func 117) #[] #[.pointer (some ⟨bh3, 0, none⟩), .pointer (some ⟨bf3, 0, none⟩), .pointer (some ⟨bn3, 0, none⟩)], .func (.func 120) #[] #[.pointer (some ⟨bh4, 0, none⟩), .pointer (some ⟨bf4, 0, none⟩), .pointer (some ⟨bn4, 0, none⟩)]] 161)
 refine ⟨w5.heap.size, rfl, ⟨⟨bh0, bf0, bn0, bm0, by simp [go_sem], E0''''.out.on ha⟩, ⟨bh1, bf1, bn1, bm1, by simp [go_sem], E1'''.out.on ha⟩, ⟨bh2, bf2, bn2, bm2, by simp [go_sem], E2''.out.on ha⟩, ⟨bh3, bf3, bn3, bm3, by simp [go_sem], E3'.out.on ha⟩, ⟨bh4, bf4, bn4, bm4, by simp [go_sem], E4.out.on ha⟩⟩, B4.out.size, B4.out.trans (ha.mono B4.out.size)⟩
end Go.Proofs.YtgokmkholjfhbaaGreat
