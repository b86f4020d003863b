/-
  PkAU: CtTr, one behind the other (tools/pack.py).
-/
import Derived.Test.YtgokmkholjfhbaaGreatPkAT
import Derived.Test.YtgokmkholjfhbaaGreatPkAQ
import Derived.Test.YtgokmkholjfhbaaGreatPkAE
set_option linter.unusedVariables false
set_option linter.unusedSimpArgs false
namespace Go.Proofs.YtgokmkholjfhbaaGreat
open Go.RowKit
set_option maxRecDepth 20000 in
set_option maxHeartbeats 40000000 in
theorem trir (i FFn : Nat) (hm : (i = 0 ∧ FFn = 84) ∨ (i = 1 ∧ FFn = 87)) (p : Pt) (L : List CtE) (bh bf bn bm : Nat) (w : World) (hen : EnvT w 85 FFn 113 86 bh bf bn bm)
  (hs : SrcZ w (.slice p.ad p.n p.cap) L) (hl : L.length ≤ 64) (hLo : ∀ e ∈ L, okF i (fget i e.2) = true) (hLb : ∀ e ∈ L, bdF i (fget i e.2)) (ho : okF i (fget i p.x) = true) (hb : bdF i (fget i p.x)) :
  Calls Tryz.prog 114 #[.agg #[.int .u32 p.x.a.1, .int .u32 p.x.a.2, .int .u32 p.x.b.1, .int .u32 p.x.b.2, .int .u16 p.x.c.1, .int .u16 p.x.c.2, .int .u16 p.x.d.1, .int .u16 p.x.d.2, .int .u8 p.x.m.1, .int .u8 p.x.m.2, .slice p.ad p.n p.cap], .pointer (some ⟨bh, 0, none⟩), .pointer (some ⟨bf, 0, none⟩), .pointer (some ⟨bn, 0, none⟩)] w fun e w' => TriOut w' w.heap.size (tryF i (p.x, L)) e ∧ Below w.heap.size w w' := by
 have hm2 : Mk i := ⟨⟩
 rcases hm with ⟨rfl, rfl⟩ | ⟨rfl, rfl⟩
 all_goals
  first | (have hq : Mk 0 := hm2; clear hq; have hf := fun (B o : Nat) (W : World) => fieldC0 B o W) | (have hq : Mk 1 := hm2; clear hq; have hf := fun (B o : Nat) (W : World) => fieldC1 B o W)
  first | (have hq : Mk 0 := hm2; clear hq; have hnc := fun (p : Pt) (t : Nat × Nat) (W : World) hbf hbm hs hto htb => narr 0 _ (.inl ⟨rfl, rfl⟩) p L t bf bm W hbf hbm hs hl hLo hLb hto htb) | (have hq : Mk 1 := hm2; clear hq; have hnc := fun (p : Pt) (t : Nat × Nat) (W : World) hbf hbm hs hto htb => narr 1 _ (.inr ⟨rfl, rfl⟩) p L t bf bm W hbf hbm hs hl hLo hLb hto htb)
  obtain ⟨X, ad, n, cap⟩ := p
  simp only at hs ho hb ⊢
  first | (have hq : Mk 0 := hm2; clear hq; obtain ⟨u, v, hh, hu1, hu2, hv1, hv2, hH⟩ := halveRunC X.a.1 X.a.2 hb.1 hb.2 (of_decide_eq_true ho)) | (have hq : Mk 1 := hm2; clear hq; obtain ⟨u, v, hh, hu1, hu2, hv1, hv2, hH⟩ := halveRunC X.b.1 X.b.2 hb.1 hb.2 (of_decide_eq_true ho))
  first | (have hq : Mk 0 := hm2; clear hq; have HO : Hid (okF 0 (fget 0 X) = true) := ho) | (have hq : Mk 1 := hm2; clear hq; have HO : Hid (okF 1 (fget 1 X) = true) := ho)
  first | (have hq : Mk 0 := hm2; clear hq; have HBd : Hid (bdF 0 (fget 0 X)) := hb) | (have hq : Mk 1 := hm2; clear hq; have HBd : Hid (bdF 1 (fget 1 X)) := hb)
  first | (have hq : Mk 0 := hm2; clear hq; have HU : Hid (bdF 0 u ∧ bdF 0 v) := ⟨⟨hu1, hu2⟩, hv1, hv2⟩) | (have hq : Mk 1 := hm2; clear hq; have HU : Hid (bdF 1 u ∧ bdF 1 v) := ⟨⟨hu1, hu2⟩, hv1, hv2⟩)
  first | (have hq : Mk 0 := hm2; clear hq; have HT : Hid (tryF 0 (X, L) = match halF 0 (fget 0 X) with | none => none | some (u, v) => some (halfP 0 (X, L) u, halfP 0 (X, L) v)) := rfl) | (have hq : Mk 1 := hm2; clear hq; have HT : Hid (tryF 1 (X, L) = match halF 1 (fget 1 X) with | none => none | some (u, v) => some (halfP 1 (X, L) u, halfP 1 (X, L) v)) := rfl)
  first | (have hq : Mk 0 := hm2; clear hq; have HHb : Hid (halF 0 (fget 0 X) = some (u, v) ∨ halF 0 (fget 0 X) = none) := hh) | (have hq : Mk 1 := hm2; clear hq; have HHb : Hid (halF 1 (fget 1 X) = some (u, v) ∨ halF 1 (fget 1 X) = none) := hh)
  first | (have hq : Mk 0 := hm2; clear hq; have hH2 : ∀ W : World, Calls Tryz.prog 85 #[.agg #[.int .u32 X.a.1, .int .u32 X.a.2]] W fun e w' => e = .returned (.tuple #[.agg #[.int .u32 u.1, .int .u32 u.2], .agg #[.int .u32 v.1, .int .u32 v.2], .bool (halF 0 (fget 0 X)).isSome]) ∧ Below W.heap.size W w' := hH) | (have hq : Mk 1 := hm2; clear hq; have hH2 : ∀ W : World, Calls Tryz.prog 85 #[.agg #[.int .u32 X.b.1, .int .u32 X.b.2]] W fun e w' => e = .returned (.tuple #[.agg #[.int .u32 u.1, .int .u32 u.2], .agg #[.int .u32 v.1, .int .u32 v.2], .bool (halF 1 (fget 1 X)).isSome]) ∧ Below W.heap.size W w' := hH)
  have HH2 : Hid _ := hH2
  have Hf : Hid _ := hf
  have HNc : Hid _ := hnc
  have HS : Hid (SrcZ w (.slice ad n cap) L) := hs
  first | (have hq : Mk 0 := hm2; clear hq; have HEn : Hid (EnvT w 85 84 113 86 bh bf bn bm) := hen) | (have hq : Mk 1 := hm2; clear hq; have HEn : Hid (EnvT w 85 87 113 86 bh bf bn bm) := hen)
  clear hh hu1 hu2 hv1 hv2 hH hf hnc hs hen ho hb hLo hLb hH2
  first | (have hq : Mk 0 := hm2; clear hq; generalize hbv : (halF 0 (fget 0 X)).isSome = bv at *) | (have hq : Mk 1 := hm2; clear hq; generalize hbv : (halF 1 (fget 1 X)).isSome = bv at *)
  first | (have hq : Mk 0 := hm2; clear hq; have Hbv : Hid ((halF 0 (fget 0 X)).isSome = bv) := hbv) | (have hq : Mk 1 := hm2; clear hq; have Hbv : Hid ((halF 1 (fget 1 X)).isSome = bv) := hbv)
  clear hbv
  obtain ⟨hp0, hz0, hb0⟩ := al2 w (.cells #[.int .u32 X.a.1, .int .u32 X.a.2, .int .u32 X.b.1, .int .u32 X.b.2, .int .u16 X.c.1, .int .u16 X.c.2, .int .u16 X.d.1, .int .u16 X.d.2, .int .u8 X.m.1, .int .u8 X.m.2, .slice ad n cap] 135) (.cells #[.int .u32 0, .int .u32 0, .int .u32 0, .int .u32 0, .int .u16 0, .int .u16 0, .int .u16 0, .int .u16 0, .int .u8 0, .int .u8 0, .slice none 0 0, .int .u32 0, .int .u32 0, .int .u32 0, .int .u32 0, .int .u16 0, .int .u16 0, .int .u16 0, .int .u16 0, .int .u8 0, .int .u8 0, .slice none 0 0] 153)
  obtain ⟨w0, hw0⟩ : ∃ w0, w0 = ((w.alloc (.cells #[.int .u32 X.a.1, .int .u32 X.a.2, .int .u32 X.b.1, .int .u32 X.b.2, .int .u16 X.c.1, .int .u16 X.c.2, .int .u16 X.d.1, .int .u16 X.d.2, .int .u8 X.m.1, .int .u8 X.m.2, .slice ad n cap] 135)).alloc (.cells #[.int .u32 0, .int .u32 0, .int .u32 0, .int .u32 0, .int .u16 0, .int .u16 0, .int .u16 0, .int .u16 0, .int .u8 0, .int .u8 0, .slice none 0 0, .int .u32 0, .int .u32 0, .int .u32 0, .int .u32 0, .int .u16 0, .int .u16 0, .int .u16 0, .int .u16 0, .int .u8 0, .int .u8 0, .slice none 0 0] 153)) := ⟨_, rfl⟩
  rw [← hw0] at hp0 hz0 hb0
  have HB0 : Hid (Below w.heap.size w w0) := hb0
  have HP0 : Hid (w0.heap[w.heap.size]? = some (.cells #[.int .u32 X.a.1, .int .u32 X.a.2, .int .u32 X.b.1, .int .u32 X.b.2, .int .u16 X.c.1, .int .u16 X.c.2, .int .u16 X.d.1, .int .u16 X.d.2, .int .u8 X.m.1, .int .u8 X.m.2, .slice ad n cap] 135)) := hp0
  have HZ0 : Hid (w0.heap[w.heap.size + 1]? = some (.cells #[.int .u32 0, .int .u32 0, .int .u32 0, .int .u32 0, .int .u16 0, .int .u16 0, .int .u16 0, .int .u16 0, .int .u8 0, .int .u8 0, .slice none 0 0, .int .u32 0, .int .u32 0, .int .u32 0, .int .u32 0, .int .u16 0, .int .u16 0, .int .u16 0, .int .u16 0, .int .u8 0, .int .u8 0, .slice none 0 0] 153)) := hz0
  have Hw0 : Hid (((w.alloc (.cells #[.int .u32 X.a.1, .int .u32 X.a.2, .int .u32 X.b.1, .int .u32 X.b.2, .int .u16 X.c.1, .int .u16 X.c.2, .int .u16 X.d.1, .int .u16 X.d.2, .int .u8 X.m.1, .int .u8 X.m.2, .slice ad n cap] 135)).alloc (.cells #[.int .u32 0, .int .u32 0, .int .u32 0, .int .u32 0, .int .u16 0, .int .u16 0, .int .u16 0, .int .u16 0, .int .u8 0, .int .u8 0, .slice none 0 0, .int .u32 0, .int .u32 0, .int .u32 0, .int .u32 0, .int .u16 0, .int .u16 0, .int .u16 0, .int .u16 0, .int .u8 0, .int .u8 0, .slice none 0 0] 153)) = w0) := hw0.symm
  clear hp0 hz0 hb0 hw0
  go_enter Tryz.func114, Tryz.ntmps114
  go_upto_region 1 with (fail)
  rw [Hw0.out]
  clear Hw0
  go_cut [7, 8, 9] (fun s0 s1 s2 wx => ∃ A B : Nat, s0 = .pointer (some ⟨A, 0, none⟩) ∧ s1 = .pointer (some ⟨B, 0, none⟩) ∧ s2 = .bool bv ∧ Hid (wx.heap[A]? = some (.cells #[.int .u32 u.1, .int .u32 u.2] 72)) ∧ Hid (wx.heap[B]? = some (.cells #[.int .u32 v.1, .int .u32 v.2] 72)) ∧ Hid (Below w0.heap.size w0 wx))
  case first =>
   have ch := cell_on1 HB0.out HEn.out.h
   have cf := cell_on1 HB0.out HEn.out.f
   obtain ⟨rX0, _⟩ := ct_part HP0.out
   first | (have hq : Mk 0 := hm2; clear hq; have rX : w0.rangeAt w.heap.size 0 (#[.int .u32 X.a.1, .int .u32 X.a.2] : Array Value).toList := rng_sub rX0 0 2) | (have hq : Mk 1 := hm2; clear hq; have rX : w0.rangeAt w.heap.size 2 (#[.int .u32 X.b.1, .int .u32 X.b.2] : Array Value).toList := rng_sub rX0 2 2)
   clear rX0
   refine wp_region_held_drew (S := fun w' => Below w0.heap.size w0 w') (by kernel_rfl) (Below.drew (Below.refl _ _)) (fun hS0 => ?_)
   show wpAnyH _ _ _ _ _ 16 _ _ _
   obtain ⟨wd, hwd⟩ : ∃ x, x = w0.drew := ⟨_, rfl⟩
   have hzd : Hid (w0.heap.size = wd.heap.size) := by rw [hwd]; rfl
   rw [← hwd] at hS0 ⊢
   clear hwd
   refine wpAnyH_take (i := 0) (v := .func (.func 85) #[] #[]) rfl (by kernel_rfl) (by kernel_rfl) (by kernel_rfl) (fun _ _ _ h => h) (.inl ⟨rfl, fun w' hw' => by have hcc := cell_on1 hw' ch; simp [execOp, go_sem, hcc]⟩) hS0 ?_
   simp only [nrm]
   first | (have hq : Mk 0 := hm2; clear hq; refine wpAnyH_take (i := 1) (v := .func (.func 84) #[] #[]) rfl (by kernel_rfl) (by kernel_rfl) (by kernel_rfl) (fun _ _ _ h => h) (.inl ⟨rfl, fun w' hw' => by have hcc := cell_on1 hw' cf; simp [execOp, go_sem, hcc]⟩) hS0 ?_) | (have hq : Mk 1 := hm2; clear hq; refine wpAnyH_take (i := 1) (v := .func (.func 87) #[] #[]) rfl (by kernel_rfl) (by kernel_rfl) (by kernel_rfl) (fun _ _ _ h => h) (.inl ⟨rfl, fun w' hw' => by have hcc := cell_on1 hw' cf; simp [execOp, go_sem, hcc]⟩) hS0 ?_)
   simp only [nrm]
   refine wpTk (i := 2) (v := .pointer (some ⟨w.heap.size, 0, none⟩)) hS0 ?_
   simp only [nrm]
   refine wpAnyH_all (rs := [3, 11, 12]) (by kernel_rfl) (by simp) ?_
   intro i hi
   simp only [mmL] at hi
   rcases hi with rfl | rfl | rfl
   ·refine wpOp_of_wp rfl rfl (fun K' hK' => ?_)
    first | (have hq : Mk 0 := hm2; clear hq; go_wp2_with (go_at_call 84; refine (Hf.out _ _ _).mono ?_; rintro e w' ⟨rfl, hw⟩; obtain rfl := hw.symm; clear hw)) | (have hq : Mk 1 := hm2; clear hq; go_wp2_with (go_at_call 87; refine (Hf.out _ _ _).mono ?_; rintro e w' ⟨rfl, hw⟩; obtain rfl := hw.symm; clear hw))
    refine ⟨hS0, ?_⟩
    first | (have hq : Mk 0 := hm2; clear hq; refine wpTk (i := 4) (v := .pointer (some ⟨w.heap.size, 0, none⟩)) hS0 ?_) | (have hq : Mk 1 := hm2; clear hq; refine wpTk (i := 4) (v := .pointer (some ⟨w.heap.size, 2, none⟩)) hS0 ?_)
    simp only [nrm]
    first | (have hq : Mk 0 := hm2; clear hq; refine wpLd (i := 5) rfl (yieldsIf_load_mid rfl 72 (.tmp 15) rfl w.heap.size 0 rfl (#[.int .u32 X.a.1, .int .u32 X.a.2] : Array Value).toList _ (fun w' hw' => rng_on hw' rX) Tryz.underlying72 rfl (by kernel_rfl)) hS0 ?_) | (have hq : Mk 1 := hm2; clear hq; refine wpLd (i := 5) rfl (yieldsIf_load_mid rfl 72 (.tmp 15) rfl w.heap.size 2 rfl (#[.int .u32 X.b.1, .int .u32 X.b.2] : Array Value).toList _ (fun w' hw' => rng_on hw' rX) Tryz.underlying72 rfl (by kernel_rfl)) hS0 ?_)
    try simp only [nrm]
    refine wpAnyH_all (rs := [6, 11, 12]) (by kernel_rfl) (by simp) ?_
    intro i hi
    simp only [mmL] at hi
    rcases hi with rfl | rfl | rfl
    ·refine wpOp_of_wp rfl rfl (fun K' hK' => ?_)
     go_wp2_with (go_at_call 85; refine (HH2.out _).mono ?_; rintro e wa2 ⟨rfl, hb2⟩)
     have hz2 : Hid (wd.heap.size ≤ wa2.heap.size) := hb2.size
     have hs2 : Below w0.heap.size w0 wa2 := hS0.trans (hb2.mono hS0.size)
     refine ⟨hs2, ?_⟩
     refine wpTk (i := 7) (v := .tuple #[.agg #[.int .u32 u.1, .int .u32 u.2], .agg #[.int .u32 v.1, .int .u32 v.2], .bool bv]) hs2 ?_
     simp only [nrm]
     refine wpTk (i := 8) (v := .agg #[.int .u32 u.1, .int .u32 u.2]) hs2 ?_
     simp only [nrm]
     refine wpTk (i := 9) (v := .agg #[.int .u32 v.1, .int .u32 v.2]) hs2 ?_
     simp only [nrm]
     refine wpTk (i := 10) (v := .bool bv) hs2 ?_
     simp only [nrm]
     refine wpAnyH_all (rs := [11, 12]) (by kernel_rfl) (by simp) ?_
     intro i hi
     simp only [mmL] at hi
     rcases hi with rfl | rfl
     ·refine wpOp_of_wp rfl rfl (fun K' hK' => ?_)
      go_wp2_with (fail)
      have hb3 : Below wa2.heap.size wa2 (wa2.alloc (.cells #[.int .u32 0, .int .u32 0] 72)) := (Below.refl _ _).alloc (Nat.le_refl _) _
      have hn3 := blk_new wa2 (.cells #[.int .u32 0, .int .u32 0] 72)
      obtain ⟨wa3, hw3⟩ : ∃ x, x = wa2.alloc (.cells #[.int .u32 0, .int .u32 0] 72) := ⟨_, rfl⟩
      have hz3 : Hid (wa3.heap.size = wa2.heap.size + 1) := by show _ = _; rw [hw3]; simp
      rw [← hw3] at hb3 hn3 ⊢
      clear hw3
      have hs3 := thn hs2 hb3
      refine ⟨hs3, ?_⟩
      refine wpO 12 (fun K' hK' => ?_)
      go_wp2_with (fail)
      have hb4 : Below wa3.heap.size wa3 (wa3.alloc (.cells #[.int .u32 0, .int .u32 0] 72)) := (Below.refl _ _).alloc (Nat.le_refl _) _
      have hn4 := blk_new wa3 (.cells #[.int .u32 0, .int .u32 0] 72)
      obtain ⟨wa4, hw4⟩ : ∃ x, x = wa3.alloc (.cells #[.int .u32 0, .int .u32 0] 72) := ⟨_, rfl⟩
      have hz4 : Hid (wa4.heap.size = wa3.heap.size + 1) := by show _ = _; rw [hw4]; simp
      rw [← hw4] at hb4 hn4 ⊢
      clear hw4
      have hs4 := thn hs3 hb4
      have hk4A := blk_on hn3 hb4
      refine ⟨hs4, ?_⟩
      have zhzd := hzd.out
      have zhz2 := hz2.out
      have zhz3 := hz3.out
      have zhz4 := hz4.out
      refine wpO 13 (fun K' hK' => ?_)
      refine wpSt 72 (.tmp 7) (.tmp 18) rfl (wa2.heap.size) 0 #[.int .u32 u.1, .int .u32 u.2] #[.int .u32 u.1, .int .u32 u.2] rfl rfl 72 _ hk4A (fun wb5 hp5 ho5 => hK' _ _ ?_)
      have ht5 := tho hs4 ho5
      have hq5B : wb5.heap[wa3.heap.size]? = _ := (ho5.block _ (by omega)).trans hn4
      refine ⟨ht5, ?_⟩
      refine wpO 14 (fun K' hK' => ?_)
      refine wpSt 72 (.tmp 8) (.tmp 19) rfl (wa3.heap.size) 0 #[.int .u32 v.1, .int .u32 v.2] #[.int .u32 v.1, .int .u32 v.2] rfl rfl 72 _ hq5B (fun wb6 hp6 ho6 => hK' _ _ ?_)
      have ht6 := tho ht5 ho6
      have hq6A : wb6.heap[wa2.heap.size]? = _ := (ho6.block _ (by omega)).trans hp5
      refine ⟨ht6, ?_⟩
      refine wpTk (i := 15) (v := .bool bv) ht6 ?_
      simp only [nrm]
      refine wpAnyH_done (by kernel_rfl) ?_ _
      try simp only [nrm]
      clear zhzd zhz2 zhz3 zhz4
      have HS9 : Hid _ := ht6
      have HA9 : Hid _ := hq6A
      have HB9 : Hid _ := hp6
      go_wp2_with (fail)
      go_meet
      case rel => exact ⟨_, _, rfl, rfl, rfl, HA9.out, HB9.out, HS9.out⟩
     ·refine wpOp_of_wp rfl rfl (fun K' hK' => ?_)
      go_wp2_with (fail)
      have hb7 : Below wa2.heap.size wa2 (wa2.alloc (.cells #[.int .u32 0, .int .u32 0] 72)) := (Below.refl _ _).alloc (Nat.le_refl _) _
      have hn7 := blk_new wa2 (.cells #[.int .u32 0, .int .u32 0] 72)
      obtain ⟨wa7, hw7⟩ : ∃ x, x = wa2.alloc (.cells #[.int .u32 0, .int .u32 0] 72) := ⟨_, rfl⟩
      have hz7 : Hid (wa7.heap.size = wa2.heap.size + 1) := by show _ = _; rw [hw7]; simp
      rw [← hw7] at hb7 hn7 ⊢
      clear hw7
      have hs7 := thn hs2 hb7
      refine ⟨hs7, ?_⟩
      refine wpO 11 (fun K' hK' => ?_)
      go_wp2_with (fail)
      have hb8 : Below wa7.heap.size wa7 (wa7.alloc (.cells #[.int .u32 0, .int .u32 0] 72)) := (Below.refl _ _).alloc (Nat.le_refl _) _
      have hn8 := blk_new wa7 (.cells #[.int .u32 0, .int .u32 0] 72)
      obtain ⟨wa8, hw8⟩ : ∃ x, x = wa7.alloc (.cells #[.int .u32 0, .int .u32 0] 72) := ⟨_, rfl⟩
      have hz8 : Hid (wa8.heap.size = wa7.heap.size + 1) := by show _ = _; rw [hw8]; simp
      rw [← hw8] at hb8 hn8 ⊢
      clear hw8
      have hs8 := thn hs7 hb8
      have hk8B := blk_on hn7 hb8
      refine ⟨hs8, ?_⟩
      have zhzd := hzd.out
      have zhz2 := hz2.out
      have zhz7 := hz7.out
      have zhz8 := hz8.out
      refine wpO 13 (fun K' hK' => ?_)
      refine wpSt 72 (.tmp 7) (.tmp 18) rfl (wa7.heap.size) 0 #[.int .u32 u.1, .int .u32 u.2] #[.int .u32 u.1, .int .u32 u.2] rfl rfl 72 _ hn8 (fun wb9 hp9 ho9 => hK' _ _ ?_)
      have ht9 := tho hs8 ho9
      have hq9B : wb9.heap[wa2.heap.size]? = _ := (ho9.block _ (by omega)).trans hk8B
      refine ⟨ht9, ?_⟩
      refine wpO 14 (fun K' hK' => ?_)
      refine wpSt 72 (.tmp 8) (.tmp 19) rfl (wa2.heap.size) 0 #[.int .u32 v.1, .int .u32 v.2] #[.int .u32 v.1, .int .u32 v.2] rfl rfl 72 _ hq9B (fun wb10 hp10 ho10 => hK' _ _ ?_)
      have ht10 := tho ht9 ho10
      have hq10A : wb10.heap[wa7.heap.size]? = _ := (ho10.block _ (by omega)).trans hp9
      refine ⟨ht10, ?_⟩
      refine wpTk (i := 15) (v := .bool bv) ht10 ?_
      simp only [nrm]
      refine wpAnyH_done (by kernel_rfl) ?_ _
      try simp only [nrm]
      clear zhzd zhz2 zhz7 zhz8
      have HS9 : Hid _ := ht10
      have HA9 : Hid _ := hq10A
      have HB9 : Hid _ := hp10
      go_wp2_with (fail)
      go_meet
      case rel => exact ⟨_, _, rfl, rfl, rfl, HA9.out, HB9.out, HS9.out⟩
    ·refine wpOp_of_wp rfl rfl (fun K' hK' => ?_)
     go_wp2_with (fail)
     have hb11 : Below wd.heap.size wd (wd.alloc (.cells #[.int .u32 0, .int .u32 0] 72)) := (Below.refl _ _).alloc (Nat.le_refl _) _
     have hn11 := blk_new wd (.cells #[.int .u32 0, .int .u32 0] 72)
     obtain ⟨wa11, hw11⟩ : ∃ x, x = wd.alloc (.cells #[.int .u32 0, .int .u32 0] 72) := ⟨_, rfl⟩
     have hz11 : Hid (wa11.heap.size = wd.heap.size + 1) := by show _ = _; rw [hw11]; simp
     rw [← hw11] at hb11 hn11 ⊢
     clear hw11
     have hs11 : Below w0.heap.size w0 wa11 := hS0.trans (hb11.mono hS0.size)
     refine ⟨hs11, ?_⟩
     refine wpAnyH_all (rs := [6, 12]) (by kernel_rfl) (by simp) ?_
     intro i hi
     simp only [mmL] at hi
     rcases hi with rfl | rfl
     ·refine wpOp_of_wp rfl rfl (fun K' hK' => ?_)
      go_wp2_with (go_at_call 85; refine (HH2.out _).mono ?_; rintro e wa12 ⟨rfl, hb12⟩)
      have hz12 : Hid (wa11.heap.size ≤ wa12.heap.size) := hb12.size
      have hs12 := thn hs11 hb12
      have hk12A := blk_on hn11 hb12
      refine ⟨hs12, ?_⟩
      refine wpTk (i := 7) (v := .tuple #[.agg #[.int .u32 u.1, .int .u32 u.2], .agg #[.int .u32 v.1, .int .u32 v.2], .bool bv]) hs12 ?_
      simp only [nrm]
      refine wpTk (i := 8) (v := .agg #[.int .u32 u.1, .int .u32 u.2]) hs12 ?_
      simp only [nrm]
      refine wpTk (i := 9) (v := .agg #[.int .u32 v.1, .int .u32 v.2]) hs12 ?_
      simp only [nrm]
      refine wpTk (i := 10) (v := .bool bv) hs12 ?_
      simp only [nrm]
      refine wpO 12 (fun K' hK' => ?_)
      go_wp2_with (fail)
      have hb13 : Below wa12.heap.size wa12 (wa12.alloc (.cells #[.int .u32 0, .int .u32 0] 72)) := (Below.refl _ _).alloc (Nat.le_refl _) _
      have hn13 := blk_new wa12 (.cells #[.int .u32 0, .int .u32 0] 72)
      obtain ⟨wa13, hw13⟩ : ∃ x, x = wa12.alloc (.cells #[.int .u32 0, .int .u32 0] 72) := ⟨_, rfl⟩
      have hz13 : Hid (wa13.heap.size = wa12.heap.size + 1) := by show _ = _; rw [hw13]; simp
      rw [← hw13] at hb13 hn13 ⊢
      clear hw13
      have hs13 := thn hs12 hb13
      have hk13A := blk_on hk12A hb13
      refine ⟨hs13, ?_⟩
      have zhzd := hzd.out
      have zhz11 := hz11.out
      have zhz12 := hz12.out
      have zhz13 := hz13.out
      refine wpO 13 (fun K' hK' => ?_)
      refine wpSt 72 (.tmp 7) (.tmp 18) rfl (wd.heap.size) 0 #[.int .u32 u.1, .int .u32 u.2] #[.int .u32 u.1, .int .u32 u.2] rfl rfl 72 _ hk13A (fun wb14 hp14 ho14 => hK' _ _ ?_)
      have ht14 := tho hs13 ho14
      have hq14B : wb14.heap[wa12.heap.size]? = _ := (ho14.block _ (by omega)).trans hn13
      refine ⟨ht14, ?_⟩
      refine wpO 14 (fun K' hK' => ?_)
      refine wpSt 72 (.tmp 8) (.tmp 19) rfl (wa12.heap.size) 0 #[.int .u32 v.1, .int .u32 v.2] #[.int .u32 v.1, .int .u32 v.2] rfl rfl 72 _ hq14B (fun wb15 hp15 ho15 => hK' _ _ ?_)
      have ht15 := tho ht14 ho15
      have hq15A : wb15.heap[wd.heap.size]? = _ := (ho15.block _ (by omega)).trans hp14
      refine ⟨ht15, ?_⟩
      refine wpTk (i := 15) (v := .bool bv) ht15 ?_
      simp only [nrm]
      refine wpAnyH_done (by kernel_rfl) ?_ _
      try simp only [nrm]
      clear zhzd zhz11 zhz12 zhz13
      have HS9 : Hid _ := ht15
      have HA9 : Hid _ := hq15A
      have HB9 : Hid _ := hp15
      go_wp2_with (fail)
      go_meet
      case rel => exact ⟨_, _, rfl, rfl, rfl, HA9.out, HB9.out, HS9.out⟩
     ·refine wpOp_of_wp rfl rfl (fun K' hK' => ?_)
      go_wp2_with (fail)
      have hb16 : Below wa11.heap.size wa11 (wa11.alloc (.cells #[.int .u32 0, .int .u32 0] 72)) := (Below.refl _ _).alloc (Nat.le_refl _) _
      have hn16 := blk_new wa11 (.cells #[.int .u32 0, .int .u32 0] 72)
      obtain ⟨wa16, hw16⟩ : ∃ x, x = wa11.alloc (.cells #[.int .u32 0, .int .u32 0] 72) := ⟨_, rfl⟩
      have hz16 : Hid (wa16.heap.size = wa11.heap.size + 1) := by show _ = _; rw [hw16]; simp
      rw [← hw16] at hb16 hn16 ⊢
      clear hw16
      have hs16 := thn hs11 hb16
      have hk16A := blk_on hn11 hb16
      refine ⟨hs16, ?_⟩
      refine wpO 6 (fun K' hK' => ?_)
      go_wp2_with (go_at_call 85; refine (HH2.out _).mono ?_; rintro e wa17 ⟨rfl, hb17⟩)
      have hz17 : Hid (wa16.heap.size ≤ wa17.heap.size) := hb17.size
      have hs17 := thn hs16 hb17
      have hk17A := blk_on hk16A hb17
      have hk17B := blk_on hn16 hb17
      refine ⟨hs17, ?_⟩
      refine wpTk (i := 7) (v := .tuple #[.agg #[.int .u32 u.1, .int .u32 u.2], .agg #[.int .u32 v.1, .int .u32 v.2], .bool bv]) hs17 ?_
      simp only [nrm]
      refine wpTk (i := 8) (v := .agg #[.int .u32 u.1, .int .u32 u.2]) hs17 ?_
      simp only [nrm]
      refine wpTk (i := 9) (v := .agg #[.int .u32 v.1, .int .u32 v.2]) hs17 ?_
      simp only [nrm]
      refine wpTk (i := 10) (v := .bool bv) hs17 ?_
      simp only [nrm]
      have zhzd := hzd.out
      have zhz11 := hz11.out
      have zhz16 := hz16.out
      have zhz17 := hz17.out
      refine wpO 13 (fun K' hK' => ?_)
      refine wpSt 72 (.tmp 7) (.tmp 18) rfl (wd.heap.size) 0 #[.int .u32 u.1, .int .u32 u.2] #[.int .u32 u.1, .int .u32 u.2] rfl rfl 72 _ hk17A (fun wb18 hp18 ho18 => hK' _ _ ?_)
      have ht18 := tho hs17 ho18
      have hq18B : wb18.heap[wa11.heap.size]? = _ := (ho18.block _ (by omega)).trans hk17B
      refine ⟨ht18, ?_⟩
      refine wpO 14 (fun K' hK' => ?_)
      refine wpSt 72 (.tmp 8) (.tmp 19) rfl (wa11.heap.size) 0 #[.int .u32 v.1, .int .u32 v.2] #[.int .u32 v.1, .int .u32 v.2] rfl rfl 72 _ hq18B (fun wb19 hp19 ho19 => hK' _ _ ?_)
      have ht19 := tho ht18 ho19
      have hq19A : wb19.heap[wd.heap.size]? = _ := (ho19.block _ (by omega)).trans hp18
      refine ⟨ht19, ?_⟩
      refine wpTk (i := 15) (v := .bool bv) ht19 ?_
      simp only [nrm]
      refine wpAnyH_done (by kernel_rfl) ?_ _
      try simp only [nrm]
      clear zhzd zhz11 zhz16 zhz17
      have HS9 : Hid _ := ht19
      have HA9 : Hid _ := hq19A
      have HB9 : Hid _ := hp19
      go_wp2_with (fail)
      go_meet
      case rel => exact ⟨_, _, rfl, rfl, rfl, HA9.out, HB9.out, HS9.out⟩
    ·refine wpOp_of_wp rfl rfl (fun K' hK' => ?_)
     go_wp2_with (fail)
     have hb20 : Below wd.heap.size wd (wd.alloc (.cells #[.int .u32 0, .int .u32 0] 72)) := (Below.refl _ _).alloc (Nat.le_refl _) _
     have hn20 := blk_new wd (.cells #[.int .u32 0, .int .u32 0] 72)
     obtain ⟨wa20, hw20⟩ : ∃ x, x = wd.alloc (.cells #[.int .u32 0, .int .u32 0] 72) := ⟨_, rfl⟩
     have hz20 : Hid (wa20.heap.size = wd.heap.size + 1) := by show _ = _; rw [hw20]; simp
     rw [← hw20] at hb20 hn20 ⊢
     clear hw20
     have hs20 : Below w0.heap.size w0 wa20 := hS0.trans (hb20.mono hS0.size)
     refine ⟨hs20, ?_⟩
     refine wpAnyH_all (rs := [6, 11]) (by kernel_rfl) (by simp) ?_
     intro i hi
     simp only [mmL] at hi
     rcases hi with rfl | rfl
     ·refine wpOp_of_wp rfl rfl (fun K' hK' => ?_)
      go_wp2_with (go_at_call 85; refine (HH2.out _).mono ?_; rintro e wa21 ⟨rfl, hb21⟩)
      have hz21 : Hid (wa20.heap.size ≤ wa21.heap.size) := hb21.size
      have hs21 := thn hs20 hb21
      have hk21B := blk_on hn20 hb21
      refine ⟨hs21, ?_⟩
      refine wpTk (i := 7) (v := .tuple #[.agg #[.int .u32 u.1, .int .u32 u.2], .agg #[.int .u32 v.1, .int .u32 v.2], .bool bv]) hs21 ?_
      simp only [nrm]
      refine wpTk (i := 8) (v := .agg #[.int .u32 u.1, .int .u32 u.2]) hs21 ?_
      simp only [nrm]
      refine wpTk (i := 9) (v := .agg #[.int .u32 v.1, .int .u32 v.2]) hs21 ?_
      simp only [nrm]
      refine wpTk (i := 10) (v := .bool bv) hs21 ?_
      simp only [nrm]
      refine wpO 11 (fun K' hK' => ?_)
      go_wp2_with (fail)
      have hb22 : Below wa21.heap.size wa21 (wa21.alloc (.cells #[.int .u32 0, .int .u32 0] 72)) := (Below.refl _ _).alloc (Nat.le_refl _) _
      have hn22 := blk_new wa21 (.cells #[.int .u32 0, .int .u32 0] 72)
      obtain ⟨wa22, hw22⟩ : ∃ x, x = wa21.alloc (.cells #[.int .u32 0, .int .u32 0] 72) := ⟨_, rfl⟩
      have hz22 : Hid (wa22.heap.size = wa21.heap.size + 1) := by show _ = _; rw [hw22]; simp
      rw [← hw22] at hb22 hn22 ⊢
      clear hw22
      have hs22 := thn hs21 hb22
      have hk22B := blk_on hk21B hb22
      refine ⟨hs22, ?_⟩
      have zhzd := hzd.out
      have zhz20 := hz20.out
      have zhz21 := hz21.out
      have zhz22 := hz22.out
      refine wpO 13 (fun K' hK' => ?_)
      refine wpSt 72 (.tmp 7) (.tmp 18) rfl (wa21.heap.size) 0 #[.int .u32 u.1, .int .u32 u.2] #[.int .u32 u.1, .int .u32 u.2] rfl rfl 72 _ hn22 (fun wb23 hp23 ho23 => hK' _ _ ?_)
      have ht23 := tho hs22 ho23
      have hq23B : wb23.heap[wd.heap.size]? = _ := (ho23.block _ (by omega)).trans hk22B
      refine ⟨ht23, ?_⟩
      refine wpO 14 (fun K' hK' => ?_)
      refine wpSt 72 (.tmp 8) (.tmp 19) rfl (wd.heap.size) 0 #[.int .u32 v.1, .int .u32 v.2] #[.int .u32 v.1, .int .u32 v.2] rfl rfl 72 _ hq23B (fun wb24 hp24 ho24 => hK' _ _ ?_)
      have ht24 := tho ht23 ho24
      have hq24A : wb24.heap[wa21.heap.size]? = _ := (ho24.block _ (by omega)).trans hp23
      refine ⟨ht24, ?_⟩
      refine wpTk (i := 15) (v := .bool bv) ht24 ?_
      simp only [nrm]
      refine wpAnyH_done (by kernel_rfl) ?_ _
      try simp only [nrm]
      clear zhzd zhz20 zhz21 zhz22
      have HS9 : Hid _ := ht24
      have HA9 : Hid _ := hq24A
      have HB9 : Hid _ := hp24
      go_wp2_with (fail)
      go_meet
      case rel => exact ⟨_, _, rfl, rfl, rfl, HA9.out, HB9.out, HS9.out⟩
     ·refine wpOp_of_wp rfl rfl (fun K' hK' => ?_)
      go_wp2_with (fail)
      have hb25 : Below wa20.heap.size wa20 (wa20.alloc (.cells #[.int .u32 0, .int .u32 0] 72)) := (Below.refl _ _).alloc (Nat.le_refl _) _
      have hn25 := blk_new wa20 (.cells #[.int .u32 0, .int .u32 0] 72)
      obtain ⟨wa25, hw25⟩ : ∃ x, x = wa20.alloc (.cells #[.int .u32 0, .int .u32 0] 72) := ⟨_, rfl⟩
      have hz25 : Hid (wa25.heap.size = wa20.heap.size + 1) := by show _ = _; rw [hw25]; simp
      rw [← hw25] at hb25 hn25 ⊢
      clear hw25
      have hs25 := thn hs20 hb25
      have hk25B := blk_on hn20 hb25
      refine ⟨hs25, ?_⟩
      refine wpO 6 (fun K' hK' => ?_)
      go_wp2_with (go_at_call 85; refine (HH2.out _).mono ?_; rintro e wa26 ⟨rfl, hb26⟩)
      have hz26 : Hid (wa25.heap.size ≤ wa26.heap.size) := hb26.size
      have hs26 := thn hs25 hb26
      have hk26B := blk_on hk25B hb26
      have hk26A := blk_on hn25 hb26
      refine ⟨hs26, ?_⟩
      refine wpTk (i := 7) (v := .tuple #[.agg #[.int .u32 u.1, .int .u32 u.2], .agg #[.int .u32 v.1, .int .u32 v.2], .bool bv]) hs26 ?_
      simp only [nrm]
      refine wpTk (i := 8) (v := .agg #[.int .u32 u.1, .int .u32 u.2]) hs26 ?_
      simp only [nrm]
      refine wpTk (i := 9) (v := .agg #[.int .u32 v.1, .int .u32 v.2]) hs26 ?_
      simp only [nrm]
      refine wpTk (i := 10) (v := .bool bv) hs26 ?_
      simp only [nrm]
      have zhzd := hzd.out
      have zhz20 := hz20.out
      have zhz25 := hz25.out
      have zhz26 := hz26.out
      refine wpO 13 (fun K' hK' => ?_)
      refine wpSt 72 (.tmp 7) (.tmp 18) rfl (wa20.heap.size) 0 #[.int .u32 u.1, .int .u32 u.2] #[.int .u32 u.1, .int .u32 u.2] rfl rfl 72 _ hk26A (fun wb27 hp27 ho27 => hK' _ _ ?_)
      have ht27 := tho hs26 ho27
      have hq27B : wb27.heap[wd.heap.size]? = _ := (ho27.block _ (by omega)).trans hk26B
      refine ⟨ht27, ?_⟩
      refine wpO 14 (fun K' hK' => ?_)
      refine wpSt 72 (.tmp 8) (.tmp 19) rfl (wd.heap.size) 0 #[.int .u32 v.1, .int .u32 v.2] #[.int .u32 v.1, .int .u32 v.2] rfl rfl 72 _ hq27B (fun wb28 hp28 ho28 => hK' _ _ ?_)
      have ht28 := tho ht27 ho28
      have hq28A : wb28.heap[wa20.heap.size]? = _ := (ho28.block _ (by omega)).trans hp27
      refine ⟨ht28, ?_⟩
      refine wpTk (i := 15) (v := .bool bv) ht28 ?_
      simp only [nrm]
      refine wpAnyH_done (by kernel_rfl) ?_ _
      try simp only [nrm]
      clear zhzd zhz20 zhz25 zhz26
      have HS9 : Hid _ := ht28
      have HA9 : Hid _ := hq28A
      have HB9 : Hid _ := hp28
      go_wp2_with (fail)
      go_meet
      case rel => exact ⟨_, _, rfl, rfl, rfl, HA9.out, HB9.out, HS9.out⟩
   ·refine wpOp_of_wp rfl rfl (fun K' hK' => ?_)
    go_wp2_with (fail)
    have hb29 : Below wd.heap.size wd (wd.alloc (.cells #[.int .u32 0, .int .u32 0] 72)) := (Below.refl _ _).alloc (Nat.le_refl _) _
    have hn29 := blk_new wd (.cells #[.int .u32 0, .int .u32 0] 72)
    obtain ⟨wa29, hw29⟩ : ∃ x, x = wd.alloc (.cells #[.int .u32 0, .int .u32 0] 72) := ⟨_, rfl⟩
    have hz29 : Hid (wa29.heap.size = wd.heap.size + 1) := by show _ = _; rw [hw29]; simp
    rw [← hw29] at hb29 hn29 ⊢
    clear hw29
    have hs29 : Below w0.heap.size w0 wa29 := hS0.trans (hb29.mono hS0.size)
    refine ⟨hs29, ?_⟩
    refine wpAnyH_all (rs := [3, 12]) (by kernel_rfl) (by simp) ?_
    intro i hi
    simp only [mmL] at hi
    rcases hi with rfl | rfl
    ·refine wpOp_of_wp rfl rfl (fun K' hK' => ?_)
     first | (have hq : Mk 0 := hm2; clear hq; go_wp2_with (go_at_call 84; refine (Hf.out _ _ _).mono ?_; rintro e w' ⟨rfl, hw⟩; obtain rfl := hw.symm; clear hw)) | (have hq : Mk 1 := hm2; clear hq; go_wp2_with (go_at_call 87; refine (Hf.out _ _ _).mono ?_; rintro e w' ⟨rfl, hw⟩; obtain rfl := hw.symm; clear hw))
     refine ⟨hs29, ?_⟩
     first | (have hq : Mk 0 := hm2; clear hq; refine wpTk (i := 4) (v := .pointer (some ⟨w.heap.size, 0, none⟩)) hs29 ?_) | (have hq : Mk 1 := hm2; clear hq; refine wpTk (i := 4) (v := .pointer (some ⟨w.heap.size, 2, none⟩)) hs29 ?_)
     simp only [nrm]
     first | (have hq : Mk 0 := hm2; clear hq; refine wpLd (i := 5) rfl (yieldsIf_load_mid rfl 72 (.tmp 15) rfl w.heap.size 0 rfl (#[.int .u32 X.a.1, .int .u32 X.a.2] : Array Value).toList _ (fun w' hw' => rng_on hw' rX) Tryz.underlying72 rfl (by kernel_rfl)) hs29 ?_) | (have hq : Mk 1 := hm2; clear hq; refine wpLd (i := 5) rfl (yieldsIf_load_mid rfl 72 (.tmp 15) rfl w.heap.size 2 rfl (#[.int .u32 X.b.1, .int .u32 X.b.2] : Array Value).toList _ (fun w' hw' => rng_on hw' rX) Tryz.underlying72 rfl (by kernel_rfl)) hs29 ?_)
     try simp only [nrm]
     refine wpAnyH_all (rs := [6, 12]) (by kernel_rfl) (by simp) ?_
     intro i hi
     simp only [mmL] at hi
     rcases hi with rfl | rfl
     ·refine wpOp_of_wp rfl rfl (fun K' hK' => ?_)
      go_wp2_with (go_at_call 85; refine (HH2.out _).mono ?_; rintro e wa31 ⟨rfl, hb31⟩)
      have hz31 : Hid (wa29.heap.size ≤ wa31.heap.size) := hb31.size
      have hs31 := thn hs29 hb31
      have hk31A := blk_on hn29 hb31
      refine ⟨hs31, ?_⟩
      refine wpTk (i := 7) (v := .tuple #[.agg #[.int .u32 u.1, .int .u32 u.2], .agg #[.int .u32 v.1, .int .u32 v.2], .bool bv]) hs31 ?_
      simp only [nrm]
      refine wpTk (i := 8) (v := .agg #[.int .u32 u.1, .int .u32 u.2]) hs31 ?_
      simp only [nrm]
      refine wpTk (i := 9) (v := .agg #[.int .u32 v.1, .int .u32 v.2]) hs31 ?_
      simp only [nrm]
      refine wpTk (i := 10) (v := .bool bv) hs31 ?_
      simp only [nrm]
      refine wpO 12 (fun K' hK' => ?_)
      go_wp2_with (fail)
      have hb32 : Below wa31.heap.size wa31 (wa31.alloc (.cells #[.int .u32 0, .int .u32 0] 72)) := (Below.refl _ _).alloc (Nat.le_refl _) _
      have hn32 := blk_new wa31 (.cells #[.int .u32 0, .int .u32 0] 72)
      obtain ⟨wa32, hw32⟩ : ∃ x, x = wa31.alloc (.cells #[.int .u32 0, .int .u32 0] 72) := ⟨_, rfl⟩
      have hz32 : Hid (wa32.heap.size = wa31.heap.size + 1) := by show _ = _; rw [hw32]; simp
      rw [← hw32] at hb32 hn32 ⊢
      clear hw32
      have hs32 := thn hs31 hb32
      have hk32A := blk_on hk31A hb32
      refine ⟨hs32, ?_⟩
      have zhzd := hzd.out
      have zhz29 := hz29.out
      have zhz31 := hz31.out
      have zhz32 := hz32.out
      refine wpO 13 (fun K' hK' => ?_)
      refine wpSt 72 (.tmp 7) (.tmp 18) rfl (wd.heap.size) 0 #[.int .u32 u.1, .int .u32 u.2] #[.int .u32 u.1, .int .u32 u.2] rfl rfl 72 _ hk32A (fun wb33 hp33 ho33 => hK' _ _ ?_)
      have ht33 := tho hs32 ho33
      have hq33B : wb33.heap[wa31.heap.size]? = _ := (ho33.block _ (by omega)).trans hn32
      refine ⟨ht33, ?_⟩
      refine wpO 14 (fun K' hK' => ?_)
      refine wpSt 72 (.tmp 8) (.tmp 19) rfl (wa31.heap.size) 0 #[.int .u32 v.1, .int .u32 v.2] #[.int .u32 v.1, .int .u32 v.2] rfl rfl 72 _ hq33B (fun wb34 hp34 ho34 => hK' _ _ ?_)
      have ht34 := tho ht33 ho34
      have hq34A : wb34.heap[wd.heap.size]? = _ := (ho34.block _ (by omega)).trans hp33
      refine ⟨ht34, ?_⟩
      refine wpTk (i := 15) (v := .bool bv) ht34 ?_
      simp only [nrm]
      refine wpAnyH_done (by kernel_rfl) ?_ _
      try simp only [nrm]
      clear zhzd zhz29 zhz31 zhz32
      have HS9 : Hid _ := ht34
      have HA9 : Hid _ := hq34A
      have HB9 : Hid _ := hp34
      go_wp2_with (fail)
      go_meet
      case rel => exact ⟨_, _, rfl, rfl, rfl, HA9.out, HB9.out, HS9.out⟩
     ·refine wpOp_of_wp rfl rfl (fun K' hK' => ?_)
      go_wp2_with (fail)
      have hb35 : Below wa29.heap.size wa29 (wa29.alloc (.cells #[.int .u32 0, .int .u32 0] 72)) := (Below.refl _ _).alloc (Nat.le_refl _) _
      have hn35 := blk_new wa29 (.cells #[.int .u32 0, .int .u32 0] 72)
      obtain ⟨wa35, hw35⟩ : ∃ x, x = wa29.alloc (.cells #[.int .u32 0, .int .u32 0] 72) := ⟨_, rfl⟩
      have hz35 : Hid (wa35.heap.size = wa29.heap.size + 1) := by show _ = _; rw [hw35]; simp
      rw [← hw35] at hb35 hn35 ⊢
      clear hw35
      have hs35 := thn hs29 hb35
      have hk35A := blk_on hn29 hb35
      refine ⟨hs35, ?_⟩
      refine wpO 6 (fun K' hK' => ?_)
      go_wp2_with (go_at_call 85; refine (HH2.out _).mono ?_; rintro e wa36 ⟨rfl, hb36⟩)
      have hz36 : Hid (wa35.heap.size ≤ wa36.heap.size) := hb36.size
      have hs36 := thn hs35 hb36
      have hk36A := blk_on hk35A hb36
      have hk36B := blk_on hn35 hb36
      refine ⟨hs36, ?_⟩
      refine wpTk (i := 7) (v := .tuple #[.agg #[.int .u32 u.1, .int .u32 u.2], .agg #[.int .u32 v.1, .int .u32 v.2], .bool bv]) hs36 ?_
      simp only [nrm]
      refine wpTk (i := 8) (v := .agg #[.int .u32 u.1, .int .u32 u.2]) hs36 ?_
      simp only [nrm]
      refine wpTk (i := 9) (v := .agg #[.int .u32 v.1, .int .u32 v.2]) hs36 ?_
      simp only [nrm]
      refine wpTk (i := 10) (v := .bool bv) hs36 ?_
      simp only [nrm]
      have zhzd := hzd.out
      have zhz29 := hz29.out
      have zhz35 := hz35.out
      have zhz36 := hz36.out
      refine wpO 13 (fun K' hK' => ?_)
      refine wpSt 72 (.tmp 7) (.tmp 18) rfl (wd.heap.size) 0 #[.int .u32 u.1, .int .u32 u.2] #[.int .u32 u.1, .int .u32 u.2] rfl rfl 72 _ hk36A (fun wb37 hp37 ho37 => hK' _ _ ?_)
      have ht37 := tho hs36 ho37
      have hq37B : wb37.heap[wa29.heap.size]? = _ := (ho37.block _ (by omega)).trans hk36B
      refine ⟨ht37, ?_⟩
      refine wpO 14 (fun K' hK' => ?_)
      refine wpSt 72 (.tmp 8) (.tmp 19) rfl (wa29.heap.size) 0 #[.int .u32 v.1, .int .u32 v.2] #[.int .u32 v.1, .int .u32 v.2] rfl rfl 72 _ hq37B (fun wb38 hp38 ho38 => hK' _ _ ?_)
      have ht38 := tho ht37 ho38
      have hq38A : wb38.heap[wd.heap.size]? = _ := (ho38.block _ (by omega)).trans hp37
      refine ⟨ht38, ?_⟩
      refine wpTk (i := 15) (v := .bool bv) ht38 ?_
      simp only [nrm]
      refine wpAnyH_done (by kernel_rfl) ?_ _
      try simp only [nrm]
      clear zhzd zhz29 zhz35 zhz36
      have HS9 : Hid _ := ht38
      have HA9 : Hid _ := hq38A
      have HB9 : Hid _ := hp38
      go_wp2_with (fail)
      go_meet
      case rel => exact ⟨_, _, rfl, rfl, rfl, HA9.out, HB9.out, HS9.out⟩
    ·refine wpOp_of_wp rfl rfl (fun K' hK' => ?_)
     go_wp2_with (fail)
     have hb39 : Below wa29.heap.size wa29 (wa29.alloc (.cells #[.int .u32 0, .int .u32 0] 72)) := (Below.refl _ _).alloc (Nat.le_refl _) _
     have hn39 := blk_new wa29 (.cells #[.int .u32 0, .int .u32 0] 72)
     obtain ⟨wa39, hw39⟩ : ∃ x, x = wa29.alloc (.cells #[.int .u32 0, .int .u32 0] 72) := ⟨_, rfl⟩
     have hz39 : Hid (wa39.heap.size = wa29.heap.size + 1) := by show _ = _; rw [hw39]; simp
     rw [← hw39] at hb39 hn39 ⊢
     clear hw39
     have hs39 := thn hs29 hb39
     have hk39A := blk_on hn29 hb39
     refine ⟨hs39, ?_⟩
     refine wpO 3 (fun K' hK' => ?_)
     first | (have hq : Mk 0 := hm2; clear hq; go_wp2_with (go_at_call 84; refine (Hf.out _ _ _).mono ?_; rintro e w' ⟨rfl, hw⟩; obtain rfl := hw.symm; clear hw)) | (have hq : Mk 1 := hm2; clear hq; go_wp2_with (go_at_call 87; refine (Hf.out _ _ _).mono ?_; rintro e w' ⟨rfl, hw⟩; obtain rfl := hw.symm; clear hw))
     refine ⟨hs39, ?_⟩
     first | (have hq : Mk 0 := hm2; clear hq; refine wpTk (i := 4) (v := .pointer (some ⟨w.heap.size, 0, none⟩)) hs39 ?_) | (have hq : Mk 1 := hm2; clear hq; refine wpTk (i := 4) (v := .pointer (some ⟨w.heap.size, 2, none⟩)) hs39 ?_)
     simp only [nrm]
     first | (have hq : Mk 0 := hm2; clear hq; refine wpLd (i := 5) rfl (yieldsIf_load_mid rfl 72 (.tmp 15) rfl w.heap.size 0 rfl (#[.int .u32 X.a.1, .int .u32 X.a.2] : Array Value).toList _ (fun w' hw' => rng_on hw' rX) Tryz.underlying72 rfl (by kernel_rfl)) hs39 ?_) | (have hq : Mk 1 := hm2; clear hq; refine wpLd (i := 5) rfl (yieldsIf_load_mid rfl 72 (.tmp 15) rfl w.heap.size 2 rfl (#[.int .u32 X.b.1, .int .u32 X.b.2] : Array Value).toList _ (fun w' hw' => rng_on hw' rX) Tryz.underlying72 rfl (by kernel_rfl)) hs39 ?_)
     try simp only [nrm]
     refine wpO 6 (fun K' hK' => ?_)
     go_wp2_with (go_at_call 85; refine (HH2.out _).mono ?_; rintro e wa41 ⟨rfl, hb41⟩)
     have hz41 : Hid (wa39.heap.size ≤ wa41.heap.size) := hb41.size
     have hs41 := thn hs39 hb41
     have hk41A := blk_on hk39A hb41
     have hk41B := blk_on hn39 hb41
     refine ⟨hs41, ?_⟩
     refine wpTk (i := 7) (v := .tuple #[.agg #[.int .u32 u.1, .int .u32 u.2], .agg #[.int .u32 v.1, .int .u32 v.2], .bool bv]) hs41 ?_
     simp only [nrm]
     refine wpTk (i := 8) (v := .agg #[.int .u32 u.1, .int .u32 u.2]) hs41 ?_
     simp only [nrm]
     refine wpTk (i := 9) (v := .agg #[.int .u32 v.1, .int .u32 v.2]) hs41 ?_
     simp only [nrm]
     refine wpTk (i := 10) (v := .bool bv) hs41 ?_
     simp only [nrm]
     have zhzd := hzd.out
     have zhz29 := hz29.out
     have zhz39 := hz39.out
     have zhz41 := hz41.out
     refine wpO 13 (fun K' hK' => ?_)
     refine wpSt 72 (.tmp 7) (.tmp 18) rfl (wd.heap.size) 0 #[.int .u32 u.1, .int .u32 u.2] #[.int .u32 u.1, .int .u32 u.2] rfl rfl 72 _ hk41A (fun wb42 hp42 ho42 => hK' _ _ ?_)
     have ht42 := tho hs41 ho42
     have hq42B : wb42.heap[wa29.heap.size]? = _ := (ho42.block _ (by omega)).trans hk41B
     refine ⟨ht42, ?_⟩
     refine wpO 14 (fun K' hK' => ?_)
     refine wpSt 72 (.tmp 8) (.tmp 19) rfl (wa29.heap.size) 0 #[.int .u32 v.1, .int .u32 v.2] #[.int .u32 v.1, .int .u32 v.2] rfl rfl 72 _ hq42B (fun wb43 hp43 ho43 => hK' _ _ ?_)
     have ht43 := tho ht42 ho43
     have hq43A : wb43.heap[wd.heap.size]? = _ := (ho43.block _ (by omega)).trans hp42
     refine ⟨ht43, ?_⟩
     refine wpTk (i := 15) (v := .bool bv) ht43 ?_
     simp only [nrm]
     refine wpAnyH_done (by kernel_rfl) ?_ _
     try simp only [nrm]
     clear zhzd zhz29 zhz39 zhz41
     have HS9 : Hid _ := ht43
     have HA9 : Hid _ := hq43A
     have HB9 : Hid _ := hp43
     go_wp2_with (fail)
     go_meet
     case rel => exact ⟨_, _, rfl, rfl, rfl, HA9.out, HB9.out, HS9.out⟩
   ·refine wpOp_of_wp rfl rfl (fun K' hK' => ?_)
    go_wp2_with (fail)
    have hb44 : Below wd.heap.size wd (wd.alloc (.cells #[.int .u32 0, .int .u32 0] 72)) := (Below.refl _ _).alloc (Nat.le_refl _) _
    have hn44 := blk_new wd (.cells #[.int .u32 0, .int .u32 0] 72)
    obtain ⟨wa44, hw44⟩ : ∃ x, x = wd.alloc (.cells #[.int .u32 0, .int .u32 0] 72) := ⟨_, rfl⟩
    have hz44 : Hid (wa44.heap.size = wd.heap.size + 1) := by show _ = _; rw [hw44]; simp
    rw [← hw44] at hb44 hn44 ⊢
    clear hw44
    have hs44 : Below w0.heap.size w0 wa44 := hS0.trans (hb44.mono hS0.size)
    refine ⟨hs44, ?_⟩
    refine wpAnyH_all (rs := [3, 11]) (by kernel_rfl) (by simp) ?_
    intro i hi
    simp only [mmL] at hi
    rcases hi with rfl | rfl
    ·refine wpOp_of_wp rfl rfl (fun K' hK' => ?_)
     first | (have hq : Mk 0 := hm2; clear hq; go_wp2_with (go_at_call 84; refine (Hf.out _ _ _).mono ?_; rintro e w' ⟨rfl, hw⟩; obtain rfl := hw.symm; clear hw)) | (have hq : Mk 1 := hm2; clear hq; go_wp2_with (go_at_call 87; refine (Hf.out _ _ _).mono ?_; rintro e w' ⟨rfl, hw⟩; obtain rfl := hw.symm; clear hw))
     refine ⟨hs44, ?_⟩
     first | (have hq : Mk 0 := hm2; clear hq; refine wpTk (i := 4) (v := .pointer (some ⟨w.heap.size, 0, none⟩)) hs44 ?_) | (have hq : Mk 1 := hm2; clear hq; refine wpTk (i := 4) (v := .pointer (some ⟨w.heap.size, 2, none⟩)) hs44 ?_)
     simp only [nrm]
     first | (have hq : Mk 0 := hm2; clear hq; refine wpLd (i := 5) rfl (yieldsIf_load_mid rfl 72 (.tmp 15) rfl w.heap.size 0 rfl (#[.int .u32 X.a.1, .int .u32 X.a.2] : Array Value).toList _ (fun w' hw' => rng_on hw' rX) Tryz.underlying72 rfl (by kernel_rfl)) hs44 ?_) | (have hq : Mk 1 := hm2; clear hq; refine wpLd (i := 5) rfl (yieldsIf_load_mid rfl 72 (.tmp 15) rfl w.heap.size 2 rfl (#[.int .u32 X.b.1, .int .u32 X.b.2] : Array Value).toList _ (fun w' hw' => rng_on hw' rX) Tryz.underlying72 rfl (by kernel_rfl)) hs44 ?_)
     try simp only [nrm]
     refine wpAnyH_all (rs := [6, 11]) (by kernel_rfl) (by simp) ?_
     intro i hi
     simp only [mmL] at hi
     rcases hi with rfl | rfl
     ·refine wpOp_of_wp rfl rfl (fun K' hK' => ?_)
      go_wp2_with (go_at_call 85; refine (HH2.out _).mono ?_; rintro e wa46 ⟨rfl, hb46⟩)
      have hz46 : Hid (wa44.heap.size ≤ wa46.heap.size) := hb46.size
      have hs46 := thn hs44 hb46
      have hk46B := blk_on hn44 hb46
      refine ⟨hs46, ?_⟩
      refine wpTk (i := 7) (v := .tuple #[.agg #[.int .u32 u.1, .int .u32 u.2], .agg #[.int .u32 v.1, .int .u32 v.2], .bool bv]) hs46 ?_
      simp only [nrm]
      refine wpTk (i := 8) (v := .agg #[.int .u32 u.1, .int .u32 u.2]) hs46 ?_
      simp only [nrm]
      refine wpTk (i := 9) (v := .agg #[.int .u32 v.1, .int .u32 v.2]) hs46 ?_
      simp only [nrm]
      refine wpTk (i := 10) (v := .bool bv) hs46 ?_
      simp only [nrm]
      refine wpO 11 (fun K' hK' => ?_)
      go_wp2_with (fail)
      have hb47 : Below wa46.heap.size wa46 (wa46.alloc (.cells #[.int .u32 0, .int .u32 0] 72)) := (Below.refl _ _).alloc (Nat.le_refl _) _
      have hn47 := blk_new wa46 (.cells #[.int .u32 0, .int .u32 0] 72)
      obtain ⟨wa47, hw47⟩ : ∃ x, x = wa46.alloc (.cells #[.int .u32 0, .int .u32 0] 72) := ⟨_, rfl⟩
      have hz47 : Hid (wa47.heap.size = wa46.heap.size + 1) := by show _ = _; rw [hw47]; simp
      rw [← hw47] at hb47 hn47 ⊢
      clear hw47
      have hs47 := thn hs46 hb47
      have hk47B := blk_on hk46B hb47
      refine ⟨hs47, ?_⟩
      have zhzd := hzd.out
      have zhz44 := hz44.out
      have zhz46 := hz46.out
      have zhz47 := hz47.out
      refine wpO 13 (fun K' hK' => ?_)
      refine wpSt 72 (.tmp 7) (.tmp 18) rfl (wa46.heap.size) 0 #[.int .u32 u.1, .int .u32 u.2] #[.int .u32 u.1, .int .u32 u.2] rfl rfl 72 _ hn47 (fun wb48 hp48 ho48 => hK' _ _ ?_)
      have ht48 := tho hs47 ho48
      have hq48B : wb48.heap[wd.heap.size]? = _ := (ho48.block _ (by omega)).trans hk47B
      refine ⟨ht48, ?_⟩
      refine wpO 14 (fun K' hK' => ?_)
      refine wpSt 72 (.tmp 8) (.tmp 19) rfl (wd.heap.size) 0 #[.int .u32 v.1, .int .u32 v.2] #[.int .u32 v.1, .int .u32 v.2] rfl rfl 72 _ hq48B (fun wb49 hp49 ho49 => hK' _ _ ?_)
      have ht49 := tho ht48 ho49
      have hq49A : wb49.heap[wa46.heap.size]? = _ := (ho49.block _ (by omega)).trans hp48
      refine ⟨ht49, ?_⟩
      refine wpTk (i := 15) (v := .bool bv) ht49 ?_
      simp only [nrm]
      refine wpAnyH_done (by kernel_rfl) ?_ _
      try simp only [nrm]
      clear zhzd zhz44 zhz46 zhz47
      have HS9 : Hid _ := ht49
      have HA9 : Hid _ := hq49A
      have HB9 : Hid _ := hp49
      go_wp2_with (fail)
      go_meet
      case rel => exact ⟨_, _, rfl, rfl, rfl, HA9.out, HB9.out, HS9.out⟩
     ·refine wpOp_of_wp rfl rfl (fun K' hK' => ?_)
      go_wp2_with (fail)
      have hb50 : Below wa44.heap.size wa44 (wa44.alloc (.cells #[.int .u32 0, .int .u32 0] 72)) := (Below.refl _ _).alloc (Nat.le_refl _) _
      have hn50 := blk_new wa44 (.cells #[.int .u32 0, .int .u32 0] 72)
      obtain ⟨wa50, hw50⟩ : ∃ x, x = wa44.alloc (.cells #[.int .u32 0, .int .u32 0] 72) := ⟨_, rfl⟩
      have hz50 : Hid (wa50.heap.size = wa44.heap.size + 1) := by show _ = _; rw [hw50]; simp
      rw [← hw50] at hb50 hn50 ⊢
      clear hw50
      have hs50 := thn hs44 hb50
      have hk50B := blk_on hn44 hb50
      refine ⟨hs50, ?_⟩
      refine wpO 6 (fun K' hK' => ?_)
      go_wp2_with (go_at_call 85; refine (HH2.out _).mono ?_; rintro e wa51 ⟨rfl, hb51⟩)
      have hz51 : Hid (wa50.heap.size ≤ wa51.heap.size) := hb51.size
      have hs51 := thn hs50 hb51
      have hk51B := blk_on hk50B hb51
      have hk51A := blk_on hn50 hb51
      refine ⟨hs51, ?_⟩
      refine wpTk (i := 7) (v := .tuple #[.agg #[.int .u32 u.1, .int .u32 u.2], .agg #[.int .u32 v.1, .int .u32 v.2], .bool bv]) hs51 ?_
      simp only [nrm]
      refine wpTk (i := 8) (v := .agg #[.int .u32 u.1, .int .u32 u.2]) hs51 ?_
      simp only [nrm]
      refine wpTk (i := 9) (v := .agg #[.int .u32 v.1, .int .u32 v.2]) hs51 ?_
      simp only [nrm]
      refine wpTk (i := 10) (v := .bool bv) hs51 ?_
      simp only [nrm]
      have zhzd := hzd.out
      have zhz44 := hz44.out
      have zhz50 := hz50.out
      have zhz51 := hz51.out
      refine wpO 13 (fun K' hK' => ?_)
      refine wpSt 72 (.tmp 7) (.tmp 18) rfl (wa44.heap.size) 0 #[.int .u32 u.1, .int .u32 u.2] #[.int .u32 u.1, .int .u32 u.2] rfl rfl 72 _ hk51A (fun wb52 hp52 ho52 => hK' _ _ ?_)
      have ht52 := tho hs51 ho52
      have hq52B : wb52.heap[wd.heap.size]? = _ := (ho52.block _ (by omega)).trans hk51B
      refine ⟨ht52, ?_⟩
      refine wpO 14 (fun K' hK' => ?_)
      refine wpSt 72 (.tmp 8) (.tmp 19) rfl (wd.heap.size) 0 #[.int .u32 v.1, .int .u32 v.2] #[.int .u32 v.1, .int .u32 v.2] rfl rfl 72 _ hq52B (fun wb53 hp53 ho53 => hK' _ _ ?_)
      have ht53 := tho ht52 ho53
      have hq53A : wb53.heap[wa44.heap.size]? = _ := (ho53.block _ (by omega)).trans hp52
      refine ⟨ht53, ?_⟩
      refine wpTk (i := 15) (v := .bool bv) ht53 ?_
      simp only [nrm]
      refine wpAnyH_done (by kernel_rfl) ?_ _
      try simp only [nrm]
      clear zhzd zhz44 zhz50 zhz51
      have HS9 : Hid _ := ht53
      have HA9 : Hid _ := hq53A
      have HB9 : Hid _ := hp53
      go_wp2_with (fail)
      go_meet
      case rel => exact ⟨_, _, rfl, rfl, rfl, HA9.out, HB9.out, HS9.out⟩
    ·refine wpOp_of_wp rfl rfl (fun K' hK' => ?_)
     go_wp2_with (fail)
     have hb54 : Below wa44.heap.size wa44 (wa44.alloc (.cells #[.int .u32 0, .int .u32 0] 72)) := (Below.refl _ _).alloc (Nat.le_refl _) _
     have hn54 := blk_new wa44 (.cells #[.int .u32 0, .int .u32 0] 72)
     obtain ⟨wa54, hw54⟩ : ∃ x, x = wa44.alloc (.cells #[.int .u32 0, .int .u32 0] 72) := ⟨_, rfl⟩
     have hz54 : Hid (wa54.heap.size = wa44.heap.size + 1) := by show _ = _; rw [hw54]; simp
     rw [← hw54] at hb54 hn54 ⊢
     clear hw54
     have hs54 := thn hs44 hb54
     have hk54B := blk_on hn44 hb54
     refine ⟨hs54, ?_⟩
     refine wpO 3 (fun K' hK' => ?_)
     first | (have hq : Mk 0 := hm2; clear hq; go_wp2_with (go_at_call 84; refine (Hf.out _ _ _).mono ?_; rintro e w' ⟨rfl, hw⟩; obtain rfl := hw.symm; clear hw)) | (have hq : Mk 1 := hm2; clear hq; go_wp2_with (go_at_call 87; refine (Hf.out _ _ _).mono ?_; rintro e w' ⟨rfl, hw⟩; obtain rfl := hw.symm; clear hw))
     refine ⟨hs54, ?_⟩
     first | (have hq : Mk 0 := hm2; clear hq; refine wpTk (i := 4) (v := .pointer (some ⟨w.heap.size, 0, none⟩)) hs54 ?_) | (have hq : Mk 1 := hm2; clear hq; refine wpTk (i := 4) (v := .pointer (some ⟨w.heap.size, 2, none⟩)) hs54 ?_)
     simp only [nrm]
     first | (have hq : Mk 0 := hm2; clear hq; refine wpLd (i := 5) rfl (yieldsIf_load_mid rfl 72 (.tmp 15) rfl w.heap.size 0 rfl (#[.int .u32 X.a.1, .int .u32 X.a.2] : Array Value).toList _ (fun w' hw' => rng_on hw' rX) Tryz.underlying72 rfl (by kernel_rfl)) hs54 ?_) | (have hq : Mk 1 := hm2; clear hq; refine wpLd (i := 5) rfl (yieldsIf_load_mid rfl 72 (.tmp 15) rfl w.heap.size 2 rfl (#[.int .u32 X.b.1, .int .u32 X.b.2] : Array Value).toList _ (fun w' hw' => rng_on hw' rX) Tryz.underlying72 rfl (by kernel_rfl)) hs54 ?_)
     try simp only [nrm]
     refine wpO 6 (fun K' hK' => ?_)
     go_wp2_with (go_at_call 85; refine (HH2.out _).mono ?_; rintro e wa56 ⟨rfl, hb56⟩)
     have hz56 : Hid (wa54.heap.size ≤ wa56.heap.size) := hb56.size
     have hs56 := thn hs54 hb56
     have hk56B := blk_on hk54B hb56
     have hk56A := blk_on hn54 hb56
     refine ⟨hs56, ?_⟩
     refine wpTk (i := 7) (v := .tuple #[.agg #[.int .u32 u.1, .int .u32 u.2], .agg #[.int .u32 v.1, .int .u32 v.2], .bool bv]) hs56 ?_
     simp only [nrm]
     refine wpTk (i := 8) (v := .agg #[.int .u32 u.1, .int .u32 u.2]) hs56 ?_
     simp only [nrm]
     refine wpTk (i := 9) (v := .agg #[.int .u32 v.1, .int .u32 v.2]) hs56 ?_
     simp only [nrm]
     refine wpTk (i := 10) (v := .bool bv) hs56 ?_
     simp only [nrm]
     have zhzd := hzd.out
     have zhz44 := hz44.out
     have zhz54 := hz54.out
     have zhz56 := hz56.out
     refine wpO 13 (fun K' hK' => ?_)
     refine wpSt 72 (.tmp 7) (.tmp 18) rfl (wa44.heap.size) 0 #[.int .u32 u.1, .int .u32 u.2] #[.int .u32 u.1, .int .u32 u.2] rfl rfl 72 _ hk56A (fun wb57 hp57 ho57 => hK' _ _ ?_)
     have ht57 := tho hs56 ho57
     have hq57B : wb57.heap[wd.heap.size]? = _ := (ho57.block _ (by omega)).trans hk56B
     refine ⟨ht57, ?_⟩
     refine wpO 14 (fun K' hK' => ?_)
     refine wpSt 72 (.tmp 8) (.tmp 19) rfl (wd.heap.size) 0 #[.int .u32 v.1, .int .u32 v.2] #[.int .u32 v.1, .int .u32 v.2] rfl rfl 72 _ hq57B (fun wb58 hp58 ho58 => hK' _ _ ?_)
     have ht58 := tho ht57 ho58
     have hq58A : wb58.heap[wa44.heap.size]? = _ := (ho58.block _ (by omega)).trans hp57
     refine ⟨ht58, ?_⟩
     refine wpTk (i := 15) (v := .bool bv) ht58 ?_
     simp only [nrm]
     refine wpAnyH_done (by kernel_rfl) ?_ _
     try simp only [nrm]
     clear zhzd zhz44 zhz54 zhz56
     have HS9 : Hid _ := ht58
     have HA9 : Hid _ := hq58A
     have HB9 : Hid _ := hp58
     go_wp2_with (fail)
     go_meet
     case rel => exact ⟨_, _, rfl, rfl, rfl, HA9.out, HB9.out, HS9.out⟩
  case rest =>
   obtain ⟨A, B, rfl, rfl, rfl, HA, HBB, HBx⟩ := hcut
   have HBw : Hid (Below w.heap.size w wc) := HB0.out.trans (HBx.out.mono HB0.out.size)
   have HPc : Hid (wc.heap[w.heap.size]? = some (.cells #[.int .u32 X.a.1, .int .u32 X.a.2, .int .u32 X.b.1, .int .u32 X.b.2, .int .u16 X.c.1, .int .u16 X.c.2, .int .u16 X.d.1, .int .u16 X.d.2, .int .u8 X.m.1, .int .u8 X.m.2, .slice ad n cap] 135)) := blk_on HP0.out HBx.out
   have HZc : Hid (wc.heap[w.heap.size + 1]? = some (.cells #[.int .u32 0, .int .u32 0, .int .u32 0, .int .u32 0, .int .u16 0, .int .u16 0, .int .u16 0, .int .u16 0, .int .u8 0, .int .u8 0, .slice none 0 0, .int .u32 0, .int .u32 0, .int .u32 0, .int .u32 0, .int .u16 0, .int .u16 0, .int .u16 0, .int .u16 0, .int .u8 0, .int .u8 0, .slice none 0 0] 153)) := blk_on HZ0.out HBx.out
   have hz0 := HBw.out.size
   have lZ := blk_lt HZc.out
   clear hz0
   rcases HHb.out with hh | hh
   ·obtain ⟨⟨o1, o2, _⟩, ⟨o3, o4, _⟩, _⟩ := halF_ok (by decide) HO.out HBd.out hh
    have hbt : bv = true := by rw [← Hbv.out, hh]; rfl
    subst hbt
    have cf := cell_on1 HBw.out HEn.out.f
    have cm := cell_on1 HBw.out HEn.out.m
    have cn := cell_on1 HBw.out HEn.out.n
    have lf := World.block_lt_of_cell? _ _ HEn.out.f
    have lm := World.block_lt_of_cell? _ _ HEn.out.m
    have ln := World.block_lt_of_cell? _ _ HEn.out.n
    have nf : bf ≠ w.heap.size + 1 := by simp at lf; omega
    have nm : bm ≠ w.heap.size + 1 := by simp at lm; omega
    have nn : bn ≠ w.heap.size + 1 := by simp at ln; omega
    have nA : A ≠ w.heap.size + 1 := by intro e; have h1 := HA.out; have h2 := HZc.out; rw [e, h2] at h1; simp at h1
    have nB : B ≠ w.heap.size + 1 := by intro e; have h1 := HBB.out; have h2 := HZc.out; rw [e, h2] at h1; simp at h1
    have rP : wc.rangeAt w.heap.size 0 (#[.int .u32 X.a.1, .int .u32 X.a.2, .int .u32 X.b.1, .int .u32 X.b.2, .int .u16 X.c.1, .int .u16 X.c.2, .int .u16 X.d.1, .int .u16 X.d.2, .int .u8 X.m.1, .int .u8 X.m.2, .slice ad n cap] : Array Value).toList := rngAll HPc.out
    have rA : wc.rangeAt A 0 (#[.int .u32 u.1, .int .u32 u.2] : Array Value).toList := rngAll HA.out
    have rB : wc.rangeAt B 0 (#[.int .u32 v.1, .int .u32 v.2] : Array Value).toList := rngAll HBB.out
    go_upto_region 4 with (fail)
    have hZ0 := HZc.out
    refine wp_region_held_drew (S := fun w' => wc.grownBy w' (some (w.heap.size + 1))) (by kernel_rfl) (gr_drew _ _) (fun hS0 => ?_)
    show wpAnyH _ _ _ _ _ 11 _ _ _
    obtain ⟨wd, hwd⟩ : ∃ x, x = wc.drew := ⟨_, rfl⟩
    have hkd : wd.heap[(w.heap.size + 1)]? = wc.heap[(w.heap.size + 1)]? := by rw [hwd]; rfl
    rw [hZ0] at hkd
    have hzd : Hid (wc.heap.size = wd.heap.size) := by rw [hwd]; rfl
    rw [← hwd] at hS0 ⊢
    clear hwd
    refine wpAnyH_take (i := 0) (v := .func (.func 113) #[] #[.pointer (some ⟨bf, 0, none⟩), .pointer (some ⟨bm, 0, none⟩)]) rfl (by kernel_rfl) (by kernel_rfl) (by kernel_rfl) (fun _ _ _ h => h) (.inl ⟨rfl, fun w' hw' => by have hcc := gr_cell hw' nn cn; simp [execOp, go_sem, hcc]⟩) hS0 ?_
    simp only [nrm]
    refine wpLd (i := 1) rfl (yieldsIf_load_mid rfl 135 (.tmp 4) rfl w.heap.size 0 rfl (#[.int .u32 X.a.1, .int .u32 X.a.2, .int .u32 X.b.1, .int .u32 X.b.2, .int .u16 X.c.1, .int .u16 X.c.2, .int .u16 X.d.1, .int .u16 X.d.2, .int .u8 X.m.1, .int .u8 X.m.2, .slice ad n cap] : Array Value).toList _ (fun w' hw' => gr_rng hw' (by omega) rP) Tryz.underlying135 rfl (by kernel_rfl)) hS0 ?_
    try simp only [nrm]
    refine wpLd (i := 2) rfl (yieldsIf_load_mid rfl 72 (.tmp 7) rfl A 0 rfl (#[.int .u32 u.1, .int .u32 u.2] : Array Value).toList _ (fun w' hw' => gr_rng hw' nA rA) Tryz.underlying72 rfl (by kernel_rfl)) hS0 ?_
    try simp only [nrm]
    refine wpAnyH_take (i := 4) (v := .func (.func 113) #[] #[.pointer (some ⟨bf, 0, none⟩), .pointer (some ⟨bm, 0, none⟩)]) rfl (by kernel_rfl) (by kernel_rfl) (by kernel_rfl) (fun _ _ _ h => h) (.inl ⟨rfl, fun w' hw' => by have hcc := gr_cell hw' nn cn; simp [execOp, go_sem, hcc]⟩) hS0 ?_
    simp only [nrm]
    refine wpLd (i := 5) rfl (yieldsIf_load_mid rfl 135 (.tmp 4) rfl w.heap.size 0 rfl (#[.int .u32 X.a.1, .int .u32 X.a.2, .int .u32 X.b.1, .int .u32 X.b.2, .int .u16 X.c.1, .int .u16 X.c.2, .int .u16 X.d.1, .int .u16 X.d.2, .int .u8 X.m.1, .int .u8 X.m.2, .slice ad n cap] : Array Value).toList _ (fun w' hw' => gr_rng hw' (by omega) rP) Tryz.underlying135 rfl (by kernel_rfl)) hS0 ?_
    try simp only [nrm]
    refine wpLd (i := 6) rfl (yieldsIf_load_mid rfl 72 (.tmp 8) rfl B 0 rfl (#[.int .u32 v.1, .int .u32 v.2] : Array Value).toList _ (fun w' hw' => gr_rng hw' nB rB) Tryz.underlying72 rfl (by kernel_rfl)) hS0 ?_
    try simp only [nrm]
    refine wpO 3 (fun K' hK' => ?_)
    go_wp2_with (go_at_call 113; refine (HNc.out ⟨X, ad, n, cap⟩ u _ (gr_cell hS0 nf cf) (gr_cell hS0 nm cm) (SrcZ.gr HS.out HBw.out hS0 (by omega)) o1 o2).mono ?_; rintro e wa1 ⟨⟨Y1, ad1, n1, c1⟩, rfl, hx1, hr1, hb1⟩; have Hx1 : Hid _ := hx1; clear hx1)
    have hz1 : Hid (wd.heap.size ≤ wa1.heap.size) := hb1.size
    have hs1 : wc.grownBy wa1 (some (w.heap.size + 1)) := gr_then hS0 hb1
    have hk1Z := blk_on hkd hb1
    refine ⟨hs1, ?_⟩
    refine wpO 7 (fun K' hK' => ?_)
    go_wp2_with (go_at_call 113; refine (HNc.out ⟨X, ad, n, cap⟩ v _ (gr_cell hs1 nf cf) (gr_cell hs1 nm cm) (SrcZ.gr HS.out HBw.out hs1 (by omega)) o3 o4).mono ?_; rintro e wa2 ⟨⟨Y2, ad2, n2, c2⟩, rfl, hx2, hr2, hb2⟩; have Hx2 : Hid _ := hx2; clear hx2)
    have hz2 : Hid (wa1.heap.size ≤ wa2.heap.size) := hb2.size
    have hs2 : wc.grownBy wa2 (some (w.heap.size + 1)) := gr_then hs1 hb2
    have hk2Z := blk_on hk1Z hb2
    refine ⟨hs2, ?_⟩
    refine wpTk (i := 8) (v := .agg #[.int .u32 Y1.a.1, .int .u32 Y1.a.2, .int .u32 Y1.b.1, .int .u32 Y1.b.2, .int .u16 Y1.c.1, .int .u16 Y1.c.2, .int .u16 Y1.d.1, .int .u16 Y1.d.2, .int .u8 Y1.m.1, .int .u8 Y1.m.2, .slice ad1 n1 c1, .int .u32 Y2.a.1, .int .u32 Y2.a.2, .int .u32 Y2.b.1, .int .u32 Y2.b.2, .int .u16 Y2.c.1, .int .u16 Y2.c.2, .int .u16 Y2.d.1, .int .u16 Y2.d.2, .int .u8 Y2.m.1, .int .u8 Y2.m.2, .slice ad2 n2 c2]) hs2 ?_
    simp only [nrm]
    have zhzd := hzd.out
    have zhz1 := hz1.out
    have zhz2 := hz2.out
    refine wpO 9 (fun K' hK' => ?_)
    refine wpSt 153 (.tmp 5) (.tmp 32) rfl ((w.heap.size + 1)) 0 #[.int .u32 Y1.a.1, .int .u32 Y1.a.2, .int .u32 Y1.b.1, .int .u32 Y1.b.2, .int .u16 Y1.c.1, .int .u16 Y1.c.2, .int .u16 Y1.d.1, .int .u16 Y1.d.2, .int .u8 Y1.m.1, .int .u8 Y1.m.2, .slice ad1 n1 c1, .int .u32 Y2.a.1, .int .u32 Y2.a.2, .int .u32 Y2.b.1, .int .u32 Y2.b.2, .int .u16 Y2.c.1, .int .u16 Y2.c.2, .int .u16 Y2.d.1, .int .u16 Y2.d.2, .int .u8 Y2.m.1, .int .u8 Y2.m.2, .slice ad2 n2 c2] #[.int .u32 Y1.a.1, .int .u32 Y1.a.2, .int .u32 Y1.b.1, .int .u32 Y1.b.2, .int .u16 Y1.c.1, .int .u16 Y1.c.2, .int .u16 Y1.d.1, .int .u16 Y1.d.2, .int .u8 Y1.m.1, .int .u8 Y1.m.2, .slice ad1 n1 c1, .int .u32 Y2.a.1, .int .u32 Y2.a.2, .int .u32 Y2.b.1, .int .u32 Y2.b.2, .int .u16 Y2.c.1, .int .u16 Y2.c.2, .int .u16 Y2.d.1, .int .u16 Y2.d.2, .int .u8 Y2.m.1, .int .u8 Y2.m.2, .slice ad2 n2 c2] rfl rfl 153 _ hk2Z (fun wb3 hp3 ho3 => hK' _ _ ?_)
    have ht3 : wc.grownBy wb3 (some (w.heap.size + 1)) := gr_only hs2 ho3
    refine ⟨ht3, ?_⟩
    refine wpTk (i := 10) (v := .bool true) ht3 ?_
    simp only [nrm]
    refine wpAnyH_done (by kernel_rfl) ?_ _
    try simp only [nrm]
    clear zhzd zhz1 zhz2
    have HG9 := ht3
    go_wp2_with (fail)
    refine bodyPost_ret (results_blk2 Tryz.results114 rfl hp3 Tryz.underlying153 rfl (by kernel_rfl)) rfl ?_
    refine ⟨⟨(⟨Y1, ad1, n1, c1⟩, ⟨Y2, ad2, n2, c2⟩), ?_, fun d hd => ?_⟩, ?_⟩
    ·first | (have hq : Mk 0 := hm2; clear hq; rw [show (tryF 0 (X, L)).isSome = true from by rw [HT.out, hh]; rfl]; rfl) | (have hq : Mk 1 := hm2; clear hq; rw [show (tryF 1 (X, L)).isSome = true from by rw [HT.out, hh]; rfl]; rfl)
    ·rw [HT.out, hh] at hd
     injection hd with hd
     subst hd
     have hz1 := hb1.size
     refine ⟨Hx1.out, Hx2.out, (rowZ_stay (hr1.on hb2) (fun k hk => ho3.block k ?_)).base ?_, (rowZ_stay hr2 (fun k hk => ho3.block k ?_)).base ?_⟩
     ·have := (hr1.lt k hk).1; have := hS0.size; omega
     ·have := hS0.size; have := HBw.out.size; omega
     ·have := (hr2.lt k hk).1; have := hS0.size; omega
     ·have := hS0.size; have := HBw.out.size; omega
    ·exact Below.grown (Below.trans HBw.out (Below.refl _ _)) HG9 HBw.out.size (fun k hk => by injection hk with hk; omega)
   ·have hbt : bv = false := by rw [← Hbv.out, hh]; rfl
    subst hbt
    go_wp2_with (refine wpList_store_blk rfl 153 (.tmp 5) (.tmp 23) rfl (w.heap.size + 1) 0 #[.int .u32 0, .int .u32 0, .int .u32 0, .int .u32 0, .int .u16 0, .int .u16 0, .int .u16 0, .int .u16 0, .int .u8 0, .int .u8 0, .slice none 0 0, .int .u32 0, .int .u32 0, .int .u32 0, .int .u32 0, .int .u16 0, .int .u16 0, .int .u16 0, .int .u16 0, .int .u8 0, .int .u8 0, .slice none 0 0] #[.int .u32 0, .int .u32 0, .int .u32 0, .int .u32 0, .int .u16 0, .int .u16 0, .int .u16 0, .int .u16 0, .int .u8 0, .int .u8 0, .slice none 0 0, .int .u32 0, .int .u32 0, .int .u32 0, .int .u32 0, .int .u16 0, .int .u16 0, .int .u16 0, .int .u16 0, .int .u8 0, .int .u8 0, .slice none 0 0] rfl rfl 153 _ HZc.out (Nat.le_of_ble_eq_true rfl) rfl (by kernel_rfl) rfl ?_; intro wz hwz hoz)
    refine bodyPost_ret (results_blk2 Tryz.results114 rfl hwz Tryz.underlying153 rfl (by kernel_rfl)) rfl ?_
    refine ⟨⟨(⟨⟨(0, 0), (0, 0), (0, 0), (0, 0), (0, 0)⟩, none, 0, 0⟩, ⟨⟨(0, 0), (0, 0), (0, 0), (0, 0), (0, 0)⟩, none, 0, 0⟩), ?_, fun d hd => ?_⟩, HBw.out.trans (hoz.below (by omega))⟩
    ·first | (have hq : Mk 0 := hm2; clear hq; rw [show (tryF 0 (X, L)).isSome = false from by rw [HT.out, hh]; rfl]; rfl) | (have hq : Mk 1 := hm2; clear hq; rw [show (tryF 1 (X, L)).isSome = false from by rw [HT.out, hh]; rfl]; rfl)
    ·rw [HT.out, hh] at hd; cases hd
end Go.Proofs.YtgokmkholjfhbaaGreat
