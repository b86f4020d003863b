/-
  PkBB: CtI, one behind the other (tools/pack.py).
-/
import Derived.Test.YtgokmkholjfhbaaGreatPkAZ
import Derived.Test.YtgokmkholjfhbaaGreatPkBA
import Derived.Test.YtgokmkholjfhbaaGreatPkAE
set_option linter.unusedVariables false
set_option linter.unusedSimpArgs false
namespace Go.Proofs.YtgokmkholjfhbaaGreat
open Go.RowKit
theorem rowI_put {W W1 : World} {A b : Nat} {v : Value} {l : List Int} {cs : Array Value} {fr : Nat × Nat} (ho : Only A W W1) (hA : W.heap[A]? = some (.cells cs 78 fr)) (h : RowI W b v l) : RowI W1 b v l := by
 refine ⟨h.1, ?_⟩
 rcases h.2 with h2 | ⟨g, cap, cur, hvv, hg, hh, r⟩
 ·exact .inl h2
 ·refine .inr ⟨g, cap, cur, hvv, hg, ?_, r⟩
  rw [ho.block g (fun e => by rw [e, hA] at hh; simp at hh)]
  exact hh
theorem Nd.put {bn : Nat} {W W1 : World} {b A : Nat} {cs : Array Value} {fr : Nat × Nat} : ∀ {d : Nat} {P : Part} {q : Nv}, Nd bn W b d P q → Only A W W1 → W.heap[A]? = some (.cells cs 78 fr) → Nd bn W1 b d P q
 | 0, P, q, h, ho, hA => ⟨h.1, h.2.1, rowI_put ho hA h.2.2⟩
 | d + 1, P, q, h, ho, hA => by
  unfold Nd at h ⊢
  split at h
  ·rename_i e; rw [if_pos e]; exact ⟨h.1, h.2.1, rowI_put ho hA h.2.2⟩
  ·rename_i e
   rw [if_neg e]
   obtain ⟨h1, h2, h3, h4, K, q1, q2, h5, h6, h7, h8, h9⟩ := h
   exact ⟨h1, h2, h3, h4, K, q1, q2, h5, h6, by rw [ho.block K (fun e => by rw [e, hA] at h7; simp at h7)]; exact h7, Nd.put h8 ho hA, Nd.put h9 ho hA⟩
theorem nd_leaf {bn d : Nat} {W : World} {b : Nat} {P : Part} {ad : Option Addr} {n cap : Nat} (h : P.2.length ≤ bn ∨ d = 0) (hr : RowI W b (.slice ad n cap) (ofN (plcP P))) : Nd bn W b d P ⟨zeroY, none, ad, n, cap⟩ := by
 cases d with
 | zero => exact ⟨rfl, rfl, hr⟩
 | succ d =>
  unfold Nd
  rw [if_pos (h.resolve_right (by omega))]
  exact ⟨rfl, rfl, hr⟩
set_option maxRecDepth 20000 in
set_option maxHeartbeats 4000000 in
theorem growLeaf (bn d g : Nat) (p : Pt) (L : List CtE) (w : World) (hc : L.length ≤ bn ∨ d = 0) (hs : SrcZ w (.slice p.ad p.n p.cap) L) (hl : L.length ≤ 64) :
  Calls Tryz.prog 61 #[.agg #[.int .u32 p.x.a.1, .int .u32 p.x.a.2, .int .u32 p.x.b.1, .int .u32 p.x.b.2, .int .u16 p.x.c.1, .int .u16 p.x.c.2, .int .u16 p.x.d.1, .int .u16 p.x.d.2, .int .u8 p.x.m.1, .int .u8 p.x.m.2, .slice p.ad p.n p.cap], .slice (some ⟨g, 0, none⟩) 5 5, .int .i64 bn, .int .i64 d] w fun e w' => ∃ q : Nv, e = .returned (.agg #[.int .u32 q.x.a.1, .int .u32 q.x.a.2, .int .u32 q.x.b.1, .int .u32 q.x.b.2, .int .u16 q.x.c.1, .int .u16 q.x.c.2, .int .u16 q.x.d.1, .int .u16 q.x.d.2, .int .u8 q.x.m.1, .int .u8 q.x.m.2, .pointer q.k, .slice q.ad q.n q.cap]) ∧ Nd bn w' w.heap.size d (p.x, L) q ∧ Below w.heap.size w w' := by
 obtain ⟨X, ad, n, cap⟩ := p
 have hn := hs.rng.1
 simp only at hs hn ⊢
 have HS : Hid (SrcZ w (.slice ad n cap) L) := hs
 have HL : Hid (L.length ≤ 64) := hl
 have HNn : Hid (n = L.length) := hn
 rw [← hn] at hc
 have hn0 : (0 : Int) ≤ (n : Int) := by omega
 clear hs hl hn
 obtain ⟨hp0, hz0, hb0⟩ := al2 w (.cells #[.int .u32 X.a.1, .int .u32 X.a.2, .int .u32 X.b.1, .int .u32 X.b.2, .int .u16 X.c.1, .int .u16 X.c.2, .int .u16 X.d.1, .int .u16 X.d.2, .int .u8 X.m.1, .int .u8 X.m.2, .slice ad n cap] 135) (.cells #[.int .u32 0, .int .u32 0, .int .u32 0, .int .u32 0, .int .u16 0, .int .u16 0, .int .u16 0, .int .u16 0, .int .u8 0, .int .u8 0, .pointer none, .slice none 0 0] 78)
 obtain ⟨w0, hw0⟩ : ∃ w0, w0 = ((w.alloc (.cells #[.int .u32 X.a.1, .int .u32 X.a.2, .int .u32 X.b.1, .int .u32 X.b.2, .int .u16 X.c.1, .int .u16 X.c.2, .int .u16 X.d.1, .int .u16 X.d.2, .int .u8 X.m.1, .int .u8 X.m.2, .slice ad n cap] 135)).alloc (.cells #[.int .u32 0, .int .u32 0, .int .u32 0, .int .u32 0, .int .u16 0, .int .u16 0, .int .u16 0, .int .u16 0, .int .u8 0, .int .u8 0, .pointer none, .slice none 0 0] 78)) := ⟨_, rfl⟩
 rw [← hw0] at hp0 hz0 hb0
 have HB0 : Hid (Below w.heap.size w w0) := hb0
 have HP0 : Hid (w0.heap[w.heap.size]? = some (.cells #[.int .u32 X.a.1, .int .u32 X.a.2, .int .u32 X.b.1, .int .u32 X.b.2, .int .u16 X.c.1, .int .u16 X.c.2, .int .u16 X.d.1, .int .u16 X.d.2, .int .u8 X.m.1, .int .u8 X.m.2, .slice ad n cap] 135)) := hp0
 have HZ0 : Hid (w0.heap[w.heap.size + 1]? = some (.cells #[.int .u32 0, .int .u32 0, .int .u32 0, .int .u32 0, .int .u16 0, .int .u16 0, .int .u16 0, .int .u16 0, .int .u8 0, .int .u8 0, .pointer none, .slice none 0 0] 78)) := hz0
 have Hw0 : Hid (((w.alloc (.cells #[.int .u32 X.a.1, .int .u32 X.a.2, .int .u32 X.b.1, .int .u32 X.b.2, .int .u16 X.c.1, .int .u16 X.c.2, .int .u16 X.d.1, .int .u16 X.d.2, .int .u8 X.m.1, .int .u8 X.m.2, .slice ad n cap] 135)).alloc (.cells #[.int .u32 0, .int .u32 0, .int .u32 0, .int .u32 0, .int .u16 0, .int .u16 0, .int .u16 0, .int .u16 0, .int .u8 0, .int .u8 0, .pointer none, .slice none 0 0] 78)) = w0) := hw0.symm
 have c10 : w0.cell? ⟨w.heap.size, 10, none⟩ = some (.slice ad n cap) := blk_cell hp0 rfl
 clear hp0 hz0 hb0 hw0
 have hpl := placesC w.heap.size ⟨X, ad, n, cap⟩ L w0 HP0.out (HS.out.keep HB0.out) HL.out
 by_cases hle : n ≤ bn
 ·have h1 : (n : Int) ≤ (bn : Int) := by omega
  clear hc hle
  go_enter Tryz.func61, Tryz.ntmps61
  go_upto_region 1 with (fail)
  rw [Hw0.out]
  clear Hw0
  go_wp2_with (first | (go_at_call 78; refine hpl.mono ?_; rintro e w1 ⟨ad1, n1, c1, rfl, hrow, hb1⟩; have Hrow : Hid (RowI w1 w0.heap.size (.slice ad1 n1 c1) (ofN (L.map (·.1)))) := hrow; have HB1 : Hid (Below w.heap.size w w1) := HB0.out.trans (hb1.mono HB0.out.size); have HZ1 : Hid (w1.heap[w.heap.size + 1]? = some (.cells #[.int .u32 0, .int .u32 0, .int .u32 0, .int .u32 0, .int .u16 0, .int .u16 0, .int .u16 0, .int .u16 0, .int .u8 0, .int .u8 0, .pointer none, .slice none 0 0] 78)) := blk_on HZ0.out hb1; clear hrow hb1) | (refine wpList_store_blk rfl 78 (.tmp 8) (.tmp 22) rfl (w.heap.size + 1) 0 #[.int .u32 0, .int .u32 0, .int .u32 0, .int .u32 0, .int .u16 0, .int .u16 0, .int .u16 0, .int .u16 0, .int .u8 0, .int .u8 0, .pointer none, .slice ad1 n1 c1] #[.int .u32 0, .int .u32 0, .int .u32 0, .int .u32 0, .int .u16 0, .int .u16 0, .int .u16 0, .int .u16 0, .int .u8 0, .int .u8 0, .pointer none, .slice ad1 n1 c1] rfl rfl 78 _ HZ1.out (Nat.le_of_ble_eq_true rfl) rfl (by kernel_rfl) rfl ?_; intro wz hwz hoz))
  refine bodyPost_ret (results_blk Tryz.results61 rfl hwz Tryz.underlying78 rfl (by kernel_rfl)) rfl ⟨⟨zeroY, none, ad1, n1, c1⟩, rfl, ?_, HB1.out.trans (hoz.below (by omega))⟩
  exact (nd_leaf (.inl (by have := HNn.out; show L.length ≤ bn; omega)) (RowI.base Hrow.out HB0.out.size)).put hoz HZ1.out
 ·have hd : d = 0 := hc.resolve_left hle
  subst hd
  have h1 : ¬ (n : Int) ≤ (bn : Int) := by omega
  clear hc hle
  go_enter Tryz.func61, Tryz.ntmps61
  go_upto_region 1 with (fail)
  rw [Hw0.out]
  clear Hw0
  go_wp2_with (first | (go_at_call 78; refine hpl.mono ?_; rintro e w1 ⟨ad1, n1, c1, rfl, hrow, hb1⟩; have Hrow : Hid (RowI w1 w0.heap.size (.slice ad1 n1 c1) (ofN (L.map (·.1)))) := hrow; have HB1 : Hid (Below w.heap.size w w1) := HB0.out.trans (hb1.mono HB0.out.size); have HZ1 : Hid (w1.heap[w.heap.size + 1]? = some (.cells #[.int .u32 0, .int .u32 0, .int .u32 0, .int .u32 0, .int .u16 0, .int .u16 0, .int .u16 0, .int .u16 0, .int .u8 0, .int .u8 0, .pointer none, .slice none 0 0] 78)) := blk_on HZ0.out hb1; clear hrow hb1) | (refine wpList_store_blk rfl 78 (.tmp 8) (.tmp 22) rfl (w.heap.size + 1) 0 #[.int .u32 0, .int .u32 0, .int .u32 0, .int .u32 0, .int .u16 0, .int .u16 0, .int .u16 0, .int .u16 0, .int .u8 0, .int .u8 0, .pointer none, .slice ad1 n1 c1] #[.int .u32 0, .int .u32 0, .int .u32 0, .int .u32 0, .int .u16 0, .int .u16 0, .int .u16 0, .int .u16 0, .int .u8 0, .int .u8 0, .pointer none, .slice ad1 n1 c1] rfl rfl 78 _ HZ1.out (Nat.le_of_ble_eq_true rfl) rfl (by kernel_rfl) rfl ?_; intro wz hwz hoz))
  refine bodyPost_ret (results_blk Tryz.results61 rfl hwz Tryz.underlying78 rfl (by kernel_rfl)) rfl ⟨⟨zeroY, none, ad1, n1, c1⟩, rfl, ?_, HB1.out.trans (hoz.below (by omega))⟩
  exact (nd_leaf (.inr rfl) (RowI.base Hrow.out HB0.out.size)).put hoz HZ1.out
set_option maxRecDepth 20000 in
set_option maxHeartbeats 16000000 in
theorem growC (bn : Nat) (l : List Ru) (g : Nat) : ∀ (d : Nat) (p : Pt) (L : List CtE) (w : World), d ≤ 32 → Tris w g → SrcZ w (.slice p.ad p.n p.cap) L → L.length ≤ 64 → CtOk l d (p.x, L) → l.length ≤ 64 →
  Calls Tryz.prog 61 #[.agg #[.int .u32 p.x.a.1, .int .u32 p.x.a.2, .int .u32 p.x.b.1, .int .u32 p.x.b.2, .int .u16 p.x.c.1, .int .u16 p.x.c.2, .int .u16 p.x.d.1, .int .u16 p.x.d.2, .int .u8 p.x.m.1, .int .u8 p.x.m.2, .slice p.ad p.n p.cap], .slice (some ⟨g, 0, none⟩) 5 5, .int .i64 bn, .int .i64 d] w fun e w' => ∃ q : Nv, e = .returned (.agg #[.int .u32 q.x.a.1, .int .u32 q.x.a.2, .int .u32 q.x.b.1, .int .u32 q.x.b.2, .int .u16 q.x.c.1, .int .u16 q.x.c.2, .int .u16 q.x.d.1, .int .u16 q.x.d.2, .int .u8 q.x.m.1, .int .u8 q.x.m.2, .pointer q.k, .slice q.ad q.n q.cap]) ∧ Nd bn w' w.heap.size d (p.x, L) q ∧ Below w.heap.size w w' := by
 intro d
 induction d with
 | zero => intro p L w _ _ hs hl _ _; exact growLeaf bn 0 g p L w (.inr rfl) hs hl
 | succ d ih =>
 intro p L w hd ht hs hl ok hl64
 by_cases hc : L.length ≤ bn
 ·exact growLeaf bn (d + 1) g p L w (.inl hc) hs hl
 obtain ⟨X, ad, n, cap⟩ := p
 have hn := hs.rng.1
 simp only at hs hn ok ⊢
 have HIh : Hid _ := ih
 have HS : Hid (SrcZ w (.slice ad n cap) L) := hs
 have HT : Hid (Tris w g) := ht
 have HL : Hid (L.length ≤ 64) := hl
 have HOk : Hid (CtOk l (d + 1) (X, L)) := ok
 have Hd : Hid (d + 1 ≤ 32) := hd
 have HC : Hid (¬ L.length ≤ bn) := hc
 have Hl64 : Hid (l.length ≤ 64) := hl64
 rw [← hn] at hc
 have h1 : ¬ (n : Int) ≤ (bn : Int) := by omega
 have h2 : ¬ ((d + 1 : Nat) : Int) = 0 := by omega
 have h3 : (((d + 1 : Nat) : Int) == 0) = false := by simp; omega
 have hd32 : d ≤ 31 := by omega
 clear ih hs ht hl ok hd hc hn hl64
 obtain ⟨hp0, hz0, hb0⟩ := al2 w (.cells #[.int .u32 X.a.1, .int .u32 X.a.2, .int .u32 X.b.1, .int .u32 X.b.2, .int .u16 X.c.1, .int .u16 X.c.2, .int .u16 X.d.1, .int .u16 X.d.2, .int .u8 X.m.1, .int .u8 X.m.2, .slice ad n cap] 135) (.cells #[.int .u32 0, .int .u32 0, .int .u32 0, .int .u32 0, .int .u16 0, .int .u16 0, .int .u16 0, .int .u16 0, .int .u8 0, .int .u8 0, .pointer none, .slice none 0 0] 78)
 obtain ⟨w0, hw0⟩ : ∃ w0, w0 = ((w.alloc (.cells #[.int .u32 X.a.1, .int .u32 X.a.2, .int .u32 X.b.1, .int .u32 X.b.2, .int .u16 X.c.1, .int .u16 X.c.2, .int .u16 X.d.1, .int .u16 X.d.2, .int .u8 X.m.1, .int .u8 X.m.2, .slice ad n cap] 135)).alloc (.cells #[.int .u32 0, .int .u32 0, .int .u32 0, .int .u32 0, .int .u16 0, .int .u16 0, .int .u16 0, .int .u16 0, .int .u8 0, .int .u8 0, .pointer none, .slice none 0 0] 78)) := ⟨_, rfl⟩
 rw [← hw0] at hp0 hz0 hb0
 have HB0 : Hid (Below w.heap.size w w0) := hb0
 have HP0 : Hid (w0.heap[w.heap.size]? = some (.cells #[.int .u32 X.a.1, .int .u32 X.a.2, .int .u32 X.b.1, .int .u32 X.b.2, .int .u16 X.c.1, .int .u16 X.c.2, .int .u16 X.d.1, .int .u16 X.d.2, .int .u8 X.m.1, .int .u8 X.m.2, .slice ad n cap] 135)) := hp0
 have HZ0 : Hid (w0.heap[w.heap.size + 1]? = some (.cells #[.int .u32 0, .int .u32 0, .int .u32 0, .int .u32 0, .int .u16 0, .int .u16 0, .int .u16 0, .int .u16 0, .int .u8 0, .int .u8 0, .pointer none, .slice none 0 0] 78)) := hz0
 have Hw0 : Hid (((w.alloc (.cells #[.int .u32 X.a.1, .int .u32 X.a.2, .int .u32 X.b.1, .int .u32 X.b.2, .int .u16 X.c.1, .int .u16 X.c.2, .int .u16 X.d.1, .int .u16 X.d.2, .int .u8 X.m.1, .int .u8 X.m.2, .slice ad n cap] 135)).alloc (.cells #[.int .u32 0, .int .u32 0, .int .u32 0, .int .u32 0, .int .u16 0, .int .u16 0, .int .u16 0, .int .u16 0, .int .u8 0, .int .u8 0, .pointer none, .slice none 0 0] 78)) = w0) := hw0.symm
 have c10 : w0.cell? ⟨w.heap.size, 10, none⟩ = some (.slice ad n cap) := blk_cell hp0 rfl
 clear hp0 hz0 hb0 hw0
 obtain ⟨D, hD⟩ : ∃ D, D = bestP (X, L) := ⟨_, rfl⟩
 have hbst := bestC ⟨X, ad, n, cap⟩ L l d g w0 (HT.out.on HB0.out) (HS.out.keep HB0.out) HL.out HOk.out
 have hbo := best_ok HOk.out
 simp only at hbst
 rw [← hD] at hbst hbo
 have HD : Hid (D = bestP (X, L)) := hD
 clear hD
 obtain ⟨⟨X1, L1⟩, ⟨X2, L2⟩⟩ := D
 have HO1 : Hid (CtOk l d (X1, L1)) := hbo.1
 have HO2 : Hid (CtOk l d (X2, L2)) := hbo.2.1
 clear hbo
 have HrP : Hid (w0.rangeAt w.heap.size 0 (#[.int .u32 X.a.1, .int .u32 X.a.2, .int .u32 X.b.1, .int .u32 X.b.2, .int .u16 X.c.1, .int .u16 X.c.2, .int .u16 X.d.1, .int .u16 X.d.2, .int .u8 X.m.1, .int .u8 X.m.2, .slice ad n cap] : Array Value).toList) := rngAll HP0.out
 generalize hdd : (d + 1 : Nat) = dd at *
 have Hdd : Hid (d + 1 = dd) := hdd
 clear hdd
 go_enter Tryz.func61, Tryz.ntmps61
 go_upto_region 1 with (fail)
 rw [Hw0.out]
 clear Hw0
 go_upto_region 4 with (first | (refine ct_loadL rfl 135 (.tmp 4) rfl w.heap.size 0 #[.int .u32 X.a.1, .int .u32 X.a.2, .int .u32 X.b.1, .int .u32 X.b.2, .int .u16 X.c.1, .int .u16 X.c.2, .int .u16 X.d.1, .int .u16 X.d.2, .int .u8 X.m.1, .int .u8 X.m.2, .slice ad n cap] rfl HrP.out Tryz.underlying135 rfl (by kernel_rfl) ?_) | (go_at_call 79; refine hbst.mono ?_; rintro e w1 ⟨⟨⟨Y1, ad1, n1, c1⟩, ⟨Y2, ad2, n2, c2⟩⟩, rfl, hcr, hb1⟩; have HCr : Hid _ := hcr; have Hb1 : Hid _ := hb1; clear hcr hb1; have HZ1 : Hid ((w1.alloc (.cells #[.int .u32 0, .int .u32 0, .int .u32 0, .int .u32 0, .int .u16 0, .int .u16 0, .int .u16 0, .int .u16 0, .int .u8 0, .int .u8 0, .slice none 0 0, .int .u32 0, .int .u32 0, .int .u32 0, .int .u32 0, .int .u16 0, .int .u16 0, .int .u16 0, .int .u16 0, .int .u8 0, .int .u8 0, .slice none 0 0] 153)).heap[w1.heap.size]? = some (.cells #[.int .u32 0, .int .u32 0, .int .u32 0, .int .u32 0, .int .u16 0, .int .u16 0, .int .u16 0, .int .u16 0, .int .u8 0, .int .u8 0, .slice none 0 0, .int .u32 0, .int .u32 0, .int .u32 0, .int .u32 0, .int .u16 0, .int .u16 0, .int .u16 0, .int .u16 0, .int .u8 0, .int .u8 0, .slice none 0 0] 153)) := blk_new _ _) | (refine wpList_store_blk rfl 153 (.tmp 9) (.tmp 25) rfl w1.heap.size 0 #[.int .u32 Y1.a.1, .int .u32 Y1.a.2, .int .u32 Y1.b.1, .int .u32 Y1.b.2, .int .u16 Y1.c.1, .int .u16 Y1.c.2, .int .u16 Y1.d.1, .int .u16 Y1.d.2, .int .u8 Y1.m.1, .int .u8 Y1.m.2, .slice ad1 n1 c1, .int .u32 Y2.a.1, .int .u32 Y2.a.2, .int .u32 Y2.b.1, .int .u32 Y2.b.2, .int .u16 Y2.c.1, .int .u16 Y2.c.2, .int .u16 Y2.d.1, .int .u16 Y2.d.2, .int .u8 Y2.m.1, .int .u8 Y2.m.2, .slice ad2 n2 c2] #[.int .u32 Y1.a.1, .int .u32 Y1.a.2, .int .u32 Y1.b.1, .int .u32 Y1.b.2, .int .u16 Y1.c.1, .int .u16 Y1.c.2, .int .u16 Y1.d.1, .int .u16 Y1.d.2, .int .u8 Y1.m.1, .int .u8 Y1.m.2, .slice ad1 n1 c1, .int .u32 Y2.a.1, .int .u32 Y2.a.2, .int .u32 Y2.b.1, .int .u32 Y2.b.2, .int .u16 Y2.c.1, .int .u16 Y2.c.2, .int .u16 Y2.d.1, .int .u16 Y2.d.2, .int .u8 Y2.m.1, .int .u8 Y2.m.2, .slice ad2 n2 c2] rfl rfl 153 _ HZ1.out (Nat.le_of_ble_eq_true rfl) rfl (by kernel_rfl) rfl ?_; intro w2 hw2 ho2))
 try simp only [Act.put]
 have hb2 : Below w1.heap.size w1 w2 := ((Below.refl _ _).alloc (Nat.le_refl _) _).trans (ho2.below (Nat.le_refl _))
 have hb02 : Below w0.heap.size w0 w2 := Hb1.out.trans (hb2.mono Hb1.out.size)
 have hx1 : Y1 = X1 := HCr.out.x
 have hx2 : Y2 = X2 := HCr.out.y
 subst hx1 hx2
 have HZ2 : Hid (w2.heap[w.heap.size + 1]? = some (.cells #[.int .u32 0, .int .u32 0, .int .u32 0, .int .u32 0, .int .u16 0, .int .u16 0, .int .u16 0, .int .u16 0, .int .u8 0, .int .u8 0, .pointer none, .slice none 0 0] 78)) := blk_on HZ0.out hb02
 have HB2 : Hid (Below w.heap.size w w2) := HB0.out.trans (hb02.mono HB0.out.size)
 have HT2 : Hid (Tris w2 g) := HT.out.on HB2.out
 have HR1 : Hid (SrcZ w2 (.slice ad1 n1 c1) L1) := (HCr.out.rx.on hb2).src
 have HR2 : Hid (SrcZ w2 (.slice ad2 n2 c2) L2) := (HCr.out.ry.on hb2).src
 have HrC : Hid (w2.rangeAt w1.heap.size 0 (#[.int .u32 Y1.a.1, .int .u32 Y1.a.2, .int .u32 Y1.b.1, .int .u32 Y1.b.2, .int .u16 Y1.c.1, .int .u16 Y1.c.2, .int .u16 Y1.d.1, .int .u16 Y1.d.2, .int .u8 Y1.m.1, .int .u8 Y1.m.2, .slice ad1 n1 c1, .int .u32 Y2.a.1, .int .u32 Y2.a.2, .int .u32 Y2.b.1, .int .u32 Y2.b.2, .int .u16 Y2.c.1, .int .u16 Y2.c.2, .int .u16 Y2.d.1, .int .u16 Y2.d.2, .int .u8 Y2.m.1, .int .u8 Y2.m.2, .slice ad2 n2 c2] : Array Value).toList) := rngAll hw2
 have HBlt : Hid (w.heap.size + 1 < w2.heap.size) := blk_lt HZ2.out
 obtain ⟨Bc, hBc⟩ : ∃ Bc, Bc = w1.heap.size := ⟨_, rfl⟩
 rw [← hBc] at HrC
 try rw [← hBc]
 clear hBc hb2 hb02 hw2 ho2 HZ1 Hb1 HCr HZ0 HB0 HrP HP0 c10 hbst
 go_cut [10, 11] (fun s0 s1 wx => ∃ (A B : Nat) (q1 q2 : Nv), s0 = .pointer (some ⟨A, 0, none⟩) ∧ s1 = .pointer (some ⟨B, 0, none⟩) ∧ Hid (wx.heap[A]? = some (.cells #[.int .u32 q1.x.a.1, .int .u32 q1.x.a.2, .int .u32 q1.x.b.1, .int .u32 q1.x.b.2, .int .u16 q1.x.c.1, .int .u16 q1.x.c.2, .int .u16 q1.x.d.1, .int .u16 q1.x.d.2, .int .u8 q1.x.m.1, .int .u8 q1.x.m.2, .pointer q1.k, .slice q1.ad q1.n q1.cap] 78)) ∧ Hid (wx.heap[B]? = some (.cells #[.int .u32 q2.x.a.1, .int .u32 q2.x.a.2, .int .u32 q2.x.b.1, .int .u32 q2.x.b.2, .int .u16 q2.x.c.1, .int .u16 q2.x.c.2, .int .u16 q2.x.d.1, .int .u16 q2.x.d.2, .int .u8 q2.x.m.1, .int .u8 q2.x.m.2, .pointer q2.k, .slice q2.ad q2.n q2.cap] 78)) ∧ Hid (Nd bn wx w2.heap.size d (Y1, L1) q1) ∧ Hid (Nd bn wx w2.heap.size d (Y2, L2) q2) ∧ Hid (Below w2.heap.size w2 wx))
 case first =>
  have rC1 : w2.rangeAt Bc 0 (#[.int .u32 Y1.a.1, .int .u32 Y1.a.2, .int .u32 Y1.b.1, .int .u32 Y1.b.2, .int .u16 Y1.c.1, .int .u16 Y1.c.2, .int .u16 Y1.d.1, .int .u16 Y1.d.2, .int .u8 Y1.m.1, .int .u8 Y1.m.2, .slice ad1 n1 c1] : Array Value).toList := rng_sub HrC.out 0 11
  have rC2 : w2.rangeAt Bc 11 (#[.int .u32 Y2.a.1, .int .u32 Y2.a.2, .int .u32 Y2.b.1, .int .u32 Y2.b.2, .int .u16 Y2.c.1, .int .u16 Y2.c.2, .int .u16 Y2.d.1, .int .u16 Y2.d.2, .int .u8 Y2.m.1, .int .u8 Y2.m.2, .slice ad2 n2 c2] : Array Value).toList := by have h := rng_sub HrC.out 11 11; rw [Nat.zero_add] at h; exact h
  have hsub : (dd : Int) - 1 = (d : Int) := by have := Hdd.out; omega
  have hsw : IntKind.i64.wrap (d : Int) = (d : Int) := by rw [IntKind.wrap_i64]; omega
  refine wp_region_held_drew (S := fun w' => Below w2.heap.size w2 w') (by kernel_rfl) (Below.drew (Below.refl _ _)) (fun hS0 => ?_)
  show wpAnyH _ _ _ _ _ 18 _ _ _
  obtain ⟨wd, hwd⟩ : ∃ x, x = w2.drew := ⟨_, rfl⟩
  have hzd : Hid (w2.heap.size = wd.heap.size) := by rw [hwd]; rfl
  rw [← hwd] at hS0 ⊢
  clear hwd
  refine wpTk (i := 0) (v := .pointer (some ⟨Bc, 0, none⟩)) hS0 ?_
  simp only [nrm]
  refine wpTk (i := 2) (v := .slice (some ⟨g, 0, none⟩) 5 5) hS0 ?_
  simp only [nrm]
  refine wpTk (i := 3) (v := .int .i64 bn) hS0 ?_
  simp only [nrm]
  refine wpTk (i := 4) (v := .int .i64 dd) hS0 ?_
  simp only [nrm]
  refine wpTk (i := 7) (v := .pointer (some ⟨Bc, 11, none⟩)) hS0 ?_
  simp only [nrm]
  refine wpTk (i := 9) (v := .slice (some ⟨g, 0, none⟩) 5 5) hS0 ?_
  simp only [nrm]
  refine wpTk (i := 10) (v := .int .i64 bn) hS0 ?_
  simp only [nrm]
  refine wpTk (i := 11) (v := .int .i64 dd) hS0 ?_
  simp only [nrm]
  refine wpLd (i := 1) rfl (yieldsIf_load_mid rfl 135 (.tmp 26) rfl Bc 0 rfl (#[.int .u32 Y1.a.1, .int .u32 Y1.a.2, .int .u32 Y1.b.1, .int .u32 Y1.b.2, .int .u16 Y1.c.1, .int .u16 Y1.c.2, .int .u16 Y1.d.1, .int .u16 Y1.d.2, .int .u8 Y1.m.1, .int .u8 Y1.m.2, .slice ad1 n1 c1] : Array Value).toList _ (fun w' hw' => rng_on hw' rC1) Tryz.underlying135 rfl (by kernel_rfl)) hS0 ?_
  try simp only [nrm]
  refine wpAnyH_take (i := 5) (v := .int .i64 d) rfl (by kernel_rfl) (by kernel_rfl) (by kernel_rfl) (fun _ _ _ h => h) (.inl ⟨rfl, fun w' hw' => by simp [execOp, go_sem, hsub, hsw]⟩) hS0 ?_
  simp only [nrm]
  refine wpLd (i := 8) rfl (yieldsIf_load_mid rfl 135 (.tmp 33) rfl Bc 11 rfl (#[.int .u32 Y2.a.1, .int .u32 Y2.a.2, .int .u32 Y2.b.1, .int .u32 Y2.b.2, .int .u16 Y2.c.1, .int .u16 Y2.c.2, .int .u16 Y2.d.1, .int .u16 Y2.d.2, .int .u8 Y2.m.1, .int .u8 Y2.m.2, .slice ad2 n2 c2] : Array Value).toList _ (fun w' hw' => rng_on hw' rC2) Tryz.underlying135 rfl (by kernel_rfl)) hS0 ?_
  try simp only [nrm]
  refine wpAnyH_take (i := 12) (v := .int .i64 d) rfl (by kernel_rfl) (by kernel_rfl) (by kernel_rfl) (fun _ _ _ h => h) (.inl ⟨rfl, fun w' hw' => by simp [execOp, go_sem, hsub, hsw]⟩) hS0 ?_
  simp only [nrm]
  refine wpAnyH_all (rs := [6, 14, 15]) (by kernel_rfl) (by simp) ?_
  intro i hi
  simp only [mmL] at hi
  rcases hi with rfl | rfl | rfl
  ·refine wpOp_of_wp rfl rfl (fun K' hK' => ?_)
   go_wp2_with (go_at_call 61; refine (HIh.out ⟨Y1, ad1, n1, c1⟩ L1 _ (by omega) (HT2.out.on hS0) (HR1.out.keep hS0) (Nat.le_trans HO1.out.len Hl64.out) HO1.out Hl64.out).mono ?_; rintro e wa1 ⟨q1, rfl, hN1, hb1⟩)
   have hM1 := hN1.base (show w2.heap.size ≤ _ from hS0.size)
   have hz1 : Hid (wd.heap.size ≤ wa1.heap.size) := hb1.size
   have hs1 : Below w2.heap.size w2 wa1 := hS0.trans (hb1.mono hS0.size)
   refine ⟨hs1, ?_⟩
   refine wpAnyH_all (rs := [13, 14, 15]) (by kernel_rfl) (by simp) ?_
   intro i hi
   simp only [mmL] at hi
   rcases hi with rfl | rfl | rfl
   ·refine wpOp_of_wp rfl rfl (fun K' hK' => ?_)
    go_wp2_with (go_at_call 61; refine (HIh.out ⟨Y2, ad2, n2, c2⟩ L2 _ (by omega) (HT2.out.on hs1) (HR2.out.keep hs1) (Nat.le_trans HO2.out.len Hl64.out) HO2.out Hl64.out).mono ?_; rintro e wa2 ⟨q2, rfl, hN2, hb2⟩)
    have hM2 := hN2.base (show w2.heap.size ≤ _ from hs1.size)
    have hz2 : Hid (wa1.heap.size ≤ wa2.heap.size) := hb2.size
    have hs2 : Below w2.heap.size w2 wa2 := hs1.trans (hb2.mono hs1.size)
    have hc2N1 := hM1.on hb2
    refine ⟨hs2, ?_⟩
    refine wpAnyH_all (rs := [14, 15]) (by kernel_rfl) (by simp) ?_
    intro i hi
    simp only [mmL] at hi
    rcases hi with rfl | rfl
    ·refine wpOp_of_wp rfl rfl (fun K' hK' => ?_)
     go_wp2_with (fail)
     have hb3 : Below wa2.heap.size wa2 (wa2.alloc (.cells #[.int .u32 0, .int .u32 0, .int .u32 0, .int .u32 0, .int .u16 0, .int .u16 0, .int .u16 0, .int .u16 0, .int .u8 0, .int .u8 0, .pointer none, .slice none 0 0] 78)) := (Below.refl _ _).alloc (Nat.le_refl _) _
     have hn3 := blk_new wa2 (.cells #[.int .u32 0, .int .u32 0, .int .u32 0, .int .u32 0, .int .u16 0, .int .u16 0, .int .u16 0, .int .u16 0, .int .u8 0, .int .u8 0, .pointer none, .slice none 0 0] 78)
     obtain ⟨wa3, hw3⟩ : ∃ x, x = wa2.alloc (.cells #[.int .u32 0, .int .u32 0, .int .u32 0, .int .u32 0, .int .u16 0, .int .u16 0, .int .u16 0, .int .u16 0, .int .u8 0, .int .u8 0, .pointer none, .slice none 0 0] 78) := ⟨_, rfl⟩
     have hz3 : Hid (wa3.heap.size = wa2.heap.size + 1) := by show _ = _; rw [hw3]; simp
     rw [← hw3] at hb3 hn3 ⊢
     clear hw3
     have hs3 : Below w2.heap.size w2 wa3 := hs2.trans (hb3.mono hs2.size)
     have hc3N1 := hc2N1.on hb3
     have hc3N2 := hM2.on hb3
     refine ⟨hs3, ?_⟩
     refine wpO 15 (fun K' hK' => ?_)
     go_wp2_with (fail)
     have hb4 : Below wa3.heap.size wa3 (wa3.alloc (.cells #[.int .u32 0, .int .u32 0, .int .u32 0, .int .u32 0, .int .u16 0, .int .u16 0, .int .u16 0, .int .u16 0, .int .u8 0, .int .u8 0, .pointer none, .slice none 0 0] 78)) := (Below.refl _ _).alloc (Nat.le_refl _) _
     have hn4 := blk_new wa3 (.cells #[.int .u32 0, .int .u32 0, .int .u32 0, .int .u32 0, .int .u16 0, .int .u16 0, .int .u16 0, .int .u16 0, .int .u8 0, .int .u8 0, .pointer none, .slice none 0 0] 78)
     obtain ⟨wa4, hw4⟩ : ∃ x, x = wa3.alloc (.cells #[.int .u32 0, .int .u32 0, .int .u32 0, .int .u32 0, .int .u16 0, .int .u16 0, .int .u16 0, .int .u16 0, .int .u8 0, .int .u8 0, .pointer none, .slice none 0 0] 78) := ⟨_, rfl⟩
     have hz4 : Hid (wa4.heap.size = wa3.heap.size + 1) := by show _ = _; rw [hw4]; simp
     rw [← hw4] at hb4 hn4 ⊢
     clear hw4
     have hs4 : Below w2.heap.size w2 wa4 := hs3.trans (hb4.mono hs3.size)
     have hk4A := blk_on hn3 hb4
     have hc4N1 := hc3N1.on hb4
     have hc4N2 := hc3N2.on hb4
     refine ⟨hs4, ?_⟩
     have zhzd := hzd.out
     have zhz1 := hz1.out
     have zhz2 := hz2.out
     have zhz3 := hz3.out
     have zhz4 := hz4.out
     refine wpO 16 (fun K' hK' => ?_)
     refine wpSt 78 (.tmp 10) (.tmp 32) rfl (wa2.heap.size) 0 #[.int .u32 q1.x.a.1, .int .u32 q1.x.a.2, .int .u32 q1.x.b.1, .int .u32 q1.x.b.2, .int .u16 q1.x.c.1, .int .u16 q1.x.c.2, .int .u16 q1.x.d.1, .int .u16 q1.x.d.2, .int .u8 q1.x.m.1, .int .u8 q1.x.m.2, .pointer q1.k, .slice q1.ad q1.n q1.cap] #[.int .u32 q1.x.a.1, .int .u32 q1.x.a.2, .int .u32 q1.x.b.1, .int .u32 q1.x.b.2, .int .u16 q1.x.c.1, .int .u16 q1.x.c.2, .int .u16 q1.x.d.1, .int .u16 q1.x.d.2, .int .u8 q1.x.m.1, .int .u8 q1.x.m.2, .pointer q1.k, .slice q1.ad q1.n q1.cap] rfl rfl 78 _ hk4A (fun wb5 hp5 ho5 => hK' _ _ ?_)
     have ht5 : Below w2.heap.size w2 wb5 := hs4.trans (ho5.below (by omega))
     have hd5N1 := hc4N1.put ho5 hk4A
     have hd5N2 := hc4N2.put ho5 hk4A
     have hq5B : wb5.heap[wa3.heap.size]? = _ := (ho5.block _ (by omega)).trans hn4
     refine ⟨ht5, ?_⟩
     refine wpO 17 (fun K' hK' => ?_)
     refine wpSt 78 (.tmp 11) (.tmp 39) rfl (wa3.heap.size) 0 #[.int .u32 q2.x.a.1, .int .u32 q2.x.a.2, .int .u32 q2.x.b.1, .int .u32 q2.x.b.2, .int .u16 q2.x.c.1, .int .u16 q2.x.c.2, .int .u16 q2.x.d.1, .int .u16 q2.x.d.2, .int .u8 q2.x.m.1, .int .u8 q2.x.m.2, .pointer q2.k, .slice q2.ad q2.n q2.cap] #[.int .u32 q2.x.a.1, .int .u32 q2.x.a.2, .int .u32 q2.x.b.1, .int .u32 q2.x.b.2, .int .u16 q2.x.c.1, .int .u16 q2.x.c.2, .int .u16 q2.x.d.1, .int .u16 q2.x.d.2, .int .u8 q2.x.m.1, .int .u8 q2.x.m.2, .pointer q2.k, .slice q2.ad q2.n q2.cap] rfl rfl 78 _ hq5B (fun wb6 hp6 ho6 => hK' _ _ ?_)
     have ht6 : Below w2.heap.size w2 wb6 := ht5.trans (ho6.below (by omega))
     have hd6N1 := hd5N1.put ho6 hq5B
     have hd6N2 := hd5N2.put ho6 hq5B
     have hq6A : wb6.heap[wa2.heap.size]? = _ := (ho6.block _ (by omega)).trans hp5
     refine ⟨ht6, ?_⟩
     refine wpAnyH_done (by kernel_rfl) ?_ _
     try simp only [nrm]
     clear zhzd zhz1 zhz2 zhz3 zhz4
     have HS9 : Hid _ := ht6
     have HA9 : Hid _ := hq6A
     have HB9 : Hid _ := hp6
     have HN1 : Hid _ := hd6N1
     have HN2 : Hid _ := hd6N2
     go_wp2_with (fail)
     go_meet
     case rel => exact ⟨_, _, q1, q2, rfl, rfl, HA9.out, HB9.out, HN1.out, HN2.out, HS9.out⟩
    ·refine wpOp_of_wp rfl rfl (fun K' hK' => ?_)
     go_wp2_with (fail)
     have hb7 : Below wa2.heap.size wa2 (wa2.alloc (.cells #[.int .u32 0, .int .u32 0, .int .u32 0, .int .u32 0, .int .u16 0, .int .u16 0, .int .u16 0, .int .u16 0, .int .u8 0, .int .u8 0, .pointer none, .slice none 0 0] 78)) := (Below.refl _ _).alloc (Nat.le_refl _) _
     have hn7 := blk_new wa2 (.cells #[.int .u32 0, .int .u32 0, .int .u32 0, .int .u32 0, .int .u16 0, .int .u16 0, .int .u16 0, .int .u16 0, .int .u8 0, .int .u8 0, .pointer none, .slice none 0 0] 78)
     obtain ⟨wa7, hw7⟩ : ∃ x, x = wa2.alloc (.cells #[.int .u32 0, .int .u32 0, .int .u32 0, .int .u32 0, .int .u16 0, .int .u16 0, .int .u16 0, .int .u16 0, .int .u8 0, .int .u8 0, .pointer none, .slice none 0 0] 78) := ⟨_, rfl⟩
     have hz7 : Hid (wa7.heap.size = wa2.heap.size + 1) := by show _ = _; rw [hw7]; simp
     rw [← hw7] at hb7 hn7 ⊢
     clear hw7
     have hs7 : Below w2.heap.size w2 wa7 := hs2.trans (hb7.mono hs2.size)
     have hc7N1 := hc2N1.on hb7
     have hc7N2 := hM2.on hb7
     refine ⟨hs7, ?_⟩
     refine wpO 14 (fun K' hK' => ?_)
     go_wp2_with (fail)
     have hb8 : Below wa7.heap.size wa7 (wa7.alloc (.cells #[.int .u32 0, .int .u32 0, .int .u32 0, .int .u32 0, .int .u16 0, .int .u16 0, .int .u16 0, .int .u16 0, .int .u8 0, .int .u8 0, .pointer none, .slice none 0 0] 78)) := (Below.refl _ _).alloc (Nat.le_refl _) _
     have hn8 := blk_new wa7 (.cells #[.int .u32 0, .int .u32 0, .int .u32 0, .int .u32 0, .int .u16 0, .int .u16 0, .int .u16 0, .int .u16 0, .int .u8 0, .int .u8 0, .pointer none, .slice none 0 0] 78)
     obtain ⟨wa8, hw8⟩ : ∃ x, x = wa7.alloc (.cells #[.int .u32 0, .int .u32 0, .int .u32 0, .int .u32 0, .int .u16 0, .int .u16 0, .int .u16 0, .int .u16 0, .int .u8 0, .int .u8 0, .pointer none, .slice none 0 0] 78) := ⟨_, rfl⟩
     have hz8 : Hid (wa8.heap.size = wa7.heap.size + 1) := by show _ = _; rw [hw8]; simp
     rw [← hw8] at hb8 hn8 ⊢
     clear hw8
     have hs8 : Below w2.heap.size w2 wa8 := hs7.trans (hb8.mono hs7.size)
     have hk8B := blk_on hn7 hb8
     have hc8N1 := hc7N1.on hb8
     have hc8N2 := hc7N2.on hb8
     refine ⟨hs8, ?_⟩
     have zhzd := hzd.out
     have zhz1 := hz1.out
     have zhz2 := hz2.out
     have zhz7 := hz7.out
     have zhz8 := hz8.out
     refine wpO 16 (fun K' hK' => ?_)
     refine wpSt 78 (.tmp 10) (.tmp 32) rfl (wa7.heap.size) 0 #[.int .u32 q1.x.a.1, .int .u32 q1.x.a.2, .int .u32 q1.x.b.1, .int .u32 q1.x.b.2, .int .u16 q1.x.c.1, .int .u16 q1.x.c.2, .int .u16 q1.x.d.1, .int .u16 q1.x.d.2, .int .u8 q1.x.m.1, .int .u8 q1.x.m.2, .pointer q1.k, .slice q1.ad q1.n q1.cap] #[.int .u32 q1.x.a.1, .int .u32 q1.x.a.2, .int .u32 q1.x.b.1, .int .u32 q1.x.b.2, .int .u16 q1.x.c.1, .int .u16 q1.x.c.2, .int .u16 q1.x.d.1, .int .u16 q1.x.d.2, .int .u8 q1.x.m.1, .int .u8 q1.x.m.2, .pointer q1.k, .slice q1.ad q1.n q1.cap] rfl rfl 78 _ hn8 (fun wb9 hp9 ho9 => hK' _ _ ?_)
     have ht9 : Below w2.heap.size w2 wb9 := hs8.trans (ho9.below (by omega))
     have hd9N1 := hc8N1.put ho9 hn8
     have hd9N2 := hc8N2.put ho9 hn8
     have hq9B : wb9.heap[wa2.heap.size]? = _ := (ho9.block _ (by omega)).trans hk8B
     refine ⟨ht9, ?_⟩
     refine wpO 17 (fun K' hK' => ?_)
     refine wpSt 78 (.tmp 11) (.tmp 39) rfl (wa2.heap.size) 0 #[.int .u32 q2.x.a.1, .int .u32 q2.x.a.2, .int .u32 q2.x.b.1, .int .u32 q2.x.b.2, .int .u16 q2.x.c.1, .int .u16 q2.x.c.2, .int .u16 q2.x.d.1, .int .u16 q2.x.d.2, .int .u8 q2.x.m.1, .int .u8 q2.x.m.2, .pointer q2.k, .slice q2.ad q2.n q2.cap] #[.int .u32 q2.x.a.1, .int .u32 q2.x.a.2, .int .u32 q2.x.b.1, .int .u32 q2.x.b.2, .int .u16 q2.x.c.1, .int .u16 q2.x.c.2, .int .u16 q2.x.d.1, .int .u16 q2.x.d.2, .int .u8 q2.x.m.1, .int .u8 q2.x.m.2, .pointer q2.k, .slice q2.ad q2.n q2.cap] rfl rfl 78 _ hq9B (fun wb10 hp10 ho10 => hK' _ _ ?_)
     have ht10 : Below w2.heap.size w2 wb10 := ht9.trans (ho10.below (by omega))
     have hd10N1 := hd9N1.put ho10 hq9B
     have hd10N2 := hd9N2.put ho10 hq9B
     have hq10A : wb10.heap[wa7.heap.size]? = _ := (ho10.block _ (by omega)).trans hp9
     refine ⟨ht10, ?_⟩
     refine wpAnyH_done (by kernel_rfl) ?_ _
     try simp only [nrm]
     clear zhzd zhz1 zhz2 zhz7 zhz8
     have HS9 : Hid _ := ht10
     have HA9 : Hid _ := hq10A
     have HB9 : Hid _ := hp10
     have HN1 : Hid _ := hd10N1
     have HN2 : Hid _ := hd10N2
     go_wp2_with (fail)
     go_meet
     case rel => exact ⟨_, _, q1, q2, rfl, rfl, HA9.out, HB9.out, HN1.out, HN2.out, HS9.out⟩
   ·refine wpOp_of_wp rfl rfl (fun K' hK' => ?_)
    go_wp2_with (fail)
    have hb11 : Below wa1.heap.size wa1 (wa1.alloc (.cells #[.int .u32 0, .int .u32 0, .int .u32 0, .int .u32 0, .int .u16 0, .int .u16 0, .int .u16 0, .int .u16 0, .int .u8 0, .int .u8 0, .pointer none, .slice none 0 0] 78)) := (Below.refl _ _).alloc (Nat.le_refl _) _
    have hn11 := blk_new wa1 (.cells #[.int .u32 0, .int .u32 0, .int .u32 0, .int .u32 0, .int .u16 0, .int .u16 0, .int .u16 0, .int .u16 0, .int .u8 0, .int .u8 0, .pointer none, .slice none 0 0] 78)
    obtain ⟨wa11, hw11⟩ : ∃ x, x = wa1.alloc (.cells #[.int .u32 0, .int .u32 0, .int .u32 0, .int .u32 0, .int .u16 0, .int .u16 0, .int .u16 0, .int .u16 0, .int .u8 0, .int .u8 0, .pointer none, .slice none 0 0] 78) := ⟨_, rfl⟩
    have hz11 : Hid (wa11.heap.size = wa1.heap.size + 1) := by show _ = _; rw [hw11]; simp
    rw [← hw11] at hb11 hn11 ⊢
    clear hw11
    have hs11 : Below w2.heap.size w2 wa11 := hs1.trans (hb11.mono hs1.size)
    have hc11N1 := hM1.on hb11
    refine ⟨hs11, ?_⟩
    refine wpAnyH_all (rs := [13, 15]) (by kernel_rfl) (by simp) ?_
    intro i hi
    simp only [mmL] at hi
    rcases hi with rfl | rfl
    ·refine wpOp_of_wp rfl rfl (fun K' hK' => ?_)
     go_wp2_with (go_at_call 61; refine (HIh.out ⟨Y2, ad2, n2, c2⟩ L2 _ (by omega) (HT2.out.on hs11) (HR2.out.keep hs11) (Nat.le_trans HO2.out.len Hl64.out) HO2.out Hl64.out).mono ?_; rintro e wa12 ⟨q2, rfl, hN12, hb12⟩)
     have hM12 := hN12.base (show w2.heap.size ≤ _ from hs11.size)
     have hz12 : Hid (wa11.heap.size ≤ wa12.heap.size) := hb12.size
     have hs12 : Below w2.heap.size w2 wa12 := hs11.trans (hb12.mono hs11.size)
     have hk12A := blk_on hn11 hb12
     have hc12N1 := hc11N1.on hb12
     refine ⟨hs12, ?_⟩
     refine wpO 15 (fun K' hK' => ?_)
     go_wp2_with (fail)
     have hb13 : Below wa12.heap.size wa12 (wa12.alloc (.cells #[.int .u32 0, .int .u32 0, .int .u32 0, .int .u32 0, .int .u16 0, .int .u16 0, .int .u16 0, .int .u16 0, .int .u8 0, .int .u8 0, .pointer none, .slice none 0 0] 78)) := (Below.refl _ _).alloc (Nat.le_refl _) _
     have hn13 := blk_new wa12 (.cells #[.int .u32 0, .int .u32 0, .int .u32 0, .int .u32 0, .int .u16 0, .int .u16 0, .int .u16 0, .int .u16 0, .int .u8 0, .int .u8 0, .pointer none, .slice none 0 0] 78)
     obtain ⟨wa13, hw13⟩ : ∃ x, x = wa12.alloc (.cells #[.int .u32 0, .int .u32 0, .int .u32 0, .int .u32 0, .int .u16 0, .int .u16 0, .int .u16 0, .int .u16 0, .int .u8 0, .int .u8 0, .pointer none, .slice none 0 0] 78) := ⟨_, rfl⟩
     have hz13 : Hid (wa13.heap.size = wa12.heap.size + 1) := by show _ = _; rw [hw13]; simp
     rw [← hw13] at hb13 hn13 ⊢
     clear hw13
     have hs13 : Below w2.heap.size w2 wa13 := hs12.trans (hb13.mono hs12.size)
     have hk13A := blk_on hk12A hb13
     have hc13N1 := hc12N1.on hb13
     have hc13N2 := hM12.on hb13
     refine ⟨hs13, ?_⟩
     have zhzd := hzd.out
     have zhz1 := hz1.out
     have zhz11 := hz11.out
     have zhz12 := hz12.out
     have zhz13 := hz13.out
     refine wpO 16 (fun K' hK' => ?_)
     refine wpSt 78 (.tmp 10) (.tmp 32) rfl (wa1.heap.size) 0 #[.int .u32 q1.x.a.1, .int .u32 q1.x.a.2, .int .u32 q1.x.b.1, .int .u32 q1.x.b.2, .int .u16 q1.x.c.1, .int .u16 q1.x.c.2, .int .u16 q1.x.d.1, .int .u16 q1.x.d.2, .int .u8 q1.x.m.1, .int .u8 q1.x.m.2, .pointer q1.k, .slice q1.ad q1.n q1.cap] #[.int .u32 q1.x.a.1, .int .u32 q1.x.a.2, .int .u32 q1.x.b.1, .int .u32 q1.x.b.2, .int .u16 q1.x.c.1, .int .u16 q1.x.c.2, .int .u16 q1.x.d.1, .int .u16 q1.x.d.2, .int .u8 q1.x.m.1, .int .u8 q1.x.m.2, .pointer q1.k, .slice q1.ad q1.n q1.cap] rfl rfl 78 _ hk13A (fun wb14 hp14 ho14 => hK' _ _ ?_)
     have ht14 : Below w2.heap.size w2 wb14 := hs13.trans (ho14.below (by omega))
     have hd14N1 := hc13N1.put ho14 hk13A
     have hd14N2 := hc13N2.put ho14 hk13A
     have hq14B : wb14.heap[wa12.heap.size]? = _ := (ho14.block _ (by omega)).trans hn13
     refine ⟨ht14, ?_⟩
     refine wpO 17 (fun K' hK' => ?_)
     refine wpSt 78 (.tmp 11) (.tmp 39) rfl (wa12.heap.size) 0 #[.int .u32 q2.x.a.1, .int .u32 q2.x.a.2, .int .u32 q2.x.b.1, .int .u32 q2.x.b.2, .int .u16 q2.x.c.1, .int .u16 q2.x.c.2, .int .u16 q2.x.d.1, .int .u16 q2.x.d.2, .int .u8 q2.x.m.1, .int .u8 q2.x.m.2, .pointer q2.k, .slice q2.ad q2.n q2.cap] #[.int .u32 q2.x.a.1, .int .u32 q2.x.a.2, .int .u32 q2.x.b.1, .int .u32 q2.x.b.2, .int .u16 q2.x.c.1, .int .u16 q2.x.c.2, .int .u16 q2.x.d.1, .int .u16 q2.x.d.2, .int .u8 q2.x.m.1, .int .u8 q2.x.m.2, .pointer q2.k, .slice q2.ad q2.n q2.cap] rfl rfl 78 _ hq14B (fun wb15 hp15 ho15 => hK' _ _ ?_)
     have ht15 : Below w2.heap.size w2 wb15 := ht14.trans (ho15.below (by omega))
     have hd15N1 := hd14N1.put ho15 hq14B
     have hd15N2 := hd14N2.put ho15 hq14B
     have hq15A : wb15.heap[wa1.heap.size]? = _ := (ho15.block _ (by omega)).trans hp14
     refine ⟨ht15, ?_⟩
     refine wpAnyH_done (by kernel_rfl) ?_ _
     try simp only [nrm]
     clear zhzd zhz1 zhz11 zhz12 zhz13
     have HS9 : Hid _ := ht15
     have HA9 : Hid _ := hq15A
     have HB9 : Hid _ := hp15
     have HN1 : Hid _ := hd15N1
     have HN2 : Hid _ := hd15N2
     go_wp2_with (fail)
     go_meet
     case rel => exact ⟨_, _, q1, q2, rfl, rfl, HA9.out, HB9.out, HN1.out, HN2.out, HS9.out⟩
    ·refine wpOp_of_wp rfl rfl (fun K' hK' => ?_)
     go_wp2_with (fail)
     have hb16 : Below wa11.heap.size wa11 (wa11.alloc (.cells #[.int .u32 0, .int .u32 0, .int .u32 0, .int .u32 0, .int .u16 0, .int .u16 0, .int .u16 0, .int .u16 0, .int .u8 0, .int .u8 0, .pointer none, .slice none 0 0] 78)) := (Below.refl _ _).alloc (Nat.le_refl _) _
     have hn16 := blk_new wa11 (.cells #[.int .u32 0, .int .u32 0, .int .u32 0, .int .u32 0, .int .u16 0, .int .u16 0, .int .u16 0, .int .u16 0, .int .u8 0, .int .u8 0, .pointer none, .slice none 0 0] 78)
     obtain ⟨wa16, hw16⟩ : ∃ x, x = wa11.alloc (.cells #[.int .u32 0, .int .u32 0, .int .u32 0, .int .u32 0, .int .u16 0, .int .u16 0, .int .u16 0, .int .u16 0, .int .u8 0, .int .u8 0, .pointer none, .slice none 0 0] 78) := ⟨_, rfl⟩
     have hz16 : Hid (wa16.heap.size = wa11.heap.size + 1) := by show _ = _; rw [hw16]; simp
     rw [← hw16] at hb16 hn16 ⊢
     clear hw16
     have hs16 : Below w2.heap.size w2 wa16 := hs11.trans (hb16.mono hs11.size)
     have hk16A := blk_on hn11 hb16
     have hc16N1 := hc11N1.on hb16
     refine ⟨hs16, ?_⟩
     refine wpO 13 (fun K' hK' => ?_)
     go_wp2_with (go_at_call 61; refine (HIh.out ⟨Y2, ad2, n2, c2⟩ L2 _ (by omega) (HT2.out.on hs16) (HR2.out.keep hs16) (Nat.le_trans HO2.out.len Hl64.out) HO2.out Hl64.out).mono ?_; rintro e wa17 ⟨q2, rfl, hN17, hb17⟩)
     have hM17 := hN17.base (show w2.heap.size ≤ _ from hs16.size)
     have hz17 : Hid (wa16.heap.size ≤ wa17.heap.size) := hb17.size
     have hs17 : Below w2.heap.size w2 wa17 := hs16.trans (hb17.mono hs16.size)
     have hk17A := blk_on hk16A hb17
     have hk17B := blk_on hn16 hb17
     have hc17N1 := hc16N1.on hb17
     refine ⟨hs17, ?_⟩
     have zhzd := hzd.out
     have zhz1 := hz1.out
     have zhz11 := hz11.out
     have zhz16 := hz16.out
     have zhz17 := hz17.out
     refine wpO 16 (fun K' hK' => ?_)
     refine wpSt 78 (.tmp 10) (.tmp 32) rfl (wa1.heap.size) 0 #[.int .u32 q1.x.a.1, .int .u32 q1.x.a.2, .int .u32 q1.x.b.1, .int .u32 q1.x.b.2, .int .u16 q1.x.c.1, .int .u16 q1.x.c.2, .int .u16 q1.x.d.1, .int .u16 q1.x.d.2, .int .u8 q1.x.m.1, .int .u8 q1.x.m.2, .pointer q1.k, .slice q1.ad q1.n q1.cap] #[.int .u32 q1.x.a.1, .int .u32 q1.x.a.2, .int .u32 q1.x.b.1, .int .u32 q1.x.b.2, .int .u16 q1.x.c.1, .int .u16 q1.x.c.2, .int .u16 q1.x.d.1, .int .u16 q1.x.d.2, .int .u8 q1.x.m.1, .int .u8 q1.x.m.2, .pointer q1.k, .slice q1.ad q1.n q1.cap] rfl rfl 78 _ hk17A (fun wb18 hp18 ho18 => hK' _ _ ?_)
     have ht18 : Below w2.heap.size w2 wb18 := hs17.trans (ho18.below (by omega))
     have hd18N1 := hc17N1.put ho18 hk17A
     have hd18N2 := hM17.put ho18 hk17A
     have hq18B : wb18.heap[wa11.heap.size]? = _ := (ho18.block _ (by omega)).trans hk17B
     refine ⟨ht18, ?_⟩
     refine wpO 17 (fun K' hK' => ?_)
     refine wpSt 78 (.tmp 11) (.tmp 39) rfl (wa11.heap.size) 0 #[.int .u32 q2.x.a.1, .int .u32 q2.x.a.2, .int .u32 q2.x.b.1, .int .u32 q2.x.b.2, .int .u16 q2.x.c.1, .int .u16 q2.x.c.2, .int .u16 q2.x.d.1, .int .u16 q2.x.d.2, .int .u8 q2.x.m.1, .int .u8 q2.x.m.2, .pointer q2.k, .slice q2.ad q2.n q2.cap] #[.int .u32 q2.x.a.1, .int .u32 q2.x.a.2, .int .u32 q2.x.b.1, .int .u32 q2.x.b.2, .int .u16 q2.x.c.1, .int .u16 q2.x.c.2, .int .u16 q2.x.d.1, .int .u16 q2.x.d.2, .int .u8 q2.x.m.1, .int .u8 q2.x.m.2, .pointer q2.k, .slice q2.ad q2.n q2.cap] rfl rfl 78 _ hq18B (fun wb19 hp19 ho19 => hK' _ _ ?_)
     have ht19 : Below w2.heap.size w2 wb19 := ht18.trans (ho19.below (by omega))
     have hd19N1 := hd18N1.put ho19 hq18B
     have hd19N2 := hd18N2.put ho19 hq18B
     have hq19A : wb19.heap[wa1.heap.size]? = _ := (ho19.block _ (by omega)).trans hp18
     refine ⟨ht19, ?_⟩
     refine wpAnyH_done (by kernel_rfl) ?_ _
     try simp only [nrm]
     clear zhzd zhz1 zhz11 zhz16 zhz17
     have HS9 : Hid _ := ht19
     have HA9 : Hid _ := hq19A
     have HB9 : Hid _ := hp19
     have HN1 : Hid _ := hd19N1
     have HN2 : Hid _ := hd19N2
     go_wp2_with (fail)
     go_meet
     case rel => exact ⟨_, _, q1, q2, rfl, rfl, HA9.out, HB9.out, HN1.out, HN2.out, HS9.out⟩
   ·refine wpOp_of_wp rfl rfl (fun K' hK' => ?_)
    go_wp2_with (fail)
    have hb20 : Below wa1.heap.size wa1 (wa1.alloc (.cells #[.int .u32 0, .int .u32 0, .int .u32 0, .int .u32 0, .int .u16 0, .int .u16 0, .int .u16 0, .int .u16 0, .int .u8 0, .int .u8 0, .pointer none, .slice none 0 0] 78)) := (Below.refl _ _).alloc (Nat.le_refl _) _
    have hn20 := blk_new wa1 (.cells #[.int .u32 0, .int .u32 0, .int .u32 0, .int .u32 0, .int .u16 0, .int .u16 0, .int .u16 0, .int .u16 0, .int .u8 0, .int .u8 0, .pointer none, .slice none 0 0] 78)
    obtain ⟨wa20, hw20⟩ : ∃ x, x = wa1.alloc (.cells #[.int .u32 0, .int .u32 0, .int .u32 0, .int .u32 0, .int .u16 0, .int .u16 0, .int .u16 0, .int .u16 0, .int .u8 0, .int .u8 0, .pointer none, .slice none 0 0] 78) := ⟨_, rfl⟩
    have hz20 : Hid (wa20.heap.size = wa1.heap.size + 1) := by show _ = _; rw [hw20]; simp
    rw [← hw20] at hb20 hn20 ⊢
    clear hw20
    have hs20 : Below w2.heap.size w2 wa20 := hs1.trans (hb20.mono hs1.size)
    have hc20N1 := hM1.on hb20
    refine ⟨hs20, ?_⟩
    refine wpAnyH_all (rs := [13, 14]) (by kernel_rfl) (by simp) ?_
    intro i hi
    simp only [mmL] at hi
    rcases hi with rfl | rfl
    ·refine wpOp_of_wp rfl rfl (fun K' hK' => ?_)
     go_wp2_with (go_at_call 61; refine (HIh.out ⟨Y2, ad2, n2, c2⟩ L2 _ (by omega) (HT2.out.on hs20) (HR2.out.keep hs20) (Nat.le_trans HO2.out.len Hl64.out) HO2.out Hl64.out).mono ?_; rintro e wa21 ⟨q2, rfl, hN21, hb21⟩)
     have hM21 := hN21.base (show w2.heap.size ≤ _ from hs20.size)
     have hz21 : Hid (wa20.heap.size ≤ wa21.heap.size) := hb21.size
     have hs21 : Below w2.heap.size w2 wa21 := hs20.trans (hb21.mono hs20.size)
     have hk21B := blk_on hn20 hb21
     have hc21N1 := hc20N1.on hb21
     refine ⟨hs21, ?_⟩
     refine wpO 14 (fun K' hK' => ?_)
     go_wp2_with (fail)
     have hb22 : Below wa21.heap.size wa21 (wa21.alloc (.cells #[.int .u32 0, .int .u32 0, .int .u32 0, .int .u32 0, .int .u16 0, .int .u16 0, .int .u16 0, .int .u16 0, .int .u8 0, .int .u8 0, .pointer none, .slice none 0 0] 78)) := (Below.refl _ _).alloc (Nat.le_refl _) _
     have hn22 := blk_new wa21 (.cells #[.int .u32 0, .int .u32 0, .int .u32 0, .int .u32 0, .int .u16 0, .int .u16 0, .int .u16 0, .int .u16 0, .int .u8 0, .int .u8 0, .pointer none, .slice none 0 0] 78)
     obtain ⟨wa22, hw22⟩ : ∃ x, x = wa21.alloc (.cells #[.int .u32 0, .int .u32 0, .int .u32 0, .int .u32 0, .int .u16 0, .int .u16 0, .int .u16 0, .int .u16 0, .int .u8 0, .int .u8 0, .pointer none, .slice none 0 0] 78) := ⟨_, rfl⟩
     have hz22 : Hid (wa22.heap.size = wa21.heap.size + 1) := by show _ = _; rw [hw22]; simp
     rw [← hw22] at hb22 hn22 ⊢
     clear hw22
     have hs22 : Below w2.heap.size w2 wa22 := hs21.trans (hb22.mono hs21.size)
     have hk22B := blk_on hk21B hb22
     have hc22N1 := hc21N1.on hb22
     have hc22N2 := hM21.on hb22
     refine ⟨hs22, ?_⟩
     have zhzd := hzd.out
     have zhz1 := hz1.out
     have zhz20 := hz20.out
     have zhz21 := hz21.out
     have zhz22 := hz22.out
     refine wpO 16 (fun K' hK' => ?_)
     refine wpSt 78 (.tmp 10) (.tmp 32) rfl (wa21.heap.size) 0 #[.int .u32 q1.x.a.1, .int .u32 q1.x.a.2, .int .u32 q1.x.b.1, .int .u32 q1.x.b.2, .int .u16 q1.x.c.1, .int .u16 q1.x.c.2, .int .u16 q1.x.d.1, .int .u16 q1.x.d.2, .int .u8 q1.x.m.1, .int .u8 q1.x.m.2, .pointer q1.k, .slice q1.ad q1.n q1.cap] #[.int .u32 q1.x.a.1, .int .u32 q1.x.a.2, .int .u32 q1.x.b.1, .int .u32 q1.x.b.2, .int .u16 q1.x.c.1, .int .u16 q1.x.c.2, .int .u16 q1.x.d.1, .int .u16 q1.x.d.2, .int .u8 q1.x.m.1, .int .u8 q1.x.m.2, .pointer q1.k, .slice q1.ad q1.n q1.cap] rfl rfl 78 _ hn22 (fun wb23 hp23 ho23 => hK' _ _ ?_)
     have ht23 : Below w2.heap.size w2 wb23 := hs22.trans (ho23.below (by omega))
     have hd23N1 := hc22N1.put ho23 hn22
     have hd23N2 := hc22N2.put ho23 hn22
     have hq23B : wb23.heap[wa1.heap.size]? = _ := (ho23.block _ (by omega)).trans hk22B
     refine ⟨ht23, ?_⟩
     refine wpO 17 (fun K' hK' => ?_)
     refine wpSt 78 (.tmp 11) (.tmp 39) rfl (wa1.heap.size) 0 #[.int .u32 q2.x.a.1, .int .u32 q2.x.a.2, .int .u32 q2.x.b.1, .int .u32 q2.x.b.2, .int .u16 q2.x.c.1, .int .u16 q2.x.c.2, .int .u16 q2.x.d.1, .int .u16 q2.x.d.2, .int .u8 q2.x.m.1, .int .u8 q2.x.m.2, .pointer q2.k, .slice q2.ad q2.n q2.cap] #[.int .u32 q2.x.a.1, .int .u32 q2.x.a.2, .int .u32 q2.x.b.1, .int .u32 q2.x.b.2, .int .u16 q2.x.c.1, .int .u16 q2.x.c.2, .int .u16 q2.x.d.1, .int .u16 q2.x.d.2, .int .u8 q2.x.m.1, .int .u8 q2.x.m.2, .pointer q2.k, .slice q2.ad q2.n q2.cap] rfl rfl 78 _ hq23B (fun wb24 hp24 ho24 => hK' _ _ ?_)
     have ht24 : Below w2.heap.size w2 wb24 := ht23.trans (ho24.below (by omega))
     have hd24N1 := hd23N1.put ho24 hq23B
     have hd24N2 := hd23N2.put ho24 hq23B
     have hq24A : wb24.heap[wa21.heap.size]? = _ := (ho24.block _ (by omega)).trans hp23
     refine ⟨ht24, ?_⟩
     refine wpAnyH_done (by kernel_rfl) ?_ _
     try simp only [nrm]
     clear zhzd zhz1 zhz20 zhz21 zhz22
     have HS9 : Hid _ := ht24
     have HA9 : Hid _ := hq24A
     have HB9 : Hid _ := hp24
     have HN1 : Hid _ := hd24N1
     have HN2 : Hid _ := hd24N2
     go_wp2_with (fail)
     go_meet
     case rel => exact ⟨_, _, q1, q2, rfl, rfl, HA9.out, HB9.out, HN1.out, HN2.out, HS9.out⟩
    ·refine wpOp_of_wp rfl rfl (fun K' hK' => ?_)
     go_wp2_with (fail)
     have hb25 : Below wa20.heap.size wa20 (wa20.alloc (.cells #[.int .u32 0, .int .u32 0, .int .u32 0, .int .u32 0, .int .u16 0, .int .u16 0, .int .u16 0, .int .u16 0, .int .u8 0, .int .u8 0, .pointer none, .slice none 0 0] 78)) := (Below.refl _ _).alloc (Nat.le_refl _) _
     have hn25 := blk_new wa20 (.cells #[.int .u32 0, .int .u32 0, .int .u32 0, .int .u32 0, .int .u16 0, .int .u16 0, .int .u16 0, .int .u16 0, .int .u8 0, .int .u8 0, .pointer none, .slice none 0 0] 78)
     obtain ⟨wa25, hw25⟩ : ∃ x, x = wa20.alloc (.cells #[.int .u32 0, .int .u32 0, .int .u32 0, .int .u32 0, .int .u16 0, .int .u16 0, .int .u16 0, .int .u16 0, .int .u8 0, .int .u8 0, .pointer none, .slice none 0 0] 78) := ⟨_, rfl⟩
     have hz25 : Hid (wa25.heap.size = wa20.heap.size + 1) := by show _ = _; rw [hw25]; simp
     rw [← hw25] at hb25 hn25 ⊢
     clear hw25
     have hs25 : Below w2.heap.size w2 wa25 := hs20.trans (hb25.mono hs20.size)
     have hk25B := blk_on hn20 hb25
     have hc25N1 := hc20N1.on hb25
     refine ⟨hs25, ?_⟩
     refine wpO 13 (fun K' hK' => ?_)
     go_wp2_with (go_at_call 61; refine (HIh.out ⟨Y2, ad2, n2, c2⟩ L2 _ (by omega) (HT2.out.on hs25) (HR2.out.keep hs25) (Nat.le_trans HO2.out.len Hl64.out) HO2.out Hl64.out).mono ?_; rintro e wa26 ⟨q2, rfl, hN26, hb26⟩)
     have hM26 := hN26.base (show w2.heap.size ≤ _ from hs25.size)
     have hz26 : Hid (wa25.heap.size ≤ wa26.heap.size) := hb26.size
     have hs26 : Below w2.heap.size w2 wa26 := hs25.trans (hb26.mono hs25.size)
     have hk26B := blk_on hk25B hb26
     have hk26A := blk_on hn25 hb26
     have hc26N1 := hc25N1.on hb26
     refine ⟨hs26, ?_⟩
     have zhzd := hzd.out
     have zhz1 := hz1.out
     have zhz20 := hz20.out
     have zhz25 := hz25.out
     have zhz26 := hz26.out
     refine wpO 16 (fun K' hK' => ?_)
     refine wpSt 78 (.tmp 10) (.tmp 32) rfl (wa20.heap.size) 0 #[.int .u32 q1.x.a.1, .int .u32 q1.x.a.2, .int .u32 q1.x.b.1, .int .u32 q1.x.b.2, .int .u16 q1.x.c.1, .int .u16 q1.x.c.2, .int .u16 q1.x.d.1, .int .u16 q1.x.d.2, .int .u8 q1.x.m.1, .int .u8 q1.x.m.2, .pointer q1.k, .slice q1.ad q1.n q1.cap] #[.int .u32 q1.x.a.1, .int .u32 q1.x.a.2, .int .u32 q1.x.b.1, .int .u32 q1.x.b.2, .int .u16 q1.x.c.1, .int .u16 q1.x.c.2, .int .u16 q1.x.d.1, .int .u16 q1.x.d.2, .int .u8 q1.x.m.1, .int .u8 q1.x.m.2, .pointer q1.k, .slice q1.ad q1.n q1.cap] rfl rfl 78 _ hk26A (fun wb27 hp27 ho27 => hK' _ _ ?_)
     have ht27 : Below w2.heap.size w2 wb27 := hs26.trans (ho27.below (by omega))
     have hd27N1 := hc26N1.put ho27 hk26A
     have hd27N2 := hM26.put ho27 hk26A
     have hq27B : wb27.heap[wa1.heap.size]? = _ := (ho27.block _ (by omega)).trans hk26B
     refine ⟨ht27, ?_⟩
     refine wpO 17 (fun K' hK' => ?_)
     refine wpSt 78 (.tmp 11) (.tmp 39) rfl (wa1.heap.size) 0 #[.int .u32 q2.x.a.1, .int .u32 q2.x.a.2, .int .u32 q2.x.b.1, .int .u32 q2.x.b.2, .int .u16 q2.x.c.1, .int .u16 q2.x.c.2, .int .u16 q2.x.d.1, .int .u16 q2.x.d.2, .int .u8 q2.x.m.1, .int .u8 q2.x.m.2, .pointer q2.k, .slice q2.ad q2.n q2.cap] #[.int .u32 q2.x.a.1, .int .u32 q2.x.a.2, .int .u32 q2.x.b.1, .int .u32 q2.x.b.2, .int .u16 q2.x.c.1, .int .u16 q2.x.c.2, .int .u16 q2.x.d.1, .int .u16 q2.x.d.2, .int .u8 q2.x.m.1, .int .u8 q2.x.m.2, .pointer q2.k, .slice q2.ad q2.n q2.cap] rfl rfl 78 _ hq27B (fun wb28 hp28 ho28 => hK' _ _ ?_)
     have ht28 : Below w2.heap.size w2 wb28 := ht27.trans (ho28.below (by omega))
     have hd28N1 := hd27N1.put ho28 hq27B
     have hd28N2 := hd27N2.put ho28 hq27B
     have hq28A : wb28.heap[wa20.heap.size]? = _ := (ho28.block _ (by omega)).trans hp27
     refine ⟨ht28, ?_⟩
     refine wpAnyH_done (by kernel_rfl) ?_ _
     try simp only [nrm]
     clear zhzd zhz1 zhz20 zhz25 zhz26
     have HS9 : Hid _ := ht28
     have HA9 : Hid _ := hq28A
     have HB9 : Hid _ := hp28
     have HN1 : Hid _ := hd28N1
     have HN2 : Hid _ := hd28N2
     go_wp2_with (fail)
     go_meet
     case rel => exact ⟨_, _, q1, q2, rfl, rfl, HA9.out, HB9.out, HN1.out, HN2.out, HS9.out⟩
  ·refine wpOp_of_wp rfl rfl (fun K' hK' => ?_)
   go_wp2_with (fail)
   have hb29 : Below wd.heap.size wd (wd.alloc (.cells #[.int .u32 0, .int .u32 0, .int .u32 0, .int .u32 0, .int .u16 0, .int .u16 0, .int .u16 0, .int .u16 0, .int .u8 0, .int .u8 0, .pointer none, .slice none 0 0] 78)) := (Below.refl _ _).alloc (Nat.le_refl _) _
   have hn29 := blk_new wd (.cells #[.int .u32 0, .int .u32 0, .int .u32 0, .int .u32 0, .int .u16 0, .int .u16 0, .int .u16 0, .int .u16 0, .int .u8 0, .int .u8 0, .pointer none, .slice none 0 0] 78)
   obtain ⟨wa29, hw29⟩ : ∃ x, x = wd.alloc (.cells #[.int .u32 0, .int .u32 0, .int .u32 0, .int .u32 0, .int .u16 0, .int .u16 0, .int .u16 0, .int .u16 0, .int .u8 0, .int .u8 0, .pointer none, .slice none 0 0] 78) := ⟨_, rfl⟩
   have hz29 : Hid (wa29.heap.size = wd.heap.size + 1) := by show _ = _; rw [hw29]; simp
   rw [← hw29] at hb29 hn29 ⊢
   clear hw29
   have hs29 : Below w2.heap.size w2 wa29 := hS0.trans (hb29.mono hS0.size)
   refine ⟨hs29, ?_⟩
   refine wpAnyH_all (rs := [6, 15]) (by kernel_rfl) (by simp) ?_
   intro i hi
   simp only [mmL] at hi
   rcases hi with rfl | rfl
   ·refine wpOp_of_wp rfl rfl (fun K' hK' => ?_)
    go_wp2_with (go_at_call 61; refine (HIh.out ⟨Y1, ad1, n1, c1⟩ L1 _ (by omega) (HT2.out.on hs29) (HR1.out.keep hs29) (Nat.le_trans HO1.out.len Hl64.out) HO1.out Hl64.out).mono ?_; rintro e wa30 ⟨q1, rfl, hN30, hb30⟩)
    have hM30 := hN30.base (show w2.heap.size ≤ _ from hs29.size)
    have hz30 : Hid (wa29.heap.size ≤ wa30.heap.size) := hb30.size
    have hs30 : Below w2.heap.size w2 wa30 := hs29.trans (hb30.mono hs29.size)
    have hk30A := blk_on hn29 hb30
    refine ⟨hs30, ?_⟩
    refine wpAnyH_all (rs := [13, 15]) (by kernel_rfl) (by simp) ?_
    intro i hi
    simp only [mmL] at hi
    rcases hi with rfl | rfl
    ·refine wpOp_of_wp rfl rfl (fun K' hK' => ?_)
     go_wp2_with (go_at_call 61; refine (HIh.out ⟨Y2, ad2, n2, c2⟩ L2 _ (by omega) (HT2.out.on hs30) (HR2.out.keep hs30) (Nat.le_trans HO2.out.len Hl64.out) HO2.out Hl64.out).mono ?_; rintro e wa31 ⟨q2, rfl, hN31, hb31⟩)
     have hM31 := hN31.base (show w2.heap.size ≤ _ from hs30.size)
     have hz31 : Hid (wa30.heap.size ≤ wa31.heap.size) := hb31.size
     have hs31 : Below w2.heap.size w2 wa31 := hs30.trans (hb31.mono hs30.size)
     have hk31A := blk_on hk30A hb31
     have hc31N1 := hM30.on hb31
     refine ⟨hs31, ?_⟩
     refine wpO 15 (fun K' hK' => ?_)
     go_wp2_with (fail)
     have hb32 : Below wa31.heap.size wa31 (wa31.alloc (.cells #[.int .u32 0, .int .u32 0, .int .u32 0, .int .u32 0, .int .u16 0, .int .u16 0, .int .u16 0, .int .u16 0, .int .u8 0, .int .u8 0, .pointer none, .slice none 0 0] 78)) := (Below.refl _ _).alloc (Nat.le_refl _) _
     have hn32 := blk_new wa31 (.cells #[.int .u32 0, .int .u32 0, .int .u32 0, .int .u32 0, .int .u16 0, .int .u16 0, .int .u16 0, .int .u16 0, .int .u8 0, .int .u8 0, .pointer none, .slice none 0 0] 78)
     obtain ⟨wa32, hw32⟩ : ∃ x, x = wa31.alloc (.cells #[.int .u32 0, .int .u32 0, .int .u32 0, .int .u32 0, .int .u16 0, .int .u16 0, .int .u16 0, .int .u16 0, .int .u8 0, .int .u8 0, .pointer none, .slice none 0 0] 78) := ⟨_, rfl⟩
     have hz32 : Hid (wa32.heap.size = wa31.heap.size + 1) := by show _ = _; rw [hw32]; simp
     rw [← hw32] at hb32 hn32 ⊢
     clear hw32
     have hs32 : Below w2.heap.size w2 wa32 := hs31.trans (hb32.mono hs31.size)
     have hk32A := blk_on hk31A hb32
     have hc32N1 := hc31N1.on hb32
     have hc32N2 := hM31.on hb32
     refine ⟨hs32, ?_⟩
     have zhzd := hzd.out
     have zhz29 := hz29.out
     have zhz30 := hz30.out
     have zhz31 := hz31.out
     have zhz32 := hz32.out
     refine wpO 16 (fun K' hK' => ?_)
     refine wpSt 78 (.tmp 10) (.tmp 32) rfl (wd.heap.size) 0 #[.int .u32 q1.x.a.1, .int .u32 q1.x.a.2, .int .u32 q1.x.b.1, .int .u32 q1.x.b.2, .int .u16 q1.x.c.1, .int .u16 q1.x.c.2, .int .u16 q1.x.d.1, .int .u16 q1.x.d.2, .int .u8 q1.x.m.1, .int .u8 q1.x.m.2, .pointer q1.k, .slice q1.ad q1.n q1.cap] #[.int .u32 q1.x.a.1, .int .u32 q1.x.a.2, .int .u32 q1.x.b.1, .int .u32 q1.x.b.2, .int .u16 q1.x.c.1, .int .u16 q1.x.c.2, .int .u16 q1.x.d.1, .int .u16 q1.x.d.2, .int .u8 q1.x.m.1, .int .u8 q1.x.m.2, .pointer q1.k, .slice q1.ad q1.n q1.cap] rfl rfl 78 _ hk32A (fun wb33 hp33 ho33 => hK' _ _ ?_)
     have ht33 : Below w2.heap.size w2 wb33 := hs32.trans (ho33.below (by omega))
     have hd33N1 := hc32N1.put ho33 hk32A
     have hd33N2 := hc32N2.put ho33 hk32A
     have hq33B : wb33.heap[wa31.heap.size]? = _ := (ho33.block _ (by omega)).trans hn32
     refine ⟨ht33, ?_⟩
     refine wpO 17 (fun K' hK' => ?_)
     refine wpSt 78 (.tmp 11) (.tmp 39) rfl (wa31.heap.size) 0 #[.int .u32 q2.x.a.1, .int .u32 q2.x.a.2, .int .u32 q2.x.b.1, .int .u32 q2.x.b.2, .int .u16 q2.x.c.1, .int .u16 q2.x.c.2, .int .u16 q2.x.d.1, .int .u16 q2.x.d.2, .int .u8 q2.x.m.1, .int .u8 q2.x.m.2, .pointer q2.k, .slice q2.ad q2.n q2.cap] #[.int .u32 q2.x.a.1, .int .u32 q2.x.a.2, .int .u32 q2.x.b.1, .int .u32 q2.x.b.2, .int .u16 q2.x.c.1, .int .u16 q2.x.c.2, .int .u16 q2.x.d.1, .int .u16 q2.x.d.2, .int .u8 q2.x.m.1, .int .u8 q2.x.m.2, .pointer q2.k, .slice q2.ad q2.n q2.cap] rfl rfl 78 _ hq33B (fun wb34 hp34 ho34 => hK' _ _ ?_)
     have ht34 : Below w2.heap.size w2 wb34 := ht33.trans (ho34.below (by omega))
     have hd34N1 := hd33N1.put ho34 hq33B
     have hd34N2 := hd33N2.put ho34 hq33B
     have hq34A : wb34.heap[wd.heap.size]? = _ := (ho34.block _ (by omega)).trans hp33
     refine ⟨ht34, ?_⟩
     refine wpAnyH_done (by kernel_rfl) ?_ _
     try simp only [nrm]
     clear zhzd zhz29 zhz30 zhz31 zhz32
     have HS9 : Hid _ := ht34
     have HA9 : Hid _ := hq34A
     have HB9 : Hid _ := hp34
     have HN1 : Hid _ := hd34N1
     have HN2 : Hid _ := hd34N2
     go_wp2_with (fail)
     go_meet
     case rel => exact ⟨_, _, q1, q2, rfl, rfl, HA9.out, HB9.out, HN1.out, HN2.out, HS9.out⟩
    ·refine wpOp_of_wp rfl rfl (fun K' hK' => ?_)
     go_wp2_with (fail)
     have hb35 : Below wa30.heap.size wa30 (wa30.alloc (.cells #[.int .u32 0, .int .u32 0, .int .u32 0, .int .u32 0, .int .u16 0, .int .u16 0, .int .u16 0, .int .u16 0, .int .u8 0, .int .u8 0, .pointer none, .slice none 0 0] 78)) := (Below.refl _ _).alloc (Nat.le_refl _) _
     have hn35 := blk_new wa30 (.cells #[.int .u32 0, .int .u32 0, .int .u32 0, .int .u32 0, .int .u16 0, .int .u16 0, .int .u16 0, .int .u16 0, .int .u8 0, .int .u8 0, .pointer none, .slice none 0 0] 78)
     obtain ⟨wa35, hw35⟩ : ∃ x, x = wa30.alloc (.cells #[.int .u32 0, .int .u32 0, .int .u32 0, .int .u32 0, .int .u16 0, .int .u16 0, .int .u16 0, .int .u16 0, .int .u8 0, .int .u8 0, .pointer none, .slice none 0 0] 78) := ⟨_, rfl⟩
     have hz35 : Hid (wa35.heap.size = wa30.heap.size + 1) := by show _ = _; rw [hw35]; simp
     rw [← hw35] at hb35 hn35 ⊢
     clear hw35
     have hs35 : Below w2.heap.size w2 wa35 := hs30.trans (hb35.mono hs30.size)
     have hk35A := blk_on hk30A hb35
     have hc35N1 := hM30.on hb35
     refine ⟨hs35, ?_⟩
     refine wpO 13 (fun K' hK' => ?_)
     go_wp2_with (go_at_call 61; refine (HIh.out ⟨Y2, ad2, n2, c2⟩ L2 _ (by omega) (HT2.out.on hs35) (HR2.out.keep hs35) (Nat.le_trans HO2.out.len Hl64.out) HO2.out Hl64.out).mono ?_; rintro e wa36 ⟨q2, rfl, hN36, hb36⟩)
     have hM36 := hN36.base (show w2.heap.size ≤ _ from hs35.size)
     have hz36 : Hid (wa35.heap.size ≤ wa36.heap.size) := hb36.size
     have hs36 : Below w2.heap.size w2 wa36 := hs35.trans (hb36.mono hs35.size)
     have hk36A := blk_on hk35A hb36
     have hk36B := blk_on hn35 hb36
     have hc36N1 := hc35N1.on hb36
     refine ⟨hs36, ?_⟩
     have zhzd := hzd.out
     have zhz29 := hz29.out
     have zhz30 := hz30.out
     have zhz35 := hz35.out
     have zhz36 := hz36.out
     refine wpO 16 (fun K' hK' => ?_)
     refine wpSt 78 (.tmp 10) (.tmp 32) rfl (wd.heap.size) 0 #[.int .u32 q1.x.a.1, .int .u32 q1.x.a.2, .int .u32 q1.x.b.1, .int .u32 q1.x.b.2, .int .u16 q1.x.c.1, .int .u16 q1.x.c.2, .int .u16 q1.x.d.1, .int .u16 q1.x.d.2, .int .u8 q1.x.m.1, .int .u8 q1.x.m.2, .pointer q1.k, .slice q1.ad q1.n q1.cap] #[.int .u32 q1.x.a.1, .int .u32 q1.x.a.2, .int .u32 q1.x.b.1, .int .u32 q1.x.b.2, .int .u16 q1.x.c.1, .int .u16 q1.x.c.2, .int .u16 q1.x.d.1, .int .u16 q1.x.d.2, .int .u8 q1.x.m.1, .int .u8 q1.x.m.2, .pointer q1.k, .slice q1.ad q1.n q1.cap] rfl rfl 78 _ hk36A (fun wb37 hp37 ho37 => hK' _ _ ?_)
     have ht37 : Below w2.heap.size w2 wb37 := hs36.trans (ho37.below (by omega))
     have hd37N1 := hc36N1.put ho37 hk36A
     have hd37N2 := hM36.put ho37 hk36A
     have hq37B : wb37.heap[wa30.heap.size]? = _ := (ho37.block _ (by omega)).trans hk36B
     refine ⟨ht37, ?_⟩
     refine wpO 17 (fun K' hK' => ?_)
     refine wpSt 78 (.tmp 11) (.tmp 39) rfl (wa30.heap.size) 0 #[.int .u32 q2.x.a.1, .int .u32 q2.x.a.2, .int .u32 q2.x.b.1, .int .u32 q2.x.b.2, .int .u16 q2.x.c.1, .int .u16 q2.x.c.2, .int .u16 q2.x.d.1, .int .u16 q2.x.d.2, .int .u8 q2.x.m.1, .int .u8 q2.x.m.2, .pointer q2.k, .slice q2.ad q2.n q2.cap] #[.int .u32 q2.x.a.1, .int .u32 q2.x.a.2, .int .u32 q2.x.b.1, .int .u32 q2.x.b.2, .int .u16 q2.x.c.1, .int .u16 q2.x.c.2, .int .u16 q2.x.d.1, .int .u16 q2.x.d.2, .int .u8 q2.x.m.1, .int .u8 q2.x.m.2, .pointer q2.k, .slice q2.ad q2.n q2.cap] rfl rfl 78 _ hq37B (fun wb38 hp38 ho38 => hK' _ _ ?_)
     have ht38 : Below w2.heap.size w2 wb38 := ht37.trans (ho38.below (by omega))
     have hd38N1 := hd37N1.put ho38 hq37B
     have hd38N2 := hd37N2.put ho38 hq37B
     have hq38A : wb38.heap[wd.heap.size]? = _ := (ho38.block _ (by omega)).trans hp37
     refine ⟨ht38, ?_⟩
     refine wpAnyH_done (by kernel_rfl) ?_ _
     try simp only [nrm]
     clear zhzd zhz29 zhz30 zhz35 zhz36
     have HS9 : Hid _ := ht38
     have HA9 : Hid _ := hq38A
     have HB9 : Hid _ := hp38
     have HN1 : Hid _ := hd38N1
     have HN2 : Hid _ := hd38N2
     go_wp2_with (fail)
     go_meet
     case rel => exact ⟨_, _, q1, q2, rfl, rfl, HA9.out, HB9.out, HN1.out, HN2.out, HS9.out⟩
   ·refine wpOp_of_wp rfl rfl (fun K' hK' => ?_)
    go_wp2_with (fail)
    have hb39 : Below wa29.heap.size wa29 (wa29.alloc (.cells #[.int .u32 0, .int .u32 0, .int .u32 0, .int .u32 0, .int .u16 0, .int .u16 0, .int .u16 0, .int .u16 0, .int .u8 0, .int .u8 0, .pointer none, .slice none 0 0] 78)) := (Below.refl _ _).alloc (Nat.le_refl _) _
    have hn39 := blk_new wa29 (.cells #[.int .u32 0, .int .u32 0, .int .u32 0, .int .u32 0, .int .u16 0, .int .u16 0, .int .u16 0, .int .u16 0, .int .u8 0, .int .u8 0, .pointer none, .slice none 0 0] 78)
    obtain ⟨wa39, hw39⟩ : ∃ x, x = wa29.alloc (.cells #[.int .u32 0, .int .u32 0, .int .u32 0, .int .u32 0, .int .u16 0, .int .u16 0, .int .u16 0, .int .u16 0, .int .u8 0, .int .u8 0, .pointer none, .slice none 0 0] 78) := ⟨_, rfl⟩
    have hz39 : Hid (wa39.heap.size = wa29.heap.size + 1) := by show _ = _; rw [hw39]; simp
    rw [← hw39] at hb39 hn39 ⊢
    clear hw39
    have hs39 : Below w2.heap.size w2 wa39 := hs29.trans (hb39.mono hs29.size)
    have hk39A := blk_on hn29 hb39
    refine ⟨hs39, ?_⟩
    refine wpO 6 (fun K' hK' => ?_)
    go_wp2_with (go_at_call 61; refine (HIh.out ⟨Y1, ad1, n1, c1⟩ L1 _ (by omega) (HT2.out.on hs39) (HR1.out.keep hs39) (Nat.le_trans HO1.out.len Hl64.out) HO1.out Hl64.out).mono ?_; rintro e wa40 ⟨q1, rfl, hN40, hb40⟩)
    have hM40 := hN40.base (show w2.heap.size ≤ _ from hs39.size)
    have hz40 : Hid (wa39.heap.size ≤ wa40.heap.size) := hb40.size
    have hs40 : Below w2.heap.size w2 wa40 := hs39.trans (hb40.mono hs39.size)
    have hk40A := blk_on hk39A hb40
    have hk40B := blk_on hn39 hb40
    refine ⟨hs40, ?_⟩
    refine wpO 13 (fun K' hK' => ?_)
    go_wp2_with (go_at_call 61; refine (HIh.out ⟨Y2, ad2, n2, c2⟩ L2 _ (by omega) (HT2.out.on hs40) (HR2.out.keep hs40) (Nat.le_trans HO2.out.len Hl64.out) HO2.out Hl64.out).mono ?_; rintro e wa41 ⟨q2, rfl, hN41, hb41⟩)
    have hM41 := hN41.base (show w2.heap.size ≤ _ from hs40.size)
    have hz41 : Hid (wa40.heap.size ≤ wa41.heap.size) := hb41.size
    have hs41 : Below w2.heap.size w2 wa41 := hs40.trans (hb41.mono hs40.size)
    have hk41A := blk_on hk40A hb41
    have hk41B := blk_on hk40B hb41
    have hc41N1 := hM40.on hb41
    refine ⟨hs41, ?_⟩
    have zhzd := hzd.out
    have zhz29 := hz29.out
    have zhz39 := hz39.out
    have zhz40 := hz40.out
    have zhz41 := hz41.out
    refine wpO 16 (fun K' hK' => ?_)
    refine wpSt 78 (.tmp 10) (.tmp 32) rfl (wd.heap.size) 0 #[.int .u32 q1.x.a.1, .int .u32 q1.x.a.2, .int .u32 q1.x.b.1, .int .u32 q1.x.b.2, .int .u16 q1.x.c.1, .int .u16 q1.x.c.2, .int .u16 q1.x.d.1, .int .u16 q1.x.d.2, .int .u8 q1.x.m.1, .int .u8 q1.x.m.2, .pointer q1.k, .slice q1.ad q1.n q1.cap] #[.int .u32 q1.x.a.1, .int .u32 q1.x.a.2, .int .u32 q1.x.b.1, .int .u32 q1.x.b.2, .int .u16 q1.x.c.1, .int .u16 q1.x.c.2, .int .u16 q1.x.d.1, .int .u16 q1.x.d.2, .int .u8 q1.x.m.1, .int .u8 q1.x.m.2, .pointer q1.k, .slice q1.ad q1.n q1.cap] rfl rfl 78 _ hk41A (fun wb42 hp42 ho42 => hK' _ _ ?_)
    have ht42 : Below w2.heap.size w2 wb42 := hs41.trans (ho42.below (by omega))
    have hd42N1 := hc41N1.put ho42 hk41A
    have hd42N2 := hM41.put ho42 hk41A
    have hq42B : wb42.heap[wa29.heap.size]? = _ := (ho42.block _ (by omega)).trans hk41B
    refine ⟨ht42, ?_⟩
    refine wpO 17 (fun K' hK' => ?_)
    refine wpSt 78 (.tmp 11) (.tmp 39) rfl (wa29.heap.size) 0 #[.int .u32 q2.x.a.1, .int .u32 q2.x.a.2, .int .u32 q2.x.b.1, .int .u32 q2.x.b.2, .int .u16 q2.x.c.1, .int .u16 q2.x.c.2, .int .u16 q2.x.d.1, .int .u16 q2.x.d.2, .int .u8 q2.x.m.1, .int .u8 q2.x.m.2, .pointer q2.k, .slice q2.ad q2.n q2.cap] #[.int .u32 q2.x.a.1, .int .u32 q2.x.a.2, .int .u32 q2.x.b.1, .int .u32 q2.x.b.2, .int .u16 q2.x.c.1, .int .u16 q2.x.c.2, .int .u16 q2.x.d.1, .int .u16 q2.x.d.2, .int .u8 q2.x.m.1, .int .u8 q2.x.m.2, .pointer q2.k, .slice q2.ad q2.n q2.cap] rfl rfl 78 _ hq42B (fun wb43 hp43 ho43 => hK' _ _ ?_)
    have ht43 : Below w2.heap.size w2 wb43 := ht42.trans (ho43.below (by omega))
    have hd43N1 := hd42N1.put ho43 hq42B
    have hd43N2 := hd42N2.put ho43 hq42B
    have hq43A : wb43.heap[wd.heap.size]? = _ := (ho43.block _ (by omega)).trans hp42
    refine ⟨ht43, ?_⟩
    refine wpAnyH_done (by kernel_rfl) ?_ _
    try simp only [nrm]
    clear zhzd zhz29 zhz39 zhz40 zhz41
    have HS9 : Hid _ := ht43
    have HA9 : Hid _ := hq43A
    have HB9 : Hid _ := hp43
    have HN1 : Hid _ := hd43N1
    have HN2 : Hid _ := hd43N2
    go_wp2_with (fail)
    go_meet
    case rel => exact ⟨_, _, q1, q2, rfl, rfl, HA9.out, HB9.out, HN1.out, HN2.out, HS9.out⟩
  ·refine wpOp_of_wp rfl rfl (fun K' hK' => ?_)
   go_wp2_with (fail)
   have hb44 : Below wd.heap.size wd (wd.alloc (.cells #[.int .u32 0, .int .u32 0, .int .u32 0, .int .u32 0, .int .u16 0, .int .u16 0, .int .u16 0, .int .u16 0, .int .u8 0, .int .u8 0, .pointer none, .slice none 0 0] 78)) := (Below.refl _ _).alloc (Nat.le_refl _) _
   have hn44 := blk_new wd (.cells #[.int .u32 0, .int .u32 0, .int .u32 0, .int .u32 0, .int .u16 0, .int .u16 0, .int .u16 0, .int .u16 0, .int .u8 0, .int .u8 0, .pointer none, .slice none 0 0] 78)
   obtain ⟨wa44, hw44⟩ : ∃ x, x = wd.alloc (.cells #[.int .u32 0, .int .u32 0, .int .u32 0, .int .u32 0, .int .u16 0, .int .u16 0, .int .u16 0, .int .u16 0, .int .u8 0, .int .u8 0, .pointer none, .slice none 0 0] 78) := ⟨_, rfl⟩
   have hz44 : Hid (wa44.heap.size = wd.heap.size + 1) := by show _ = _; rw [hw44]; simp
   rw [← hw44] at hb44 hn44 ⊢
   clear hw44
   have hs44 : Below w2.heap.size w2 wa44 := hS0.trans (hb44.mono hS0.size)
   refine ⟨hs44, ?_⟩
   refine wpAnyH_all (rs := [6, 14]) (by kernel_rfl) (by simp) ?_
   intro i hi
   simp only [mmL] at hi
   rcases hi with rfl | rfl
   ·refine wpOp_of_wp rfl rfl (fun K' hK' => ?_)
    go_wp2_with (go_at_call 61; refine (HIh.out ⟨Y1, ad1, n1, c1⟩ L1 _ (by omega) (HT2.out.on hs44) (HR1.out.keep hs44) (Nat.le_trans HO1.out.len Hl64.out) HO1.out Hl64.out).mono ?_; rintro e wa45 ⟨q1, rfl, hN45, hb45⟩)
    have hM45 := hN45.base (show w2.heap.size ≤ _ from hs44.size)
    have hz45 : Hid (wa44.heap.size ≤ wa45.heap.size) := hb45.size
    have hs45 : Below w2.heap.size w2 wa45 := hs44.trans (hb45.mono hs44.size)
    have hk45B := blk_on hn44 hb45
    refine ⟨hs45, ?_⟩
    refine wpAnyH_all (rs := [13, 14]) (by kernel_rfl) (by simp) ?_
    intro i hi
    simp only [mmL] at hi
    rcases hi with rfl | rfl
    ·refine wpOp_of_wp rfl rfl (fun K' hK' => ?_)
     go_wp2_with (go_at_call 61; refine (HIh.out ⟨Y2, ad2, n2, c2⟩ L2 _ (by omega) (HT2.out.on hs45) (HR2.out.keep hs45) (Nat.le_trans HO2.out.len Hl64.out) HO2.out Hl64.out).mono ?_; rintro e wa46 ⟨q2, rfl, hN46, hb46⟩)
     have hM46 := hN46.base (show w2.heap.size ≤ _ from hs45.size)
     have hz46 : Hid (wa45.heap.size ≤ wa46.heap.size) := hb46.size
     have hs46 : Below w2.heap.size w2 wa46 := hs45.trans (hb46.mono hs45.size)
     have hk46B := blk_on hk45B hb46
     have hc46N1 := hM45.on hb46
     refine ⟨hs46, ?_⟩
     refine wpO 14 (fun K' hK' => ?_)
     go_wp2_with (fail)
     have hb47 : Below wa46.heap.size wa46 (wa46.alloc (.cells #[.int .u32 0, .int .u32 0, .int .u32 0, .int .u32 0, .int .u16 0, .int .u16 0, .int .u16 0, .int .u16 0, .int .u8 0, .int .u8 0, .pointer none, .slice none 0 0] 78)) := (Below.refl _ _).alloc (Nat.le_refl _) _
     have hn47 := blk_new wa46 (.cells #[.int .u32 0, .int .u32 0, .int .u32 0, .int .u32 0, .int .u16 0, .int .u16 0, .int .u16 0, .int .u16 0, .int .u8 0, .int .u8 0, .pointer none, .slice none 0 0] 78)
     obtain ⟨wa47, hw47⟩ : ∃ x, x = wa46.alloc (.cells #[.int .u32 0, .int .u32 0, .int .u32 0, .int .u32 0, .int .u16 0, .int .u16 0, .int .u16 0, .int .u16 0, .int .u8 0, .int .u8 0, .pointer none, .slice none 0 0] 78) := ⟨_, rfl⟩
     have hz47 : Hid (wa47.heap.size = wa46.heap.size + 1) := by show _ = _; rw [hw47]; simp
     rw [← hw47] at hb47 hn47 ⊢
     clear hw47
     have hs47 : Below w2.heap.size w2 wa47 := hs46.trans (hb47.mono hs46.size)
     have hk47B := blk_on hk46B hb47
     have hc47N1 := hc46N1.on hb47
     have hc47N2 := hM46.on hb47
     refine ⟨hs47, ?_⟩
     have zhzd := hzd.out
     have zhz44 := hz44.out
     have zhz45 := hz45.out
     have zhz46 := hz46.out
     have zhz47 := hz47.out
     refine wpO 16 (fun K' hK' => ?_)
     refine wpSt 78 (.tmp 10) (.tmp 32) rfl (wa46.heap.size) 0 #[.int .u32 q1.x.a.1, .int .u32 q1.x.a.2, .int .u32 q1.x.b.1, .int .u32 q1.x.b.2, .int .u16 q1.x.c.1, .int .u16 q1.x.c.2, .int .u16 q1.x.d.1, .int .u16 q1.x.d.2, .int .u8 q1.x.m.1, .int .u8 q1.x.m.2, .pointer q1.k, .slice q1.ad q1.n q1.cap] #[.int .u32 q1.x.a.1, .int .u32 q1.x.a.2, .int .u32 q1.x.b.1, .int .u32 q1.x.b.2, .int .u16 q1.x.c.1, .int .u16 q1.x.c.2, .int .u16 q1.x.d.1, .int .u16 q1.x.d.2, .int .u8 q1.x.m.1, .int .u8 q1.x.m.2, .pointer q1.k, .slice q1.ad q1.n q1.cap] rfl rfl 78 _ hn47 (fun wb48 hp48 ho48 => hK' _ _ ?_)
     have ht48 : Below w2.heap.size w2 wb48 := hs47.trans (ho48.below (by omega))
     have hd48N1 := hc47N1.put ho48 hn47
     have hd48N2 := hc47N2.put ho48 hn47
     have hq48B : wb48.heap[wd.heap.size]? = _ := (ho48.block _ (by omega)).trans hk47B
     refine ⟨ht48, ?_⟩
     refine wpO 17 (fun K' hK' => ?_)
     refine wpSt 78 (.tmp 11) (.tmp 39) rfl (wd.heap.size) 0 #[.int .u32 q2.x.a.1, .int .u32 q2.x.a.2, .int .u32 q2.x.b.1, .int .u32 q2.x.b.2, .int .u16 q2.x.c.1, .int .u16 q2.x.c.2, .int .u16 q2.x.d.1, .int .u16 q2.x.d.2, .int .u8 q2.x.m.1, .int .u8 q2.x.m.2, .pointer q2.k, .slice q2.ad q2.n q2.cap] #[.int .u32 q2.x.a.1, .int .u32 q2.x.a.2, .int .u32 q2.x.b.1, .int .u32 q2.x.b.2, .int .u16 q2.x.c.1, .int .u16 q2.x.c.2, .int .u16 q2.x.d.1, .int .u16 q2.x.d.2, .int .u8 q2.x.m.1, .int .u8 q2.x.m.2, .pointer q2.k, .slice q2.ad q2.n q2.cap] rfl rfl 78 _ hq48B (fun wb49 hp49 ho49 => hK' _ _ ?_)
     have ht49 : Below w2.heap.size w2 wb49 := ht48.trans (ho49.below (by omega))
     have hd49N1 := hd48N1.put ho49 hq48B
     have hd49N2 := hd48N2.put ho49 hq48B
     have hq49A : wb49.heap[wa46.heap.size]? = _ := (ho49.block _ (by omega)).trans hp48
     refine ⟨ht49, ?_⟩
     refine wpAnyH_done (by kernel_rfl) ?_ _
     try simp only [nrm]
     clear zhzd zhz44 zhz45 zhz46 zhz47
     have HS9 : Hid _ := ht49
     have HA9 : Hid _ := hq49A
     have HB9 : Hid _ := hp49
     have HN1 : Hid _ := hd49N1
     have HN2 : Hid _ := hd49N2
     go_wp2_with (fail)
     go_meet
     case rel => exact ⟨_, _, q1, q2, rfl, rfl, HA9.out, HB9.out, HN1.out, HN2.out, HS9.out⟩
    ·refine wpOp_of_wp rfl rfl (fun K' hK' => ?_)
     go_wp2_with (fail)
     have hb50 : Below wa45.heap.size wa45 (wa45.alloc (.cells #[.int .u32 0, .int .u32 0, .int .u32 0, .int .u32 0, .int .u16 0, .int .u16 0, .int .u16 0, .int .u16 0, .int .u8 0, .int .u8 0, .pointer none, .slice none 0 0] 78)) := (Below.refl _ _).alloc (Nat.le_refl _) _
     have hn50 := blk_new wa45 (.cells #[.int .u32 0, .int .u32 0, .int .u32 0, .int .u32 0, .int .u16 0, .int .u16 0, .int .u16 0, .int .u16 0, .int .u8 0, .int .u8 0, .pointer none, .slice none 0 0] 78)
     obtain ⟨wa50, hw50⟩ : ∃ x, x = wa45.alloc (.cells #[.int .u32 0, .int .u32 0, .int .u32 0, .int .u32 0, .int .u16 0, .int .u16 0, .int .u16 0, .int .u16 0, .int .u8 0, .int .u8 0, .pointer none, .slice none 0 0] 78) := ⟨_, rfl⟩
     have hz50 : Hid (wa50.heap.size = wa45.heap.size + 1) := by show _ = _; rw [hw50]; simp
     rw [← hw50] at hb50 hn50 ⊢
     clear hw50
     have hs50 : Below w2.heap.size w2 wa50 := hs45.trans (hb50.mono hs45.size)
     have hk50B := blk_on hk45B hb50
     have hc50N1 := hM45.on hb50
     refine ⟨hs50, ?_⟩
     refine wpO 13 (fun K' hK' => ?_)
     go_wp2_with (go_at_call 61; refine (HIh.out ⟨Y2, ad2, n2, c2⟩ L2 _ (by omega) (HT2.out.on hs50) (HR2.out.keep hs50) (Nat.le_trans HO2.out.len Hl64.out) HO2.out Hl64.out).mono ?_; rintro e wa51 ⟨q2, rfl, hN51, hb51⟩)
     have hM51 := hN51.base (show w2.heap.size ≤ _ from hs50.size)
     have hz51 : Hid (wa50.heap.size ≤ wa51.heap.size) := hb51.size
     have hs51 : Below w2.heap.size w2 wa51 := hs50.trans (hb51.mono hs50.size)
     have hk51B := blk_on hk50B hb51
     have hk51A := blk_on hn50 hb51
     have hc51N1 := hc50N1.on hb51
     refine ⟨hs51, ?_⟩
     have zhzd := hzd.out
     have zhz44 := hz44.out
     have zhz45 := hz45.out
     have zhz50 := hz50.out
     have zhz51 := hz51.out
     refine wpO 16 (fun K' hK' => ?_)
     refine wpSt 78 (.tmp 10) (.tmp 32) rfl (wa45.heap.size) 0 #[.int .u32 q1.x.a.1, .int .u32 q1.x.a.2, .int .u32 q1.x.b.1, .int .u32 q1.x.b.2, .int .u16 q1.x.c.1, .int .u16 q1.x.c.2, .int .u16 q1.x.d.1, .int .u16 q1.x.d.2, .int .u8 q1.x.m.1, .int .u8 q1.x.m.2, .pointer q1.k, .slice q1.ad q1.n q1.cap] #[.int .u32 q1.x.a.1, .int .u32 q1.x.a.2, .int .u32 q1.x.b.1, .int .u32 q1.x.b.2, .int .u16 q1.x.c.1, .int .u16 q1.x.c.2, .int .u16 q1.x.d.1, .int .u16 q1.x.d.2, .int .u8 q1.x.m.1, .int .u8 q1.x.m.2, .pointer q1.k, .slice q1.ad q1.n q1.cap] rfl rfl 78 _ hk51A (fun wb52 hp52 ho52 => hK' _ _ ?_)
     have ht52 : Below w2.heap.size w2 wb52 := hs51.trans (ho52.below (by omega))
     have hd52N1 := hc51N1.put ho52 hk51A
     have hd52N2 := hM51.put ho52 hk51A
     have hq52B : wb52.heap[wd.heap.size]? = _ := (ho52.block _ (by omega)).trans hk51B
     refine ⟨ht52, ?_⟩
     refine wpO 17 (fun K' hK' => ?_)
     refine wpSt 78 (.tmp 11) (.tmp 39) rfl (wd.heap.size) 0 #[.int .u32 q2.x.a.1, .int .u32 q2.x.a.2, .int .u32 q2.x.b.1, .int .u32 q2.x.b.2, .int .u16 q2.x.c.1, .int .u16 q2.x.c.2, .int .u16 q2.x.d.1, .int .u16 q2.x.d.2, .int .u8 q2.x.m.1, .int .u8 q2.x.m.2, .pointer q2.k, .slice q2.ad q2.n q2.cap] #[.int .u32 q2.x.a.1, .int .u32 q2.x.a.2, .int .u32 q2.x.b.1, .int .u32 q2.x.b.2, .int .u16 q2.x.c.1, .int .u16 q2.x.c.2, .int .u16 q2.x.d.1, .int .u16 q2.x.d.2, .int .u8 q2.x.m.1, .int .u8 q2.x.m.2, .pointer q2.k, .slice q2.ad q2.n q2.cap] rfl rfl 78 _ hq52B (fun wb53 hp53 ho53 => hK' _ _ ?_)
     have ht53 : Below w2.heap.size w2 wb53 := ht52.trans (ho53.below (by omega))
     have hd53N1 := hd52N1.put ho53 hq52B
     have hd53N2 := hd52N2.put ho53 hq52B
     have hq53A : wb53.heap[wa45.heap.size]? = _ := (ho53.block _ (by omega)).trans hp52
     refine ⟨ht53, ?_⟩
     refine wpAnyH_done (by kernel_rfl) ?_ _
     try simp only [nrm]
     clear zhzd zhz44 zhz45 zhz50 zhz51
     have HS9 : Hid _ := ht53
     have HA9 : Hid _ := hq53A
     have HB9 : Hid _ := hp53
     have HN1 : Hid _ := hd53N1
     have HN2 : Hid _ := hd53N2
     go_wp2_with (fail)
     go_meet
     case rel => exact ⟨_, _, q1, q2, rfl, rfl, HA9.out, HB9.out, HN1.out, HN2.out, HS9.out⟩
   ·refine wpOp_of_wp rfl rfl (fun K' hK' => ?_)
    go_wp2_with (fail)
    have hb54 : Below wa44.heap.size wa44 (wa44.alloc (.cells #[.int .u32 0, .int .u32 0, .int .u32 0, .int .u32 0, .int .u16 0, .int .u16 0, .int .u16 0, .int .u16 0, .int .u8 0, .int .u8 0, .pointer none, .slice none 0 0] 78)) := (Below.refl _ _).alloc (Nat.le_refl _) _
    have hn54 := blk_new wa44 (.cells #[.int .u32 0, .int .u32 0, .int .u32 0, .int .u32 0, .int .u16 0, .int .u16 0, .int .u16 0, .int .u16 0, .int .u8 0, .int .u8 0, .pointer none, .slice none 0 0] 78)
    obtain ⟨wa54, hw54⟩ : ∃ x, x = wa44.alloc (.cells #[.int .u32 0, .int .u32 0, .int .u32 0, .int .u32 0, .int .u16 0, .int .u16 0, .int .u16 0, .int .u16 0, .int .u8 0, .int .u8 0, .pointer none, .slice none 0 0] 78) := ⟨_, rfl⟩
    have hz54 : Hid (wa54.heap.size = wa44.heap.size + 1) := by show _ = _; rw [hw54]; simp
    rw [← hw54] at hb54 hn54 ⊢
    clear hw54
    have hs54 : Below w2.heap.size w2 wa54 := hs44.trans (hb54.mono hs44.size)
    have hk54B := blk_on hn44 hb54
    refine ⟨hs54, ?_⟩
    refine wpO 6 (fun K' hK' => ?_)
    go_wp2_with (go_at_call 61; refine (HIh.out ⟨Y1, ad1, n1, c1⟩ L1 _ (by omega) (HT2.out.on hs54) (HR1.out.keep hs54) (Nat.le_trans HO1.out.len Hl64.out) HO1.out Hl64.out).mono ?_; rintro e wa55 ⟨q1, rfl, hN55, hb55⟩)
    have hM55 := hN55.base (show w2.heap.size ≤ _ from hs54.size)
    have hz55 : Hid (wa54.heap.size ≤ wa55.heap.size) := hb55.size
    have hs55 : Below w2.heap.size w2 wa55 := hs54.trans (hb55.mono hs54.size)
    have hk55B := blk_on hk54B hb55
    have hk55A := blk_on hn54 hb55
    refine ⟨hs55, ?_⟩
    refine wpO 13 (fun K' hK' => ?_)
    go_wp2_with (go_at_call 61; refine (HIh.out ⟨Y2, ad2, n2, c2⟩ L2 _ (by omega) (HT2.out.on hs55) (HR2.out.keep hs55) (Nat.le_trans HO2.out.len Hl64.out) HO2.out Hl64.out).mono ?_; rintro e wa56 ⟨q2, rfl, hN56, hb56⟩)
    have hM56 := hN56.base (show w2.heap.size ≤ _ from hs55.size)
    have hz56 : Hid (wa55.heap.size ≤ wa56.heap.size) := hb56.size
    have hs56 : Below w2.heap.size w2 wa56 := hs55.trans (hb56.mono hs55.size)
    have hk56B := blk_on hk55B hb56
    have hk56A := blk_on hk55A hb56
    have hc56N1 := hM55.on hb56
    refine ⟨hs56, ?_⟩
    have zhzd := hzd.out
    have zhz44 := hz44.out
    have zhz54 := hz54.out
    have zhz55 := hz55.out
    have zhz56 := hz56.out
    refine wpO 16 (fun K' hK' => ?_)
    refine wpSt 78 (.tmp 10) (.tmp 32) rfl (wa44.heap.size) 0 #[.int .u32 q1.x.a.1, .int .u32 q1.x.a.2, .int .u32 q1.x.b.1, .int .u32 q1.x.b.2, .int .u16 q1.x.c.1, .int .u16 q1.x.c.2, .int .u16 q1.x.d.1, .int .u16 q1.x.d.2, .int .u8 q1.x.m.1, .int .u8 q1.x.m.2, .pointer q1.k, .slice q1.ad q1.n q1.cap] #[.int .u32 q1.x.a.1, .int .u32 q1.x.a.2, .int .u32 q1.x.b.1, .int .u32 q1.x.b.2, .int .u16 q1.x.c.1, .int .u16 q1.x.c.2, .int .u16 q1.x.d.1, .int .u16 q1.x.d.2, .int .u8 q1.x.m.1, .int .u8 q1.x.m.2, .pointer q1.k, .slice q1.ad q1.n q1.cap] rfl rfl 78 _ hk56A (fun wb57 hp57 ho57 => hK' _ _ ?_)
    have ht57 : Below w2.heap.size w2 wb57 := hs56.trans (ho57.below (by omega))
    have hd57N1 := hc56N1.put ho57 hk56A
    have hd57N2 := hM56.put ho57 hk56A
    have hq57B : wb57.heap[wd.heap.size]? = _ := (ho57.block _ (by omega)).trans hk56B
    refine ⟨ht57, ?_⟩
    refine wpO 17 (fun K' hK' => ?_)
    refine wpSt 78 (.tmp 11) (.tmp 39) rfl (wd.heap.size) 0 #[.int .u32 q2.x.a.1, .int .u32 q2.x.a.2, .int .u32 q2.x.b.1, .int .u32 q2.x.b.2, .int .u16 q2.x.c.1, .int .u16 q2.x.c.2, .int .u16 q2.x.d.1, .int .u16 q2.x.d.2, .int .u8 q2.x.m.1, .int .u8 q2.x.m.2, .pointer q2.k, .slice q2.ad q2.n q2.cap] #[.int .u32 q2.x.a.1, .int .u32 q2.x.a.2, .int .u32 q2.x.b.1, .int .u32 q2.x.b.2, .int .u16 q2.x.c.1, .int .u16 q2.x.c.2, .int .u16 q2.x.d.1, .int .u16 q2.x.d.2, .int .u8 q2.x.m.1, .int .u8 q2.x.m.2, .pointer q2.k, .slice q2.ad q2.n q2.cap] rfl rfl 78 _ hq57B (fun wb58 hp58 ho58 => hK' _ _ ?_)
    have ht58 : Below w2.heap.size w2 wb58 := ht57.trans (ho58.below (by omega))
    have hd58N1 := hd57N1.put ho58 hq57B
    have hd58N2 := hd57N2.put ho58 hq57B
    have hq58A : wb58.heap[wa44.heap.size]? = _ := (ho58.block _ (by omega)).trans hp57
    refine ⟨ht58, ?_⟩
    refine wpAnyH_done (by kernel_rfl) ?_ _
    try simp only [nrm]
    clear zhzd zhz44 zhz54 zhz55 zhz56
    have HS9 : Hid _ := ht58
    have HA9 : Hid _ := hq58A
    have HB9 : Hid _ := hp58
    have HN1 : Hid _ := hd58N1
    have HN2 : Hid _ := hd58N2
    go_wp2_with (fail)
    go_meet
    case rel => exact ⟨_, _, q1, q2, rfl, rfl, HA9.out, HB9.out, HN1.out, HN2.out, HS9.out⟩
 case rest =>
  obtain ⟨A, B, q1, q2, rfl, rfl, HA, HBB, HN1, HN2, HBx⟩ := hcut
  have HrB : Hid (wc.rangeAt Bc 0 (#[.int .u32 Y1.a.1, .int .u32 Y1.a.2, .int .u32 Y1.b.1, .int .u32 Y1.b.2, .int .u16 Y1.c.1, .int .u16 Y1.c.2, .int .u16 Y1.d.1, .int .u16 Y1.d.2, .int .u8 Y1.m.1, .int .u8 Y1.m.2] : Array Value).toList) := rng_on HBx.out (rng_sub HrC.out 0 10)
  have HrA : Hid (wc.rangeAt A 0 (#[.int .u32 q1.x.a.1, .int .u32 q1.x.a.2, .int .u32 q1.x.b.1, .int .u32 q1.x.b.2, .int .u16 q1.x.c.1, .int .u16 q1.x.c.2, .int .u16 q1.x.d.1, .int .u16 q1.x.d.2, .int .u8 q1.x.m.1, .int .u8 q1.x.m.2, .pointer q1.k, .slice q1.ad q1.n q1.cap] : Array Value).toList) := rngAll HA.out
  have HrB2 : Hid (wc.rangeAt B 0 (#[.int .u32 q2.x.a.1, .int .u32 q2.x.a.2, .int .u32 q2.x.b.1, .int .u32 q2.x.b.2, .int .u16 q2.x.c.1, .int .u16 q2.x.c.2, .int .u16 q2.x.d.1, .int .u16 q2.x.d.2, .int .u8 q2.x.m.1, .int .u8 q2.x.m.2, .pointer q2.k, .slice q2.ad q2.n q2.cap] : Array Value).toList) := rngAll HBB.out
  have HZc : Hid (wc.heap[w.heap.size + 1]? = some (.cells #[.int .u32 0, .int .u32 0, .int .u32 0, .int .u32 0, .int .u16 0, .int .u16 0, .int .u16 0, .int .u16 0, .int .u8 0, .int .u8 0, .pointer none, .slice none 0 0] 78)) := blk_on HZ2.out HBx.out
  have HBc : Hid (Below w.heap.size w wc) := HB2.out.trans (HBx.out.mono HB2.out.size)
  have HZk : Hid ((wc.alloc (.cells #[.int .u32 q1.x.a.1, .int .u32 q1.x.a.2, .int .u32 q1.x.b.1, .int .u32 q1.x.b.2, .int .u16 q1.x.c.1, .int .u16 q1.x.c.2, .int .u16 q1.x.d.1, .int .u16 q1.x.d.2, .int .u8 q1.x.m.1, .int .u8 q1.x.m.2, .pointer q1.k, .slice q1.ad q1.n q1.cap, .int .u32 q2.x.a.1, .int .u32 q2.x.a.2, .int .u32 q2.x.b.1, .int .u32 q2.x.b.2, .int .u16 q2.x.c.1, .int .u16 q2.x.c.2, .int .u16 q2.x.d.1, .int .u16 q2.x.d.2, .int .u8 q2.x.m.1, .int .u8 q2.x.m.2, .pointer q2.k, .slice q2.ad q2.n q2.cap] 111)).heap[w.heap.size + 1]? = some (.cells #[.int .u32 0, .int .u32 0, .int .u32 0, .int .u32 0, .int .u16 0, .int .u16 0, .int .u16 0, .int .u16 0, .int .u8 0, .int .u8 0, .pointer none, .slice none 0 0] 78)) := blk_alloc HZc.out _
  go_wp2_with (first | (refine ct_loadL rfl 74 (.tmp 41) rfl Bc 0 #[.int .u32 Y1.a.1, .int .u32 Y1.a.2, .int .u32 Y1.b.1, .int .u32 Y1.b.2, .int .u16 Y1.c.1, .int .u16 Y1.c.2, .int .u16 Y1.d.1, .int .u16 Y1.d.2, .int .u8 Y1.m.1, .int .u8 Y1.m.2] rfl HrB.out Tryz.underlying74 rfl (by kernel_rfl) ?_) | (refine ct_loadL rfl 78 (.tmp 10) rfl A 0 #[.int .u32 q1.x.a.1, .int .u32 q1.x.a.2, .int .u32 q1.x.b.1, .int .u32 q1.x.b.2, .int .u16 q1.x.c.1, .int .u16 q1.x.c.2, .int .u16 q1.x.d.1, .int .u16 q1.x.d.2, .int .u8 q1.x.m.1, .int .u8 q1.x.m.2, .pointer q1.k, .slice q1.ad q1.n q1.cap] rfl HrA.out Tryz.underlying78 rfl (by kernel_rfl) ?_) | (refine ct_loadL rfl 78 (.tmp 11) rfl B 0 #[.int .u32 q2.x.a.1, .int .u32 q2.x.a.2, .int .u32 q2.x.b.1, .int .u32 q2.x.b.2, .int .u16 q2.x.c.1, .int .u16 q2.x.c.2, .int .u16 q2.x.d.1, .int .u16 q2.x.d.2, .int .u8 q2.x.m.1, .int .u8 q2.x.m.2, .pointer q2.k, .slice q2.ad q2.n q2.cap] rfl HrB2.out Tryz.underlying78 rfl (by kernel_rfl) ?_) | (refine wpList_store_blk rfl 78 (.tmp 8) (.tmp 47) rfl (w.heap.size + 1) 0 #[.int .u32 Y1.a.1, .int .u32 Y1.a.2, .int .u32 Y1.b.1, .int .u32 Y1.b.2, .int .u16 Y1.c.1, .int .u16 Y1.c.2, .int .u16 Y1.d.1, .int .u16 Y1.d.2, .int .u8 Y1.m.1, .int .u8 Y1.m.2, .pointer (some ⟨wc.heap.size, 0, none⟩), .slice none 0 0] #[.int .u32 Y1.a.1, .int .u32 Y1.a.2, .int .u32 Y1.b.1, .int .u32 Y1.b.2, .int .u16 Y1.c.1, .int .u16 Y1.c.2, .int .u16 Y1.d.1, .int .u16 Y1.d.2, .int .u8 Y1.m.1, .int .u8 Y1.m.2, .pointer (some ⟨wc.heap.size, 0, none⟩), .slice none 0 0] rfl rfl 78 _ HZk.out (Nat.le_of_ble_eq_true rfl) rfl (by kernel_rfl) rfl ?_; intro wz hwz hoz))
  have hbk : Below wc.heap.size wc (wc.alloc (.cells #[.int .u32 q1.x.a.1, .int .u32 q1.x.a.2, .int .u32 q1.x.b.1, .int .u32 q1.x.b.2, .int .u16 q1.x.c.1, .int .u16 q1.x.c.2, .int .u16 q1.x.d.1, .int .u16 q1.x.d.2, .int .u8 q1.x.m.1, .int .u8 q1.x.m.2, .pointer q1.k, .slice q1.ad q1.n q1.cap, .int .u32 q2.x.a.1, .int .u32 q2.x.a.2, .int .u32 q2.x.b.1, .int .u32 q2.x.b.2, .int .u16 q2.x.c.1, .int .u16 q2.x.c.2, .int .u16 q2.x.d.1, .int .u16 q2.x.d.2, .int .u8 q2.x.m.1, .int .u8 q2.x.m.2, .pointer q2.k, .slice q2.ad q2.n q2.cap] 111)) := (Below.refl _ _).alloc (Nat.le_refl _) _
  refine bodyPost_ret (results_blk Tryz.results61 rfl hwz Tryz.underlying78 rfl (by kernel_rfl)) rfl ⟨⟨Y1, some ⟨wc.heap.size, 0, none⟩, none, 0, 0⟩, rfl, ?_, (HBc.out.trans (hbk.mono HBc.out.size)).trans (hoz.below (by omega))⟩
  have hN1 := ((HN1.out.on hbk).put hoz HZk.out).base (show w.heap.size ≤ _ from HB2.out.size)
  have hN2 := ((HN2.out.on hbk).put hoz HZk.out).base (show w.heap.size ≤ _ from HB2.out.size)
  have hKz : wz.heap[wc.heap.size]? = some (.cells #[.int .u32 q1.x.a.1, .int .u32 q1.x.a.2, .int .u32 q1.x.b.1, .int .u32 q1.x.b.2, .int .u16 q1.x.c.1, .int .u16 q1.x.c.2, .int .u16 q1.x.d.1, .int .u16 q1.x.d.2, .int .u8 q1.x.m.1, .int .u8 q1.x.m.2, .pointer q1.k, .slice q1.ad q1.n q1.cap, .int .u32 q2.x.a.1, .int .u32 q2.x.a.2, .int .u32 q2.x.b.1, .int .u32 q2.x.b.2, .int .u16 q2.x.c.1, .int .u16 q2.x.c.2, .int .u16 q2.x.d.1, .int .u16 q2.x.d.2, .int .u8 q2.x.m.1, .int .u8 q2.x.m.2, .pointer q2.k, .slice q2.ad q2.n q2.cap] 111) := by rw [hoz.block _ (by have := blk_lt HZc.out; omega)]; exact blk_new _ _
  show Nd bn wz w.heap.size dd (X, L) _
  rw [← Hdd.out]
  unfold Nd
  rw [if_neg HC.out, ← HD.out]
  exact ⟨rfl, rfl, rfl, rfl, wc.heap.size, q1, q2, rfl, HBc.out.size, hKz, hN1, hN2⟩
end Go.Proofs.YtgokmkholjfhbaaGreat
