/-
  PkBG: CtK, one behind the other (tools/pack.py).
-/
import Derived.Test.YtgokmkholjfhbaaGreatPkBB
import Derived.Test.YtgokmkholjfhbaaGreatPkBC
import Derived.Test.YtgokmkholjfhbaaGreatPkBF
import Derived.Test.YtgokmkholjfhbaaGreatPkAL
import Derived.Test.YtgokmkholjfhbaaGreatPkAE
set_option linter.unusedVariables false
set_option linter.unusedSimpArgs false
namespace Go.Proofs.YtgokmkholjfhbaaGreat
open Go.RowKit
theorem fsT_hit {l : List Ru} {h : Hd} {L : List Nat} {k : Nat} (hk : k < L.length) (e : matchR (ruK l L[k]) h = true) : fsT l h (L.drop k) = ((L[k] : Int), 1) := by
 rw [List.drop_eq_getElem_cons hk, fsT, if_pos e]
theorem fsT_miss {l : List Ru} {h : Hd} {L : List Nat} {k : Nat} (hk : k < L.length) (e : matchR (ruK l L[k]) h = false) : fsT l h (L.drop k) = ((fsT l h (L.drop (k + 1))).1, (fsT l h (L.drop (k + 1))).2 + 1) := by
 rw [List.drop_eq_getElem_cons hk, fsT, if_neg (by rw [e]; simp)]
set_option maxRecDepth 20000 in
set_option maxHeartbeats 8000000 in
theorem firstKC (X t : Nat) (tv : Value) (M A0 A : Int) (l : List Ru) (h : Hd) (u : Value) (L : List Nat) (w : World) (c0 : w.cell? ⟨X, 0, none⟩ = some (.pointer (some ⟨t, 0, none⟩))) (c1 : w.cell? ⟨X, 1, none⟩ = some (.int .i64 A)) (hT : Tab w t tv M A0 l) (hu : SrcI w u (ofN L)) (hL : ∀ k ∈ L, k < l.length) (hl : l.length ≤ 64) (hLl : L.length ≤ 64) (hbd : ∀ R ∈ l, BdR R) (oh : OkH h) :
  Calls Tryz.prog 20 #[.pointer (some ⟨X, 0, none⟩), u, .agg #[.int .u32 h.s, .int .u32 h.d, .int .u16 h.p, .int .u16 h.q, .int .u8 h.r]] w fun e w' => e = .returned (.tuple #[.agg #[.bool (vdH (fsT l h L).1), .int .i64 (vdI l (fsT l h L).1), .int .i64 (vdA A l (fsT l h L).1)], .int .i64 ((fsT l h L).2 : Nat)]) ∧ Below w.heap.size w w' := by
 obtain ⟨ad, cap, hue⟩ := hu.len
 rw [ofN_len] at hue
 subst hue
 have HU : Hid (SrcI w (.slice ad L.length cap) (ofN L)) := hu
 obtain ⟨n, hn⟩ : ∃ n, n = L.length := ⟨_, rfl⟩
 have Hn : Hid (n = L.length) := hn
 rw [← hn] at HU hLl ⊢
 have HT : Hid (Tab w t tv M A0 l) := hT
 have HL : Hid (∀ k ∈ L, k < l.length) := hL
 have Hl : Hid (l.length ≤ 64) := hl
 have Hbd : Hid (∀ R ∈ l, BdR R) := hbd
 have Hoh : Hid (OkH h) := oh
 have C0 : Hid (w.cell? ⟨X, 0, none⟩ = some (.pointer (some ⟨t, 0, none⟩))) := c0
 have C1 : Hid (w.cell? ⟨X, 1, none⟩ = some (.int .i64 A)) := c1
 obtain ⟨F, hF⟩ : ∃ F, F = fsT l h L := ⟨_, rfl⟩
 rw [← hF]
 have HF0 : Hid (F.1 = (fsT l h (L.drop 0)).1 ∧ F.2 = 0 + (fsT l h (L.drop 0)).2) := by rw [hF]; exact ⟨rfl, by rw [Nat.zero_add]; rfl⟩
 clear hF hu hT hL hl hbd oh c0 c1 hn
 obtain ⟨hp0, hz0, hb0⟩ := al2 w (.cells #[.int .u32 h.s, .int .u32 h.d, .int .u16 h.p, .int .u16 h.q, .int .u8 h.r] 28) (.cells #[.bool false, .int .i64 0, .int .i64 0] 36)
 obtain ⟨w0, hw0⟩ : ∃ w0, w0 = (w.alloc (.cells #[.int .u32 h.s, .int .u32 h.d, .int .u16 h.p, .int .u16 h.q, .int .u8 h.r] 28)).alloc (.cells #[.bool false, .int .i64 0, .int .i64 0] 36) := ⟨_, rfl⟩
 rw [← hw0] at hp0 hz0 hb0
 have HB0 : Hid (Below w.heap.size w w0) := hb0
 have HH0 : Hid (w0.heap[w.heap.size]? = some (.cells #[.int .u32 h.s, .int .u32 h.d, .int .u16 h.p, .int .u16 h.q, .int .u8 h.r] 28)) := hp0
 have HV0 : Hid (w0.heap[w.heap.size + 1]? = some (.cells #[.bool false, .int .i64 0, .int .i64 0] 36)) := hz0
 have Hw0 : Hid ((w.alloc (.cells #[.int .u32 h.s, .int .u32 h.d, .int .u16 h.p, .int .u16 h.q, .int .u8 h.r] 28)).alloc (.cells #[.bool false, .int .i64 0, .int .i64 0] 36) = w0) := hw0.symm
 clear hp0 hz0 hb0 hw0
 go_enter Tryz.func20, Tryz.ntmps20
 go_upto_region 1 with (fail)
 rw [Hw0.out]
 clear Hw0
 go_wp2_with (fail)
 go_loopw [14] (fun vi wr => ∃ k : Nat, k ≤ n ∧ vi = .int .i64 k ∧ Hid (F.1 = (fsT l h (L.drop k)).1 ∧ F.2 = k + (fsT l h (L.drop k)).2) ∧ Hid (wr.heap[w.heap.size]? = some (.cells #[.int .u32 h.s, .int .u32 h.d, .int .u16 h.p, .int .u16 h.q, .int .u8 h.r] 28)) ∧ Hid (wr.heap[w.heap.size + 1]? = some (.cells #[.bool false, .int .i64 0, .int .i64 0] 36)) ∧ Hid (Below w.heap.size w wr)) (fun vi _ => n - (intOf vi).toNat)
 case atStart => exact ⟨0, Nat.zero_le _, rfl, HF0.out, HH0.out, HV0.out, HB0.out⟩
 case round =>
  clear HF0 HH0 HV0 HB0
  obtain ⟨k, hk, rfl, HF, HH, HV, HB⟩ := hrel
  by_cases hlt : k < n
  ·have hkL : k < L.length := by rw [← Hn.out]; exact hlt
   obtain ⟨g, off, rfl, hc⟩ := (HU.out.keep HB.out).at (k := k) (by rw [ofN_len]; exact hkL)
   rw [ofN_at] at hc
   obtain ⟨x, hx⟩ : ∃ x, x = L[k] := ⟨_, rfl⟩
   rw [← hx] at hc
   have hxl : x < l.length := by rw [hx]; exact HL.out _ (List.getElem_mem _)
   obtain ⟨p, hp⟩ : ∃ p, p = l[x] := ⟨_, rfl⟩
   have hbp : BdR p := by rw [hp]; exact Hbd.out _ (List.getElem_mem _)
   have hat := at_in t tv M A0 l x wr (HT.out.on HB.out) (Nat.le_trans Hl.out (by decide)) hxl p hp
   have Hx : Hid (x = L[k]) := hx
   have Hxl : Hid (x < l.length) := hxl
   have Hp : Hid (ruK l x = p) := by show _ = _; rw [ruK_at hxl, hp]
   have Hi : Hid (vdI l (x : Int) = p.i) := by show _ = _; rw [vdI_at hxl, hp]
   have Ha : Hid (vdA A l (x : Int) = p.act) := by show _ = _; rw [vdA_at hxl, hp]
   have HMt : Hid (∀ W, _) := fun W => matchC p h W hbp Hoh.out
   have c0 := cell_on1 HB.out C0.out
   have hkn : (k : Int) < (n : Int) := by omega
   have hk0 : (0 : Int) ≤ (k : Int) := by omega
   clear hx hxl hp hbp
   go_upto_region 5 with (first | (go_at_call 37; refine hat.mono ?_; rintro e w1 ⟨rfl, hb1⟩; have Hb1 : Hid _ := hb1; clear hb1; have HZ1 : Hid ((w1.alloc (.cells #[.int .i64 0, .int .u32 0, .int .i64 0, .int .u32 0, .int .i64 0, .int .u16 0, .int .u16 0, .int .u16 0, .int .u16 0, .int .u8 0, .int .u8 0, .int .i64 0] 64)).heap[w1.heap.size]? = some (.cells #[.int .i64 0, .int .u32 0, .int .i64 0, .int .u32 0, .int .i64 0, .int .u16 0, .int .u16 0, .int .u16 0, .int .u16 0, .int .u8 0, .int .u8 0, .int .i64 0] 64)) := blk_new _ _) | (refine wpList_store_blk rfl 64 (.tmp 10) (.tmp 26) rfl w1.heap.size 0 #[.int .i64 p.i, .int .u32 p.s, .int .i64 p.sl, .int .u32 p.d, .int .i64 p.dl, .int .u16 p.p.1, .int .u16 p.p.2, .int .u16 p.q.1, .int .u16 p.q.2, .int .u8 p.m.1, .int .u8 p.m.2, .int .i64 p.act] #[.int .i64 p.i, .int .u32 p.s, .int .i64 p.sl, .int .u32 p.d, .int .i64 p.dl, .int .u16 p.p.1, .int .u16 p.p.2, .int .u16 p.q.1, .int .u16 p.q.2, .int .u8 p.m.1, .int .u8 p.m.2, .int .i64 p.act] rfl rfl 64 _ HZ1.out (Nat.le_of_ble_eq_true rfl) rfl (by kernel_rfl) rfl ?_; intro w2 hw2 ho2))
   have hb2 : Below w1.heap.size w1 w2 := ((Below.refl _ _).alloc (Nat.le_refl _) _).trans (ho2.below (Nat.le_refl _))
   have hb02 : Below wr.heap.size wr w2 := Hb1.out.trans (hb2.mono Hb1.out.size)
   have HH2 : Hid (w2.heap[w.heap.size]? = some (.cells #[.int .u32 h.s, .int .u32 h.d, .int .u16 h.p, .int .u16 h.q, .int .u8 h.r] 28)) := blk_on HH.out hb02
   have HV2 : Hid (w2.heap[w.heap.size + 1]? = some (.cells #[.bool false, .int .i64 0, .int .i64 0] 36)) := blk_on HV.out hb02
   have HB2 : Hid (Below w.heap.size w w2) := HB.out.trans (hb02.mono HB.out.size)
   have HRr : Hid (w2.heap[w1.heap.size]? = some (.cells #[.int .i64 p.i, .int .u32 p.s, .int .i64 p.sl, .int .u32 p.d, .int .i64 p.dl, .int .u16 p.p.1, .int .u16 p.p.2, .int .u16 p.q.1, .int .u16 p.q.2, .int .u8 p.m.1, .int .u8 p.m.2, .int .i64 p.act] 64)) := hw2
   obtain ⟨Br, hBr⟩ : ∃ Br, Br = w1.heap.size := ⟨_, rfl⟩
   rw [← hBr] at HRr
   try rw [← hBr]
   clear hBr hb2 hb02 hw2 ho2 HZ1 Hb1 HH HV HB hc c0 hat
   have rR : Hid (w2.rangeAt Br 0 (#[.int .i64 p.i, .int .u32 p.s, .int .i64 p.sl, .int .u32 p.d, .int .i64 p.dl, .int .u16 p.p.1, .int .u16 p.p.2, .int .u16 p.q.1, .int .u16 p.q.2, .int .u8 p.m.1, .int .u8 p.m.2, .int .i64 p.act] : Array Value).toList) := rngAll HRr.out
   have rH : Hid (w2.rangeAt w.heap.size 0 (#[.int .u32 h.s, .int .u32 h.d, .int .u16 h.p, .int .u16 h.q, .int .u8 h.r] : Array Value).toList) := rngAll HH2.out
   cases hm : matchR p h
   ·have hm2 := HMt.out
    rw [hm] at hm2
    have Hm : Hid (matchR p h = false) := hm
    clear hm
    go_wp2_with (first | (refine ct_loadL rfl 64 (.tmp 10) rfl Br 0 #[.int .i64 p.i, .int .u32 p.s, .int .i64 p.sl, .int .u32 p.d, .int .i64 p.dl, .int .u16 p.p.1, .int .u16 p.p.2, .int .u16 p.q.1, .int .u16 p.q.2, .int .u8 p.m.1, .int .u8 p.m.2, .int .i64 p.act] rfl rR.out Tryz.underlying64 rfl (by kernel_rfl) ?_) | (refine ct_loadL rfl 28 (.tmp 5) rfl w.heap.size 0 #[.int .u32 h.s, .int .u32 h.d, .int .u16 h.p, .int .u16 h.q, .int .u8 h.r] rfl rH.out Tryz.underlying28 rfl (by kernel_rfl) ?_) | (go_at_call 38; refine (hm2 _).mono ?_; rintro e w3 ⟨rfl, hb3⟩; have HH3 : Hid (w3.heap[w.heap.size]? = some (.cells #[.int .u32 h.s, .int .u32 h.d, .int .u16 h.p, .int .u16 h.q, .int .u8 h.r] 28)) := blk_on HH2.out hb3; have HV3 : Hid (w3.heap[w.heap.size + 1]? = some (.cells #[.bool false, .int .i64 0, .int .i64 0] 36)) := blk_on HV2.out hb3; have HB3 : Hid (Below w.heap.size w w3) := HB2.out.trans (hb3.mono HB2.out.size); clear hb3))
    go_roundw
    case rel =>
     refine ⟨k + 1, by omega, by go_num, ?_, HH3.out, HV3.out, HB3.out⟩
     have h1 := fsT_miss (l := l) (h := h) hkL (by rw [← Hx.out, Hp.out]; exact Hm.out)
     have h2 := HF.out
     rw [h1] at h2
     exact ⟨h2.1, by rw [h2.2]; simp only; omega⟩
    case measure => simp [intOf]; omega
   ·have hm2 := HMt.out
    rw [hm] at hm2
    have Hm : Hid (matchR p h = true) := hm
    have hk64 : k ≤ 64 := by omega
    clear hm
    go_wp2_with (first | (refine ct_loadL rfl 64 (.tmp 10) rfl Br 0 #[.int .i64 p.i, .int .u32 p.s, .int .i64 p.sl, .int .u32 p.d, .int .i64 p.dl, .int .u16 p.p.1, .int .u16 p.p.2, .int .u16 p.q.1, .int .u16 p.q.2, .int .u8 p.m.1, .int .u8 p.m.2, .int .i64 p.act] rfl rR.out Tryz.underlying64 rfl (by kernel_rfl) ?_) | (refine ct_loadL rfl 28 (.tmp 5) rfl w.heap.size 0 #[.int .u32 h.s, .int .u32 h.d, .int .u16 h.p, .int .u16 h.q, .int .u8 h.r] rfl rH.out Tryz.underlying28 rfl (by kernel_rfl) ?_) | (go_at_call 38; refine (hm2 _).mono ?_; rintro e w3 ⟨rfl, hb3⟩; have HV3 : Hid (w3.heap[w.heap.size + 1]? = some (.cells #[.bool false, .int .i64 0, .int .i64 0] 36)) := blk_on HV2.out hb3; have HB3 : Hid (Below w.heap.size w w3) := HB2.out.trans (hb3.mono HB2.out.size); have p0 := blk_cell (j := 0) (blk_on HRr.out hb3) rfl; have p11 := blk_cell (j := 11) (blk_on HRr.out hb3) rfl; clear hb3) | (refine wpList_store_blk rfl 36 (.tmp 6) (.tmp 35) rfl (w.heap.size + 1) 0 #[.bool true, .int .i64 p.i, .int .i64 p.act] #[.bool true, .int .i64 p.i, .int .i64 p.act] rfl rfl 36 _ HV3.out (Nat.le_of_ble_eq_true rfl) rfl (by kernel_rfl) rfl ?_; intro wz hwz hoz))
    have h1 := fsT_hit (l := l) (h := h) hkL (by rw [← Hx.out, Hp.out]; exact Hm.out)
    have h2 := HF.out
    rw [h1] at h2
    have e1 : F.1 = (x : Int) := by rw [h2.1, Hx.out]
    have e2 : F.2 = k + 1 := h2.2
    have v1 : vdH F.1 = true := by rw [e1]; simp [vdH]
    have v2 : vdI l F.1 = p.i := by rw [e1, Hi.out]
    have v3 : vdA A l F.1 = p.act := by rw [e1, Ha.out]
    refine bodyPost_ret (results_blk2 Tryz.results20 rfl hwz Tryz.underlying36 rfl (by kernel_rfl)) rfl ⟨?_, HB3.out.trans (hoz.below (Nat.le_succ _))⟩
    rw [v1, v2, v3, e2]
    simp
  ·obtain rfl : k = n := by omega
   have c1 := cell_on1 HB.out C1.out
   have h2 := HF.out
   rw [List.drop_eq_nil_of_le (by have := Hn.out; omega)] at h2
   have e1 : F.1 = -1 := h2.1
   have e2 : F.2 = k := h2.2
   have HE1 : Hid (F.1 = -1) := e1
   have HE2 : Hid (F.2 = k) := e2
   clear h2 e1 e2
   go_wp2_with (refine wpList_store_blk rfl 36 (.tmp 6) (.tmp 43) rfl (w.heap.size + 1) 0 #[.bool false, .int .i64 0, .int .i64 A] #[.bool false, .int .i64 0, .int .i64 A] rfl rfl 36 _ HV.out (Nat.le_of_ble_eq_true rfl) rfl (by kernel_rfl) rfl ?_; intro wz hwz hoz)
   refine bodyPost_ret (results_blk2 Tryz.results20 rfl hwz Tryz.underlying36 rfl (by kernel_rfl)) rfl ⟨?_, HB.out.trans (hoz.below (Nat.le_succ _))⟩
   rw [HE1.out, HE2.out]
   rfl
set_option maxHeartbeats 2000000 in
theorem plantC (bn d : Nat) (u : Value) (l : List Ru) (w : World) (hs : SrcU w u l) (hl : l.length ≤ 64) (hok : ∀ R ∈ l, okR R = true) (hbd : ∀ R ∈ l, BdR R) (hd : d ≤ 32) :
  Calls Tryz.prog 46 #[u, .int .i64 bn, .int .i64 d] w fun e w' => ∃ q : Nv, e = .returned (.agg #[.int .u32 q.x.a.1, .int .u32 q.x.a.2, .int .u32 q.x.b.1, .int .u32 q.x.b.2, .int .u16 q.x.c.1, .int .u16 q.x.c.2, .int .u16 q.x.d.1, .int .u16 q.x.d.2, .int .u8 q.x.m.1, .int .u8 q.x.m.2, .pointer q.k, .slice q.ad q.n q.cap]) ∧ Nd bn w' w.heap.size d (rootP l) q ∧ Below w.heap.size w w' := by
 have hb0 : Below w.heap.size w (w.alloc (.cells #[.int .u32 0, .int .u32 0, .int .u32 0, .int .u32 0, .int .u16 0, .int .u16 0, .int .u16 0, .int .u16 0, .int .u8 0, .int .u8 0, .pointer none, .slice none 0 0] 78)) := (Below.refl _ _).alloc (Nat.le_refl _) _
 have hz0 := blk_new w (.cells #[.int .u32 0, .int .u32 0, .int .u32 0, .int .u32 0, .int .u16 0, .int .u16 0, .int .u16 0, .int .u16 0, .int .u8 0, .int .u8 0, .pointer none, .slice none 0 0] 78)
 have HB0 : Hid _ := hb0
 have HZ0 : Hid ((w.alloc (.cells #[.int .u32 0, .int .u32 0, .int .u32 0, .int .u32 0, .int .u16 0, .int .u16 0, .int .u16 0, .int .u16 0, .int .u8 0, .int .u8 0, .pointer none, .slice none 0 0] 78)).heap[w.heap.size]? = some (.cells #[.int .u32 0, .int .u32 0, .int .u32 0, .int .u32 0, .int .u16 0, .int .u16 0, .int .u16 0, .int .u16 0, .int .u8 0, .int .u8 0, .pointer none, .slice none 0 0] 78)) := hz0
 have hall := allPC u l (w.alloc (.cells #[.int .u32 0, .int .u32 0, .int .u32 0, .int .u32 0, .int .u16 0, .int .u16 0, .int .u16 0, .int .u16 0, .int .u8 0, .int .u8 0, .pointer none, .slice none 0 0] 78)) (hs.keep hb0) hl hok hbd
 have HR : Hid (CtOk l d (rootP l)) := root_ok hok hbd hd
 have Hl : Hid (l.length ≤ 64) := hl
 have Hd : Hid (d ≤ 32) := hd
 have HTr : Hid (∀ W, _) := fun W => trialsC W
 have HG : Hid (∀ g p L W, _) := fun g p L W => growC bn l g d p L W
 clear hs hl hok hbd hd hb0 hz0
 go_enter Tryz.func46, Tryz.ntmps46
 go_wp2_with (first | (go_at_call 62; refine hall.mono ?_; rintro e w1 ⟨⟨X, ad, n, cap⟩, rfl, hX, hrow, hb1⟩; have HX : Hid _ := hX; have HRow : Hid _ := hrow; have HB1 : Hid _ := hb1; clear hX hrow hb1) | (go_at_call 63; refine (HTr.out _).mono ?_; rintro e w2 ⟨g, rfl, ht, _, hb2⟩; have HT2 : Hid _ := ht; have HB2 : Hid _ := hb2; clear ht hb2) | (go_at_call 61; refine (HG.out g ⟨X, ad, n, cap⟩ (allK l 0) _ Hd.out HT2.out (RowZ.src (RowZ.on HRow.out HB2.out)) (Nat.le_trans HR.out.len Hl.out) (by rw [show ((⟨X, ad, n, cap⟩ : Pt).x, allK l 0) = rootP l from by rw [show (⟨X, ad, n, cap⟩ : Pt).x = wholeP from HX.out]; rfl]; exact HR.out) Hl.out).mono ?_; rintro e w3 ⟨q, rfl, hN, hb3⟩; have HN3 : Hid _ := hN; have HB3 : Hid (Below w.heap.size w w3) := ((HB0.out.trans (HB1.out.mono HB0.out.size)).trans (HB2.out.mono (HB0.out.trans (HB1.out.mono HB0.out.size)).size)).trans (hb3.mono ((HB0.out.trans (HB1.out.mono HB0.out.size)).trans (HB2.out.mono (HB0.out.trans (HB1.out.mono HB0.out.size)).size)).size); have HZ3 : Hid (w3.heap[w.heap.size]? = some (.cells #[.int .u32 0, .int .u32 0, .int .u32 0, .int .u32 0, .int .u16 0, .int .u16 0, .int .u16 0, .int .u16 0, .int .u8 0, .int .u8 0, .pointer none, .slice none 0 0] 78)) := blk_on (blk_on (blk_on HZ0.out HB1.out) HB2.out) hb3; clear hN hb3) | (refine wpList_store_blk rfl 78 (.tmp 6) (.tmp 12) rfl w.heap.size 0 #[.int .u32 q.x.a.1, .int .u32 q.x.a.2, .int .u32 q.x.b.1, .int .u32 q.x.b.2, .int .u16 q.x.c.1, .int .u16 q.x.c.2, .int .u16 q.x.d.1, .int .u16 q.x.d.2, .int .u8 q.x.m.1, .int .u8 q.x.m.2, .pointer q.k, .slice q.ad q.n q.cap] #[.int .u32 q.x.a.1, .int .u32 q.x.a.2, .int .u32 q.x.b.1, .int .u32 q.x.b.2, .int .u16 q.x.c.1, .int .u16 q.x.c.2, .int .u16 q.x.d.1, .int .u16 q.x.d.2, .int .u8 q.x.m.1, .int .u8 q.x.m.2, .pointer q.k, .slice q.ad q.n q.cap] rfl rfl 78 _ HZ3.out (Nat.le_of_ble_eq_true rfl) rfl (by kernel_rfl) rfl ?_; intro wz hwz hoz))
 refine bodyPost_ret (results_blk Tryz.results46 rfl hwz Tryz.underlying78 rfl (by kernel_rfl)) rfl ⟨q, rfl, ?_, HB3.out.trans (hoz.below (Nat.le_refl _))⟩
 have hN := HN3.out
 rw [show ((⟨X, ad, n, cap⟩ : Pt).x, allK l 0) = rootP l from by rw [show (⟨X, ad, n, cap⟩ : Pt).x = wholeP from HX.out]; rfl] at hN
 exact (hN.put hoz HZ3.out).base (Nat.le_trans HB0.out.size (Nat.le_trans HB1.out.size HB2.out.size))
end Go.Proofs.YtgokmkholjfhbaaGreat
