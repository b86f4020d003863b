/-
  PkBC: CtBx CtH, one behind the other (tools/pack.py).
-/
import Derived.Test.YtgokmkholjfhbaaGreatPkAQ
import Derived.Test.YtgokmkholjfhbaaGreatPkAN
import Derived.Test.YtgokmkholjfhbaaGreatPkAJ
import Derived.Test.YtgokmkholjfhbaaGreatPkAE
import Derived.Test.YtgokmkholjfhbaaGreatPkAL
set_option linter.unusedVariables false
set_option linter.unusedSimpArgs false
namespace Go.Proofs.YtgokmkholjfhbaaGreat
open Go.RowKit
theorem ct_bel_step {w W V w1 : World} (h : Below w.heap.size w W) (hV : Below W.heap.size W V) (hb : Below V.heap.size V w1) : Below w.heap.size w w1 := h.trans ((hV.trans (hb.mono hV.size)).mono h.size)
theorem ct_bel_a0 (W : World) : Below W.heap.size W W := Below.refl _ _
theorem ct_bel_a1 (W : World) (o : Obj) : Below W.heap.size W (W.alloc o) := (Below.refl _ _).alloc (Nat.le_refl _) _
theorem ct_bel_a2 (W : World) (o p : Obj) : Below W.heap.size W ((W.alloc o).alloc p) := (ct_bel_a1 W o).alloc (ct_bel_a1 W o).size _
set_option maxRecDepth 20000 in
set_option maxHeartbeats 4000000 in
theorem boxYC (R : Ru) (w : World) (b : BdR R) (ho : okR R = true) :
  Calls Tryz.prog 81 #[.agg #[.int .i64 R.i, .int .u32 R.s, .int .i64 R.sl, .int .u32 R.d, .int .i64 R.dl, .int .u16 R.p.1, .int .u16 R.p.2, .int .u16 R.q.1, .int .u16 R.q.2, .int .u8 R.m.1, .int .u8 R.m.2, .int .i64 R.act]] w fun e w' => e = .returned (.tuple #[.agg #[.int .u32 ((boxY R).a.1 : Int), .int .u32 ((boxY R).a.2 : Int), .int .u32 ((boxY R).b.1 : Int), .int .u32 ((boxY R).b.2 : Int), .int .u16 ((boxY R).c.1 : Int), .int .u16 ((boxY R).c.2 : Int), .int .u16 ((boxY R).d.1 : Int), .int .u16 ((boxY R).d.2 : Int), .int .u8 ((boxY R).m.1 : Int), .int .u8 ((boxY R).m.2 : Int)], .int .i64 0]) ∧ Below w.heap.size w w' := by
 have hC := fun W => checkRC R W b
 rw [errs_ok ho] at hC
 obtain ⟨b1, b2, _⟩ := b
 obtain ⟨_, c1, c2, _⟩ := (okR_iff R).1 ho
 have k1 := fun W => Pf.run_any R.s R.sl W b1
 have k2 := fun W => Pf.run_any R.d R.dl W b2
 rw [c1] at k1
 rw [c2] at k2
 have e : boxY R = ⟨(Pf.rL R.s R.sl, Pf.rH R.s R.sl), (Pf.rL R.d R.dl, Pf.rH R.d R.dl), R.p, R.q, R.m⟩ := by
  unfold boxY runY Pf.rL Pf.rH
  rw [if_pos c1, if_pos c1, if_pos c2, if_pos c2]
 rw [e]
 generalize Pf.rL R.s R.sl = p at *
 generalize Pf.rH R.s R.sl = q at *
 generalize Pf.rL R.d R.dl = r at *
 generalize Pf.rH R.d R.dl = s at *
 clear ho b1 b2 c1 c2 e
 go_enter Tryz.func81, Tryz.ntmps81
 go_wp2_with (fail)
 refine (hC _).mono ?_
 rintro e w1 ⟨rfl, hb1⟩
 have GR : Hid (w1.heap[w.heap.size]? = some (.cells #[.int .i64 R.i, .int .u32 R.s, .int .i64 R.sl, .int .u32 R.d, .int .i64 R.dl, .int .u16 R.p.1, .int .u16 R.p.2, .int .u16 R.q.1, .int .u16 R.q.2, .int .u8 R.m.1, .int .u8 R.m.2, .int .i64 R.act] 64)) := blk_on (blk_alloc (blk_new w (.cells #[.int .i64 R.i, .int .u32 R.s, .int .i64 R.sl, .int .u32 R.d, .int .i64 R.dl, .int .u16 R.p.1, .int .u16 R.p.2, .int .u16 R.q.1, .int .u16 R.q.2, .int .u8 R.m.1, .int .u8 R.m.2, .int .i64 R.act] 64)) _) hb1
 have GX : Hid (w1.heap[w.heap.size + 1]? = some (.cells #[.int .u32 0, .int .u32 0, .int .u32 0, .int .u32 0, .int .u16 0, .int .u16 0, .int .u16 0, .int .u16 0, .int .u8 0, .int .u8 0] 74)) := blk_on (by simpa using blk_new (w.alloc (.cells #[.int .i64 R.i, .int .u32 R.s, .int .i64 R.sl, .int .u32 R.d, .int .i64 R.dl, .int .u16 R.p.1, .int .u16 R.p.2, .int .u16 R.q.1, .int .u16 R.q.2, .int .u8 R.m.1, .int .u8 R.m.2, .int .i64 R.act] 64)) (.cells #[.int .u32 0, .int .u32 0, .int .u32 0, .int .u32 0, .int .u16 0, .int .u16 0, .int .u16 0, .int .u16 0, .int .u8 0, .int .u8 0] 74)) hb1
 have hbl1 : Hid (Below w.heap.size w w1) := ct_bel_step (Below.refl _ _) (ct_bel_a2 _ _ _) hb1
 clear hb1
 have HR := GR
 clear GR
 have HX := GX
 clear GX
 have lR := blk_lt HR.out
 have nR : ¬ w.heap.size = w1.heap.size := by omega
 have lX := blk_lt HX.out
 have nX : ¬ w.heap.size + 1 = w1.heap.size := by omega
 obtain ⟨R_0, R_1, R_2, R_3, R_4, R_5, R_6, R_7, R_8, R_9, R_10, R_11⟩ := blk12 HR.out
 go_wp2_with (fail)
 refine (k1 _).mono ?_
 rintro e w2 ⟨rfl, hb2⟩
 have GR : Hid (w2.heap[w.heap.size]? = some (.cells #[.int .i64 R.i, .int .u32 R.s, .int .i64 R.sl, .int .u32 R.d, .int .i64 R.dl, .int .u16 R.p.1, .int .u16 R.p.2, .int .u16 R.q.1, .int .u16 R.q.2, .int .u8 R.m.1, .int .u8 R.m.2, .int .i64 R.act] 64)) := blk_on HR.out hb2
 have GX : Hid (w2.heap[w.heap.size + 1]? = some (.cells #[.int .u32 0, .int .u32 0, .int .u32 0, .int .u32 0, .int .u16 0, .int .u16 0, .int .u16 0, .int .u16 0, .int .u8 0, .int .u8 0] 74)) := blk_on HX.out hb2
 have hbl2 : Hid (Below w.heap.size w w2) := ct_bel_step hbl1.out (ct_bel_a0 _) hb2
 clear HR HX R_0 R_1 R_2 R_3 R_4 R_5 R_6 R_7 R_8 R_9 R_10 R_11 lR nR lX nX hb2 hbl1
 have HR := GR
 clear GR
 have HX := GX
 clear GX
 have lR := blk_lt HR.out
 have nR : ¬ w.heap.size = w2.heap.size := by omega
 have lX := blk_lt HX.out
 have nX : ¬ w.heap.size + 1 = w2.heap.size := by omega
 obtain ⟨R_0, R_1, R_2, R_3, R_4, R_5, R_6, R_7, R_8, R_9, R_10, R_11⟩ := blk12 HR.out
 go_wp2_with (fail)
 refine (k2 _).mono ?_
 rintro e w3 ⟨rfl, hb3⟩
 have GR : Hid (w3.heap[w.heap.size]? = some (.cells #[.int .i64 R.i, .int .u32 R.s, .int .i64 R.sl, .int .u32 R.d, .int .i64 R.dl, .int .u16 R.p.1, .int .u16 R.p.2, .int .u16 R.q.1, .int .u16 R.q.2, .int .u8 R.m.1, .int .u8 R.m.2, .int .i64 R.act] 64)) := blk_on (blk_alloc HR.out _) hb3
 have GX : Hid (w3.heap[w.heap.size + 1]? = some (.cells #[.int .u32 0, .int .u32 0, .int .u32 0, .int .u32 0, .int .u16 0, .int .u16 0, .int .u16 0, .int .u16 0, .int .u8 0, .int .u8 0] 74)) := blk_on (blk_alloc HX.out _) hb3
 have GS : Hid (w3.heap[w2.heap.size]? = some (.cells #[.int .u32 p, .int .u32 q] 72)) := blk_on (blk_new w2 (.cells #[.int .u32 p, .int .u32 q] 72)) hb3
 have hbl3 : Hid (Below w.heap.size w w3) := ct_bel_step hbl2.out (ct_bel_a1 _ _) hb3
 clear HR HX R_0 R_1 R_2 R_3 R_4 R_5 R_6 R_7 R_8 R_9 R_10 R_11 lR nR lX nX hb3 hbl2
 have HR := GR
 clear GR
 have HX := GX
 clear GX
 have HS := GS
 clear GS
 have lR := blk_lt HR.out
 have nR : ¬ w.heap.size = w3.heap.size := by omega
 have lX := blk_lt HX.out
 have nX : ¬ w.heap.size + 1 = w3.heap.size := by omega
 have lS := blk_lt HS.out
 have nS : ¬ w2.heap.size = w3.heap.size := by omega
 obtain ⟨R_0, R_1, R_2, R_3, R_4, R_5, R_6, R_7, R_8, R_9, R_10, R_11⟩ := blk12 HR.out
 obtain ⟨S_0, S_1⟩ := blk2 HS.out
 have hXX : ((w3.alloc (.cells #[.int .u32 r, .int .u32 s] 72))).heap[w.heap.size + 1]? = some (.cells #[.int .u32 0, .int .u32 0, .int .u32 0, .int .u32 0, .int .u16 0, .int .u16 0, .int .u16 0, .int .u16 0, .int .u8 0, .int .u8 0] 74) := (blk_alloc HX.out _)
 go_wp2_with (refine wpList_store_blk rfl 74 (.tmp 2) (.tmp 39) rfl (w.heap.size + 1) 0 #[.int .u32 p, .int .u32 q, .int .u32 r, .int .u32 s, .int .u16 R.p.1, .int .u16 R.p.2, .int .u16 R.q.1, .int .u16 R.q.2, .int .u8 R.m.1, .int .u8 R.m.2] #[.int .u32 p, .int .u32 q, .int .u32 r, .int .u32 s, .int .u16 R.p.1, .int .u16 R.p.2, .int .u16 R.q.1, .int .u16 R.q.2, .int .u8 R.m.1, .int .u8 R.m.2] rfl rfl 74 _ hXX (Nat.le_of_ble_eq_true rfl) rfl (by kernel_rfl) rfl ?_; intro w8 hw8 how8)
 have hbl9 : Below w.heap.size w w8 := (ct_bel_step hbl3.out (ct_bel_a1 _ _) (Below.refl _ _)).trans (how8.below (by omega))
 exact bodyPost_ret (results_blk2 Tryz.results81 rfl hw8 Tryz.underlying74 rfl (by kernel_rfl)) rfl ⟨rfl, hbl9⟩
theorem wholeC (w : World) : Calls Tryz.prog 80 #[] w fun e w' => e = .returned (.agg #[.int .u32 0, .int .u32 4294967295, .int .u32 0, .int .u32 4294967295, .int .u16 0, .int .u16 65535, .int .u16 0, .int .u16 65535, .int .u8 0, .int .u8 0]) ∧ Below w.heap.size w w' := by
 go_enter Tryz.func80, Tryz.ntmps80
 go_wp2
 exact bodyPost_ret (v := .agg #[.int .u32 0, .int .u32 4294967295, .int .u32 0, .int .u32 4294967295, .int .u16 0, .int .u16 65535, .int .u16 0, .int .u16 65535, .int .u8 0, .int .u8 0]) (by simp [results, Tryz.results80, go_sem]) rfl ⟨rfl, belA⟩
structure AllS (w W : World) (Bp : Nat) (ad : Option Addr) (m cap : Nat) (R : List CtE) : Prop where
 hr : W.heap[w.heap.size]? = some (.cells #[.int .u32 0, .int .u32 0, .int .u32 0, .int .u32 0, .int .u16 0, .int .u16 0, .int .u16 0, .int .u16 0, .int .u8 0, .int .u8 0, .slice none 0 0] 135)
 hp : W.heap[Bp]? = some (.cells #[.int .u32 0, .int .u32 4294967295, .int .u32 0, .int .u32 4294967295, .int .u16 0, .int .u16 65535, .int .u16 0, .int .u16 65535, .int .u8 0, .int .u8 0, .slice ad m cap] 135)
 row : RowZ W (w.heap.size + 1) (.slice ad m cap) R
 ne : w.heap.size < Bp ∧ ad ≠ some ⟨Bp, 0, none⟩
 bel : Below w.heap.size w W
theorem AllS.on {w W W1 : World} {Bp : Nat} {ad : Option Addr} {m cap : Nat} {R : List CtE} (h : AllS w W Bp ad m cap R) (hb : Below W.heap.size W W1) : AllS w W1 Bp ad m cap R :=
 ⟨blk_on h.hr hb, blk_on h.hp hb, h.row.on hb, h.ne, h.bel.trans (hb.mono h.bel.size)⟩
theorem AllS.app {w W W' : World} {Bp : Nat} {ad : Option Addr} {m cap g' m' cap' : Nat} {R R' : List CtE} (h : AllS w W Bp ad m cap R) (hr : RowZ W' (w.heap.size + 1) (.slice (some ⟨g', 0, none⟩) m' cap') R') (hg : W.grownBy W' (Value.slice ad m cap).ownBlock) (hat : some g' = (Value.slice ad m cap).ownBlock ∨ g' = W.heap.size) :
  W'.heap[Bp]? = some (.cells #[.int .u32 0, .int .u32 4294967295, .int .u32 0, .int .u32 4294967295, .int .u16 0, .int .u16 65535, .int .u16 0, .int .u16 65535, .int .u8 0, .int .u8 0, .slice ad m cap] 135) ∧ AllS w (W'.setCell ⟨Bp, 10, none⟩ (.slice (some ⟨g', 0, none⟩) m' cap')) Bp (some ⟨g', 0, none⟩) m' cap' R' := by
 obtain ⟨n1, n2⟩ := h.ne
 have l1 := blk_lt h.hp
 have l0 := blk_lt h.hr
 have l2 := h.bel.size
 have hv := fun k hk => h.row.lt k hk
 have nB : some Bp ≠ (Value.slice ad m cap).ownBlock := fun e => by
  rcases h.row.2 with ⟨e1, _⟩ | ⟨g, c, cur, e1, _⟩
  ·rw [e1] at e; cases e
  ·have e2 : ad = some ⟨g, 0, none⟩ := by injection e1
   rw [e1] at e
   have e3 : Bp = g := by injection e
   exact n2 (by rw [e2, e3])
 have n0 : some w.heap.size ≠ (Value.slice ad m cap).ownBlock := fun e => by have := (hv _ e.symm).1; omega
 have hB : W'.heap[Bp]? = some (.cells #[.int .u32 0, .int .u32 4294967295, .int .u32 0, .int .u32 4294967295, .int .u16 0, .int .u16 65535, .int .u16 0, .int .u16 65535, .int .u8 0, .int .u8 0, .slice ad m cap] 135) := by rw [hg.block Bp l1 nB]; exact h.hp
 have h0 : W'.heap[w.heap.size]? = some (.cells #[.int .u32 0, .int .u32 0, .int .u32 0, .int .u32 0, .int .u16 0, .int .u16 0, .int .u16 0, .int .u16 0, .int .u8 0, .int .u8 0, .slice none 0 0] 135) := by rw [hg.block _ l0 n0]; exact h.hr
 have n4 : Bp ≠ g' := by
  rcases hat with e | e
  ·intro e'; rw [← e'] at e; exact nB e
  ·omega
 refine ⟨hB, blk_far h0 (by omega) _, by simpa using blk_set (j := 10) hB (.slice (some ⟨g', 0, none⟩) m' cap'), hr.put (by simp [Value.ownBlock]; exact n4) _, ⟨n1, by intro e; injection e with e; injection e with e; exact n4 e.symm⟩, ?_⟩
 exact (Below.grown h.bel hg h.bel.size (fun k hk => by have := (hv k hk).1; omega)).setCell (by simp; omega) _
set_option maxRecDepth 20000 in
set_option maxHeartbeats 16000000 in
theorem allPC (u : Value) (l : List Ru) (w : World) (hs : SrcU w u l) (hl : l.length ≤ 64) (hok : ∀ R ∈ l, okR R = true) (hbd : ∀ R ∈ l, BdR R) :
  Calls Tryz.prog 62 #[u] w fun e w' => ∃ q : Pt, e = .returned (.agg #[.int .u32 q.x.a.1, .int .u32 q.x.a.2, .int .u32 q.x.b.1, .int .u32 q.x.b.2, .int .u16 q.x.c.1, .int .u16 q.x.c.2, .int .u16 q.x.d.1, .int .u16 q.x.d.2, .int .u8 q.x.m.1, .int .u8 q.x.m.2, .slice q.ad q.n q.cap]) ∧ q.x = wholeP ∧ RowZ w' w.heap.size (.slice q.ad q.n q.cap) (allK l 0) ∧ Below w.heap.size w w' := by
 obtain ⟨au, cu, rfl, hcu, hat⟩ := id hs
 have HU : Hid (∀ k (hk : k < l.length), ∃ g off, au = some ⟨g, off, none⟩ ∧ g < w.heap.size ∧ w.rangeAt g (off + k * 12) (encU (l[k]'hk))) := fun k hk => by
  obtain ⟨g, off, e, h3⟩ := hat (by omega)
  have key : w.rangeAt g (off + k * 12) (encU (l[k]'hk)) := fun j x hx => by
   have hj : j < 12 := by
    have := (List.getElem?_eq_some_iff.1 hx).1
    simpa [encU] using this
   have := h3 k hk j hj
   rw [show off + k * 12 + j = off + (k * 12 + j) by omega]
   exact this.trans hx
  exact ⟨g, off, e, World.block_lt_of_cell? w _ (key 0 _ rfl), key⟩
 obtain ⟨n, hn⟩ : ∃ n, n = l.length := ⟨_, rfl⟩
 have Hn : Hid (n = l.length) := hn
 rw [← hn] at hl hcu ⊢
 have HOk : Hid (∀ R ∈ l, okR R = true) := hok
 have HBd : Hid (∀ R ∈ l, BdR R) := hbd
 have HW : Hid (∀ W, _) := fun W => wholeC W
 clear hs hat hok hbd hn
 have hz0 := blk_new w (.cells #[.int .u32 0, .int .u32 0, .int .u32 0, .int .u32 0, .int .u16 0, .int .u16 0, .int .u16 0, .int .u16 0, .int .u8 0, .int .u8 0, .slice none 0 0] 135)
 have HZ0 : Hid ((w.alloc (.cells #[.int .u32 0, .int .u32 0, .int .u32 0, .int .u32 0, .int .u16 0, .int .u16 0, .int .u16 0, .int .u16 0, .int .u8 0, .int .u8 0, .slice none 0 0] 135)).heap[w.heap.size]? = some (.cells #[.int .u32 0, .int .u32 0, .int .u32 0, .int .u32 0, .int .u16 0, .int .u16 0, .int .u16 0, .int .u16 0, .int .u8 0, .int .u8 0, .slice none 0 0] 135)) := hz0
 have HB0 : Hid (Below w.heap.size w (w.alloc (.cells #[.int .u32 0, .int .u32 0, .int .u32 0, .int .u32 0, .int .u16 0, .int .u16 0, .int .u16 0, .int .u16 0, .int .u8 0, .int .u8 0, .slice none 0 0] 135))) := (Below.refl _ _).alloc (Nat.le_refl _) _
 clear hz0
 go_enter Tryz.func62, Tryz.ntmps62
 go_upto_region 2 with (first | (go_at_call 80; refine (HW.out _).mono ?_; rintro e w1 ⟨rfl, hb1⟩; have Hb1 : Hid _ := hb1; have HZ1 : Hid ((w1.alloc (.cells #[.int .u32 0, .int .u32 0, .int .u32 0, .int .u32 0, .int .u16 0, .int .u16 0, .int .u16 0, .int .u16 0, .int .u8 0, .int .u8 0, .slice none 0 0] 135)).heap[w1.heap.size]? = some (.cells #[.int .u32 0, .int .u32 0, .int .u32 0, .int .u32 0, .int .u16 0, .int .u16 0, .int .u16 0, .int .u16 0, .int .u8 0, .int .u8 0, .slice none 0 0] 135)) := blk_new _ _; clear hb1) | (refine wpList_store_blk rfl 135 (.tmp 3) (.tmp 9) rfl w1.heap.size 0 #[.int .u32 0, .int .u32 4294967295, .int .u32 0, .int .u32 4294967295, .int .u16 0, .int .u16 65535, .int .u16 0, .int .u16 65535, .int .u8 0, .int .u8 0, .slice none 0 0] #[.int .u32 0, .int .u32 4294967295, .int .u32 0, .int .u32 4294967295, .int .u16 0, .int .u16 65535, .int .u16 0, .int .u16 65535, .int .u8 0, .int .u8 0, .slice none 0 0] rfl rfl 135 _ HZ1.out (Nat.le_of_ble_eq_true rfl) rfl (by kernel_rfl) rfl ?_; intro w2 hw2 ho2))
 have h1 : Below w.heap.size w w1 := HB0.out.trans (Hb1.out.mono HB0.out.size)
 have h2 : Below w1.heap.size w1 w2 := ((Below.refl _ _).alloc (Nat.le_refl _) _).trans (ho2.below (Nat.le_refl _))
 have hlt : w.heap.size < w1.heap.size := Nat.lt_of_lt_of_le (by simp) Hb1.out.size
 have HA0 : Hid (AllS w w2 w1.heap.size none 0 0 []) := ⟨blk_on (blk_on HZ0.out Hb1.out) h2, hw2, RowZ.nil _ _, ⟨hlt, by simp⟩, h1.trans (h2.mono h1.size)⟩
 obtain ⟨Bp, hBp⟩ : ∃ Bp, Bp = w1.heap.size := ⟨_, rfl⟩
 rw [← hBp] at HA0
 try rw [← hBp]
 clear hBp h1 h2 hlt hw2 ho2 HZ1 Hb1 HZ0 HB0
 go_wp2_with (fail)
 go_loopw [12] (fun vi wr => ∃ (k m cap1 : Nat) (ad : Option Addr) (R : List CtE), k ≤ n ∧ m ≤ k ∧ vi = .int .i64 k ∧ Hid (AllS w wr Bp ad m cap1 R) ∧ Hid (allK l 0 = R ++ allK (l.drop k) k)) (fun vi _ => n - (intOf vi).toNat)
 case atStart => exact ⟨0, 0, 0, none, [], Nat.zero_le _, Nat.zero_le _, rfl, HA0.out, by show _ = _; simp⟩
 case round =>
  clear HA0
  obtain ⟨k, m, cap1, ad, R, hk, hmk, rfl, HA, HE⟩ := hrel
  by_cases hlt : k < n
  ·have hkL : k < l.length := by rw [← Hn.out]; exact hlt
   obtain ⟨gl, off, rfl, hgl, hr1⟩ := HU.out k hkL
   have hdr : l.drop k = l[k] :: l.drop (k + 1) := List.drop_eq_getElem_cons hkL
   have ho := HOk.out l[k] (List.getElem_mem _)
   have hbr := HBd.out l[k] (List.getElem_mem _)
   obtain ⟨r, hr⟩ : ∃ r, r = l[k] := ⟨_, rfl⟩
   rw [← hr] at hr1 hdr ho hbr
   clear hr
   have HBx : Hid (∀ W, _) := fun W => boxYC r W hbr ho
   have HDr : Hid (l.drop k = r :: l.drop (k + 1)) := hdr
   have HR1 : Hid (wr.rangeAt gl (off + k * 12) (#[.int .i64 r.i, .int .u32 r.s, .int .i64 r.sl, .int .u32 r.d, .int .i64 r.dl, .int .u16 r.p.1, .int .u16 r.p.2, .int .u16 r.q.1, .int .u16 r.q.2, .int .u8 r.m.1, .int .u8 r.m.2, .int .i64 r.act] : Array Value).toList) := rng_bel HA.out.bel hgl hr1
   have HZ : Hid ((wr.alloc (.cells #[.int .i64 0, .int .u32 0, .int .i64 0, .int .u32 0, .int .i64 0, .int .u16 0, .int .u16 0, .int .u16 0, .int .u16 0, .int .u8 0, .int .u8 0, .int .i64 0] 64)).heap[wr.heap.size]? = some (.cells #[.int .i64 0, .int .u32 0, .int .i64 0, .int .u32 0, .int .i64 0, .int .u16 0, .int .u16 0, .int .u16 0, .int .u16 0, .int .u8 0, .int .u8 0, .int .i64 0] 64)) := blk_new _ _
   have hkn : (k : Int) < (n : Int) := by omega
   have hk0 : (0 : Int) ≤ (k : Int) := by omega
   clear hr1 hdr ho hbr
   go_upto_region 5 with (first | (refine ct_loadL rfl 64 (.tmp 15) rfl gl (off + k * 12) #[.int .i64 r.i, .int .u32 r.s, .int .i64 r.sl, .int .u32 r.d, .int .i64 r.dl, .int .u16 r.p.1, .int .u16 r.p.2, .int .u16 r.q.1, .int .u16 r.q.2, .int .u8 r.m.1, .int .u8 r.m.2, .int .i64 r.act] rfl HR1.out Tryz.underlying64 rfl (by kernel_rfl) ?_) | (refine wpList_store_blk rfl 64 (.tmp 5) (.tmp 16) rfl wr.heap.size 0 #[.int .i64 r.i, .int .u32 r.s, .int .i64 r.sl, .int .u32 r.d, .int .i64 r.dl, .int .u16 r.p.1, .int .u16 r.p.2, .int .u16 r.q.1, .int .u16 r.q.2, .int .u8 r.m.1, .int .u8 r.m.2, .int .i64 r.act] #[.int .i64 r.i, .int .u32 r.s, .int .i64 r.sl, .int .u32 r.d, .int .i64 r.dl, .int .u16 r.p.1, .int .u16 r.p.2, .int .u16 r.q.1, .int .u16 r.q.2, .int .u8 r.m.1, .int .u8 r.m.2, .int .i64 r.act] rfl rfl 64 _ HZ.out (Nat.le_of_ble_eq_true rfl) rfl (by kernel_rfl) rfl ?_; intro w3 hw3 ho3))
   have hb3 : Below wr.heap.size wr w3 := ((Below.refl _ _).alloc (Nat.le_refl _) _).trans (ho3.below (Nat.le_refl _))
   have HA3 : Hid (AllS w w3 Bp ad m cap1 R) := HA.out.on hb3
   have HR3 : Hid (w3.rangeAt wr.heap.size 0 (#[.int .i64 r.i, .int .u32 r.s, .int .i64 r.sl, .int .u32 r.d, .int .i64 r.dl, .int .u16 r.p.1, .int .u16 r.p.2, .int .u16 r.q.1, .int .u16 r.q.2, .int .u8 r.m.1, .int .u8 r.m.2, .int .i64 r.act] : Array Value).toList) := rngAll hw3
   obtain ⟨Be, hBe⟩ : ∃ Be, Be = wr.heap.size := ⟨_, rfl⟩
   rw [← hBe] at HR3
   try rw [← hBe]
   clear HA HR1 HZ hw3 ho3 hb3 hBe
   go_upto_region 6 with (first | (refine ct_loadL rfl 64 (.tmp 5) rfl Be 0 #[.int .i64 r.i, .int .u32 r.s, .int .i64 r.sl, .int .u32 r.d, .int .i64 r.dl, .int .u16 r.p.1, .int .u16 r.p.2, .int .u16 r.q.1, .int .u16 r.q.2, .int .u8 r.m.1, .int .u8 r.m.2, .int .i64 r.act] rfl HR3.out Tryz.underlying64 rfl (by kernel_rfl) ?_) | (go_at_call 81; refine (HBx.out _).mono ?_; rintro e w4 ⟨rfl, hb4⟩; have Hb4 : Hid _ := hb4; clear hb4; have HZ4 : Hid ((w4.alloc (.cells #[.int .u32 0, .int .u32 0, .int .u32 0, .int .u32 0, .int .u16 0, .int .u16 0, .int .u16 0, .int .u16 0, .int .u8 0, .int .u8 0] 74)).heap[w4.heap.size]? = some (.cells #[.int .u32 0, .int .u32 0, .int .u32 0, .int .u32 0, .int .u16 0, .int .u16 0, .int .u16 0, .int .u16 0, .int .u8 0, .int .u8 0] 74)) := blk_new _ _) | (refine wpList_store_blk rfl 74 (.tmp 6) (.tmp 20) rfl w4.heap.size 0 #[.int .u32 ((boxY r).a.1 : Int), .int .u32 ((boxY r).a.2 : Int), .int .u32 ((boxY r).b.1 : Int), .int .u32 ((boxY r).b.2 : Int), .int .u16 ((boxY r).c.1 : Int), .int .u16 ((boxY r).c.2 : Int), .int .u16 ((boxY r).d.1 : Int), .int .u16 ((boxY r).d.2 : Int), .int .u8 ((boxY r).m.1 : Int), .int .u8 ((boxY r).m.2 : Int)] #[.int .u32 ((boxY r).a.1 : Int), .int .u32 ((boxY r).a.2 : Int), .int .u32 ((boxY r).b.1 : Int), .int .u32 ((boxY r).b.2 : Int), .int .u16 ((boxY r).c.1 : Int), .int .u16 ((boxY r).c.2 : Int), .int .u16 ((boxY r).d.1 : Int), .int .u16 ((boxY r).d.2 : Int), .int .u8 ((boxY r).m.1 : Int), .int .u8 ((boxY r).m.2 : Int)] rfl rfl 74 _ HZ4.out (Nat.le_of_ble_eq_true rfl) rfl (by kernel_rfl) rfl ?_; intro w5 hw5 ho5))
   have hb5 : Below w4.heap.size w4 w5 := ((Below.refl _ _).alloc (Nat.le_refl _) _).trans (ho5.below (Nat.le_refl _))
   have HA5 : Hid (AllS w w5 Bp ad m cap1 R) := (HA3.out.on Hb4.out).on hb5
   have HX5 : Hid (w5.rangeAt w4.heap.size 0 (#[.int .u32 ((boxY r).a.1 : Int), .int .u32 ((boxY r).a.2 : Int), .int .u32 ((boxY r).b.1 : Int), .int .u32 ((boxY r).b.2 : Int), .int .u16 ((boxY r).c.1 : Int), .int .u16 ((boxY r).c.2 : Int), .int .u16 ((boxY r).d.1 : Int), .int .u16 ((boxY r).d.2 : Int), .int .u8 ((boxY r).m.1 : Int), .int .u8 ((boxY r).m.2 : Int)] : Array Value).toList) := rngAll hw5
   obtain ⟨Bb, hBb⟩ : ∃ Bb, Bb = w4.heap.size := ⟨_, rfl⟩
   rw [← hBb] at HX5
   try rw [← hBb]
   clear HA3 HR3 Hb4 HZ4 hw5 ho5 hb5 hBb
   obtain ⟨C, hC⟩ : ∃ C, C = boxY r := ⟨_, rfl⟩
   have HC : Hid (C = boxY r) := hC
   rw [← hC] at HX5
   clear hC
   have c10 : w5.cell? ⟨Bp, 10, none⟩ = some (.slice ad m cap1) := blk_cell HA5.out.hp rfl
   have hbA : Below w5.heap.size w5 (w5.alloc (.cells #[.int .i64 k, .int .u32 C.a.1, .int .u32 C.a.2, .int .u32 C.b.1, .int .u32 C.b.2, .int .u16 C.c.1, .int .u16 C.c.2, .int .u16 C.d.1, .int .u16 C.d.2, .int .u8 C.m.1, .int .u8 C.m.2] 159)) := (Below.refl _ _).alloc (Nat.le_refl _) _
   have HAa : Hid (AllS w (w5.alloc (.cells #[.int .i64 k, .int .u32 C.a.1, .int .u32 C.a.2, .int .u32 C.b.1, .int .u32 C.b.2, .int .u16 C.c.1, .int .u16 C.c.2, .int .u16 C.d.1, .int .u16 C.d.2, .int .u8 C.m.1, .int .u8 C.m.2] 159)) Bp ad m cap1 R) := HA5.out.on hbA
   have rr : Hid _ := HAa.out.row
   have ro : Hid (SrcZ (w5.alloc (.cells #[.int .i64 k, .int .u32 C.a.1, .int .u32 C.a.2, .int .u32 C.b.1, .int .u32 C.b.2, .int .u16 C.c.1, .int .u16 C.c.2, .int .u16 C.d.1, .int .u16 C.d.2, .int .u8 C.m.1, .int .u8 C.m.2] 159)) (.slice (some ⟨w5.heap.size, 0, none⟩) 1 1) [((k, C) : CtE)]) := (RowZ.one w5 0 ((k, C) : CtE) (Nat.zero_le _)).src
   have hR := rowZ_n HA5.out.row
   have sz : Hid (w.heap.size + 1 ≤ (w5.alloc (.cells #[.int .i64 k, .int .u32 C.a.1, .int .u32 C.a.2, .int .u32 C.b.1, .int .u32 C.b.2, .int .u16 C.c.1, .int .u16 C.c.2, .int .u16 C.d.1, .int .u16 C.d.2, .int .u8 C.m.1, .int .u8 C.m.2] 159)).heap.size) := by have := blk_lt HAa.out.hr; exact this
   have ln : Hid (R.length + [((k, C) : CtE)].length ≤ 4294967296) := by show R.length + 1 ≤ _; omega
   have el : Hid ((R ++ [((k, C) : CtE)]).length = m + 1) := by show _ = _; rw [List.length_append, ← hR]; rfl
   clear hR
   go_upto_region 7 with (first | (refine ct_loadL rfl 74 (.tmp 6) rfl Bb 0 #[.int .u32 C.a.1, .int .u32 C.a.2, .int .u32 C.b.1, .int .u32 C.b.2, .int .u16 C.c.1, .int .u16 C.c.2, .int .u16 C.d.1, .int .u16 C.d.2, .int .u8 C.m.1, .int .u8 C.m.2] rfl HX5.out Tryz.underlying74 rfl (by kernel_rfl) ?_) | (at_builtin; refine wpList_appendSZ rfl (.tmp 23) (.tmp 27) rfl (w.heap.size + 1) (.slice ad m cap1) R rfl rr.out _ [((k, C) : CtE)] rfl ro.out sz.out ln.out ?_; intro v6 w6 hr6 hg6 hat6; have hs6 := hr6.some (by simp); rw [el.out] at hs6; obtain ⟨g6, cap6, rfl, h6c, h6b, h6l⟩ := hs6; obtain ⟨hB6, hA6⟩ := HAa.out.app hr6 hg6 (hat6.imp id (fun e => Option.some.inj e)); have c6 := blk_cell (j := 10) hB6 rfl; have f6 := blk_free hB6 10))
   have HA6 : Hid (AllS w (w6.setCell ⟨Bp, 10, none⟩ (.slice (some ⟨g6, 0, none⟩) (m + 1) cap6)) Bp (some ⟨g6, 0, none⟩) (m + 1) cap6 (R ++ [((k, C) : CtE)])) := hA6
   clear c10 hbA HAa rr ro sz ln el hr6 hg6 hat6 h6c h6b h6l hB6 hA6 c6 f6 HX5 HA5
   generalize w6.setCell ⟨Bp, 10, none⟩ (.slice (some ⟨g6, 0, none⟩) (m + 1) cap6) = w7 at *
   have hlen : (R ++ [((k, C) : CtE)]).length ≤ 4096 := by have := rowZ_n HA6.out.row; omega
   have hset := settledC Bp ⟨wholeP, some ⟨g6, 0, none⟩, m + 1, cap6⟩ (R ++ [((k, C) : CtE)]) w7 HA6.out.hp HA6.out.row.src hlen
   rw [lastZ_snoc] at hset
   have hE1 := HE.out
   rw [HDr.out, allK, ← HC.out] at hE1
   clear hlen
   by_cases hq : C = wholeP
   ·rw [show decide ((((k, C) : CtE)).2 = wholeP) = true from decide_eq_true hq] at hset
    rw [if_pos hq] at hE1
    have HE1 : Hid _ := hE1
    have HQ : Hid (C = wholeP) := hq
    clear hE1 hq
    go_wp2_with (first | (go_at_call 82; refine hset.mono ?_; rintro e9 w8 ⟨rfl, hb8⟩; have HA8 : Hid (AllS w w8 Bp (some ⟨g6, 0, none⟩) (m + 1) cap6 (R ++ [((k, C) : CtE)])) := HA6.out.on hb8; have Hr : Hid (w8.rangeAt Bp 0 (#[.int .u32 0, .int .u32 4294967295, .int .u32 0, .int .u32 4294967295, .int .u16 0, .int .u16 65535, .int .u16 0, .int .u16 65535, .int .u8 0, .int .u8 0, .slice (some ⟨g6, 0, none⟩) (m + 1) cap6] : Array Value).toList) := rngAll HA8.out.hp; clear hb8) | (refine ct_loadL rfl 135 (.tmp 3) rfl Bp 0 #[.int .u32 0, .int .u32 4294967295, .int .u32 0, .int .u32 4294967295, .int .u16 0, .int .u16 65535, .int .u16 0, .int .u16 65535, .int .u8 0, .int .u8 0, .slice (some ⟨g6, 0, none⟩) (m + 1) cap6] rfl Hr.out Tryz.underlying135 rfl (by kernel_rfl) ?_) | (refine wpList_store_blk rfl 135 (.tmp 2) (.tmp 32) rfl w.heap.size 0 #[.int .u32 0, .int .u32 4294967295, .int .u32 0, .int .u32 4294967295, .int .u16 0, .int .u16 65535, .int .u16 0, .int .u16 65535, .int .u8 0, .int .u8 0, .slice (some ⟨g6, 0, none⟩) (m + 1) cap6] #[.int .u32 0, .int .u32 4294967295, .int .u32 0, .int .u32 4294967295, .int .u16 0, .int .u16 65535, .int .u16 0, .int .u16 65535, .int .u8 0, .int .u8 0, .slice (some ⟨g6, 0, none⟩) (m + 1) cap6] rfl rfl 135 _ HA8.out.hr (Nat.le_of_ble_eq_true rfl) rfl (by kernel_rfl) rfl ?_; intro wz hwz hoz))
    refine bodyPost_ret (results_blk Tryz.results62 rfl hwz Tryz.underlying135 rfl (by kernel_rfl)) rfl ⟨⟨wholeP, some ⟨g6, 0, none⟩, m + 1, cap6⟩, rfl, rfl, ?_, HA8.out.bel.trans (hoz.below (Nat.le_refl _))⟩
    have hrow := (rowZ_stay HA8.out.row (fun k hk => hoz.block k (by have := (HA8.out.row.lt k hk).1; omega))).base (Nat.le_succ _)
    rw [HE1.out]
    exact hrow
   ·rw [show decide ((((k, C) : CtE)).2 = wholeP) = false from decide_eq_false hq] at hset
    rw [if_neg hq] at hE1
    have HE1 : Hid _ := hE1
    clear hE1 hq
    go_wp2_with (go_at_call 82; refine hset.mono ?_; rintro e9 w8 ⟨rfl, hb8⟩; have HA8 : Hid (AllS w w8 Bp (some ⟨g6, 0, none⟩) (m + 1) cap6 (R ++ [((k, C) : CtE)])) := HA6.out.on hb8; clear hb8)
    go_roundw
    case rel => exact ⟨k + 1, m + 1, cap6, some ⟨g6, 0, none⟩, R ++ [((k, C) : CtE)], by omega, by omega, by go_num, HA8.out, by show _ = _; rw [HE1.out]; simp⟩
    case measure => simp [intOf]; omega
  ·obtain rfl : k = n := by omega
   have Hr : Hid (wr.rangeAt Bp 0 (#[.int .u32 0, .int .u32 4294967295, .int .u32 0, .int .u32 4294967295, .int .u16 0, .int .u16 65535, .int .u16 0, .int .u16 65535, .int .u8 0, .int .u8 0, .slice ad m cap1] : Array Value).toList) := rngAll HA.out.hp
   go_wp2_with (first | (refine ct_loadL rfl 135 (.tmp 3) rfl Bp 0 #[.int .u32 0, .int .u32 4294967295, .int .u32 0, .int .u32 4294967295, .int .u16 0, .int .u16 65535, .int .u16 0, .int .u16 65535, .int .u8 0, .int .u8 0, .slice ad m cap1] rfl Hr.out Tryz.underlying135 rfl (by kernel_rfl) ?_) | (refine wpList_store_blk rfl 135 (.tmp 2) (.tmp 32) rfl w.heap.size 0 #[.int .u32 0, .int .u32 4294967295, .int .u32 0, .int .u32 4294967295, .int .u16 0, .int .u16 65535, .int .u16 0, .int .u16 65535, .int .u8 0, .int .u8 0, .slice ad m cap1] #[.int .u32 0, .int .u32 4294967295, .int .u32 0, .int .u32 4294967295, .int .u16 0, .int .u16 65535, .int .u16 0, .int .u16 65535, .int .u8 0, .int .u8 0, .slice ad m cap1] rfl rfl 135 _ HA.out.hr (Nat.le_of_ble_eq_true rfl) rfl (by kernel_rfl) rfl ?_; intro wz hwz hoz))
   refine bodyPost_ret (results_blk Tryz.results62 rfl hwz Tryz.underlying135 rfl (by kernel_rfl)) rfl ⟨⟨wholeP, ad, m, cap1⟩, rfl, rfl, ?_, HA.out.bel.trans (hoz.below (Nat.le_refl _))⟩
   have hrow := (rowZ_stay HA.out.row (fun k hk => hoz.block k (by have := (HA.out.row.lt k hk).1; omega))).base (Nat.le_succ _)
   have h1 := HE.out
   rw [List.drop_eq_nil_of_le (by have := Hn.out; omega), allK, List.append_nil] at h1
   rw [h1]
   exact hrow
end Go.Proofs.YtgokmkholjfhbaaGreat

