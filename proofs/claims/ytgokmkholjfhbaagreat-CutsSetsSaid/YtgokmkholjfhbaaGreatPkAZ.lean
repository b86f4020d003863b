/-
  PkAZ: CtS, one behind the other (tools/pack.py).
-/
import Derived.Test.YtgokmkholjfhbaaGreatPkAS
import Derived.Test.YtgokmkholjfhbaaGreatPkAU
import Derived.Test.YtgokmkholjfhbaaGreatPkAW
import Derived.Test.YtgokmkholjfhbaaGreatPkAY
import Derived.Test.YtgokmkholjfhbaaGreatPkAE
set_option linter.unusedVariables false
set_option linter.unusedSimpArgs false
namespace Go.Proofs.YtgokmkholjfhbaaGreat
open Go.RowKit
theorem cutsK_succ (P : Part) (k : Nat) : cutsK P (k + 1) = match tryF k P with
  | none => cutsK P k
  | some c => cutsK P k ++ [c] := rfl
theorem RelQ.small {W : World} {b : Nat} {n : Nat} : ∀ {cs : List Ct2} {ds : List (Part × Part)}, RelQ W b cs ds → (∀ d ∈ ds, d.1.2.length ≤ n ∧ d.2.2.length ≤ n) → n ≤ 4096 → ∀ c ∈ cs, SmallQ c
 | [], [], _, _, _, c, hc => by cases hc
 | c :: cs, d :: ds, h, hd, hn, x, hx => by
  rcases List.mem_cons.1 hx with rfl | hx
  ·have := hd d (List.mem_cons_self ..)
   unfold SmallQ
   rw [rowZ_n h.1.rx, rowZ_n h.1.ry]
   omega
  ·exact RelQ.small h.2 (fun e he => hd e (List.mem_cons_of_mem _ he)) hn x hx
 | [], d :: ds, h, _, _, _, _ => h.elim
 | c :: cs, [], h, _, _, _, _ => h.elim
theorem tryF_len {i : Nat} {P : Part} {d : Part × Part} (h : tryF i P = some d) : d.1.2.length ≤ P.2.length ∧ d.2.2.length ≤ P.2.length := by
 unfold tryF at h
 split at h
 ·cases h
 ·cases h
  exact ⟨nar_len _, nar_len _⟩
theorem RelQ.only {W W1 : World} {b B : Nat} (ho : Only B W W1) (hB : B < b) : ∀ {cs : List Ct2} {ds : List (Part × Part)}, RelQ W b cs ds → RelQ W1 b cs ds
 | [], [], _ => trivial
 | c :: cs, d :: ds, h => ⟨⟨h.1.x, h.1.y, rowZ_stay h.1.rx (fun k hk => ho.block k (by have := (h.1.rx.lt k hk).1; omega)), rowZ_stay h.1.ry (fun k hk => ho.block k (by have := (h.1.ry.lt k hk).1; omega))⟩, RelQ.only ho hB h.2⟩
 | [], d :: ds, h => h.elim
 | c :: cs, [], h => h.elim
theorem CtR.only {W W1 : World} {b B : Nat} {c : Ct2} {d : Part × Part} (h : CtR W b c d) (ho : Only B W W1) (hB : B < b) : CtR W1 b c d :=
 ⟨h.x, h.y, rowZ_stay h.rx (fun k hk => ho.block k (by have := (h.rx.lt k hk).1; omega)), rowZ_stay h.ry (fun k hk => ho.block k (by have := (h.ry.lt k hk).1; omega))⟩
theorem rowZ_q {W : World} {b b' k : Nat} {v u : Value} {l : List CtE} {m : List Ct2} (h : RowZ W b v l) (h' : RowQ W b' u m) (hv : v.ownBlock = some k) : u.ownBlock ≠ some k := by
 intro hu
 rcases h.2 with ⟨e, _⟩ | ⟨g, cap, cur, e, _, hh, _⟩
 ·rw [e] at hv; cases hv
 ·rcases h'.2 with ⟨e', _⟩ | ⟨g', cap', cur', e', _, hh', _⟩
  ·rw [e'] at hu; cases hu
  ·rw [e] at hv
   rw [e'] at hu
   simp [Value.ownBlock] at hv hu
   subst hv
   rw [hu] at hh'
   rw [hh] at hh'
   simp at hh'
theorem RowZ.grownQ {W W1 : World} {b b' : Nat} {v u : Value} {l : List CtE} {m : List Ct2} (h : RowZ W b v l) (h' : RowQ W b' u m) (hg : W.grownBy W1 u.ownBlock) : RowZ W1 b v l :=
 rowZ_stay h (fun k hk => hg.block k (h.lt k hk).2 (fun e => rowZ_q h h' hk e.symm))
theorem RelQ.grownQ {W W1 : World} {b b' : Nat} {u : Value} {m : List Ct2} (h' : RowQ W b' u m) (hg : W.grownBy W1 u.ownBlock) : ∀ {cs : List Ct2} {ds : List (Part × Part)}, RelQ W b cs ds → RelQ W1 b cs ds
 | [], [], _ => trivial
 | c :: cs, d :: ds, h => ⟨⟨h.1.x, h.1.y, h.1.rx.grownQ h' hg, h.1.ry.grownQ h' hg⟩, RelQ.grownQ h' hg h.2⟩
 | [], d :: ds, h => h.elim
 | c :: cs, [], h => h.elim
theorem hid_of {p : Prop} (h : p) : Hid p := h
structure BesS (w W : World) (X : Xb.Bx) (ad : Option Addr) (n cap : Nat) (L : List CtE) (v : Value) (cs : List Ct2) (k : Nat) : Prop where
 hp : W.heap[w.heap.size]? = some (.cells #[.int .u32 X.a.1, .int .u32 X.a.2, .int .u32 X.b.1, .int .u32 X.b.2, .int .u16 X.c.1, .int .u16 X.c.2, .int .u16 X.d.1, .int .u16 X.d.2, .int .u8 X.m.1, .int .u8 X.m.2, .slice ad n cap] 135)
 hz : W.heap[w.heap.size + 1]? = some (.cells #[.int .u32 0, .int .u32 0, .int .u32 0, .int .u32 0, .int .u16 0, .int .u16 0, .int .u16 0, .int .u16 0, .int .u8 0, .int .u8 0, .slice none 0 0, .int .u32 0, .int .u32 0, .int .u32 0, .int .u32 0, .int .u16 0, .int .u16 0, .int .u16 0, .int .u16 0, .int .u8 0, .int .u8 0, .slice none 0 0] 153)
 row : RowQ W (w.heap.size + 1 + 1) v cs
 rel : RelQ W (w.heap.size + 1 + 1) cs (cutsK (X, L) k)
 bel : Below w.heap.size w W
theorem BesS.on {w W W1 : World} {X : Xb.Bx} {ad : Option Addr} {n cap : Nat} {L : List CtE} {v : Value} {cs : List Ct2} {k : Nat} (h : BesS w W X ad n cap L v cs k) (hb : Below W.heap.size W W1) : BesS w W1 X ad n cap L v cs k :=
 ⟨blk_on h.hp hb, blk_on h.hz hb, h.row.on hb, h.rel.on hb, h.bel.trans (hb.mono h.bel.size)⟩
theorem BesS.miss {w W : World} {X : Xb.Bx} {ad : Option Addr} {n cap : Nat} {L : List CtE} {v : Value} {cs : List Ct2} {k : Nat} (h : BesS w W X ad n cap L v cs k) (ht : tryF k (X, L) = none) : BesS w W X ad n cap L v cs (k + 1) :=
 ⟨h.hp, h.hz, h.row, by rw [cutsK_succ, ht]; exact h.rel, h.bel⟩
theorem BesS.hit {w W W2 : World} {X : Xb.Bx} {ad : Option Addr} {n cap : Nat} {L : List CtE} {v v2 : Value} {cs : List Ct2} {k : Nat} {c : Ct2} {d : Part × Part} (h : BesS w W X ad n cap L v cs k) (hc : CtR W (w.heap.size + 1 + 1) c d) (ht : tryF k (X, L) = some d) (hr : RowQ W2 (w.heap.size + 1 + 1) v2 (cs ++ [c])) (hg : W.grownBy W2 v.ownBlock) : BesS w W2 X ad n cap L v2 (cs ++ [c]) (k + 1) := by
 have hv := fun k hk => (h.row.lt k hk).1
 have l1 := blk_lt h.hp
 have l2 := blk_lt h.hz
 refine ⟨?_, ?_, hr, ?_, Below.grown h.bel hg h.bel.size (fun k hk => by have := hv k hk; omega)⟩
 ·rw [hg.block _ l1 (fun e => by have := hv _ e.symm; omega)]; exact h.hp
 ·rw [hg.block _ l2 (fun e => by have := hv _ e.symm; omega)]; exact h.hz
 ·rw [cutsK_succ, ht]
  exact RelQ.snoc ⟨hc.x, hc.y, hc.rx.grownQ h.row hg, hc.ry.grownQ h.row hg⟩ (h.rel.grownQ h.row hg)
set_option maxRecDepth 20000 in
set_option maxHeartbeats 16000000 in
theorem bestC (p : Pt) (L : List CtE) (l : List Ru) (dd g : Nat) (w : World) (ht : Tris w g) (hs : SrcZ w (.slice p.ad p.n p.cap) L) (hl : L.length ≤ 64) (ok : CtOk l (dd + 1) (p.x, L)) :
  Calls Tryz.prog 79 #[.agg #[.int .u32 p.x.a.1, .int .u32 p.x.a.2, .int .u32 p.x.b.1, .int .u32 p.x.b.2, .int .u16 p.x.c.1, .int .u16 p.x.c.2, .int .u16 p.x.d.1, .int .u16 p.x.d.2, .int .u8 p.x.m.1, .int .u8 p.x.m.2, .slice p.ad p.n p.cap], .slice (some ⟨g, 0, none⟩) 5 5] w fun e w' => ∃ c : Ct2, e = .returned (.agg #[.int .u32 c.1.x.a.1, .int .u32 c.1.x.a.2, .int .u32 c.1.x.b.1, .int .u32 c.1.x.b.2, .int .u16 c.1.x.c.1, .int .u16 c.1.x.c.2, .int .u16 c.1.x.d.1, .int .u16 c.1.x.d.2, .int .u8 c.1.x.m.1, .int .u8 c.1.x.m.2, .slice c.1.ad c.1.n c.1.cap, .int .u32 c.2.x.a.1, .int .u32 c.2.x.a.2, .int .u32 c.2.x.b.1, .int .u32 c.2.x.b.2, .int .u16 c.2.x.c.1, .int .u16 c.2.x.c.2, .int .u16 c.2.x.d.1, .int .u16 c.2.x.d.2, .int .u8 c.2.x.m.1, .int .u8 c.2.x.m.2, .slice c.2.ad c.2.n c.2.cap]) ∧ CtR w' w.heap.size c (bestP (p.x, L)) ∧ Below w.heap.size w w' := by
 obtain ⟨X, ad, n, cap⟩ := p
 simp only at hs ok ⊢
 have HTr : Hid (Tris w g) := ht
 have HSr : Hid (SrcZ w (.slice ad n cap) L) := hs
 have HLn : Hid (L.length ≤ 64) := hl
 have Ho : Hid (∀ j, j < 5 → okF j (fget j X) = true) := ok.okx
 have Hb : Hid (∀ j, j < 5 → bdF j (fget j X)) := ok.bd
 have HLo : Hid (∀ e ∈ L, ∀ j, j < 5 → okF j (fget j e.2) = true) := ok.eok
 have HLb : Hid (∀ e ∈ L, ∀ j, j < 5 → bdF j (fget j e.2)) := ok.ebd
 have Hne : Hid (cutsK (X, L) 5 ≠ []) := cuts_ne ok
 clear ht hs hl ok
 obtain ⟨hp0, hz0, hb0⟩ := al2 w (.cells #[.int .u32 X.a.1, .int .u32 X.a.2, .int .u32 X.b.1, .int .u32 X.b.2, .int .u16 X.c.1, .int .u16 X.c.2, .int .u16 X.d.1, .int .u16 X.d.2, .int .u8 X.m.1, .int .u8 X.m.2, .slice ad n cap] 135) (.cells #[.int .u32 0, .int .u32 0, .int .u32 0, .int .u32 0, .int .u16 0, .int .u16 0, .int .u16 0, .int .u16 0, .int .u8 0, .int .u8 0, .slice none 0 0, .int .u32 0, .int .u32 0, .int .u32 0, .int .u32 0, .int .u16 0, .int .u16 0, .int .u16 0, .int .u16 0, .int .u8 0, .int .u8 0, .slice none 0 0] 153)
 obtain ⟨w0, hw0⟩ : ∃ w0, w0 = ((w.alloc (.cells #[.int .u32 X.a.1, .int .u32 X.a.2, .int .u32 X.b.1, .int .u32 X.b.2, .int .u16 X.c.1, .int .u16 X.c.2, .int .u16 X.d.1, .int .u16 X.d.2, .int .u8 X.m.1, .int .u8 X.m.2, .slice ad n cap] 135)).alloc (.cells #[.int .u32 0, .int .u32 0, .int .u32 0, .int .u32 0, .int .u16 0, .int .u16 0, .int .u16 0, .int .u16 0, .int .u8 0, .int .u8 0, .slice none 0 0, .int .u32 0, .int .u32 0, .int .u32 0, .int .u32 0, .int .u16 0, .int .u16 0, .int .u16 0, .int .u16 0, .int .u8 0, .int .u8 0, .slice none 0 0] 153)) := ⟨_, rfl⟩
 rw [← hw0] at hp0 hz0 hb0
 have HS0 : Hid (BesS w w0 X ad n cap L (.slice none 0 0) [] 0) := ⟨hp0, hz0, RowQ.nil _ _, trivial, hb0⟩
 have Hw0 : Hid (((w.alloc (.cells #[.int .u32 X.a.1, .int .u32 X.a.2, .int .u32 X.b.1, .int .u32 X.b.2, .int .u16 X.c.1, .int .u16 X.c.2, .int .u16 X.d.1, .int .u16 X.d.2, .int .u8 X.m.1, .int .u8 X.m.2, .slice ad n cap] 135)).alloc (.cells #[.int .u32 0, .int .u32 0, .int .u32 0, .int .u32 0, .int .u16 0, .int .u16 0, .int .u16 0, .int .u16 0, .int .u8 0, .int .u8 0, .slice none 0 0, .int .u32 0, .int .u32 0, .int .u32 0, .int .u32 0, .int .u16 0, .int .u16 0, .int .u16 0, .int .u16 0, .int .u8 0, .int .u8 0, .slice none 0 0] 153)) = w0) := hw0.symm
 clear hp0 hz0 hb0 hw0
 go_enter Tryz.func79, Tryz.ntmps79
 go_upto_region 1 with (fail)
 rw [Hw0.out]
 clear Hw0
 go_wp2_with (fail)
 go_loopw [5, 12] (fun vv vi wr => ∃ (k : Nat) (v : Value) (cs : List Ct2), k ≤ 5 ∧ v = vv ∧ vi = .int .i64 k ∧ Hid (BesS w wr X ad n cap L v cs k)) (fun _ vi _ => 5 - (intOf vi).toNat)
 case atStart => exact ⟨0, _, [], by omega, rfl, rfl, HS0.out⟩
 case round =>
  clear HS0
  obtain ⟨k, v, cs, hk, rfl, rfl, HS⟩ := hrel
  have hk6 : k = 5 ∨ k < 5 := by omega
  rcases hk6 with rfl | hk6
  ·skip
   obtain ⟨d0, ds, hds⟩ : ∃ d0 ds, cutsK (X, L) 5 = d0 :: ds := by
    cases hh : cutsK (X, L) 5 with
    | nil => exact absurd hh Hne.out
    | cons a b => exact ⟨a, b, rfl⟩
   have hrl := HS.out.rel
   rw [hds] at hrl
   have hsm := hrl.small (n := 64) (fun d hd => by
    rw [← hds] at hd
    obtain ⟨i, _, hi⟩ := cutsK_mem hd
    have h1 := tryF_len hi
    have h2 := HLn.out
    simp only at h1
    omega) (by decide)
   have hcl : cs.length ≤ 16 := by have h1 := HS.out.rel.len; have h2 := cutsK_len (X, L) 5; omega
   have hmf := minFC v cs d0 ds (w.heap.size + 1 + 1) wr HS.out.row.src hrl hsm hcl
   have HBe : Hid (bestP (X, L) = minC d0 ds) := by show _ = _; unfold bestP cutsP; rw [hds]
   clear hrl hsm hcl hds
   go_wp2_with (first | (go_at_call 106; refine hmf.mono ?_; rintro e w7 ⟨c, rfl, hc7, hb7⟩; have HC7 : Hid _ := hc7; have HS7 : Hid (BesS w w7 X ad n cap L v cs 5) := HS.out.on hb7; clear hc7 hb7) | (refine wpList_store_blk rfl 153 (.tmp 4) (.tmp 29) rfl (w.heap.size + 1) 0 #[.int .u32 c.1.x.a.1, .int .u32 c.1.x.a.2, .int .u32 c.1.x.b.1, .int .u32 c.1.x.b.2, .int .u16 c.1.x.c.1, .int .u16 c.1.x.c.2, .int .u16 c.1.x.d.1, .int .u16 c.1.x.d.2, .int .u8 c.1.x.m.1, .int .u8 c.1.x.m.2, .slice c.1.ad c.1.n c.1.cap, .int .u32 c.2.x.a.1, .int .u32 c.2.x.a.2, .int .u32 c.2.x.b.1, .int .u32 c.2.x.b.2, .int .u16 c.2.x.c.1, .int .u16 c.2.x.c.2, .int .u16 c.2.x.d.1, .int .u16 c.2.x.d.2, .int .u8 c.2.x.m.1, .int .u8 c.2.x.m.2, .slice c.2.ad c.2.n c.2.cap] #[.int .u32 c.1.x.a.1, .int .u32 c.1.x.a.2, .int .u32 c.1.x.b.1, .int .u32 c.1.x.b.2, .int .u16 c.1.x.c.1, .int .u16 c.1.x.c.2, .int .u16 c.1.x.d.1, .int .u16 c.1.x.d.2, .int .u8 c.1.x.m.1, .int .u8 c.1.x.m.2, .slice c.1.ad c.1.n c.1.cap, .int .u32 c.2.x.a.1, .int .u32 c.2.x.a.2, .int .u32 c.2.x.b.1, .int .u32 c.2.x.b.2, .int .u16 c.2.x.c.1, .int .u16 c.2.x.c.2, .int .u16 c.2.x.d.1, .int .u16 c.2.x.d.2, .int .u8 c.2.x.m.1, .int .u8 c.2.x.m.2, .slice c.2.ad c.2.n c.2.cap] rfl rfl 153 _ HS7.out.hz (Nat.le_of_ble_eq_true rfl) rfl (by kernel_rfl) rfl ?_; intro w8 hw8 ho8))
   refine bodyPost_ret (results_blk Tryz.results79 rfl hw8 Tryz.underlying153 rfl (by kernel_rfl)) rfl ?_
   have hfin : Below w.heap.size w w8 := HS7.out.bel.trans (ho8.below (by omega))
   have hc8 : CtR w8 w.heap.size c (bestP (X, L)) := by rw [HBe.out]; exact (HC7.out.only ho8 (by omega)).base (by omega)
   first | exact ⟨c, rfl, hc8, hfin⟩ | exact ⟨c.1, c.2, rfl, hc8, hfin⟩
  have hk7 : k = 0 ∨ k = 1 ∨ k = 2 ∨ k = 3 ∨ k = 4 := by omega
  have hm2 : Mk k := ⟨⟩
  clear hk hk6
  rcases hk7 with rfl | rfl | rfl | rfl | rfl
  all_goals
   first
   | (have hq : Mk 0 := hm2; clear hq; obtain ⟨bh, bf, bn, bm, kc, en⟩ := HTr.out.t0; have kc1 := cell_on1 HS.out.bel kc; have Hen : Hid (EnvT wr 85 84 113 86 bh bf bn bm) := en.on HS.out.bel; clear kc en; have Hrp : Hid (wr.rangeAt w.heap.size 0 (#[.int .u32 X.a.1, .int .u32 X.a.2, .int .u32 X.b.1, .int .u32 X.b.2, .int .u16 X.c.1, .int .u16 X.c.2, .int .u16 X.d.1, .int .u16 X.d.2, .int .u8 X.m.1, .int .u8 X.m.2, .slice ad n cap] : Array Value).toList) := rngAll HS.out.hp; have htri := trir 0 _ (.inl ⟨rfl, rfl⟩) ⟨X, ad, n, cap⟩ L bh bf bn bm wr Hen.out (HSr.out.keep HS.out.bel) HLn.out (fun e he => (HLo.out e he 0 (by decide))) (fun e he => (HLb.out e he 0 (by decide))) (Ho.out 0 (by decide)) (Hb.out 0 (by decide)); rcases ho : tryF 0 (X, L) with _ | d)
   | (have hq : Mk 1 := hm2; clear hq; obtain ⟨bh, bf, bn, bm, kc, en⟩ := HTr.out.t1; have kc1 := cell_on1 HS.out.bel kc; have Hen : Hid (EnvT wr 85 87 113 86 bh bf bn bm) := en.on HS.out.bel; clear kc en; have Hrp : Hid (wr.rangeAt w.heap.size 0 (#[.int .u32 X.a.1, .int .u32 X.a.2, .int .u32 X.b.1, .int .u32 X.b.2, .int .u16 X.c.1, .int .u16 X.c.2, .int .u16 X.d.1, .int .u16 X.d.2, .int .u8 X.m.1, .int .u8 X.m.2, .slice ad n cap] : Array Value).toList) := rngAll HS.out.hp; have htri := trir 1 _ (.inr ⟨rfl, rfl⟩) ⟨X, ad, n, cap⟩ L bh bf bn bm wr Hen.out (HSr.out.keep HS.out.bel) HLn.out (fun e he => (HLo.out e he 1 (by decide))) (fun e he => (HLb.out e he 1 (by decide))) (Ho.out 1 (by decide)) (Hb.out 1 (by decide)); rcases ho : tryF 1 (X, L) with _ | d)
   | (have hq : Mk 2 := hm2; clear hq; obtain ⟨bh, bf, bn, bm, kc, en⟩ := HTr.out.t2; have kc1 := cell_on1 HS.out.bel kc; have Hen : Hid (EnvT wr 90 89 116 91 bh bf bn bm) := en.on HS.out.bel; clear kc en; have Hrp : Hid (wr.rangeAt w.heap.size 0 (#[.int .u32 X.a.1, .int .u32 X.a.2, .int .u32 X.b.1, .int .u32 X.b.2, .int .u16 X.c.1, .int .u16 X.c.2, .int .u16 X.d.1, .int .u16 X.d.2, .int .u8 X.m.1, .int .u8 X.m.2, .slice ad n cap] : Array Value).toList) := rngAll HS.out.hp; have htri := tris 2 _ (.inl ⟨rfl, rfl⟩) ⟨X, ad, n, cap⟩ L bh bf bn bm wr Hen.out (HSr.out.keep HS.out.bel) HLn.out (fun e he => (HLo.out e he 2 (by decide))) (fun e he => (HLb.out e he 2 (by decide))) (Ho.out 2 (by decide)) (Hb.out 2 (by decide)); rcases ho : tryF 2 (X, L) with _ | d)
   | (have hq : Mk 3 := hm2; clear hq; obtain ⟨bh, bf, bn, bm, kc, en⟩ := HTr.out.t3; have kc1 := cell_on1 HS.out.bel kc; have Hen : Hid (EnvT wr 90 92 116 91 bh bf bn bm) := en.on HS.out.bel; clear kc en; have Hrp : Hid (wr.rangeAt w.heap.size 0 (#[.int .u32 X.a.1, .int .u32 X.a.2, .int .u32 X.b.1, .int .u32 X.b.2, .int .u16 X.c.1, .int .u16 X.c.2, .int .u16 X.d.1, .int .u16 X.d.2, .int .u8 X.m.1, .int .u8 X.m.2, .slice ad n cap] : Array Value).toList) := rngAll HS.out.hp; have htri := tris 3 _ (.inr ⟨rfl, rfl⟩) ⟨X, ad, n, cap⟩ L bh bf bn bm wr Hen.out (HSr.out.keep HS.out.bel) HLn.out (fun e he => (HLo.out e he 3 (by decide))) (fun e he => (HLb.out e he 3 (by decide))) (Ho.out 3 (by decide)) (Hb.out 3 (by decide)); rcases ho : tryF 3 (X, L) with _ | d)
   | (have hq : Mk 4 := hm2; clear hq; obtain ⟨bh, bf, bn, bm, kc, en⟩ := HTr.out.t4; have kc1 := cell_on1 HS.out.bel kc; have Hen : Hid (EnvT wr 95 94 119 96 bh bf bn bm) := en.on HS.out.bel; clear kc en; have Hrp : Hid (wr.rangeAt w.heap.size 0 (#[.int .u32 X.a.1, .int .u32 X.a.2, .int .u32 X.b.1, .int .u32 X.b.2, .int .u16 X.c.1, .int .u16 X.c.2, .int .u16 X.d.1, .int .u16 X.d.2, .int .u8 X.m.1, .int .u8 X.m.2, .slice ad n cap] : Array Value).toList) := rngAll HS.out.hp; have htri := triC4 ⟨X, ad, n, cap⟩ L bh bf bn bm wr Hen.out (HSr.out.keep HS.out.bel) HLn.out (fun e he => (HLo.out e he 4 (by decide))) (fun e he => (HLb.out e he 4 (by decide))) (Ho.out 4 (by decide)) (Hb.out 4 (by decide)); rcases ho : tryF 4 (X, L) with _ | d)
   ·go_upto_region 6 with (first | (refine ct_loadL rfl 135 (.tmp 2) rfl w.heap.size 0 #[.int .u32 X.a.1, .int .u32 X.a.2, .int .u32 X.b.1, .int .u32 X.b.2, .int .u16 X.c.1, .int .u16 X.c.2, .int .u16 X.d.1, .int .u16 X.d.2, .int .u8 X.m.1, .int .u8 X.m.2, .slice ad n cap] rfl Hrp.out Tryz.underlying135 rfl (by kernel_rfl) ?_) | ((first | go_at_call 120 | go_at_call 114 | go_at_call 117); refine htri.mono ?_; rw [ho]; rintro e w1 ⟨⟨c, rfl, hd⟩, hb1⟩; have Hd : Hid _ := hd; have Hb1 : Hid _ := hb1; clear hd hb1; have HZ1 := hid_of (blk_new w1 (.cells #[.int .u32 0, .int .u32 0, .int .u32 0, .int .u32 0, .int .u16 0, .int .u16 0, .int .u16 0, .int .u16 0, .int .u8 0, .int .u8 0, .slice none 0 0, .int .u32 0, .int .u32 0, .int .u32 0, .int .u32 0, .int .u16 0, .int .u16 0, .int .u16 0, .int .u16 0, .int .u8 0, .int .u8 0, .slice none 0 0] 153))) | (refine wpList_store_blk rfl 153 (.tmp 8) (.tmp 20) rfl w1.heap.size 0 #[.int .u32 c.1.x.a.1, .int .u32 c.1.x.a.2, .int .u32 c.1.x.b.1, .int .u32 c.1.x.b.2, .int .u16 c.1.x.c.1, .int .u16 c.1.x.c.2, .int .u16 c.1.x.d.1, .int .u16 c.1.x.d.2, .int .u8 c.1.x.m.1, .int .u8 c.1.x.m.2, .slice c.1.ad c.1.n c.1.cap, .int .u32 c.2.x.a.1, .int .u32 c.2.x.a.2, .int .u32 c.2.x.b.1, .int .u32 c.2.x.b.2, .int .u16 c.2.x.c.1, .int .u16 c.2.x.c.2, .int .u16 c.2.x.d.1, .int .u16 c.2.x.d.2, .int .u8 c.2.x.m.1, .int .u8 c.2.x.m.2, .slice c.2.ad c.2.n c.2.cap] #[.int .u32 c.1.x.a.1, .int .u32 c.1.x.a.2, .int .u32 c.1.x.b.1, .int .u32 c.1.x.b.2, .int .u16 c.1.x.c.1, .int .u16 c.1.x.c.2, .int .u16 c.1.x.d.1, .int .u16 c.1.x.d.2, .int .u8 c.1.x.m.1, .int .u8 c.1.x.m.2, .slice c.1.ad c.1.n c.1.cap, .int .u32 c.2.x.a.1, .int .u32 c.2.x.a.2, .int .u32 c.2.x.b.1, .int .u32 c.2.x.b.2, .int .u16 c.2.x.c.1, .int .u16 c.2.x.c.2, .int .u16 c.2.x.d.1, .int .u16 c.2.x.d.2, .int .u8 c.2.x.m.1, .int .u8 c.2.x.m.2, .slice c.2.ad c.2.n c.2.cap] rfl rfl 153 _ HZ1.out (Nat.le_of_ble_eq_true rfl) rfl (by kernel_rfl) rfl ?_; intro w2 hw2 ho2))
    have hb2 : Below w1.heap.size w1 w2 := ((Below.refl _ _).alloc (Nat.le_refl _) _).trans (ho2.below (Nat.le_refl _))
    have HS2 := hid_of ((HS.out.on Hb1.out).on hb2)
    have HS3 := hid_of (HS2.out.miss ho)
    clear ho htri Hd Hb1 HZ1 hw2 ho2 hb2 HS2 HS
    go_wp2_with (fail)
    go_roundw
    case rel => exact ⟨_, v, cs, by omega, rfl, by go_num, HS3.out⟩
    case measure => simp [intOf]
   ·go_upto_region 6 with (first | (refine ct_loadL rfl 135 (.tmp 2) rfl w.heap.size 0 #[.int .u32 X.a.1, .int .u32 X.a.2, .int .u32 X.b.1, .int .u32 X.b.2, .int .u16 X.c.1, .int .u16 X.c.2, .int .u16 X.d.1, .int .u16 X.d.2, .int .u8 X.m.1, .int .u8 X.m.2, .slice ad n cap] rfl Hrp.out Tryz.underlying135 rfl (by kernel_rfl) ?_) | ((first | go_at_call 120 | go_at_call 114 | go_at_call 117); refine htri.mono ?_; rw [ho]; rintro e w1 ⟨⟨c, rfl, hd⟩, hb1⟩; have Hd : Hid _ := hd; have Hb1 : Hid _ := hb1; clear hd hb1; have HZ1 := hid_of (blk_new w1 (.cells #[.int .u32 0, .int .u32 0, .int .u32 0, .int .u32 0, .int .u16 0, .int .u16 0, .int .u16 0, .int .u16 0, .int .u8 0, .int .u8 0, .slice none 0 0, .int .u32 0, .int .u32 0, .int .u32 0, .int .u32 0, .int .u16 0, .int .u16 0, .int .u16 0, .int .u16 0, .int .u8 0, .int .u8 0, .slice none 0 0] 153))) | (refine wpList_store_blk rfl 153 (.tmp 8) (.tmp 20) rfl w1.heap.size 0 #[.int .u32 c.1.x.a.1, .int .u32 c.1.x.a.2, .int .u32 c.1.x.b.1, .int .u32 c.1.x.b.2, .int .u16 c.1.x.c.1, .int .u16 c.1.x.c.2, .int .u16 c.1.x.d.1, .int .u16 c.1.x.d.2, .int .u8 c.1.x.m.1, .int .u8 c.1.x.m.2, .slice c.1.ad c.1.n c.1.cap, .int .u32 c.2.x.a.1, .int .u32 c.2.x.a.2, .int .u32 c.2.x.b.1, .int .u32 c.2.x.b.2, .int .u16 c.2.x.c.1, .int .u16 c.2.x.c.2, .int .u16 c.2.x.d.1, .int .u16 c.2.x.d.2, .int .u8 c.2.x.m.1, .int .u8 c.2.x.m.2, .slice c.2.ad c.2.n c.2.cap] #[.int .u32 c.1.x.a.1, .int .u32 c.1.x.a.2, .int .u32 c.1.x.b.1, .int .u32 c.1.x.b.2, .int .u16 c.1.x.c.1, .int .u16 c.1.x.c.2, .int .u16 c.1.x.d.1, .int .u16 c.1.x.d.2, .int .u8 c.1.x.m.1, .int .u8 c.1.x.m.2, .slice c.1.ad c.1.n c.1.cap, .int .u32 c.2.x.a.1, .int .u32 c.2.x.a.2, .int .u32 c.2.x.b.1, .int .u32 c.2.x.b.2, .int .u16 c.2.x.c.1, .int .u16 c.2.x.c.2, .int .u16 c.2.x.d.1, .int .u16 c.2.x.d.2, .int .u8 c.2.x.m.1, .int .u8 c.2.x.m.2, .slice c.2.ad c.2.n c.2.cap] rfl rfl 153 _ HZ1.out (Nat.le_of_ble_eq_true rfl) rfl (by kernel_rfl) rfl ?_; intro w2 hw2 ho2))
    have hb2 : Below w1.heap.size w1 w2 := ((Below.refl _ _).alloc (Nat.le_refl _) _).trans (ho2.below (Nat.le_refl _))
    have HS2 := hid_of ((HS.out.on Hb1.out).on hb2)
    have KC := hid_of (rngAll hw2)
    have HC2 : Hid (CtR w2 (w.heap.size + 1 + 1) c d) := ((Hd.out d rfl).on hb2).base (by have h1 := blk_lt HS.out.hz; omega)
    have hbA : Below w2.heap.size w2 (w2.alloc (.cells #[.int .u32 c.1.x.a.1, .int .u32 c.1.x.a.2, .int .u32 c.1.x.b.1, .int .u32 c.1.x.b.2, .int .u16 c.1.x.c.1, .int .u16 c.1.x.c.2, .int .u16 c.1.x.d.1, .int .u16 c.1.x.d.2, .int .u8 c.1.x.m.1, .int .u8 c.1.x.m.2, .slice c.1.ad c.1.n c.1.cap, .int .u32 c.2.x.a.1, .int .u32 c.2.x.a.2, .int .u32 c.2.x.b.1, .int .u32 c.2.x.b.2, .int .u16 c.2.x.c.1, .int .u16 c.2.x.c.2, .int .u16 c.2.x.d.1, .int .u16 c.2.x.d.2, .int .u8 c.2.x.m.1, .int .u8 c.2.x.m.2, .slice c.2.ad c.2.n c.2.cap] 153)) := (Below.refl _ _).alloc (Nat.le_refl _) _
    have HSA := hid_of (HS2.out.on hbA)
    have HCA := hid_of (HC2.out.on hbA)
    have Hho := hid_of ho
    have ro := hid_of (RowQ.one w2 0 c (Nat.zero_le _)).src
    have sz := hid_of (blk_lt HSA.out.hz)
    have ln : Hid (cs.length + [c].length ≤ 4294967296) := by have h2 := Nat.le_trans (Nat.le_of_eq HSA.out.rel.len) (cutsK_len _ _); show cs.length + 1 ≤ _; omega
    clear ho htri Hd Hb1 HZ1 hw2 ho2 hb2 HS2 HS HC2 hbA
    go_wp2_with (first | (refine ct_loadL rfl 153 (.tmp 8) rfl w1.heap.size 0 #[.int .u32 c.1.x.a.1, .int .u32 c.1.x.a.2, .int .u32 c.1.x.b.1, .int .u32 c.1.x.b.2, .int .u16 c.1.x.c.1, .int .u16 c.1.x.c.2, .int .u16 c.1.x.d.1, .int .u16 c.1.x.d.2, .int .u8 c.1.x.m.1, .int .u8 c.1.x.m.2, .slice c.1.ad c.1.n c.1.cap, .int .u32 c.2.x.a.1, .int .u32 c.2.x.a.2, .int .u32 c.2.x.b.1, .int .u32 c.2.x.b.2, .int .u16 c.2.x.c.1, .int .u16 c.2.x.c.2, .int .u16 c.2.x.d.1, .int .u16 c.2.x.d.2, .int .u8 c.2.x.m.1, .int .u8 c.2.x.m.2, .slice c.2.ad c.2.n c.2.cap] rfl KC.out Tryz.underlying153 rfl (by kernel_rfl) ?_) | (at_builtin; refine wpList_appendSQ rfl (.tmp 23) (.tmp 25) rfl (w.heap.size + 1 + 1) v cs rfl HSA.out.row _ [c] rfl ro.out sz.out ln.out ?_; intro v5 w5 hr5 hg5 hat5; have HS5 := hid_of (HSA.out.hit HCA.out Hho.out hr5 hg5); clear hr5 hg5 hat5))
    go_roundw
    case rel => exact ⟨_, v5, cs ++ [c], by omega, rfl, by go_num, HS5.out⟩
    case measure => simp [intOf]
end Go.Proofs.YtgokmkholjfhbaaGreat
