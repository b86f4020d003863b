/-
  PkBL: CtF CtFi, one behind the other (tools/pack.py).
-/
import Derived.Test.YtgokmkholjfhbaaGreatPkBK
import Derived.Test.YtgokmkholjfhbaaGreatPkAE
set_option linter.unusedVariables false
set_option linter.unusedSimpArgs false
namespace Go.Proofs.YtgokmkholjfhbaaGreat
open Go.RowKit
def psetL (c : Cf) (m l : List Ru) : List Ru := if setE m c.m = 0 then m else l
theorem nd_none (bn d : Nat) (W : World) (b : Nat) : Nd bn W b d (rootP []) ⟨zeroY, none, none, 0, 0⟩ := nd_leaf (.inl (Nat.zero_le _)) (RowI.nil W b)
set_option maxHeartbeats 2000000 in
theorem newE (c : Cf) (o : BdC c) (h : okC c = true) (w : World) : Calls Tryz.prog 7 #[.agg #[.int .i64 c.m, .int .i64 c.a, .int .i64 c.p, .int .i64 c.g, .int .i64 c.t, .int .i64 c.b, .int .i64 c.d]] w fun e w' =>
  ∃ X : Nat, e = .returned (.tuple #[.pointer (some ⟨X, 0, none⟩), .int .i64 0]) ∧ Eng w' X c [] (fun k => w.heap.size ≤ k ∧ k < X) ∧ w.heap.size ≤ X ∧ Below w.heap.size w w' := by
 have hC := newOk c o h (w.alloc (.cells #[.int .i64 c.m, .int .i64 c.a, .int .i64 c.p, .int .i64 c.g, .int .i64 c.t, .int .i64 c.b, .int .i64 c.d] 24))
 have Hok : Hid (okC c = true) := h
 clear h o
 go_enter Tryz.func7, Tryz.ntmps7
 go_wp2_with (go_at_call 15; fail)
 refine hC.mono ?_
 rintro e w1 ⟨t, rfl, hT1, ht1, hb1⟩
 have HB1 : Hid (Below w.heap.size w w1) := ((Below.refl _ _).alloc (Nat.le_refl _) _).trans (hb1.mono (by simp))
 have HT1 : Hid (Tab w1 t (.slice none 0 0) c.m c.a []) := hT1
 have Ht1 : Hid (w.heap.size < t) := by simp at ht1; show _ < _; omega
 have x1 : w1.cell? ⟨w.heap.size, 1, none⟩ = some (.int .i64 c.a) := cell_on1 hb1 (blk_cell (blk_new w _) rfl)
 have x2 : w1.cell? ⟨w.heap.size, 5, none⟩ = some (.int .i64 c.b) := cell_on1 hb1 (blk_cell (blk_new w _) rfl)
 have x3 : w1.cell? ⟨w.heap.size, 6, none⟩ = some (.int .i64 c.d) := cell_on1 hb1 (blk_cell (blk_new w _) rfl)
 clear hb1 hC hT1 ht1
 go_wp2_with (fail)
 refine bodyPost_ret (v := .tuple #[.pointer (some ⟨w1.heap.size, 0, none⟩), .int .i64 0]) (by simp [results, Tryz.results7, go_sem]) rfl ?_
 have hb2 : Below w1.heap.size w1 (w1.alloc (.cells #[.pointer (some ⟨t, 0, none⟩), .int .i64 c.a, .int .i64 c.b, .int .i64 c.d, .int .u32 0, .int .u32 0, .int .u32 0, .int .u32 0, .int .u16 0, .int .u16 0, .int .u16 0, .int .u16 0, .int .u8 0, .int .u8 0, .pointer none, .slice none 0 0] 80)) := (Below.refl _ _).alloc (Nat.le_refl _) _
 refine ⟨_, rfl, ⟨⟨t, .slice none 0 0, ⟨zeroY, none, none, 0, 0⟩, 0, 0, ⟨blk_new w1 _, HT1.out.on hb2, Nat.zero_le _, fun k _ h => absurd h (Nat.not_lt_zero _), fun W _ => nd_none _ _ W 0⟩, ⟨Nat.le_of_lt Ht1.out, HT1.out.lt⟩, fun k e => by simp [Value.ownBlock] at e, fun k _ h => absurd h (Nat.not_lt_zero _)⟩, OkN.nil, by simp, Hok.out, by omega⟩, HB1.out.size, HB1.out.alloc HB1.out.size _⟩
set_option maxHeartbeats 1000000 in
theorem newNo (c : Cf) (o : BdC c) (h : okC c = false) (w : World) : Calls Tryz.prog 7 #[.agg #[.int .i64 c.m, .int .i64 c.a, .int .i64 c.p, .int .i64 c.g, .int .i64 c.t, .int .i64 c.b, .int .i64 c.d]] w fun e w' =>
  e = .returned (.tuple #[.pointer none, .int .i64 110]) ∧ Below w.heap.size w w' := by
 have hC := newBad c o h (w.alloc (.cells #[.int .i64 c.m, .int .i64 c.a, .int .i64 c.p, .int .i64 c.g, .int .i64 c.t, .int .i64 c.b, .int .i64 c.d] 24))
 clear h o
 go_enter Tryz.func7, Tryz.ntmps7
 go_wp2_with (go_at_call 15; fail)
 refine hC.mono ?_
 rintro e w1 ⟨rfl, hb1⟩
 have HB1 : Hid (Below w.heap.size w w1) := ((Below.refl _ _).alloc (Nat.le_refl _) _).trans (hb1.mono (by simp))
 clear hb1 hC
 go_wp2_with (fail)
 refine bodyPost_ret (v := .tuple #[.pointer none, .int .i64 110]) (by simp [results, Tryz.results7, go_sem]) rfl ?_
 exact ⟨rfl, HB1.out⟩
theorem Eng.next {w w0 w1 w2 : World} {X : Nat} {c : Cf} {l l' : List Ru} {S : Nat → Prop} {t : Nat} {v v' : Value} {q0 q : Nv} {b top : Nat} (h : Eng w X c l S) (e : EngF w X c l t v q0 b top) (s1 : S t) (s2 : ∀ k, v.ownBlock = some k → S k) (hb : Below w.heap.size w w0) (hm : Moved w0 w1 t v v') (hT : Tab w1 t v' c.m c.a l')
  (hX : w2.heap[X]? = some (.cells (CEa t c q) 80 (0, 0))) (hN : Nd c.b.toNat w2 w1.heap.size c.d.toNat (rootP l') q) (hg : w1.grownBy w2 (some X)) (ok : OkN l') (bd : ∀ R ∈ l', BdR R) : Did w w2 X c l' S := by
 have lX := h.lt
 have nt : t ≠ X := fun e' => h.nX (e' ▸ s1)
 have nv : v.ownBlock ≠ some X := fun e' => h.nX (s2 X e')
 have z0 := hb.size
 have z1 := hm.size
 have z2 := hg.size
 have nv' : v'.ownBlock ≠ some X := fun e' => by
  rcases hm.own X e' with e2 | e2
  ·exact nv e2
  ·omega
 refine ⟨⟨⟨t, v', q, w1.heap.size, w2.heap.size, ⟨hX, tab_gr hT hg nt nv', Nat.le_refl _, fun k h1 _ => ⟨by have := hT.lt; omega, fun e' => by have := hT.own e'; omega⟩, fun W hW => hN.stay (fun k h1 h2 => hW k h1 h2)⟩, .inl s1, fun k hk => ?_, fun k h1 h2 => .inr ⟨by omega, h2⟩⟩, ok, bd, h.cf, ?_⟩, ?_⟩
 ·rcases hm.own k hk with e2 | e2
  ·exact .inl (s2 k e2)
  ·exact .inr ⟨by omega, by have := hT.own hk; omega⟩
 ·rintro (e' | ⟨e', _⟩)
  ·exact h.nX e'
  ·omega
 ·refine ⟨hg.os.trans (hm.os.trans hb.os), hg.tape.trans (hm.tape.trans hb.tape), hg.output.trans (hm.output.trans hb.output), by omega, fun k hk h1 h2 => ?_⟩
  rw [hg.block k (by omega) (fun e' => h1 (by injection e')), hm.block k (by omega) (fun e' => h2 (e' ▸ s1)) (fun e' => h2 (s2 k e')), hb.block k hk]
theorem Eng.same {w w0 w1 w2 : World} {X : Nat} {c : Cf} {l : List Ru} {S : Nat → Prop} {t : Nat} {v v' : Value} {q0 : Nv} {b top : Nat} (h : Eng w X c l S) (e : EngF w X c l t v q0 b top) (s1 : S t) (s2 : ∀ k, v.ownBlock = some k → S k) (s3 : ∀ k, b ≤ k → k < top → S k) (hb : Below w.heap.size w w0) (hm : Moved w0 w1 t v v') (hT : Tab w1 t v' c.m c.a l) (hb2 : Below w1.heap.size w1 w2) : Did w w2 X c l S := by
 have lX := h.lt
 have nt : t ≠ X := fun e' => h.nX (e' ▸ s1)
 have nv : v.ownBlock ≠ some X := fun e' => h.nX (s2 X e')
 have z0 := hb.size
 have z1 := hm.size
 have z2 := hb2.size
 have zt := e.tp
 have keep : ∀ k, k < w.heap.size → k ≠ t → v.ownBlock ≠ some k → w2.heap[k]? = w.heap[k]? := fun k hk h1 h2 => by rw [hb2.block k (by omega), hm.block k (by omega) h1 h2, hb.block k hk]
 refine ⟨⟨⟨t, v', q0, b, top, ⟨(keep X lX (fun e' => nt e'.symm) nv).trans e.blk, hT.on hb2, by omega, fun k h1 h2 => ⟨(e.ap k h1 h2).1, fun e' => ?_⟩, fun W hW => e.nd W (fun k h1 h2 => (hW k h1 h2).trans (keep k (by omega) (e.ap k h1 h2).1 (e.ap k h1 h2).2))⟩, .inl s1, fun k hk => ?_, fun k h1 h2 => .inl (s3 k h1 h2)⟩, h.ok, h.bd, h.cf, ?_⟩, ?_⟩
 ·rcases hm.own k e' with e2 | e2
  ·exact (e.ap k h1 h2).2 e2
  ·omega
 ·rcases hm.own k hk with e2 | e2
  ·exact .inl (s2 k e2)
  ·exact .inr ⟨by omega, by have := hT.own hk; omega⟩
 ·rintro (e' | ⟨e', _⟩)
  ·exact h.nX e'
  ·omega
 ·exact ⟨hb2.os.trans (hm.os.trans hb.os), hb2.tape.trans (hm.tape.trans hb.tape), hb2.output.trans (hm.output.trans hb.output), by omega, fun k hk h1 h2 => keep k hk (fun e' => h2 (e' ▸ s1)) (fun e' => h2 (s2 k e'))⟩
theorem settleNo (X : Nat) (E : Int) (h : ¬ E = 0) (w : World) : Calls Tryz.prog 34 #[.pointer (some ⟨X, 0, none⟩), .int .i64 E] w fun e w' => e = .returned (.int .i64 E) ∧ w' = w := by
 have h0 : (E == 0) = false := by simpa using h
 go_enter Tryz.func34, Tryz.ntmps34
 go_wp2_with (fail)
 go_ret
 exact ⟨rfl, rfl⟩
set_option maxHeartbeats 4000000 in
set_option maxRecDepth 20000 in
theorem deleteE (X : Nat) (c : Cf) (l : List Ru) (S : Nat → Prop) (x : Int) (w : World) (h : Eng w X c l S)  :
  Calls Tryz.prog 206 #[.pointer (some ⟨X, 0, none⟩), .int .i64 x] w fun e w' => e = .returned (.int .i64 (delE l x)) ∧ Did w w' X c (delL l x) S := by
 have HE : Hid (Eng w X c l S) := h
 obtain ⟨t, v, q0, b, top, he, s1, s2, s3⟩ := h.at'
 have HF : Hid (EngF w X c l t v q0 b top) := he
 have S1 : Hid (S t) := s1
 have S2 : Hid (∀ k, v.ownBlock = some k → S k) := s2
 have S3 : Hid (∀ k, b ≤ k → k < top → S k) := s3
 have HB0 : Hid (Below w.heap.size w w) := Below.refl _ _
 have c0 : w.cell? ⟨X, 0, none⟩ = some (.pointer (some ⟨t, 0, none⟩)) := blk_cell he.blk rfl
 have hI := deleteC t v c.m c.a l x w he.tab (Nat.le_trans h.ok.few (by decide))
 clear he h s1 s2 s3
 go_enter Tryz.func206, Tryz.ntmps206
 go_wp2_with (go_at_call 208; fail)
 refine hI.mono ?_
 rintro e w1 ⟨rfl, v1, hT1, hm1⟩
 have HT1 : Hid (Tab w1 t v1 c.m c.a (delL l x)) := hT1
 have HM1 : Hid (Moved w w1 t v v1) := hm1
 clear hT1 hm1 hI
 have n1 : t ≠ X := fun e' => HE.out.nX (e' ▸ S1.out)
 have n2 : v1.ownBlock ≠ some X := fun e' => by
  rcases HM1.out.own X e' with e2 | e2
  ·exact HE.out.nX (S2.out X e2)
  ·have := HE.out.lt; have := HB0.out.size; omega
 have hX1 : w1.heap[X]? = some (.cells (CEa t c q0) 80 (0, 0)) := by
  rw [HM1.out.block X (by have := HE.out.lt; have := HB0.out.size; omega) (fun e' => n1 e'.symm) (fun e' => HE.out.nX (S2.out X e')), HB0.out.block X HE.out.lt]
  exact HF.out.blk
 by_cases h0 : delE l x = 0
 ·have Hok : Hid (OkN (delL l x)) := okN_sub HE.out.ok (delL_sub l x)
  have Hbd : Hid (∀ R ∈ delL l x, BdR R) := fun R hR => HE.out.bd R ((delL_sub l x).subset hR)
  have hS := settleOk X t v1 c (delL l x) q0 w1 hX1 HT1.out n1 n2 HE.out.cf Hok.out Hbd.out
  have H0 : Hid (delE l x = 0) := h0
  rw [h0]
  clear h0 n1 n2 hX1 c0
  go_wp2_with (go_at_call 34; fail)
  refine hS.mono ?_
  rintro e w2 ⟨rfl, q, hX2, hN2, hg2⟩
  have HD : Hid (Did w w2 X c (delL l x) S) := HE.out.next HF.out S1.out S2.out HB0.out HM1.out HT1.out hX2 hN2 hg2 Hok.out Hbd.out
  clear hX2 hN2 hg2 hS
  go_wp2_with (fail)
  go_ret
  exact ⟨by rw [H0.out]; rfl, HD.out⟩
 ·have heq : delL l x = l := if_neg (fun h1 => h0 (if_pos h1))
  have HDz : Hid (Did w w1 X c (delL l x) S) := by
   show Did w w1 X c (delL l x) S
   have h9 := HT1.out
   rw [heq] at h9 ⊢
   exact HE.out.same HF.out S1.out S2.out S3.out HB0.out HM1.out h9 (Below.refl _ _)
  obtain ⟨E2, hE2⟩ : ∃ E2, E2 = delE l x := ⟨_, rfl⟩
  rw [← hE2] at h0 ⊢
  have hS := settleNo X E2 h0 w1
  have HE2 : Hid (E2 = delE l x) := hE2
  clear heq hE2 n1 n2 hX1 c0 h0
  go_wp2_with (go_at_call 34; fail)
  refine hS.mono ?_
  rintro e w2 ⟨rfl, rfl⟩
  clear hS
  go_wp2_with (fail)
  go_ret
  exact ⟨by rw [← HE2.out]; rfl, HDz.out⟩
set_option maxHeartbeats 4000000 in
set_option maxRecDepth 20000 in
theorem setEE (X : Nat) (c : Cf) (l : List Ru) (S : Nat → Prop) (au : Option Addr) (nu cu : Nat) (m : List Ru) (w : World) (h : Eng w X c l S) (hs : SrcU w (.slice au nu cu) m) (hml : m.length ≤ 200000) (b0 : ∀ R ∈ m, BdR R) (hc : BdC c) (hm : c.m ≤ 64) :
  Calls Tryz.prog 207 #[.pointer (some ⟨X, 0, none⟩), .slice au nu cu] w fun e w' => e = .returned (.int .i64 (setE m c.m)) ∧ Did w w' X c (psetL c m l) S := by
 have HE : Hid (Eng w X c l S) := h
 obtain ⟨t, v, q0, b, top, he, s1, s2, s3⟩ := h.at'
 have HF : Hid (EngF w X c l t v q0 b top) := he
 have S1 : Hid (S t) := s1
 have S2 : Hid (∀ k, v.ownBlock = some k → S k) := s2
 have S3 : Hid (∀ k, b ≤ k → k < top → S k) := s3
 have HB0 : Hid (Below w.heap.size w w) := Below.refl _ _
 have c0 : w.cell? ⟨X, 0, none⟩ = some (.pointer (some ⟨t, 0, none⟩)) := blk_cell he.blk rfl
 have hI := setC t v c.m c.a l _ m w he.tab hs hml hc.1 (fun k hk => b0 _ (List.getElem_mem hk))
 clear hs hml
 clear he h s1 s2 s3
 go_enter Tryz.func207, Tryz.ntmps207
 go_wp2_with (go_at_call 209; fail)
 refine hI.mono ?_
 rintro e w1 ⟨rfl, v1, hT1, hm1⟩
 have HT1 : Hid (Tab w1 t v1 c.m c.a (psetL c m l)) := hT1
 have HM1 : Hid (Moved w w1 t v v1) := hm1
 clear hT1 hm1 hI
 have n1 : t ≠ X := fun e' => HE.out.nX (e' ▸ S1.out)
 have n2 : v1.ownBlock ≠ some X := fun e' => by
  rcases HM1.out.own X e' with e2 | e2
  ·exact HE.out.nX (S2.out X e2)
  ·have := HE.out.lt; have := HB0.out.size; omega
 have hX1 : w1.heap[X]? = some (.cells (CEa t c q0) 80 (0, 0)) := by
  rw [HM1.out.block X (by have := HE.out.lt; have := HB0.out.size; omega) (fun e' => n1 e'.symm) (fun e' => HE.out.nX (S2.out X e')), HB0.out.block X HE.out.lt]
  exact HF.out.blk
 by_cases h0 : setE m c.m = 0
 ·have Hok : Hid (OkN (psetL c m l)) := by
    show OkN (psetL c m l)
    rw [show psetL c m l = m from if_pos h0]
    exact OkN.of_set h0 hm
  have Hbd : Hid (∀ R ∈ psetL c m l, BdR R) := by
    show ∀ R ∈ psetL c m l, BdR R
    rw [show psetL c m l = m from if_pos h0]
    exact b0
  have hS := settleOk X t v1 c (psetL c m l) q0 w1 hX1 HT1.out n1 n2 HE.out.cf Hok.out Hbd.out
  have H0 : Hid (setE m c.m = 0) := h0
  rw [h0]
  clear h0 n1 n2 hX1 c0
  go_wp2_with (go_at_call 34; fail)
  refine hS.mono ?_
  rintro e w2 ⟨rfl, q, hX2, hN2, hg2⟩
  have HD : Hid (Did w w2 X c (psetL c m l) S) := HE.out.next HF.out S1.out S2.out HB0.out HM1.out HT1.out hX2 hN2 hg2 Hok.out Hbd.out
  clear hX2 hN2 hg2 hS
  go_wp2_with (fail)
  go_ret
  exact ⟨by rw [H0.out]; rfl, HD.out⟩
 ·have heq : psetL c m l = l := if_neg h0
  have HDz : Hid (Did w w1 X c (psetL c m l) S) := by
   show Did w w1 X c (psetL c m l) S
   have h9 := HT1.out
   rw [heq] at h9 ⊢
   exact HE.out.same HF.out S1.out S2.out S3.out HB0.out HM1.out h9 (Below.refl _ _)
  obtain ⟨E2, hE2⟩ : ∃ E2, E2 = setE m c.m := ⟨_, rfl⟩
  rw [← hE2] at h0 ⊢
  have hS := settleNo X E2 h0 w1
  have HE2 : Hid (E2 = setE m c.m) := hE2
  clear heq hE2 n1 n2 hX1 c0 h0
  go_wp2_with (go_at_call 34; fail)
  refine hS.mono ?_
  rintro e w2 ⟨rfl, rfl⟩
  clear hS
  go_wp2_with (fail)
  go_ret
  exact ⟨by rw [← HE2.out]; rfl, HDz.out⟩
set_option maxHeartbeats 8000000 in
set_option maxRecDepth 20000 in
theorem insertE (X : Nat) (c : Cf) (l : List Ru) (S : Nat → Prop) (p : Int) (R : Ru) (w : World) (h : Eng w X c l S) (b1 : BdR R) (hc : BdC c) (hm : c.m ≤ 64) :
  Calls Tryz.prog 18 #[.pointer (some ⟨X, 0, none⟩), .int .i64 p, .agg #[.int .i64 R.i, .int .u32 R.s, .int .i64 R.sl, .int .u32 R.d, .int .i64 R.dl, .int .u16 R.p.1, .int .u16 R.p.2, .int .u16 R.q.1, .int .u16 R.q.2, .int .u8 R.m.1, .int .u8 R.m.2, .int .i64 R.act]] w fun e w' => e = .returned (.int .i64 (insE l c.m p R)) ∧ Did w w' X c (insL l c.m p R) S := by
 have HE : Hid (Eng w X c l S) := h
 obtain ⟨t, v, q0, b, top, he, s1, s2, s3⟩ := h.at'
 have HF : Hid (EngF w X c l t v q0 b top) := he
 have S1 : Hid (S t) := s1
 have S2 : Hid (∀ k, v.ownBlock = some k → S k) := s2
 have S3 : Hid (∀ k, b ≤ k → k < top → S k) := s3
 have HBd : Hid (BdR R) := b1
 have Hm : Hid (c.m ≤ 64) := hm
 have c0 : w.cell? ⟨X, 0, none⟩ = some (.pointer (some ⟨t, 0, none⟩)) := blk_cell he.blk rfl
 have hI := fun W hT => insertC t v c.m c.a l p R W hT (Nat.le_trans h.ok.few (by decide)) b1 hc.1
 have HI : Hid _ := hI
 clear hI he h s1 s2 s3 b1 hc hm
 go_enter Tryz.func18, Tryz.ntmps18
 go_upto_region 3 with (fail)
 have hcX : (w.alloc (.cells #[.int .i64 R.i, .int .u32 R.s, .int .i64 R.sl, .int .u32 R.d, .int .i64 R.dl, .int .u16 R.p.1, .int .u16 R.p.2, .int .u16 R.q.1, .int .u16 R.q.2, .int .u8 R.m.1, .int .u8 R.m.2, .int .i64 R.act] 64)).cell? ⟨X, 0, none⟩ = some (.pointer (some ⟨t, 0, none⟩)) := cell_on1 ((Below.refl _ _).alloc (Nat.le_refl _) _) c0
 refine wp_region_held_drew (S := fun w' => w'.cell? ⟨X, 0, none⟩ = some (.pointer (some ⟨t, 0, none⟩)) ∧ w'.heap[w.heap.size]? = some (.cells #[.int .i64 R.i, .int .u32 R.s, .int .i64 R.sl, .int .u32 R.d, .int .i64 R.dl, .int .u16 R.p.1, .int .u16 R.p.2, .int .u16 R.q.1, .int .u16 R.q.2, .int .u8 R.m.1, .int .u8 R.m.2, .int .i64 R.act] 64 (0, 0))) (by kernel_rfl) ⟨hcX, blk_new w _⟩ (fun hS0 => ?_)
 show wpAnyH _ _ _ _ _ 10 _ _ _
 clear hcX
 obtain ⟨wd, hwd⟩ : ∃ x, x = (w.alloc (.cells #[.int .i64 R.i, .int .u32 R.s, .int .i64 R.sl, .int .u32 R.d, .int .i64 R.dl, .int .u16 R.p.1, .int .u16 R.p.2, .int .u16 R.q.1, .int .u16 R.q.2, .int .u8 R.m.1, .int .u8 R.m.2, .int .i64 R.act] 64)).drew := ⟨_, rfl⟩
 have HB0 : Hid (Below w.heap.size w wd) := by show Below _ _ _; rw [hwd]; exact Below.drew ((Below.refl _ _).alloc (Nat.le_refl _) _)
 rw [← hwd] at hS0 ⊢
 clear hwd
 have hzd := blk_lt hS0.2
 refine wpTk (i := 0) (v := .pointer (some ⟨X, 0, none⟩)) hS0 ?_
 simp only [nrm]
 refine wpTk (i := 1) (v := .pointer (some ⟨X, 0, none⟩)) hS0 ?_
 simp only [nrm]
 refine wpTk (i := 2) (v := .pointer (some ⟨X, 0, none⟩)) hS0 ?_
 simp only [nrm]
 refine wpTk (i := 3) (v := .pointer (some ⟨X, 0, none⟩)) hS0 ?_
 simp only [nrm]
 refine wpAnyH_take (i := 4) (v := .pointer (some ⟨t, 0, none⟩)) rfl (by kernel_rfl) (by kernel_rfl) (by kernel_rfl) (fun _ _ _ h => h) (.inl ⟨rfl, fun w' hw' => by have hcc := hw'.1; simp [execOp, go_sem, hcc]⟩) hS0 ?_
 simp only [nrm]
 refine wpTk (i := 5) (v := .int .i64 p) hS0 ?_
 simp only [nrm]
 refine wpLd (i := 6) rfl (yieldsIf_load_mid rfl 64 (.tmp 5) rfl w.heap.size 0 rfl [.int .i64 R.i, .int .u32 R.s, .int .i64 R.sl, .int .u32 R.d, .int .i64 R.dl, .int .u16 R.p.1, .int .u16 R.p.2, .int .u16 R.q.1, .int .u16 R.q.2, .int .u8 R.m.1, .int .u8 R.m.2, .int .i64 R.act] _ (fun w' hw' => rngAll hw'.2) Tryz.underlying64 rfl (by kernel_rfl)) hS0 ?_
 try simp only [nrm]
 refine wpO 7 (fun K' hK' => ?_)
 have hT0 := HF.out.tab.on HB0.out
 go_wp2_with (go_at_call 35; refine (HI.out _ hT0).mono ?_; rintro e w1 ⟨rfl, v1, hT1, hm1⟩)
 have hI := hT0
 have HT1 : Hid (Tab w1 t v1 c.m c.a (insL l c.m p R)) := hT1
 have HM1 : Hid (Moved wd w1 t v v1) := hm1
 clear hT1 hm1 hI
 have n1 : t ≠ X := fun e' => HE.out.nX (e' ▸ S1.out)
 have n2 : v1.ownBlock ≠ some X := fun e' => by
  rcases HM1.out.own X e' with e2 | e2
  ·exact HE.out.nX (S2.out X e2)
  ·have := HE.out.lt; have := HB0.out.size; omega
 have hX1 : w1.heap[X]? = some (.cells (CEa t c q0) 80 (0, 0)) := by
  rw [HM1.out.block X (by have := HE.out.lt; have := HB0.out.size; omega) (fun e' => n1 e'.symm) (fun e' => HE.out.nX (S2.out X e')), HB0.out.block X HE.out.lt]
  exact HF.out.blk
 have hs1 : w1.cell? ⟨X, 0, none⟩ = some (.pointer (some ⟨t, 0, none⟩)) ∧ w1.heap[w.heap.size]? = some (.cells #[.int .i64 R.i, .int .u32 R.s, .int .i64 R.sl, .int .u32 R.d, .int .i64 R.dl, .int .u16 R.p.1, .int .u16 R.p.2, .int .u16 R.q.1, .int .u16 R.q.2, .int .u8 R.m.1, .int .u8 R.m.2, .int .i64 R.act] 64 (0, 0)) := ⟨blk_cell hX1 rfl, (HM1.out.block _ hzd (fun e => by have := HF.out.tab.lt; omega) (fun e => by have := HF.out.tab.own e; omega)).trans hS0.2⟩
 refine ⟨hs1, ?_⟩
 by_cases h0 : insE l c.m p R = 0
 ·have Hok : Hid (OkN (insL l c.m p R)) := by
   show OkN (insL l c.m p R)
   rw [show insL l c.m p R = putL l p.toNat R from if_pos h0]
   exact okN_ins HE.out.ok h0 Hm.out
  have Hbd : Hid (∀ R2 ∈ insL l c.m p R, BdR R2) := by
   show ∀ R2 ∈ insL l c.m p R, BdR R2
   rw [show insL l c.m p R = putL l p.toNat R from if_pos h0]
   intro R2 hR2
   rcases putL_mem hR2 with rfl | hR2
   ·exact HBd.out
   ·exact HE.out.bd R2 hR2
  have hS := settleOk X t v1 c (insL l c.m p R) q0 w1 hX1 HT1.out n1 n2 HE.out.cf Hok.out Hbd.out
  have H0 : Hid (insE l c.m p R = 0) := h0
  rw [h0]
  have hsz : w.heap.size ≠ X := fun e => by have := HE.out.lt; omega
  clear h0 n1 n2 hX1 c0
  refine wpO 8 (fun K' hK' => ?_)
  go_wp2_with (go_at_call 34; refine hS.mono ?_; rintro e w2 ⟨rfl, q, hX2, hN2, hg2⟩)
  have HD : Hid (Did w w2 X c (insL l c.m p R) S) := HE.out.next HF.out S1.out S2.out HB0.out HM1.out HT1.out hX2 hN2 hg2 Hok.out Hbd.out
  have hs2 : w2.cell? ⟨X, 0, none⟩ = some (.pointer (some ⟨t, 0, none⟩)) ∧ w2.heap[w.heap.size]? = some (.cells #[.int .i64 R.i, .int .u32 R.s, .int .i64 R.sl, .int .u32 R.d, .int .i64 R.dl, .int .u16 R.p.1, .int .u16 R.p.2, .int .u16 R.q.1, .int .u16 R.q.2, .int .u8 R.m.1, .int .u8 R.m.2, .int .i64 R.act] 64 (0, 0)) := ⟨blk_cell hX2 rfl, (hg2.block _ (blk_lt hs1.2) (fun e => hsz (by injection e))).trans hs1.2⟩
  refine ⟨hs2, ?_⟩
  clear hX2 hN2 hg2 hS hs1
  refine wpTk (i := 9) (v := .int .i64 0) hs2 ?_
  simp only [nrm]
  refine wpAnyH_done (by kernel_rfl) ?_ _
  try simp only [nrm]
  clear hs2
  go_wp2_with (fail)
  go_ret
  exact ⟨by rw [H0.out]; rfl, HD.out⟩
 ·have heq : insL l c.m p R = l := if_neg h0
  have HDz : Hid (Did w w1 X c (insL l c.m p R) S) := by
   show Did w w1 X c (insL l c.m p R) S
   have h9 := HT1.out
   rw [heq] at h9 ⊢
   exact HE.out.same HF.out S1.out S2.out S3.out HB0.out HM1.out h9 (Below.refl _ _)
  obtain ⟨E2, hE2⟩ : ∃ E2, E2 = insE l c.m p R := ⟨_, rfl⟩
  rw [← hE2] at h0 ⊢
  have hS := settleNo X E2 h0 w1
  have HE2 : Hid (E2 = insE l c.m p R) := hE2
  clear heq hE2 n1 n2 hX1 c0 h0
  refine wpO 8 (fun K' hK' => ?_)
  go_wp2_with (go_at_call 34; refine hS.mono ?_; rintro e w2 ⟨rfl, rfl⟩)
  refine ⟨hs1, ?_⟩
  clear hS
  refine wpTk (i := 9) (v := .int .i64 E2) hs1 ?_
  simp only [nrm]
  refine wpAnyH_done (by kernel_rfl) ?_ _
  try simp only [nrm]
  clear hs1
  go_wp2_with (fail)
  go_ret
  exact ⟨by rw [← HE2.out]; rfl, HDz.out⟩
end Go.Proofs.YtgokmkholjfhbaaGreat

