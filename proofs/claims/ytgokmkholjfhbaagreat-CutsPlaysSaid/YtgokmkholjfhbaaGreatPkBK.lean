/-
  PkBK: CtE, one behind the other (tools/pack.py).
-/
import Derived.Test.YtgokmkholjfhbaaGreatPkBG
import Derived.Test.YtgokmkholjfhbaaGreatPkBI
import Derived.Test.YtgokmkholjfhbaaGreatPkBJ
import Derived.Test.YtgokmkholjfhbaaGreatPkAE
set_option linter.unusedVariables false
set_option linter.unusedSimpArgs false
namespace Go.Proofs.YtgokmkholjfhbaaGreat
open Go.RowKit
structure OkN (l : List Ru) : Prop where
 may : ∀ R ∈ l, okR R = true
 one : (l.map Ru.i).Nodup
 few : l.length ≤ 64
theorem OkN.nil : OkN [] := ⟨by simp, by simp, by simp⟩
theorem OkN.fnd {l : List Ru} (o : OkN l) {k : Nat} (hk : k < l.length) : fnd (l.take k) l[k].i = -1 := by
 rw [fnd_none]
 intro R hR e
 obtain ⟨j, hj, rfl⟩ := List.mem_iff_getElem.1 hR
 rw [List.length_take] at hj
 rw [List.getElem_take] at e
 have h1 := o.one
 rw [List.nodup_iff_pairwise_ne, List.pairwise_iff_getElem] at h1
 exact h1 j k (by simp; omega) (by simp; omega) (by omega) (by simpa using e)
theorem OkN.set {l : List Ru} (o : OkN l) : setE l 64 = 0 := by
 have key : ∀ d, d ≤ l.length → setK 64 (l.take (l.length - d)) (l.drop (l.length - d)) = 0 := fun d => by
  induction d with
  | zero => intro _; exact setK_end (Nat.le_refl _)
  | succ d ih =>
   intro hd
   have hk : l.length - (d + 1) < l.length := by omega
   have hj : joinE (l.take (l.length - (d + 1))) l[l.length - (d + 1)] = 0 := joinE_ok.2 ⟨(okR_err _).1 (o.may _ (List.getElem_mem hk)), o.fnd hk⟩
   have hf := o.few
   rw [setK_next hk hj (by omega), show l.length - (d + 1) + 1 = l.length - d by omega]
   exact ih (by omega)
 have := key l.length (Nat.le_refl _)
 rw [Nat.sub_self] at this
 exact this
theorem OkN.of_set {l : List Ru} {M : Int} (h : setE l M = 0) (hM : M ≤ 64) : OkN l := by
 have o := setE_ok h
 refine ⟨fun R hR => ?_, ?_, ?_⟩
 ·obtain ⟨k, hk, rfl⟩ := List.mem_iff_getElem.1 hR
  exact o.may k hk
 ·rw [List.nodup_iff_pairwise_ne, List.pairwise_iff_getElem]
  intro i j hi hj hij
  have := o.ne (j := i) (k := j) hij (by simpa using hj)
  simpa using this
 ·rcases o.few with e | e
  ·rw [e]; simp
  ·omega
theorem okN_ins {l : List Ru} (o : OkN l) {M p : Int} {R : Ru} (h : insE l M p R = 0) (hM : M ≤ 64) : OkN (putL l p.toNat R) := by
 have hj : joinE l R = 0 := by
  unfold insE at h
  by_cases e : joinE l R = 0
  ·exact e
  ·rw [if_neg e] at h; exact absurd h e
 have hlt : (l.length : Int) < M := by
  unfold insE at h
  rw [if_pos hj] at h
  by_cases e : 0 ≤ p ∧ p ≤ l.length
  ·rw [if_pos e] at h
   by_cases e2 : M ≤ l.length
   ·rw [if_pos e2] at h; exact absurd h (by decide)
   ·omega
  ·rw [if_neg e] at h; exact absurd h (by decide)
 obtain ⟨j1, j2⟩ := joinE_ok.1 hj
 have hp : (putL l p.toNat R).Perm (R :: l) := by
  unfold putL
  refine (List.perm_middle).trans ?_
  rw [List.take_append_drop]
 refine ⟨fun S hS => ?_, ?_, ?_⟩
 ·rcases List.mem_cons.1 (hp.mem_iff.1 hS) with rfl | hS
  ·exact (okR_err _).2 j1
  ·exact o.may S hS
 ·rw [(hp.map Ru.i).nodup_iff, List.map_cons, List.nodup_cons]
  refine ⟨fun hm => ?_, o.one⟩
  obtain ⟨S, hS, e⟩ := List.mem_map.1 hm
  exact (fnd_none.1 j2) S hS e
 ·rw [hp.length_eq, List.length_cons]; omega
theorem outL_sub (l : List Ru) (k : Nat) : (outL l k).Sublist l := by
 unfold outL
 conv => rhs; rw [← List.take_append_drop k l]
 exact List.Sublist.append_left (List.drop_sublist_drop_left l (Nat.le_succ k)) _
theorem okN_sub {l m : List Ru} (o : OkN l) (h : m.Sublist l) : OkN m := ⟨fun R hR => o.may R (h.subset hR), (h.map Ru.i).nodup o.one, Nat.le_trans h.length_le o.few⟩
theorem delL_sub (l : List Ru) (x : Int) : (delL l x).Sublist l := by
 unfold delL; split
 ·exact outL_sub l _
 ·exact List.Sublist.refl l
theorem putL_mem {l : List Ru} {p : Nat} {R S : Ru} (h : S ∈ putL l p R) : S = R ∨ S ∈ l := by
 unfold putL at h
 rcases List.mem_append.1 h with h | h
 ·exact .inr (List.mem_of_mem_take h)
 ·rcases List.mem_cons.1 h with h | h
  ·exact .inl h
  ·exact .inr (List.mem_of_mem_drop h)
def CEa (t : Nat) (c : Cf) (q : Nv) : Array Value := #[.pointer (some ⟨t, 0, none⟩), .int .i64 c.a, .int .i64 c.b, .int .i64 c.d, .int .u32 q.x.a.1, .int .u32 q.x.a.2, .int .u32 q.x.b.1, .int .u32 q.x.b.2, .int .u16 q.x.c.1, .int .u16 q.x.c.2, .int .u16 q.x.d.1, .int .u16 q.x.d.2, .int .u8 q.x.m.1, .int .u8 q.x.m.2, .pointer q.k, .slice q.ad q.n q.cap]
structure EngF (w : World) (X : Nat) (c : Cf) (l : List Ru) (t : Nat) (v : Value) (q : Nv) (b top : Nat) : Prop where
 blk : w.heap[X]? = some (.cells (CEa t c q) 80 (0, 0))
 tab : Tab w t v c.m c.a l
 tp : top ≤ w.heap.size
 ap : ∀ k, b ≤ k → k < top → k ≠ t ∧ v.ownBlock ≠ some k
 nd : ∀ W : World, (∀ k, b ≤ k → k < top → W.heap[k]? = w.heap[k]?) → Nd c.b.toNat W b c.d.toNat (rootP l) q
structure Eng (w : World) (X : Nat) (c : Cf) (l : List Ru) (S : Nat → Prop) : Prop where
 at' : ∃ t v q b top, EngF w X c l t v q b top ∧ S t ∧ (∀ k, v.ownBlock = some k → S k) ∧ ∀ k, b ≤ k → k < top → S k
 ok : OkN l
 bd : ∀ R ∈ l, BdR R
 cf : okC c = true
 nX : ¬ S X
theorem Eng.lt {w : World} {X : Nat} {c : Cf} {l : List Ru} {S : Nat → Prop} (h : Eng w X c l S) : X < w.heap.size := by
 obtain ⟨t, v, q, b, top, e, _⟩ := h.at'
 exact blk_lt e.blk
theorem tab_stay {w w1 : World} {t : Nat} {v : Value} {M A : Int} {l : List Ru} (h : Tab w t v M A l) (ht : w1.heap[t]? = w.heap[t]?) (hv : ∀ k, v.ownBlock = some k → w1.heap[k]? = w.heap[k]?) : Tab w1 t v M A l := by
 refine ⟨ht.trans h.1, ?_, h.2.2⟩
 refine ⟨h.2.1.1, ?_⟩
 rcases h.2.1.2 with h2 | ⟨g, cap, cur, e, hg, hh, q⟩
 ·exact .inl h2
 ·exact .inr ⟨g, cap, cur, e, hg, by rw [hv g (by rw [e]; rfl)]; exact hh, q⟩
theorem EngF.stay {w w1 : World} {X : Nat} {c : Cf} {l : List Ru} {t : Nat} {v : Value} {q : Nv} {b top : Nat} (h : EngF w X c l t v q b top) (hs : w.heap.size ≤ w1.heap.size) (hX : w1.heap[X]? = w.heap[X]?) (ht : w1.heap[t]? = w.heap[t]?) (hv : ∀ k, v.ownBlock = some k → w1.heap[k]? = w.heap[k]?) (hn : ∀ k, b ≤ k → k < top → w1.heap[k]? = w.heap[k]?) : EngF w1 X c l t v q b top :=
 ⟨hX.trans h.blk, tab_stay h.tab ht hv, Nat.le_trans h.tp hs, h.ap, fun W hW => h.nd W (fun k h1 h2 => (hW k h1 h2).trans (hn k h1 h2))⟩
theorem Eng.stay {w w1 : World} {X : Nat} {c : Cf} {l : List Ru} {S : Nat → Prop} (h : Eng w X c l S) (hs : w.heap.size ≤ w1.heap.size) (hk : ∀ k, k < w.heap.size → (k = X ∨ S k) → w1.heap[k]? = w.heap[k]?) : Eng w1 X c l S := by
 obtain ⟨t, v, q, b, top, e, s1, s2, s3⟩ := h.at'
 exact ⟨⟨t, v, q, b, top, e.stay hs (hk X (blk_lt e.blk) (.inl rfl)) (hk t e.tab.lt (.inr s1)) (fun k hk' => hk k (e.tab.own hk') (.inr (s2 k hk'))) (fun k h1 h2 => hk k (Nat.lt_of_lt_of_le h2 e.tp) (.inr (s3 k h1 h2))), s1, s2, s3⟩, h.ok, h.bd, h.cf, h.nX⟩
theorem Eng.on {w w1 : World} {X : Nat} {c : Cf} {l : List Ru} {S : Nat → Prop} (h : Eng w X c l S) (hb : Below w.heap.size w w1) : Eng w1 X c l S := h.stay hb.size (fun k hk _ => hb.block k hk)
theorem Eng.mono {w : World} {X : Nat} {c : Cf} {l : List Ru} {S S' : Nat → Prop} (h : Eng w X c l S) (hs : ∀ k, k < w.heap.size → S k → S' k) (hX : ¬ S' X) : Eng w X c l S' := by
 obtain ⟨t, v, q, b, top, e, s1, s2, s3⟩ := h.at'
 exact ⟨⟨t, v, q, b, top, e, hs t e.tab.lt s1, fun k hk => hs k (e.tab.own hk) (s2 k hk), fun k h1 h2 => hs k (Nat.lt_of_lt_of_le h2 e.tp) (s3 k h1 h2)⟩, h.ok, h.bd, h.cf, hX⟩
structure Grs (w w' : World) (X : Nat) (S : Nat → Prop) : Prop where
 os : w'.os = w.os
 tape : w'.tape = w.tape
 output : w'.output = w.output
 size : w.heap.size ≤ w'.heap.size
 block : ∀ k, k < w.heap.size → k ≠ X → ¬ S k → w'.heap[k]? = w.heap[k]?
theorem Grs.of {w w' : World} (X : Nat) (S : Nat → Prop) (h : Below w.heap.size w w') : Grs w w' X S := ⟨h.os, h.tape, h.output, h.size, fun k hk _ _ => h.block k hk⟩
theorem Grs.pre {w w1 w2 : World} {X : Nat} {S : Nat → Prop} (hb : Below w.heap.size w w1) (hg : Grs w1 w2 X S) : Grs w w2 X S :=
 ⟨hg.os.trans hb.os, hg.tape.trans hb.tape, hg.output.trans hb.output, Nat.le_trans hb.size hg.size, fun k hk h1 h2 => by rw [hg.block k (Nat.lt_of_lt_of_le hk hb.size) h1 h2, hb.block k hk]⟩
theorem Grs.then {w w1 w2 : World} {X : Nat} {S : Nat → Prop} (hg : Grs w w1 X S) (hb : Below w1.heap.size w1 w2) : Grs w w2 X S :=
 ⟨hb.os.trans hg.os, hb.tape.trans hg.tape, hb.output.trans hg.output, Nat.le_trans hg.size hb.size, fun k hk h1 h2 => by rw [hb.block k (Nat.lt_of_lt_of_le hk hg.size), hg.block k hk h1 h2]⟩
theorem Grs.below {w0 w w' : World} {X B : Nat} {S : Nat → Prop} (hg : Grs w w' X S) (hb : Below B w0 w) (hB : B ≤ w.heap.size) (hX : B ≤ X) (hS : ∀ k, S k → B ≤ k) : Below B w0 w' :=
 ⟨hg.os.trans hb.os, hg.tape.trans hb.tape, hg.output.trans hb.output, Nat.le_trans hb.size hg.size, fun k hk => by rw [hg.block k (Nat.lt_of_lt_of_le hk hB) (by omega) (fun h => by have := hS k h; omega), hb.block k hk]⟩
def Did (w w' : World) (X : Nat) (c : Cf) (l' : List Ru) (S : Nat → Prop) : Prop := Eng w' X c l' (fun k => S k ∨ (w.heap.size ≤ k ∧ k < w'.heap.size)) ∧ Grs w w' X S
theorem Eng.did {w w' : World} {X : Nat} {c : Cf} {l : List Ru} {S : Nat → Prop} (h : Eng w X c l S) (hb : Below w.heap.size w w') : Did w w' X c l S :=
 ⟨(h.on hb).mono (fun k _ e => .inl e) (fun e => by
  rcases e with e | ⟨e, _⟩
  ·exact h.nX e
  ·have := h.lt; omega), Grs.of X S hb⟩
theorem tab_gr {w w' : World} {t g : Nat} {v : Value} {M A : Int} {l : List Ru} (h : Tab w t v M A l) (hg : w.grownBy w' (some g)) (h1 : t ≠ g) (h2 : v.ownBlock ≠ some g) : Tab w' t v M A l :=
 tab_stay h (hg.block t h.lt (by intro e; injection e with e; exact h1 e)) (fun k e => hg.block k (h.own e) (by intro e2; injection e2 with e2; subst e2; exact h2 e))
theorem okC_bd {c : Cf} (h : okC c = true) : (1 ≤ c.m ∧ c.m ≤ 64) ∧ (1 ≤ c.b ∧ c.b ≤ 16) ∧ (0 ≤ c.d ∧ c.d ≤ 10) := by
 unfold okC at h
 simp only [Bool.and_eq_true, amg_iff] at h
 exact ⟨h.1.1.1, h.2⟩
structure EngS (w w' : World) (X : Nat) : Prop where
 g : w.grownBy w' (some X)
 c : ∀ j, j < 4 → w'.cell? ⟨X, j, none⟩ = w.cell? ⟨X, j, none⟩
theorem EngS.drew (w : World) (X : Nat) : EngS w w.drew X := ⟨gr_drew w X, fun _ _ => rfl⟩
theorem EngS.then {w w1 w2 : World} {X : Nat} (h : EngS w w1 X) (hb : Below w1.heap.size w1 w2) (hX : X < w1.heap.size := by (first | assumption | omega)) : EngS w w2 X :=
 ⟨gr_then h.g hb, fun j hj => by rw [hb.cell (p := ⟨X, j, none⟩) hX, h.c j hj]⟩
theorem EngS.only {w w1 w2 : World} {X t : Nat} {c : Cf} {q0 q : Nv} {ty ty2 : TypeId} {fr fr2 : Nat × Nat} (h : EngS w w1 X) (ho : Only X w1 w2) (h1 : w1.heap[X]? = some (.cells (CEa t c q0) ty fr)) (h2 : w2.heap[X]? = some (.cells (CEa t c q) ty2 fr2)) : EngS w w2 X :=
 ⟨gr_only h.g ho, fun j hj => by
  rw [← h.c j hj]
  match j, hj with
  | 0, _ => rw [blk_cell (v := .pointer (some ⟨t, 0, none⟩)) h1 rfl, blk_cell (v := .pointer (some ⟨t, 0, none⟩)) h2 rfl]
  | 1, _ => rw [blk_cell (v := .int .i64 c.a) h1 rfl, blk_cell (v := .int .i64 c.a) h2 rfl]
  | 2, _ => rw [blk_cell (v := .int .i64 c.b) h1 rfl, blk_cell (v := .int .i64 c.b) h2 rfl]
  | 3, _ => rw [blk_cell (v := .int .i64 c.d) h1 rfl, blk_cell (v := .int .i64 c.d) h2 rfl]⟩
set_option maxRecDepth 20000 in
set_option maxHeartbeats 8000000 in
theorem settleOk (X t : Nat) (v : Value) (c : Cf) (l : List Ru) (q0 : Nv) (w : World) (hX : w.heap[X]? = some (.cells (CEa t c q0) 80 (0, 0))) (hT : Tab w t v c.m c.a l) (n1 : t ≠ X) (n2 : v.ownBlock ≠ some X) (hc : okC c = true) (ok : OkN l) (bd : ∀ R ∈ l, BdR R) :
  Calls Tryz.prog 34 #[.pointer (some ⟨X, 0, none⟩), .int .i64 0] w fun e w' => e = .returned (.int .i64 0) ∧ ∃ q : Nv, w'.heap[X]? = some (.cells (CEa t c q) 80 (0, 0)) ∧ Nd c.b.toNat w' w.heap.size c.d.toNat (rootP l) q ∧ w.grownBy w' (some X) := by
 have hR := fun W hg => rulesC t v c.m c.a l W (tab_gr hT hg n1 n2) (Nat.le_trans ok.few (by decide))
 obtain ⟨_, ⟨hb1, hb2⟩, hd1, hd2⟩ := okC_bd hc
 obtain ⟨bn, hbn⟩ : ∃ bn : Nat, c.b = (bn : Int) := ⟨c.b.toNat, by omega⟩
 obtain ⟨dn, hdn⟩ : ∃ dn : Nat, c.d = (dn : Int) := ⟨c.d.toNat, by omega⟩
 have hP := fun u W hs => plantC bn dn u l W hs ok.few ok.may bd (by omega)
 have HR : Hid _ := hR
 have HP : Hid _ := hP
 have hXl := blk_lt hX
 have c0 : w.cell? ⟨X, 0, none⟩ = some (.pointer (some ⟨t, 0, none⟩)) := blk_cell hX rfl
 have c2 : w.cell? ⟨X, 2, none⟩ = some (.int .i64 bn) := by have h : w.cell? ⟨X, 2, none⟩ = some (.int .i64 c.b) := blk_cell hX rfl; rw [hbn] at h; exact h
 have c3 : w.cell? ⟨X, 3, none⟩ = some (.int .i64 dn) := by have h : w.cell? ⟨X, 3, none⟩ = some (.int .i64 c.d) := blk_cell hX rfl; rw [hdn] at h; exact h
 have HX : Hid (w.heap[X]? = some (.cells #[.pointer (some ⟨t, 0, none⟩), .int .i64 c.a, .int .i64 c.b, .int .i64 c.d, .int .u32 q0.x.a.1, .int .u32 q0.x.a.2, .int .u32 q0.x.b.1, .int .u32 q0.x.b.2, .int .u16 q0.x.c.1, .int .u16 q0.x.c.2, .int .u16 q0.x.d.1, .int .u16 q0.x.d.2, .int .u8 q0.x.m.1, .int .u8 q0.x.m.2, .pointer q0.k, .slice q0.ad q0.n q0.cap] 80 (0, 0))) := hX
 rw [hbn, hdn]
 have Hbn : Hid (c.b = (bn : Int)) := hbn
 have Hdn : Hid (c.d = (dn : Int)) := hdn
 simp only [Int.toNat_natCast]
 clear hX hT hc ok bd hR hP hb1 hb2 hd1 hd2 hbn hdn
 go_enter Tryz.func34, Tryz.ntmps34
 go_upto_region 2 with (fail)
 have hZ0 := HX.out
 refine wp_region_held_drew (S := fun w' => EngS w w' X) (by kernel_rfl) (EngS.drew _ _) (fun hS0 => ?_)
 show wpAnyH _ _ _ _ _ 18 _ _ _
 obtain ⟨wd, hwd⟩ : ∃ x, x = w.drew := ⟨_, rfl⟩
 have hXd : X < wd.heap.size := by rw [hwd]; exact hXl
 have hkd : wd.heap[X]? = w.heap[X]? := by rw [hwd]; rfl
 rw [hZ0] at hkd
 have hzd : Hid (w.heap.size = wd.heap.size) := by rw [hwd]; rfl
 rw [← hwd] at hS0 ⊢
 clear hwd
 refine wpTk (i := 0) (v := .pointer (some ⟨X, 0, none⟩)) hS0 ?_
 simp only [nrm]
 refine wpTk (i := 1) (v := .pointer (some ⟨X, 0, none⟩)) hS0 ?_
 simp only [nrm]
 refine wpTk (i := 6) (v := .pointer (some ⟨X, 0, none⟩)) hS0 ?_
 simp only [nrm]
 refine wpTk (i := 10) (v := .pointer (some ⟨X, 0, none⟩)) hS0 ?_
 simp only [nrm]
 refine wpTk (i := 2) (v := .pointer (some ⟨X, 0, none⟩)) hS0 ?_
 simp only [nrm]
 refine wpTk (i := 7) (v := .pointer (some ⟨X, 0, none⟩)) hS0 ?_
 simp only [nrm]
 refine wpTk (i := 11) (v := .pointer (some ⟨X, 0, none⟩)) hS0 ?_
 simp only [nrm]
 refine wpTk (i := 3) (v := .pointer (some ⟨X, 0, none⟩)) hS0 ?_
 simp only [nrm]
 refine wpTk (i := 8) (v := .pointer (some ⟨X, 2, none⟩)) hS0 ?_
 simp only [nrm]
 refine wpTk (i := 12) (v := .pointer (some ⟨X, 3, none⟩)) hS0 ?_
 simp only [nrm]
 refine wpAnyH_take (i := 4) (v := .pointer (some ⟨t, 0, none⟩)) rfl (by kernel_rfl) (by kernel_rfl) (by kernel_rfl) (fun _ _ _ h => h) (.inl ⟨rfl, fun w' hw' => by have hcc := (hw'.c 0 (by decide)).trans c0; simp [execOp, go_sem, hcc]⟩) hS0 ?_
 simp only [nrm]
 refine wpAnyH_take (i := 9) (v := .int .i64 bn) rfl (by kernel_rfl) (by kernel_rfl) (by kernel_rfl) (fun _ _ _ h => h) (.inl ⟨rfl, fun w' hw' => by have hcc := (hw'.c 2 (by decide)).trans c2; simp [execOp, go_sem, hcc]⟩) hS0 ?_
 simp only [nrm]
 refine wpAnyH_take (i := 13) (v := .int .i64 dn) rfl (by kernel_rfl) (by kernel_rfl) (by kernel_rfl) (fun _ _ _ h => h) (.inl ⟨rfl, fun w' hw' => by have hcc := (hw'.c 3 (by decide)).trans c3; simp [execOp, go_sem, hcc]⟩) hS0 ?_
 simp only [nrm]
 refine wpO 5 (fun K' hK' => ?_)
 go_wp2_with (go_at_call 47; refine (HR.out _ hS0.g).mono ?_; rintro e wa1 ⟨u, rfl, hru, hb1⟩)
 have hX1 : X < wa1.heap.size := Nat.lt_of_lt_of_le (by assumption) hb1.size
 have hz1 : Hid (wd.heap.size ≤ wa1.heap.size) := hb1.size
 have hs1 : EngS w wa1 X := hS0.then hb1
 have hk1Z := blk_on hkd hb1
 refine ⟨hs1, ?_⟩
 refine wpO 14 (fun K' hK' => ?_)
 go_wp2_with (go_at_call 46; refine (HP.out u _ (RowU.src hru)).mono ?_; rintro e wa2 ⟨q, rfl, hN, hb2⟩)
 have hX2 : X < wa2.heap.size := Nat.lt_of_lt_of_le (by assumption) hb2.size
 have hz2 : Hid (wa1.heap.size ≤ wa2.heap.size) := hb2.size
 have hs2 : EngS w wa2 X := hs1.then hb2
 have hk2Z := blk_on hk1Z hb2
 refine ⟨hs2, ?_⟩
 refine wpTk (i := 15) (v := .pointer (some ⟨X, 0, none⟩)) hs2 ?_
 simp only [nrm]
 refine wpTk (i := 16) (v := .pointer (some ⟨X, 4, none⟩)) hs2 ?_
 simp only [nrm]
 have zhzd := hzd.out
 have zhz1 := hz1.out
 have zhz2 := hz2.out
 refine wpO 17 (fun K' hK' => ?_)
 refine wpSt 78 (.tmp 23) (.tmp 21) rfl (X) 4 #[.int .u32 q.x.a.1, .int .u32 q.x.a.2, .int .u32 q.x.b.1, .int .u32 q.x.b.2, .int .u16 q.x.c.1, .int .u16 q.x.c.2, .int .u16 q.x.d.1, .int .u16 q.x.d.2, .int .u8 q.x.m.1, .int .u8 q.x.m.2, .pointer q.k, .slice q.ad q.n q.cap] #[.pointer (some ⟨t, 0, none⟩), .int .i64 c.a, .int .i64 c.b, .int .i64 c.d, .int .u32 q.x.a.1, .int .u32 q.x.a.2, .int .u32 q.x.b.1, .int .u32 q.x.b.2, .int .u16 q.x.c.1, .int .u16 q.x.c.2, .int .u16 q.x.d.1, .int .u16 q.x.d.2, .int .u8 q.x.m.1, .int .u8 q.x.m.2, .pointer q.k, .slice q.ad q.n q.cap] rfl rfl 80 _ hk2Z (fun wb3 hp3 ho3 => hK' _ _ ?_)
 have ht3 : EngS w wb3 X := hs2.only ho3 hk2Z hp3
 refine ⟨ht3, ?_⟩
 refine wpAnyH_done (by kernel_rfl) ?_ _
 try simp only [nrm]
 clear zhzd zhz1 zhz2
 have HS9 := ht3
 have HX9 := hp3
 go_wp2_with (fail)
 go_ret
 refine ⟨rfl, q, HX9, ?_, HS9.g⟩
 refine ((hN.base ?_)).stay (fun k hk1 hk2 => ho3.block k ?_)
 ·have h1 := hS0.g.size; have h2 := hb1.size; omega
 ·have h1 := hXl; omega
end Go.Proofs.YtgokmkholjfhbaaGreat
