/-
  PkAV: TpR, one behind the other (tools/pack.py).
-/
import Derived.Test.YtfpmljgmfapoiaaGreatPkAU
import Derived.Test.YtfpmljgmfapoiaaGreatPkAD
/-
  rank: the order in which the tables are asked. Written by tools/mkTpR.py.
-/
namespace Go.Proofs.YtfpmljgmfapoiaaGreat
open Go.RowKit
set_option linter.unusedVariables false
set_option linter.unusedSimpArgs false

/-- The order so far, if a tuple of the rule at place j comes. -/
def rkStep (T : List (Nat × Tp)) (j : Nat) (t : Tp) : List (Nat × Tp) := if t ∈ T.map (·.2) then T else T ++ [(j, t)]
def rkR (T : List (Nat × Tp)) (j : Nat) (xs : List Spt) : List (Nat × Tp) := xs.foldl (fun T x => rkStep T j x.1) T
def rkG : List Ru → Nat → List (Nat × Tp) → List (Nat × Tp)
  | [], _, T => T
  | R :: m, j, T => rkG m (j + 1) (rkR T j (spR R))
theorem rkG_snoc : ∀ (m : List Ru) (j : Nat) (T : List (Nat × Tp)) (R : Ru), rkG (m ++ [R]) j T = rkR (rkG m j T) (j + m.length) (spR R)
  | [], j, T, R => rfl
  | S :: m, j, T, R => by
    show rkG (m ++ [R]) (j + 1) _ = _
    rw [rkG_snoc m (j + 1) _ R, List.length_cons, show j + 1 + m.length = j + (m.length + 1) by omega]
    rfl
def rkK (l : List Ru) (k : Nat) : List (Nat × Tp) := rkG (l.take k) 0 []
theorem rkK_step {l : List Ru} {k : Nat} (h : k < l.length) : rkK l (k + 1) = rkR (rkK l k) k (spR l[k]) := by
  unfold rkK
  rw [List.take_succ_eq_append_getElem h, rkG_snoc, List.length_take, Nat.min_eq_left (by omega), Nat.zero_add]
theorem rkR_step {T : List (Nat × Tp)} {j i : Nat} {xs : List Spt} (h : i < xs.length) : rkR T j (xs.take (i + 1)) = rkStep (rkR T j (xs.take i)) j xs[i].1 := by
  unfold rkR
  rw [List.take_succ_eq_append_getElem h, List.foldl_append]; rfl
theorem rkStep_len (T : List (Nat × Tp)) (j : Nat) (t : Tp) : (rkStep T j t).length ≤ T.length + 1 := by
  unfold rkStep; split <;> simp
theorem rkR_len (j : Nat) : ∀ (xs : List Spt) (T : List (Nat × Tp)), (rkR T j xs).length ≤ T.length + xs.length
  | [], T => Nat.le_refl _
  | x :: xs, T => by
    show (rkR (rkStep T j x.1) j xs).length ≤ _
    have h1 := rkR_len j xs (rkStep T j x.1)
    have h2 := rkStep_len T j x.1
    rw [List.length_cons]; omega
theorem rkG_len : ∀ (m : List Ru) (j : Nat) (T : List (Nat × Tp)), (rkG m j T).length ≤ T.length + m.length * 900
  | [], j, T => by simp [rkG]
  | R :: m, j, T => by
    have h1 := rkG_len m (j + 1) (rkR T j (spR R))
    have h2 := rkR_len j (spR R) T
    have h3 := sp_le R
    show (rkG m (j + 1) (rkR T j (spR R))).length ≤ _
    rw [List.length_cons]; omega
theorem rkK_len (l : List Ru) (k : Nat) : (rkK l k).length ≤ k * 900 := by
  have := rkG_len (l.take k) 0 []
  rw [List.length_take] at this
  have h2 : min k l.length * 900 ≤ k * 900 := Nat.mul_le_mul_right _ (by omega)
  simp only [List.length_nil] at this
  unfold rkK; omega
/-- The turns as they lie in memory: the tables' blocks by f. -/
def trnF (f : Tp → Option Nat) (T : List (Nat × Tp)) : List Trn := T.map fun x => (x.1, (f x.2).getD 0)
theorem trnF_snoc (f : Tp → Option Nat) (T : List (Nat × Tp)) (j : Nat) (t : Tp) : trnF f (T ++ [(j, t)]) = trnF f T ++ [(j, (f t).getD 0)] := by
  unfold trnF; rw [List.map_append]; rfl
/-- What holds while the tables are ranked. -/
structure Rks (w0 w : World) (X B Br : Nat) (c0 c1 c2 : Value) (f : Tp → Option Nat) (T : List (Nat × Tp)) (ad : Option Addr) (n cap : Nat) : Prop where
  blk : w.heap[X]? = some (.cells #[c0, c1, c2, .map (some B), .slice ad n cap] 76 (0, 0))
  row : RowV w w0.heap.size (.slice ad n cap) (trnF f T)
  set : ∃ m, m ≤ T.length ∧ Ms w Br m (T.map (·.2))
  new : w0.heap.size ≤ Br
  ne : (Value.slice ad n cap).ownBlock ≠ some Br
  chg : Chg w0 w (fun b => b = X)
  lt : X < w0.heap.size
theorem rowV_stay {w w' : World} {b : Nat} {v : Value} {l : List Trn} (h : RowV w b v l) (hb : ∀ k, v.ownBlock = some k → w'.heap[k]? = w.heap[k]?) : RowV w' b v l := by
  refine ⟨h.1, ?_⟩
  rcases h.2 with h2 | ⟨g, cap, cur, hvv, hg, hh, r⟩
  · exact .inl h2
  · exact .inr ⟨g, cap, cur, hvv, hg, by rw [hb g (by rw [hvv]; rfl)]; exact hh, r⟩
theorem Rks.on {w0 w w' : World} {X B Br : Nat} {c0 c1 c2 : Value} {f : Tp → Option Nat} {T : List (Nat × Tp)} {ad : Option Addr} {n cap : Nat} (h : Rks w0 w X B Br c0 c1 c2 f T ad n cap) (hb : Below w.heap.size w w') : Rks w0 w' X B Br c0 c1 c2 f T ad n cap := by
  obtain ⟨m, hm, hs⟩ := h.set
  exact ⟨blk_on h.blk hb, h.row.on hb, ⟨m, hm, hs.on hb⟩, h.new, h.ne, h.chg.trans (Chg.of_below hb (fun _ => False)) (fun _ e => e.elim), h.lt⟩
theorem wp_appendSV {o : Oper} {a : Act} {w : World} {K : Act → World → Prop} {Q : Exit → Act → World → Prop} (s x : Operand)
    (ho : o.op = .call { callee := .builtin .append, args := #[s, x], argTypes := #[71, 71] })
    (b : Nat) (v : Value) (l : List Trn) (hs : a.eval s = v) (h : RowV w b v l) (u : Value) (k : List Trn) (hx : a.eval x = u) (hk : SrcV w u k) (hb : b ≤ w.heap.size) (hsz : l.length + k.length ≤ 4294967296)
    (hK : ∀ v' w', RowV w' b v' (l ++ k) → w.grownBy w' v.ownBlock → (v'.ownBlock = v.ownBlock ∨ v'.ownBlock = .some w.heap.size) → K (a.put o.dst v') w') : o.wp Tryz.prog a w K Q := by
  obtain ⟨v', w', hr, h2, h3, h4⟩ := run_appendSV w o.type b v l h u k hk hb hsz
  unfold Oper.wp execOp
  simp only [ho, resolve, invoke, builtin, Sem.run_bind, Sem.run_pure, Result.andThen_ok, List.map_toArray, List.map_cons, List.map_nil, hs, hx, hr]
  exact hK v' w' h2 h3 h4
set_option maxHeartbeats 2000000 in
theorem rks_fin {w0 w w5 wa w7 : World} {X B Br : Nat} {c0 c1 c2 : Value} {f : Tp → Option Nat} {T : List (Nat × Tp)} {ad ad7 : Option Addr} {n cap n7 cap7 k m : Nat} {t : Tp} {G : Nat} (h : Rks w0 w X B Br c0 c1 c2 f T ad n cap) (hf : f t = some G)
    (hM : Ms w5 Br (m + 1) (T.map (·.2) ++ [t])) (hm : m ≤ T.length) (hg5 : w.grownBy w5 (some Br)) (hba : Below w5.heap.size w5 wa) (hr7 : RowV w7 w0.heap.size (.slice ad7 n7 cap7) (trnF f T ++ [(k, G)])) (hg7 : wa.grownBy w7 (Value.slice ad n cap).ownBlock)
    (ho7 : (Value.slice ad7 n7 cap7).ownBlock = (Value.slice ad n cap).ownBlock ∨ (Value.slice ad7 n7 cap7).ownBlock = some wa.heap.size) :
    Rks w0 (w7.setCell ⟨X, 4, none⟩ (.slice ad7 n7 cap7)) X B Br c0 c1 c2 f (T ++ [(k, t)]) ad7 n7 cap7 ∧ (∀ b, b < w.heap.size → b ≠ Br → b ≠ X → (Value.slice ad n cap).ownBlock ≠ some b → (w7.setCell ⟨X, 4, none⟩ (.slice ad7 n7 cap7)).heap[b]? = w.heap[b]?) ∧ w.heap.size ≤ (w7.setCell ⟨X, 4, none⟩ (.slice ad7 n7 cap7)).heap.size ∧ w.heap.size ≤ wa.heap.size := by
  have hz5 := hg5.size
  have hza := hba.size
  have hz7 := hg7.size
  have hXl := h.lt
  have hBr := h.new
  have hBrl := hM.lt
  have hXw := blk_lt h.blk
  have hBr0 : Br < w.heap.size := by
    obtain ⟨_, _, hs⟩ := h.set
    exact hs.lt
  have hown : ∀ b, (Value.slice ad n cap).ownBlock = some b → w0.heap.size ≤ b ∧ b < w.heap.size := fun b e => h.row.lt b e
  have hst : ∀ b, b < w.heap.size → b ≠ Br → (Value.slice ad n cap).ownBlock ≠ some b → w7.heap[b]? = w.heap[b]? := fun b b1 b2 b3 => by
    rw [hg7.block b (by omega) (fun e => b3 e.symm), hba.block b (by omega), hg5.block b b1 (fun e => b2 (by injection e))]
  have hX7 : w7.heap[X]? = some (.cells #[c0, c1, c2, .map (some B), .slice ad n cap] 76 (0, 0)) := (hst X hXw (by omega) (fun e => by have := (hown X e).1; omega)).trans h.blk
  have ho : ∀ b, (Value.slice ad7 n7 cap7).ownBlock = some b → b ≠ X ∧ b ≠ Br ∧ w0.heap.size ≤ b := fun b e => by
    rcases ho7 with o | o
    · rw [o] at e
      have := hown b e
      exact ⟨by omega, fun e2 => h.ne (e2 ▸ e), this.1⟩
    · rw [o] at e
      injection e with e
      subst e
      have := h.chg.size
      exact ⟨by omega, by omega, by omega⟩
  refine ⟨⟨?_, ?_, ⟨m + 1, by simp; omega, ?_⟩, h.new, fun e => (ho _ e).2.1 rfl, ⟨?_, ?_, ?_, ?_, fun b hb hn => ?_⟩, h.lt⟩, fun b b1 b2 b3 b4 => ?_, ?_, by omega⟩
  · have := blk_set (j := 4) hX7 (.slice ad7 n7 cap7)
    rw [this]
    simp
  · rw [trnF_snoc, hf]
    exact rowV_stay hr7 fun b e => heap_setCell_far _ _ _ _ _ (ho b e).1
  · rw [List.map_append]
    refine hM.stay ?_
    rw [heap_setCell_far _ _ _ _ _ (by omega), hg7.block Br (by omega) (fun e => h.ne e.symm), hba.block Br hBrl]
  · exact ((hg7.os.trans hba.os).trans hg5.os).trans h.chg.os
  · exact ((hg7.tape.trans hba.tape).trans hg5.tape).trans h.chg.tape
  · exact ((hg7.output.trans hba.output).trans hg5.output).trans h.chg.output
  · have := h.chg.size; simp; omega
  · have := h.chg.size
    rw [heap_setCell_far _ _ _ _ _ hn, hst b (by omega) (by omega) (fun e => by have := (hown b e).1; omega), h.chg.block b hb hn]
  · rw [heap_setCell_far _ _ _ _ _ b3, hst b b1 b2 b4]
  · simp; omega
set_option maxHeartbeats 16000000 in
set_option maxRecDepth 20000 in
theorem rankC (X B : Nat) (c0 c1 c2 t0 : Value) (l : List Ru) (vl : Value) (w : World) (hl : SrcU w vl l) (hn : l.length ≤ 64) (okl : ∀ R ∈ l, BdR R ∧ okR R = true)
    (hX : w.heap[X]? = some (.cells #[c0, c1, c2, .map (some B), t0] 76 (0, 0))) {n0 : Nat} {f : Tp → Option Nat} {ks : List Tp} (hm : Mp w B n0 f ks) (hf : ∀ R ∈ l, ∀ x ∈ spR R, (f x.1).isSome = true) (hgl : ∀ g off n cap, vl = .slice (some ⟨g, off, none⟩) n cap → g ≠ X) :
    Calls Tryz.prog 48 #[.pointer (some ⟨X, 3, none⟩), vl] w fun e w' => e = .returned (.tuple #[]) ∧ ∃ Br ad n cap, Rks w w' X B Br c0 c1 c2 f (rkK l l.length) ad n cap := by
  obtain ⟨adl, capl, rfl, _, _⟩ := id hl
  have Hl : Hid _ := (rngU hl).2
  have Okl : Hid (∀ R ∈ l, BdR R ∧ okR R = true) := okl
  have Hf : Hid (∀ R ∈ l, ∀ x ∈ spR R, (f x.1).isSome = true) := hf
  have HX : Hid _ := hX
  have HM : Hid (Mp w B n0 f ks) := hm
  have HXl : Hid (X < w.heap.size) := blk_lt hX
  have HXB : Hid (B ≠ X) := fun e => by
    obtain ⟨D, ⟨es, clock, h1, _⟩, _⟩ := hm.ex
    rw [e, hX] at h1; cases h1
  obtain ⟨nl, hnl⟩ : ∃ n, n = l.length := ⟨_, rfl⟩
  rw [← hnl] at hn ⊢
  have Hnl : Hid (nl = l.length) := hnl
  have fr := blk_free hX 4
  have cx4 : w.cell? ⟨X, 4, none⟩ = some t0 := blk_cell hX rfl
  have Hgl : Hid (∀ k, k < l.length → ∀ g off, adl = some ⟨g, off, none⟩ → g ≠ X) := fun k _ g off e => hgl g off _ _ (by rw [e])
  clear hl okl hf hm hnl hgl
  go_enter Tryz.func48, Tryz.ntmps48
  go_upto_region 1 with (fail)
  obtain ⟨W1, hW1⟩ : ∃ W1, W1 = w.setCell ⟨X, 4, none⟩ (.slice none 0 0) := ⟨_, rfl⟩
  have hs1 := blk_set (j := 4) hX (.slice none 0 0)
  have hfar : ∀ b, b ≠ X → W1.heap[b]? = w.heap[b]? := fun b e => by rw [hW1]; exact heap_setCell_far _ _ _ _ _ e
  have hz1 : W1.heap.size = w.heap.size := by rw [hW1]; simp
  rw [← hW1] at hs1
  try rw [← hW1]
  have hc1 : Chg w W1 (fun b => b = X) := ⟨by rw [hW1]; rfl, by rw [hW1]; rfl, by rw [hW1]; rfl, by omega, fun b _ e => hfar b e⟩
  clear hW1 fr hX cx4
  have hmm : (Instr.makeMap 149 none).run Tryz.prog W1 = .ok (.map (some W1.heap.size)) (W1.alloc (.map #[] 0)) := by
    simp [Instr.makeMap, Tryz.runUnderlying149]
  have hb2 : Below W1.heap.size W1 (W1.alloc (.map #[] 0)) := (Below.refl _ _).alloc (Nat.le_refl _) _
  have HR0 : Hid (Rks w (W1.alloc (.map #[] 0)) X B W1.heap.size c0 c1 c2 f (rkK l 0) none 0 0) := ⟨blk_on (by simpa using hs1) hb2, World.ownsRow_nil _ _ _ _, ⟨0, Nat.zero_le _, Ms.new W1⟩, by omega, by simp [Value.ownBlock], hc1.trans (Chg.of_below hb2 (fun _ => False)) (fun _ e => e.elim), HXl.out⟩
  obtain ⟨Br, hBr⟩ : ∃ Br, Br = W1.heap.size := ⟨_, rfl⟩
  rw [← hBr] at hmm HR0
  generalize W1.alloc (.map #[] 0) = W2 at *
  clear hBr hs1 hfar hz1 hc1 hb2
  go_wp2_with (fail)
  go_loopw [17] (fun vi wr => ∃ (k : Nat) (ad : Option Addr) (n cap : Nat), k ≤ nl ∧ vi = .int .i64 k ∧ Hid (Rks w wr X B Br c0 c1 c2 f (rkK l k) ad n cap)) (fun vi _ => nl - (intOf vi).toNat)
  case atStart => exact ⟨0, _, _, _, Nat.zero_le _, rfl, HR0.out⟩
  case round =>
    obtain ⟨k, ad, n, cap, hk, rfl, HR⟩ := hrel
    clear HR0 hmm
    by_cases hlt : k < nl
    · have hlti : (k : Int) < (nl : Int) := by omega
      have hkl : k < l.length := by rw [← Hnl.out]; exact hlt
      have hXw := HXl.out
      have hsz := HR.out.chg.size
      have hcl : Below w.heap.size w w := Below.refl _ _
      obtain ⟨g, of, rfl, hrg0⟩ := Hl.out w hcl k hkl
      have HgX : Hid (g ≠ X ∧ g < w.heap.size) := by
        have h0 := hrg0 0 _ rfl
        have h1 := World.block_lt_of_cell? _ _ h0
        refine ⟨fun e => ?_, h1⟩
        exact Hgl.out k hkl g of rfl e
      have hrg : ∀ j u, (encU (l[k]'hkl))[j]? = some u → wr.cell? ⟨g, of + k * 12 + j, none⟩ = some u := fun j u hu => by
        have h0 := hrg0 j u hu
        unfold World.cell? at h0 ⊢
        rw [HR.out.chg.block g HgX.out.2 HgX.out.1]; exact h0
      have HSt : Hid (rkK l (k + 1) = rkR (rkK l k) k (spR l[k])) := rkK_step hkl
      have HLn : Hid ((rkK l k).length ≤ k * 900) := rkK_len l k
      have hbd := Okl.out _ (List.getElem_mem hkl)
      have hfx := Hf.out _ (List.getElem_mem hkl)
      obtain ⟨R, hR⟩ : ∃ R, R = l[k] := ⟨_, rfl⟩
      rw [← hR] at hrg HSt hbd hfx
      have HFx : Hid (∀ x ∈ spR R, (f x.1).isSome = true) := hfx
      clear hR hrg0 hfx
      have x0 : wr.cell? ⟨g, of + k * 12, none⟩ = some (.int .i64 R.i) := hrg 0 _ rfl
      have x1 : wr.cell? ⟨g, of + k * 12 + 1, none⟩ = some (.int .u32 R.s) := hrg 1 _ rfl
      have x2 : wr.cell? ⟨g, of + k * 12 + 2, none⟩ = some (.int .i64 R.sl) := hrg 2 _ rfl
      have x3 : wr.cell? ⟨g, of + k * 12 + 3, none⟩ = some (.int .u32 R.d) := hrg 3 _ rfl
      have x4 : wr.cell? ⟨g, of + k * 12 + 4, none⟩ = some (.int .i64 R.dl) := hrg 4 _ rfl
      have x5 : wr.cell? ⟨g, of + k * 12 + 5, none⟩ = some (.int .u16 R.p.1) := hrg 5 _ rfl
      have x6 : wr.cell? ⟨g, of + k * 12 + 6, none⟩ = some (.int .u16 R.p.2) := hrg 6 _ rfl
      have x7 : wr.cell? ⟨g, of + k * 12 + 7, none⟩ = some (.int .u16 R.q.1) := hrg 7 _ rfl
      have x8 : wr.cell? ⟨g, of + k * 12 + 8, none⟩ = some (.int .u16 R.q.2) := hrg 8 _ rfl
      have x9 : wr.cell? ⟨g, of + k * 12 + 9, none⟩ = some (.int .u8 R.m.1) := hrg 9 _ rfl
      have x10 : wr.cell? ⟨g, of + k * 12 + 10, none⟩ = some (.int .u8 R.m.2) := hrg 10 _ rfl
      have x11 : wr.cell? ⟨g, of + k * 12 + 11, none⟩ = some (.int .i64 R.act) := hrg 11 _ rfl
      obtain ⟨W1, hW1⟩ : ∃ W1, W1 = wr.alloc (.cells #[.int .i64 R.i, .int .u32 R.s, .int .i64 R.sl, .int .u32 R.d, .int .i64 R.dl, .int .u16 R.p.1, .int .u16 R.p.2, .int .u16 R.q.1, .int .u16 R.q.2, .int .u8 R.m.1, .int .u8 R.m.2, .int .i64 R.act] 52) := ⟨_, rfl⟩
      have hbW : Below wr.heap.size wr W1 := by rw [hW1]; exact (Below.refl _ _).alloc (Nat.le_refl _) _
      have HRb : Hid (W1.heap[wr.heap.size]? = some (.cells #[.int .i64 R.i, .int .u32 R.s, .int .i64 R.sl, .int .u32 R.d, .int .i64 R.dl, .int .u16 R.p.1, .int .u16 R.p.2, .int .u16 R.q.1, .int .u16 R.q.2, .int .u8 R.m.1, .int .u8 R.m.2, .int .i64 R.act] 52)) := by show _ = _; rw [hW1]; exact blk_new _ _
      have HR1 : Hid (Rks w W1 X B Br c0 c1 c2 f (rkK l k) ad n cap) := HR.out.on hbW
      have hsp := fun W => spotsC R W hbd.1 hbd.2
      have HBd : Hid (∀ x ∈ spR R, BdT x.1 ∧ Hx.OkH x.2) := sp_bd hbd.2 hbd.1
      have HsL : Hid ((spR R).length ≤ 900) := sp_le R
      clear hrg hbd hbW hXw hsz hcl
      go_upto_region 5 with (rw [← hW1])
      clear hW1 x0 x1 x2 x3 x4 x5 x6 x7 x8 x9 x10 x11
      obtain ⟨y0, y1, y2, y3, y4, y5, y6, y7, y8, y9, y10, y11⟩ := blk12 HRb.out
      go_wp2_with (go_at_call 65; fail)
      refine (hsp _).mono ?_
      rintro e w2 ⟨v2, rfl, hr2, hb2⟩
      obtain ⟨adS, mS, capS, rfl⟩ : ∃ ad n cap, v2 = .slice ad n cap := by
        obtain ⟨ad, cap, e, _⟩ := hr2.form
        exact ⟨ad, _, cap, e⟩
      obtain ⟨lo, hlo⟩ : ∃ lo, lo = wr.heap.size := ⟨_, rfl⟩
      have hR2 := HR1.out.on hb2
      have HmS : Hid (mS = (spR R).length) := (rowO_prot hr2 (Nat.le_refl _)).1
      have HCS : Hid _ := (rowO_prot hr2 (Nat.le_refl _)).2
      have HR2 : Hid (Rks w w2 X B Br c0 c1 c2 f (rkR (rkK l k) k ((spR R).take 0)) ad n cap) := hR2
      have HOw : Hid (X < W1.heap.size ∧ Br < W1.heap.size ∧ (∀ b, (Value.slice ad n cap).ownBlock = some b → b < W1.heap.size)) := ⟨blk_lt HR1.out.blk, by obtain ⟨_, _, h⟩ := HR1.out.set; exact h.lt, fun b e => (HR1.out.row.lt b e).2⟩
      have hmS : mS ≤ 900 := by rw [HmS.out]; exact HsL.out
      clear hr2 hsp HRb HR1 y0 y1 y2 y3 y4 y5 y6 y7 y8 y9 y10 y11 HR hR2 hlo
      go_wp2_with (fail)
      go_loopw [25] (fun vj wx => ∃ (j : Nat) (adT : Option Addr) (nT capT : Nat), j ≤ mS ∧ vj = .int .i64 j ∧ Hid (Rks w wx X B Br c0 c1 c2 f (rkR (rkK l k) k ((spR R).take j)) adT nT capT) ∧ Hid (∀ b, (Value.slice adT nT capT).ownBlock = some b → b < W1.heap.size ∨ w2.heap.size ≤ b) ∧ Hid (∀ b, W1.heap.size ≤ b → b < w2.heap.size → wx.heap[b]? = w2.heap[b]?) ∧ Hid (w2.heap.size ≤ wx.heap.size)) (fun vj _ => mS - (intOf vj).toNat)
      case atStart => exact ⟨0, _, _, _, Nat.zero_le _, rfl, HR2.out, fun b e => .inl (HOw.out.2.2 b e), fun _ _ _ => rfl, Nat.le_refl _⟩
      case round =>
        obtain ⟨j, adT, nT, capT, hj, rfl, HRj, HTo, HPr, HSz⟩ := hrel
        clear HR2
        by_cases hjt : j < mS
        · have hjti : (j : Int) < (mS : Int) := by omega
          have hjl : j < (spR R).length := by rw [← HmS.out]; exact hjt
          obtain ⟨gS, rfl, hrg⟩ := HCS.out wr HPr.out j hjl
          have hst := rkR_step (T := rkK l k) (j := k) hjl
          have hbx := HBd.out _ (List.getElem_mem hjl)
          have hfx := HFx.out _ (List.getElem_mem hjl)
          have HLt : Hid ((rkR (rkK l k) k ((spR R).take j)).length ≤ 60000) := by
            have h1 := rkR_len k ((spR R).take j) (rkK l k)
            have h2 := HLn.out
            rw [List.length_take] at h1
            show _ ≤ _
            omega
          obtain ⟨x, hx⟩ : ∃ x, x = (spR R)[j] := ⟨_, rfl⟩
          rw [← hx] at hrg hst hbx hfx
          have HTk : Hid (rkR (rkK l k) k ((spR R).take (j + 1)) = rkStep (rkR (rkK l k) k ((spR R).take j)) k x.1) := hst
          obtain ⟨TT, hTT⟩ : ∃ TT, TT = rkR (rkK l k) k ((spR R).take j) := ⟨_, rfl⟩
          rw [← hTT] at HTk HRj HLt
          clear hx hst hTT
          have z0 : wr.cell? ⟨gS, j * 10, none⟩ = some (.int .i64 x.1.a) := hrg 0 _ rfl
          have z1 : wr.cell? ⟨gS, j * 10 + 1, none⟩ = some (.int .i64 x.1.b) := hrg 1 _ rfl
          have z2 : wr.cell? ⟨gS, j * 10 + 2, none⟩ = some (.int .i64 x.1.c) := hrg 2 _ rfl
          have z3 : wr.cell? ⟨gS, j * 10 + 3, none⟩ = some (.int .i64 x.1.d) := hrg 3 _ rfl
          have z4 : wr.cell? ⟨gS, j * 10 + 4, none⟩ = some (.int .u8 x.1.m) := hrg 4 _ rfl
          have z5 : wr.cell? ⟨gS, j * 10 + 5, none⟩ = some (.int .u32 x.2.s) := hrg 5 _ rfl
          have z6 : wr.cell? ⟨gS, j * 10 + 6, none⟩ = some (.int .u32 x.2.d) := hrg 6 _ rfl
          have z7 : wr.cell? ⟨gS, j * 10 + 7, none⟩ = some (.int .u16 x.2.p) := hrg 7 _ rfl
          have z8 : wr.cell? ⟨gS, j * 10 + 8, none⟩ = some (.int .u16 x.2.q) := hrg 8 _ rfl
          have z9 : wr.cell? ⟨gS, j * 10 + 9, none⟩ = some (.int .u8 x.2.r) := hrg 9 _ rfl
          obtain ⟨W3, hW3⟩ : ∃ W3, W3 = wr.alloc (.cells #[.int .i64 x.1.a, .int .i64 x.1.b, .int .i64 x.1.c, .int .i64 x.1.d, .int .u8 x.1.m, .int .u32 x.2.s, .int .u32 x.2.d, .int .u16 x.2.p, .int .u16 x.2.q, .int .u8 x.2.r] 146) := ⟨_, rfl⟩
          have hbW : Below wr.heap.size wr W3 := by rw [hW3]; exact (Below.refl _ _).alloc (Nat.le_refl _) _
          have HXb : Hid (W3.heap[wr.heap.size]? = some (.cells #[.int .i64 x.1.a, .int .i64 x.1.b, .int .i64 x.1.c, .int .i64 x.1.d, .int .u8 x.1.m, .int .u32 x.2.s, .int .u32 x.2.d, .int .u16 x.2.p, .int .u16 x.2.q, .int .u8 x.2.r] 146 (0, 0))) := by show _ = _; rw [hW3]; exact blk_new _ _
          have hR3 := HRj.out.on hbW
          obtain ⟨ms, hms, hMs⟩ := hR3.set
          have hlk := hMs.look hbx.1
          have HR3 : Hid (Rks w W3 X B Br c0 c1 c2 f TT adT nT capT) := hR3
          have HMs : Hid (Ms W3 Br ms (TT.map (·.2))) := hMs
          have Hms : Hid (ms ≤ TT.length) := hms
          have HP3 : Hid ((∀ b, W1.heap.size ≤ b → b < w2.heap.size → W3.heap[b]? = w2.heap[b]?) ∧ w2.heap.size ≤ W3.heap.size ∧ w2.heap.size ≤ wr.heap.size) := ⟨fun b b1 b2 => (hbW.block b (by have := HSz.out; omega)).trans (HPr.out b b1 b2), Nat.le_trans HSz.out hbW.size, HSz.out⟩
          have Hbx : Hid (BdT x.1 ∧ Hx.OkH x.2) := hbx
          have Hfx : Hid ((f x.1).isSome = true) := hfx
          have HRlt : Hid (∀ b, (Value.slice adT nT capT).ownBlock = some b → b < wr.heap.size) := fun b e => (HRj.out.row.lt b e).2
          have HRlt2 : Hid (w.heap.size ≤ wr.heap.size) := HRj.out.chg.size
          have HZ3 : Hid (W3.heap.size = wr.heap.size + 1) := by show _ = _; rw [hW3]; simp
          clear hR3 hms hMs hbW hrg hbx hfx HRj HPr HSz
          go_upto_region 8 with (rw [← hW3])
          try rw [← hW3]
          clear hW3 z0 z1 z2 z3 z4 z5 z6 z7 z8 z9
          obtain ⟨u0, u1, u2, u3, u4, u5, u6, u7, u8, u9⟩ := blk10 HXb.out
          by_cases hin : x.1 ∈ TT.map (·.2)
          · rw [show decide (x.1 ∈ TT.map (·.2)) = true from decide_eq_true hin] at hlk
            have HE : Hid (rkStep TT k x.1 = TT) := if_pos hin
            have HW4 : Hid (Below W3.heap.size W3 (W3.alloc (.cells #[] 150))) := (Below.refl _ _).alloc (Nat.le_refl _) _
            have HR4 : Hid (Rks w (W3.alloc (.cells #[] 150)) X B Br c0 c1 c2 f (rkR (rkK l k) k ((spR R).take (j + 1))) adT nT capT) := by
              show Rks _ _ _ _ _ _ _ _ _ _ _ _ _
              rw [HTk.out, HE.out]; exact HR3.out.on HW4.out
            go_wp2_with (fail)
            go_roundw
            case rel => exact ⟨j + 1, _, _, _, by omega, by go_num, HR4.out, HTo.out, fun b b1 b2 => (HW4.out.block b (by have := HP3.out.2.1; omega)).trans (HP3.out.1 b b1 b2), Nat.le_trans HP3.out.2.1 HW4.out.size⟩
            case measure => simp [intOf]; omega
          · rw [show decide (x.1 ∈ TT.map (·.2)) = false from decide_eq_false hin] at hlk
            have HE : Hid (rkStep TT k x.1 = TT ++ [(k, x.1)]) := if_neg hin
            go_upto_region 9 with (fail)
            obtain ⟨W4, hW4⟩ : ∃ W4, W4 = W3.alloc (.cells #[] 150) := ⟨_, rfl⟩
            have hb4 : Below W3.heap.size W3 W4 := by rw [hW4]; exact (Below.refl _ _).alloc (Nat.le_refl _) _
            try rw [← hW4]
            clear hW4 u0 u1 u2 u3 u4 u5 u6 u7 u8 u9 hlk
            have HX4 : Hid _ := blk_on HXb.out hb4
            obtain ⟨u0, u1, u2, u3, u4, u5, u6, u7, u8, u9⟩ := blk10 HX4.out
            have HR4 : Hid (Rks w W4 X B Br c0 c1 c2 f TT adT nT capT) := HR3.out.on hb4
            have HP4 : Hid ((∀ b, W1.heap.size ≤ b → b < w2.heap.size → W4.heap[b]? = w2.heap[b]?) ∧ w2.heap.size ≤ W4.heap.size) := ⟨fun b b1 b2 => (hb4.block b (by have := HP3.out.2.1; omega)).trans (HP3.out.1 b b1 b2), Nat.le_trans HP3.out.2.1 hb4.size⟩
            obtain ⟨w5, hup, hM5, hg5, hz5⟩ := (HMs.out.on hb4).put Hbx.out.1 (by have := Hms.out; have := HLt.out; omega)
            have HM5 : Hid (Ms w5 Br (ms + 1) (TT.map (·.2) ++ [x.1])) := hM5
            have HG5 : Hid (W4.grownBy w5 (some Br)) := hg5
            have HZ5 : Hid (w5.heap.size = W4.heap.size) := hz5
            have HBr : Hid (Br < wr.heap.size ∧ w.heap.size ≤ Br) := by
              refine ⟨?_, HR4.out.new⟩
              have h1 := (HMs.out).lt
              have h2 := HZ3.out
              rcases Nat.lt_or_ge Br wr.heap.size with h | h
              · exact h
              · exfalso
                obtain rfl : Br = wr.heap.size := by omega
                obtain ⟨D, ⟨es, clock, e1, _⟩, _⟩ := HMs.out.ex
                rw [HXb.out] at e1; cases e1
            have HX5 : Hid (w5.heap[wr.heap.size]? = some (.cells #[.int .i64 x.1.a, .int .i64 x.1.b, .int .i64 x.1.c, .int .i64 x.1.d, .int .u8 x.1.m, .int .u32 x.2.s, .int .u32 x.2.d, .int .u16 x.2.p, .int .u16 x.2.q, .int .u8 x.2.r] 146 (0, 0))) := blk_gr HX4.out hg5 (fun e => by injection e with e; have := HBr.out.1; omega)
            have HE5 : Hid (w5.heap[X]? = some (.cells #[c0, c1, c2, .map (some B), .slice adT nT capT] 76 (0, 0))) := blk_gr HR4.out.blk hg5 (fun e => by injection e with e; have := HBr.out.2; have := HXl.out; omega)
            have HMB : Hid (Mp w5 B n0 f ks) := HM.out.stay (by
              have h1 := HM.out.lt
              have h2 := HR4.out.chg.size
              rw [hg5.block B (by omega) (fun e => by injection e with e; have := HBr.out.2; omega), HR4.out.chg.block B h1 HXB.out])
            clear hM5 hg5 hz5 hb4
            go_upto_region 11 with (fail)
            clear hup u0 u1 u2 u3 u4 u5 u6 u7 u8 u9
            obtain ⟨G, hG⟩ : ∃ G, f x.1 = some G := Option.isSome_iff_exists.1 Hfx.out
            have HfG : Hid (f x.1 = some G) := hG
            clear hG
            refine wp_region_held_drew (S := fun w' => w'.cell? ⟨X, 3, none⟩ = some (.map (some B)) ∧ w'.heap[B]? = w5.heap[B]? ∧ w'.heap[wr.heap.size]? = some (.cells #[.int .i64 x.1.a, .int .i64 x.1.b, .int .i64 x.1.c, .int .i64 x.1.d, .int .u8 x.1.m, .int .u32 x.2.s, .int .u32 x.2.d, .int .u16 x.2.p, .int .u16 x.2.q, .int .u8 x.2.r] 146 (0, 0))) (by kernel_rfl) ⟨blk_cell HE5.out rfl, rfl, HX5.out⟩ (fun hS0 => ?_)
            obtain ⟨wd, hwd⟩ : ∃ x, x = w5.drew := ⟨_, rfl⟩
            have hbd : Below w5.heap.size w5 wd := by rw [hwd]; exact (Below.refl _ _).drew
            have Hzd : Hid (wd.heap.size = w5.heap.size) := by show _ = _; rw [hwd]; rfl
            rw [← hwd] at hS0 ⊢
            clear hwd
            have HBd5 : Hid (Below w5.heap.size w5 wd) := hbd
            have HEd : Hid (wd.heap[X]? = some (.cells #[c0, c1, c2, .map (some B), .slice adT nT capT] 76 (0, 0))) := blk_on HE5.out hbd
            clear hbd
            refine wpTk (i := 0) (v := .pointer (some ⟨X, 3, none⟩)) hS0 ?_
            simp only [nrm]
            refine wpTk (i := 1) (v := .pointer (some ⟨X, 3, none⟩)) hS0 ?_
            simp only [nrm]
            refine wpTk (i := 2) (v := .pointer (some ⟨X, 3, none⟩)) hS0 ?_
            simp only [nrm]
            refine wpTk (i := 3) (v := .pointer (some ⟨X, 4, none⟩)) hS0 ?_
            simp only [nrm]
            refine wpTk (i := 5) (v := .int .i64 k) hS0 ?_
            simp only [nrm]
            refine wpTk (i := 6) (v := .pointer (some ⟨X, 3, none⟩)) hS0 ?_
            simp only [nrm]
            refine wpTk (i := 7) (v := .pointer (some ⟨X, 3, none⟩)) hS0 ?_
            simp only [nrm]
            refine wpTk (i := 8) (v := .pointer (some ⟨X, 3, none⟩)) hS0 ?_
            simp only [nrm]
            refine wpAnyH_take (i := 9) (v := .map (some B)) rfl (by kernel_rfl) (by kernel_rfl) (by kernel_rfl) (fun _ _ _ h => h) (.inl ⟨rfl, fun w' hw' => by have hcc := hw'.1; simp [execOp, go_sem, hcc]⟩) hS0 ?_
            simp only [nrm]
            refine wpTk (i := 10) (v := .pointer (some ⟨wr.heap.size, 0, none⟩)) hS0 ?_
            simp only [nrm]
            refine wpLd (i := 11) rfl (yieldsIf_load_mid rfl 144 (.tmp 52) rfl wr.heap.size 0 rfl [.int .i64 x.1.a, .int .i64 x.1.b, .int .i64 x.1.c, .int .i64 x.1.d, .int .u8 x.1.m] _ (fun w' hw' => rng_spot hw'.2.2) Tryz.underlying144 rfl (by kernel_rfl)) hS0 ?_
            simp only [nrm]
            refine wpAnyH_take (i := 12) (v := .pointer (some ⟨G, 0, none⟩)) rfl (by kernel_rfl) (by kernel_rfl) (by kernel_rfl) (fun _ _ _ h => h) (.inl ⟨rfl, fun w' hw' => by have hcc := (HMB.out.stay hw'.2.1).look Hbx.out.1; rw [HfG.out] at hcc; replace hcc : (Instr.lookup 70 (.map (some B)) (.agg #[.int .i64 (x.1).a, .int .i64 (x.1).b, .int .i64 ((x.1).c : Int), .int .i64 ((x.1).d : Int), .int .u8 ((x.1).m : Int)]) false).run Tryz.prog w' = .ok (.pointer (some ⟨G, 0, none⟩)) w' := hcc; simp [execOp, go_sem, hcc]⟩) hS0 ?_
            simp only [nrm]
            refine wpTk (i := 13) (v := .agg #[.int .i64 k, .pointer (some ⟨G, 0, none⟩)]) hS0 ?_
            simp only [nrm]
            refine wpAnyH_all (rs := [4, 14]) (by kernel_rfl) (by simp) ?_
            intro i hi
            simp only [mmL] at hi
            rcases hi with rfl | rfl
            · refine wpOp_of_wp rfl rfl (fun K' hK' => ?_)
              have cx4 : wd.cell? ⟨X, 4, none⟩ = some (.slice adT nT capT) := blk_cell HEd.out rfl
              go_wp2_with (fail)
              refine ⟨hS0, ?_⟩
              clear cx4
              refine wpO 14 (fun K' hK' => ?_)
              go_wp2_with (fail)
              obtain ⟨wa, hwa⟩ : ∃ x, x = wd.alloc (.cells #[.int .i64 k, .pointer (some ⟨G, 0, none⟩)] 95) := ⟨_, rfl⟩
              have hba : Below wd.heap.size wd wa := by rw [hwa]; exact (Below.refl _ _).alloc (Nat.le_refl _) _
              have HRw : Hid (RowV wa 0 (.slice (some ⟨wd.heap.size, 0, none⟩) 1 1) [(k, G)]) := by show RowV _ _ _ _; rw [hwa]; exact RowV.one wd 0 (k, G) (Nat.zero_le _)
              rw [← hwa]
              clear hwa
              have hS1 : wa.cell? ⟨X, 3, none⟩ = some (.map (some B)) ∧ wa.heap[B]? = w5.heap[B]? ∧ wa.heap[wr.heap.size]? = some (.cells #[.int .i64 x.1.a, .int .i64 x.1.b, .int .i64 x.1.c, .int .i64 x.1.d, .int .u8 x.1.m, .int .u32 x.2.s, .int .u32 x.2.d, .int .u16 x.2.p, .int .u16 x.2.q, .int .u8 x.2.r] 146 (0, 0)) := ⟨cell_on1 hba hS0.1, (hba.block B (by rw [Hzd.out]; exact HMB.out.lt)).trans hS0.2.1, blk_on hS0.2.2 hba⟩
              have HBa : Hid (Below w5.heap.size w5 wa) := HBd5.out.trans (hba.mono HBd5.out.size)
              have HEa : Hid (wa.heap[X]? = some (.cells #[c0, c1, c2, .map (some B), .slice adT nT capT] 76 (0, 0))) := blk_on HEd.out hba
              have Hba2 : Hid (Below wd.heap.size wd wa) := hba
              clear hba
              refine ⟨hS1, ?_⟩
              have hrow : RowV wa w.heap.size (.slice adT nT capT) (trnF f TT) := rowV_stay HR4.out.row (fun b e => by
                have h1 := (HR4.out.row.lt b e).2
                rw [HBa.out.block b (by rw [HZ5.out]; exact h1), HG5.out.block b h1 (fun e2 => HR4.out.ne (by rw [e]; exact e2))])
              refine wpO 15 (fun K' hK' => ?_)
              refine wp_appendSV (.tmp 46) (.tmp 56) rfl w.heap.size (.slice adT nT capT) (trnF f TT) rfl hrow (.slice (some ⟨wd.heap.size, 0, none⟩) 1 1) [(k, G)] rfl HRw.out.src (by have := HR4.out.chg.size; have := HZ5.out; have := HBa.out.size; omega) (by have := HLt.out; unfold trnF; simp; omega) (fun v7 w7 hr7 hg7 ho7 => ?_)
              obtain ⟨ad7, n7, cap7, rfl⟩ : ∃ ad n cap, v7 = .slice ad n cap := by
                obtain ⟨ad, cap, e, _⟩ := hr7.form
                exact ⟨ad, _, cap, e⟩
              obtain ⟨hfin, hsame, hszf, hwaz⟩ := rks_fin HR4.out HfG.out HM5.out Hms.out HG5.out HBa.out hr7 hg7 ho7
              have hnX : (Value.slice adT nT capT).ownBlock ≠ some X := fun e => by have := (HR4.out.row.lt X e).1; have := HXl.out; omega
              have HE7 : w7.heap[X]? = some (.cells #[c0, c1, c2, .map (some B), .slice adT nT capT] 76 (0, 0)) := blk_gr HEa.out hg7 hnX
              have hnB : (Value.slice adT nT capT).ownBlock ≠ some B := fun e => by have := (HR4.out.row.lt B e).1; have := HM.out.lt; omega
              have hnS : (Value.slice adT nT capT).ownBlock ≠ some wr.heap.size := fun e => by have h1 := HRlt.out _ e; omega
              have hS7 : w7.cell? ⟨X, 3, none⟩ = some (.map (some B)) ∧ w7.heap[B]? = w5.heap[B]? ∧ w7.heap[wr.heap.size]? = some (.cells #[.int .i64 x.1.a, .int .i64 x.1.b, .int .i64 x.1.c, .int .i64 x.1.d, .int .u8 x.1.m, .int .u32 x.2.s, .int .u32 x.2.d, .int .u16 x.2.p, .int .u16 x.2.q, .int .u8 x.2.r] 146 (0, 0)) := ⟨blk_cell HE7 rfl, (hg7.block B (by have := HMB.out.lt; have := HBa.out.size; omega) (fun e => hnB e.symm)).trans hS1.2.1, blk_gr hS1.2.2 hg7 hnS⟩
              refine hK' _ _ ⟨hS7, ?_⟩
              refine wpTk (i := 16) (v := .pointer (some ⟨X, 3, none⟩)) hS7 ?_
              simp only [nrm]
              refine wpTk (i := 17) (v := .pointer (some ⟨X, 4, none⟩)) hS7 ?_
              simp only [nrm]
              have cx7 : w7.cell? ⟨X, 4, none⟩ = some (.slice adT nT capT) := blk_cell HE7 rfl
              have fr7 := blk_free HE7 4
              have HFin : Hid _ := hfin
              have HSame : Hid _ := hsame
              have HSzf : Hid _ := hszf
              have HWaz : Hid (W4.heap.size ≤ wa.heap.size) := hwaz
              have HO7 : Hid _ := ho7
              have HE7h : Hid _ := HE7
              have HS7 : Hid _ := hS7
              clear hfin hsame hszf hwaz ho7 HE7 hnX hnB hnS hr7 hg7 hrow
              refine wpO 18 (fun K' hK' => ?_)
              go_wp2_with (fail)
              have hS8 : (w7.setCell ⟨X, 4, none⟩ (.slice ad7 n7 cap7)).cell? ⟨X, 3, none⟩ = some (.map (some B)) := blk_cell (blk_set HE7h.out _) (by simp)
              refine ⟨⟨hS8, (heap_setCell_far _ _ _ _ _ (fun e => HXB.out e)).trans HS7.out.2.1, (heap_setCell_far _ _ _ _ _ (fun e => by have := HXl.out; have := HR4.out.chg.size; have := HRlt2.out; omega)).trans HS7.out.2.2⟩, ?_⟩
              refine wpAnyH_done (by kernel_rfl) ?_ _
              try simp only [nrm]
              clear hS0 hS1 hS7 hS8 cx7 fr7
              go_wp2_with (fail)
              go_roundw
              case rel =>
                refine ⟨j + 1, ad7, n7, cap7, by omega, by go_num, by show Rks _ _ _ _ _ _ _ _ _ _ _ _ _; rw [HTk.out, HE.out]; exact HFin.out, fun b e => ?_, fun b b1 b2 => ?_, Nat.le_trans HP4.out.2 HSzf.out⟩
                · rcases HO7.out with h | h
                  · exact HTo.out b (h ▸ e)
                  · rw [h] at e
                    injection e with e
                    subst e
                    right; have := HP4.out.2; have := HWaz.out; omega
                · rw [HSame.out b (by have := HP4.out.2; omega) (by have := HOw.out.2.1; omega) (by have := HOw.out.1; omega) (fun e => by rcases HTo.out b e with h | h <;> omega)]
                  exact HP4.out.1 b b1 b2
              case measure => simp [intOf]; omega
            · refine wpOp_of_wp rfl rfl (fun K' hK' => ?_)
              go_wp2_with (fail)
              obtain ⟨wa, hwa⟩ : ∃ x, x = wd.alloc (.cells #[.int .i64 k, .pointer (some ⟨G, 0, none⟩)] 95) := ⟨_, rfl⟩
              have hba : Below wd.heap.size wd wa := by rw [hwa]; exact (Below.refl _ _).alloc (Nat.le_refl _) _
              have HRw : Hid (RowV wa 0 (.slice (some ⟨wd.heap.size, 0, none⟩) 1 1) [(k, G)]) := by show RowV _ _ _ _; rw [hwa]; exact RowV.one wd 0 (k, G) (Nat.zero_le _)
              rw [← hwa]
              clear hwa
              have hS1 : wa.cell? ⟨X, 3, none⟩ = some (.map (some B)) ∧ wa.heap[B]? = w5.heap[B]? ∧ wa.heap[wr.heap.size]? = some (.cells #[.int .i64 x.1.a, .int .i64 x.1.b, .int .i64 x.1.c, .int .i64 x.1.d, .int .u8 x.1.m, .int .u32 x.2.s, .int .u32 x.2.d, .int .u16 x.2.p, .int .u16 x.2.q, .int .u8 x.2.r] 146 (0, 0)) := ⟨cell_on1 hba hS0.1, (hba.block B (by rw [Hzd.out]; exact HMB.out.lt)).trans hS0.2.1, blk_on hS0.2.2 hba⟩
              have HBa : Hid (Below w5.heap.size w5 wa) := HBd5.out.trans (hba.mono HBd5.out.size)
              have HEa : Hid (wa.heap[X]? = some (.cells #[c0, c1, c2, .map (some B), .slice adT nT capT] 76 (0, 0))) := blk_on HEd.out hba
              have Hba2 : Hid (Below wd.heap.size wd wa) := hba
              clear hba
              refine ⟨hS1, ?_⟩
              refine wpO 4 (fun K' hK' => ?_)
              have cx4 : wa.cell? ⟨X, 4, none⟩ = some (.slice adT nT capT) := blk_cell HEa.out rfl
              go_wp2_with (fail)
              refine ⟨hS1, ?_⟩
              clear cx4
              have hrow : RowV wa w.heap.size (.slice adT nT capT) (trnF f TT) := rowV_stay HR4.out.row (fun b e => by
                have h1 := (HR4.out.row.lt b e).2
                rw [HBa.out.block b (by rw [HZ5.out]; exact h1), HG5.out.block b h1 (fun e2 => HR4.out.ne (by rw [e]; exact e2))])
              refine wpO 15 (fun K' hK' => ?_)
              refine wp_appendSV (.tmp 46) (.tmp 56) rfl w.heap.size (.slice adT nT capT) (trnF f TT) rfl hrow (.slice (some ⟨wd.heap.size, 0, none⟩) 1 1) [(k, G)] rfl HRw.out.src (by have := HR4.out.chg.size; have := HZ5.out; have := HBa.out.size; omega) (by have := HLt.out; unfold trnF; simp; omega) (fun v7 w7 hr7 hg7 ho7 => ?_)
              obtain ⟨ad7, n7, cap7, rfl⟩ : ∃ ad n cap, v7 = .slice ad n cap := by
                obtain ⟨ad, cap, e, _⟩ := hr7.form
                exact ⟨ad, _, cap, e⟩
              obtain ⟨hfin, hsame, hszf, hwaz⟩ := rks_fin HR4.out HfG.out HM5.out Hms.out HG5.out HBa.out hr7 hg7 ho7
              have hnX : (Value.slice adT nT capT).ownBlock ≠ some X := fun e => by have := (HR4.out.row.lt X e).1; have := HXl.out; omega
              have HE7 : w7.heap[X]? = some (.cells #[c0, c1, c2, .map (some B), .slice adT nT capT] 76 (0, 0)) := blk_gr HEa.out hg7 hnX
              have hnB : (Value.slice adT nT capT).ownBlock ≠ some B := fun e => by have := (HR4.out.row.lt B e).1; have := HM.out.lt; omega
              have hnS : (Value.slice adT nT capT).ownBlock ≠ some wr.heap.size := fun e => by have h1 := HRlt.out _ e; omega
              have hS7 : w7.cell? ⟨X, 3, none⟩ = some (.map (some B)) ∧ w7.heap[B]? = w5.heap[B]? ∧ w7.heap[wr.heap.size]? = some (.cells #[.int .i64 x.1.a, .int .i64 x.1.b, .int .i64 x.1.c, .int .i64 x.1.d, .int .u8 x.1.m, .int .u32 x.2.s, .int .u32 x.2.d, .int .u16 x.2.p, .int .u16 x.2.q, .int .u8 x.2.r] 146 (0, 0)) := ⟨blk_cell HE7 rfl, (hg7.block B (by have := HMB.out.lt; have := HBa.out.size; omega) (fun e => hnB e.symm)).trans hS1.2.1, blk_gr hS1.2.2 hg7 hnS⟩
              refine hK' _ _ ⟨hS7, ?_⟩
              refine wpTk (i := 16) (v := .pointer (some ⟨X, 3, none⟩)) hS7 ?_
              simp only [nrm]
              refine wpTk (i := 17) (v := .pointer (some ⟨X, 4, none⟩)) hS7 ?_
              simp only [nrm]
              have cx7 : w7.cell? ⟨X, 4, none⟩ = some (.slice adT nT capT) := blk_cell HE7 rfl
              have fr7 := blk_free HE7 4
              have HFin : Hid _ := hfin
              have HSame : Hid _ := hsame
              have HSzf : Hid _ := hszf
              have HWaz : Hid (W4.heap.size ≤ wa.heap.size) := hwaz
              have HO7 : Hid _ := ho7
              have HE7h : Hid _ := HE7
              have HS7 : Hid _ := hS7
              clear hfin hsame hszf hwaz ho7 HE7 hnX hnB hnS hr7 hg7 hrow
              refine wpO 18 (fun K' hK' => ?_)
              go_wp2_with (fail)
              have hS8 : (w7.setCell ⟨X, 4, none⟩ (.slice ad7 n7 cap7)).cell? ⟨X, 3, none⟩ = some (.map (some B)) := blk_cell (blk_set HE7h.out _) (by simp)
              refine ⟨⟨hS8, (heap_setCell_far _ _ _ _ _ (fun e => HXB.out e)).trans HS7.out.2.1, (heap_setCell_far _ _ _ _ _ (fun e => by have := HXl.out; have := HR4.out.chg.size; have := HRlt2.out; omega)).trans HS7.out.2.2⟩, ?_⟩
              refine wpAnyH_done (by kernel_rfl) ?_ _
              try simp only [nrm]
              clear hS0 hS1 hS7 hS8 cx7 fr7
              go_wp2_with (fail)
              go_roundw
              case rel =>
                refine ⟨j + 1, ad7, n7, cap7, by omega, by go_num, by show Rks _ _ _ _ _ _ _ _ _ _ _ _ _; rw [HTk.out, HE.out]; exact HFin.out, fun b e => ?_, fun b b1 b2 => ?_, Nat.le_trans HP4.out.2 HSzf.out⟩
                · rcases HO7.out with h | h
                  · exact HTo.out b (h ▸ e)
                  · rw [h] at e
                    injection e with e
                    subst e
                    right; have := HP4.out.2; have := HWaz.out; omega
                · rw [HSame.out b (by have := HP4.out.2; omega) (by have := HOw.out.2.1; omega) (by have := HOw.out.1; omega) (fun e => by rcases HTo.out b e with h | h <;> omega)]
                  exact HP4.out.1 b b1 b2
              case measure => simp [intOf]; omega
        · obtain rfl : j = mS := by omega
          have hni : ¬ (j : Int) < (j : Int) := by omega
          have HE : Hid (Rks w wr X B Br c0 c1 c2 f (rkK l (k + 1)) adT nT capT) := by
            show Rks _ _ _ _ _ _ _ _ _ _ _ _ _
            rw [HSt.out]
            have := HRj.out
            rwa [HmS.out, List.take_length] at this
          go_wp2_with (fail)
          go_roundw
          case rel => exact ⟨k + 1, _, _, _, by omega, by go_num, HE.out⟩
          case measure => simp [intOf]; omega
    · obtain rfl : k = nl := by omega
      have hni : ¬ (k : Int) < (k : Int) := by omega
      go_wp2
      refine bodyPost_end (v := .tuple #[]) (by simp [results, Tryz.results48, go_sem]) rfl ⟨rfl, Br, ad, n, cap, HR.out⟩
end Go.Proofs.YtfpmljgmfapoiaaGreat
