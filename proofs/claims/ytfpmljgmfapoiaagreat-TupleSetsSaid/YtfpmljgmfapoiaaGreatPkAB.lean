/-
  PkAB: ExU ExB ExC ExD MkPlain MkPlB MkA PxPlain, one behind the other (tools/pack.py).
-/
import Derived.Test.YtfpmljgmfapoiaaGreatPkAA
import Derived.Maps.AppendAt
import Derived.OwnWalk
import Derived.Deep.AppendLies
import Derived.Laws.CopyOwn
import Derived.Laws.BitsAllLaws
import Derived.RowKit
import Derived.Lib.BitFns
import Derived.Test.YtfpmljgmfapoiaaGreatProg
/-
  Lists of stems in memory; 'append' of one owned row to another.
-/
namespace Go.Proofs.YtfpmljgmfapoiaaGreat.Xp
open Go.RowKit
set_option linter.unusedVariables false
set_option linter.unusedSimpArgs false

def flatT : List (Nat × Nat) → List Value
  | [] => []
  | p :: l => .int .u16 (p.1 : Int) :: .int .i64 (p.2 : Int) :: flatT l
theorem flatT_length (l : List (Nat × Nat)) : (flatT l).length = l.length * 2 := by
  induction l with
  | nil => rfl
  | cons p l ih => simp only [flatT, List.length_cons, ih]; omega
theorem flatT_append (l k : List (Nat × Nat)) : flatT (l ++ k) = flatT l ++ flatT k := by
  induction l with
  | nil => rfl
  | cons p l ih => simp only [flatT, List.cons_append, ih]
theorem flatT_one (l : List (Nat × Nat)) : ∀ u ∈ flatT l, u.oneCell' = true := by
  induction l with
  | nil => intro u hu; cases hu
  | cons p l ih =>
    intro u hu
    simp only [flatT, List.mem_cons] at hu
    rcases hu with rfl | rfl | hu
    · rfl
    · rfl
    · exact ih u hu
theorem flatT_at : ∀ (l : List (Nat × Nat)) (i : Nat) (h : i < l.length), (flatT l)[i * 2]? = some (.int .u16 ((l[i]'h).1 : Int)) ∧ (flatT l)[i * 2 + 1]? = some (.int .i64 ((l[i]'h).2 : Int))
  | p :: l, 0, _ => ⟨rfl, rfl⟩
  | p :: l, i + 1, h => by
    have := flatT_at l i (by simpa using h)
    rw [show (i + 1) * 2 = i * 2 + 2 by omega]
    exact this

theorem info_st : (Tryz.prog.info? 173).map (fun i => (i.zero, i.size, i.bytes)) = some (some (.agg #[.int .u16 0, .int .i64 0]), 2, 16) := by kernel_rfl

/-- The row v of w holds the list. -/
def RowT (w : World) (base : Nat) (v : Value) (l : List (Nat × Nat)) : Prop := w.ownsRow base 173 2 v l.length (flatT l)
theorem RowT.base {w : World} {b b' : Nat} {v : Value} {l : List (Nat × Nat)} (h : RowT w b v l) (hb : b' ≤ b) : RowT w b' v l := by
  refine ⟨h.1, ?_⟩
  rcases h.2 with h2 | ⟨g, cap, cur, hv, hg, r⟩
  · exact .inl h2
  · exact .inr ⟨g, cap, cur, hv, by omega, r⟩
theorem RowT.on {w w1 : World} {b : Nat} {v : Value} {l : List (Nat × Nat)} (h : RowT w b v l) (hb : Below w.heap.size w w1) : RowT w1 b v l := by
  refine ⟨h.1, ?_⟩
  rcases h.2 with h2 | ⟨g, cap, cur, hv, hg, hh, r⟩
  · exact .inl h2
  · exact .inr ⟨g, cap, cur, hv, hg, by rw [hb.block g (Array.getElem?_eq_some_iff.1 hh).1]; exact hh, r⟩
theorem RowT.alloc {w : World} {b : Nat} {v : Value} {l : List (Nat × Nat)} (h : RowT w b v l) (o : Obj) : RowT (w.alloc o) b v l := World.ownsRow.alloc h o
theorem RowT.nil (w : World) (b : Nat) : RowT w b (.slice none 0 0) [] := World.ownsRow_nil w b _ _
theorem RowT.one (w : World) (b a n : Nat) (hb : b ≤ w.heap.size) : RowT (w.alloc (.cells #[.int .u16 a, .int .i64 n] 173)) b (.slice (some ⟨w.heap.size, 0, none⟩) 1 1) [(a, n)] :=
  World.ownsRow_lit w #[.int .u16 a, .int .i64 n] 1 hb (by decide) rfl
theorem RowT.one2 (w : World) (b : Nat) {x y : Int} (a n : Nat) {B : Nat} (hB : B = w.heap.size) (hx : x = (a : Int)) (hy : y = (n : Int)) (hb : b ≤ w.heap.size) : RowT (w.alloc (.cells #[.int .u16 x, .int .i64 y] 173)) b (.slice (some ⟨B, 0, none⟩) 1 1) [(a, n)] := by
  subst hx hy hB; exact RowT.one w b a n hb
theorem RowT.lt {w : World} {b : Nat} {v : Value} {l : List (Nat × Nat)} (h : RowT w b v l) : ∀ k, v.ownBlock = some k → b ≤ k ∧ k < w.heap.size := World.ownsRow.lt h

/-- One owned row behind another. -/
theorem run_append_stems (w : World) (ty : TypeId) (b : Nat) (v : Value) (l : List (Nat × Nat)) (h : RowT w b v l) (c : Nat) (u : Value) (k : List (Nat × Nat)) (hk : RowT w c u k)
    (hb : b ≤ w.heap.size) (hsz : l.length + k.length ≤ 4294967296) :
    ∃ v' w', (Builtin.append_ #[163, 163] ty #[v, u]).run Tryz.prog w = .ok v' w' ∧ RowT w' b v' (l ++ k) ∧ w.grownBy w' v.ownBlock := by
  obtain ⟨i0, hi, hz0, hz1, hz2⟩ := info_parts info_st
  have hmx : l.length + k.length ≤ maxLen := by unfold maxLen; omega
  rcases hk.2 with ⟨rfl, hk0⟩ | ⟨g, cap, cur, rfl, hg, hh, hnc, hcm, hcs, htk⟩
  · have hr := run_append_owned_none (P := Tryz.prog) (w := w) b 163 ty 173 i0 2 Tryz.underlying163 hi v l.length (flatT l) h
    refine ⟨v, w, hr, ?_, ⟨rfl, rfl, rfl, Nat.le_refl _, fun _ _ _ => rfl⟩⟩
    rw [List.eq_nil_of_length_eq_zero hk0, List.append_nil]
    exact h
  · have hn := World.ownsRow.cells hk (g := g) rfl
    obtain ⟨v', w', hr, ho, hgr, _⟩ := run_append_own (P := Tryz.prog) w b 163 ty 173 i0 (.agg #[.int .u16 0, .int .i64 0]) 2 16 Tryz.underlying163 hi hz0 hz1 hz2 rfl (by decide) v l.length (flatT l) h ⟨g, 0, none⟩ k.length cap (flatT k) (flatT_length k) hn (flatT_one k) hmx (by omega) hb
    refine ⟨v', w', hr, ?_, hgr⟩
    unfold RowT
    rw [List.length_append, flatT_append]
    exact ho

theorem wp_append_stems {o : Oper} {a : Act} {w : World} {K : Act → World → Prop} {Q : Exit → Act → World → Prop} (s x : Operand)
    (ho : o.op = .call { callee := .builtin .append, args := #[s, x], argTypes := #[163, 163] })
    (b : Nat) (v : Value) (l : List (Nat × Nat)) (hs : a.eval s = v) (h : RowT w b v l) (c : Nat) (u : Value) (k : List (Nat × Nat)) (hx : a.eval x = u) (hk : RowT w c u k)
    (hb : b ≤ w.heap.size) (hsz : l.length + k.length ≤ 4294967296)
    (hK : ∀ v' w', RowT w' b v' (l ++ k) → w.grownBy w' v.ownBlock → K (a.put o.dst v') w') : o.wp Tryz.prog a w K Q := by
  obtain ⟨v', w', hr, h2, h3⟩ := run_append_stems w o.type b v l h c u k hk hb hsz
  unfold Oper.wp execOp
  simp only [ho, resolve, invoke, builtin, Sem.run_bind, Sem.run_pure, Result.andThen_ok, List.map_toArray, List.map_cons, List.map_nil, hs, hx, hr]
  exact hK v' w' h2 h3
theorem wpList_append_stems {ops : Array Oper} {rest : List Oper} {o : Oper} {a : Act} {w : World} {Q : Exit → Act → World → Prop} (hgd : o.guard = none) (s x : Operand)
    (ho : o.op = .call { callee := .builtin .append, args := #[s, x], argTypes := #[163, 163] })
    (b : Nat) (v : Value) (l : List (Nat × Nat)) (hs : a.eval s = v) (h : RowT w b v l) (c : Nat) (u : Value) (k : List (Nat × Nat)) (hx : a.eval x = u) (hk : RowT w c u k)
    (hb : b ≤ w.heap.size) (hsz : l.length + k.length ≤ 4294967296)
    (hK : ∀ v' w', RowT w' b v' (l ++ k) → w.grownBy w' v.ownBlock → wpList Tryz.prog ops Q rest (a.put o.dst v') w') : wpList Tryz.prog ops Q (o :: rest) a w :=
  wpList_plain hgd fun _ hK' => wp_append_stems s x ho b v l hs h c u k hx hk hb hsz fun v' w' h2 h3 => hK' _ _ (hK v' w' h2 h3)
/-- What a row looks like. -/
theorem RowT.form {w : World} {b : Nat} {v : Value} {l : List (Nat × Nat)} (h : RowT w b v l) :
    ∃ (ad : Option Addr) (cap : Nat), v = .slice ad l.length cap ∧ l.length ≤ cap ∧ (0 < l.length → ∃ g, ad = some ⟨g, 0, none⟩ ∧ b ≤ g ∧ g < w.heap.size ∧ ∀ k (hk : k < l.length), w.cell? ⟨g, k * 2, none⟩ = some (.int .u16 ((l[k]'hk).1 : Int)) ∧ w.cell? ⟨g, k * 2 + 1, none⟩ = some (.int .i64 ((l[k]'hk).2 : Int))) := by
  rcases h.2 with ⟨hv, hn⟩ | ⟨g, cap, cur, hv, hb, hg, hcap, r⟩
  · exact ⟨none, 0, by rw [hv, hn], by omega, fun h0 => by omega⟩
  · subst hv
    refine ⟨_, cap, rfl, hcap, fun _ => ⟨g, rfl, hb, (Array.getElem?_eq_some_iff.1 hg).1, fun k hk => ?_⟩⟩
    have h' : w.ownsRow b 173 2 (.slice (some ⟨g, 0, none⟩) l.length cap) l.length (flatT l) := h
    have hf := flatT_at l k hk
    exact ⟨by rw [h'.cellAt (k * 2) (by omega), hf.1], by rw [h'.cellAt (k * 2 + 1) (by omega), hf.2]⟩
theorem RowT.frozen {w : World} {b g cap n : Nat} {l : List (Nat × Nat)} (h : RowT w b (.slice (some ⟨g, 0, none⟩) n cap) l) (j : Nat) : w.frozen? ⟨g, j, none⟩ = false := by
  rcases h.2 with ⟨hv, _⟩ | ⟨g', cap', cur, hv, hb, hg, r⟩
  · cases hv
  · cases hv; simp [World.frozen?, hg]
end Go.Proofs.YtfpmljgmfapoiaaGreat.Xp
/-
  The document's fewest stems of a set of ports: tiled, by halves over the counts of what lies ahead.
-/
namespace Go.Proofs.YtfpmljgmfapoiaaGreat.Xp
open Go.RowKit
set_option linter.unusedVariables false
set_option linter.unusedSimpArgs false

/-- The counts of what lies ahead of each place, in memory. -/
def Ahead (w : World) (v : Value) (p : Nat → Bool) : Prop :=
  ∃ g, v = .slice (some ⟨g, 0, none⟩) 65537 65537 ∧ ∀ i, i ≤ 65536 → w.cell? ⟨g, i, none⟩ = some (.int .i64 ((ah p i : Nat) : Int))
theorem Ahead.on {w w1 : World} {v : Value} {p : Nat → Bool} (h : Ahead w v p) (hb : Below w.heap.size w w1) : Ahead w1 v p := by
  obtain ⟨g, hv, hc⟩ := h
  exact ⟨g, hv, fun i hi => cell_on1 hb (hc i hi)⟩
theorem tl_len (p : Nat → Bool) : ∀ (f a : Nat), (tl p f a).length ≤ 2 ^ f := by
  intro f
  induction f with
  | zero => intro a; unfold tl; split <;> simp
  | succ f ih =>
    intro a
    have hp : 0 < 2 ^ f := Nat.pow_pos (by decide)
    have e : 2 ^ (f + 1) = 2 ^ f + 2 ^ f := by rw [Nat.pow_succ]; omega
    by_cases h1 : full p a (2 ^ (f + 1))
    · rw [tl_full h1]; simp; omega
    · by_cases h2 : bare p a (2 ^ (f + 1))
      · rw [tl_bare h2]; simp
      · rw [tl_halves h1 h2, List.length_append]
        have := ih a
        have := ih (a + 2 ^ f)
        omega
set_option maxHeartbeats 2000000 in
theorem tiled_full (p : Nat → Bool) (m a : Nat) (v : Value) (w : World) (hm : m ≤ 16) (ha : a + 2 ^ (16 - m) ≤ 65536) (hA : Ahead w v p) (h : full p a (2 ^ (16 - m))) :
    Calls Tryz.prog 108 #[v, .int .i64 a, .int .i64 m] w fun e w' => ∃ v' : Value, e = .returned v' ∧ RowT w' w.heap.size v' [(a, m)] ∧ Below w.heap.size w w' := by
  obtain ⟨g, rfl, hc⟩ := hA
  have x0 := hc (a + 2 ^ (16 - m)) ha
  have x1 := hc a (Nat.le_trans (Nat.le_add_right _ _) ha)
  rw [(ah_full p a _).2 h] at x0
  have hle := ah_le p a
  have hp : 0 < 2 ^ (16 - m) := Nat.pow_pos (by decide)
  have hm' : (m : Int) ≤ 16 := by omega
  obtain ⟨Z, hZ⟩ : ∃ Z : Nat, Z = 2 ^ (16 - m) := ⟨_, rfl⟩
  have hZi : (2 : Int) ^ (16 - m) = (Z : Int) := by rw [hZ]; simp
  rw [← hZ] at ha x0 hp
  generalize ah p a = A at *
  clear hc h hZ
  have b1 : (0 : Int) ≤ (a : Int) + (Z : Int) := by omega
  have b2 : (a : Int) + (Z : Int) < 65537 := by omega
  have b3 : (0 : Int) ≤ (a : Int) := by omega
  have b4 : (a : Int) < 65537 := by omega
  have b5 : (a : Int) < 65536 := by omega
  have e1 : (A : Int) + (Z : Int) - (A : Int) = (Z : Int) := by omega
  have e2 : (a : Int) % 65536 = (a : Int) := by omega
  go_enter Tryz.func108, Tryz.ntmps108
  go_wp2_with (fail)
  go_region
  go_wp2_with (fail)
  go_ret
  exact ⟨_, rfl, RowT.one2 w.drew w.heap.size a m rfl (by first | rfl | (simp; done) | (simp; omega)) rfl (Nat.le_refl _), by (repeat (first | assumption | exact Below.refl _ _ | refine Below.drew ?_ | refine bel_drewN ?_ _ | refine Below.setCell ?_ (by first | omega | (simp; done) | (simp; omega)) _ | refine Below.alloc ?_ (by first | omega | (simp; done) | (simp; omega)) _ | refine bel_of ?_ (by assumption)))⟩
set_option maxHeartbeats 2000000 in
theorem tiled_bare (p : Nat → Bool) (m a : Nat) (v : Value) (w : World) (hm : m ≤ 16) (ha : a + 2 ^ (16 - m) ≤ 65536) (hA : Ahead w v p) (h : bare p a (2 ^ (16 - m))) :
    Calls Tryz.prog 108 #[v, .int .i64 a, .int .i64 m] w fun e w' => ∃ v' : Value, e = .returned v' ∧ RowT w' w.heap.size v' [] ∧ Below w.heap.size w w' := by
  obtain ⟨g, rfl, hc⟩ := hA
  have x0 := hc (a + 2 ^ (16 - m)) ha
  have x1 := hc a (Nat.le_trans (Nat.le_add_right _ _) ha)
  rw [(ah_bare p a _).2 h] at x0
  have hle := ah_le p a
  have hp : 0 < 2 ^ (16 - m) := Nat.pow_pos (by decide)
  have hm' : (m : Int) ≤ 16 := by omega
  obtain ⟨Z, hZ⟩ : ∃ Z : Nat, Z = 2 ^ (16 - m) := ⟨_, rfl⟩
  have hZi : (2 : Int) ^ (16 - m) = (Z : Int) := by rw [hZ]; simp
  rw [← hZ] at ha x0 hp
  generalize ah p a = A at *
  clear hc h hZ
  have b1 : (0 : Int) ≤ (a : Int) + (Z : Int) := by omega
  have b2 : (a : Int) + (Z : Int) < 65537 := by omega
  have b3 : (0 : Int) ≤ (a : Int) := by omega
  have b4 : (a : Int) < 65537 := by omega
  have b5 : (a : Int) < 65536 := by omega
  have e1 : ¬ (0 : Int) = (Z : Int) := by omega
  have e2 : ((0 : Int) == (Z : Int)) = false := by rw [beq_eq_false_iff_ne]; exact e1
  have e3 : (A : Int) - (A : Int) = 0 := by omega
  go_enter Tryz.func108, Tryz.ntmps108
  go_wp2_with (fail)
  go_region
  go_wp2_with (fail)
  go_ret
  exact ⟨_, rfl, RowT.nil _ _, by (repeat (first | assumption | exact Below.refl _ _ | refine Below.drew ?_ | refine bel_drewN ?_ _ | refine Below.setCell ?_ (by first | omega | (simp; done) | (simp; omega)) _ | refine Below.alloc ?_ (by first | omega | (simp; done) | (simp; omega)) _ | refine bel_of ?_ (by assumption)))⟩
set_option maxHeartbeats 2000000 in
theorem tiled_mixed (p : Nat → Bool) (m a f : Nat) (v : Value) (w : World) (hm : m + (f + 1) = 16) (ha : a + 2 ^ (16 - m) ≤ 65536) (hA : Ahead w v p) (h1 : ¬ full p a (2 ^ (16 - m))) (h2 : ¬ bare p a (2 ^ (16 - m))) (L R : List (Nat × Nat)) (hL : L.length ≤ 65536) (hR : R.length ≤ 65536)
    (ih1 : ∀ W, Ahead W v p → Calls Tryz.prog 108 #[v, .int .i64 a, .int .i64 ((m : Int) + 1)] W fun e w' => ∃ v' : Value, e = .returned v' ∧ RowT w' W.heap.size v' L ∧ Below W.heap.size W w')
    (ih2 : ∀ W, Ahead W v p → Calls Tryz.prog 108 #[v, .int .i64 ((a : Int) + ((2 ^ f : Nat) : Int)), .int .i64 ((m : Int) + 1)] W fun e w' => ∃ v' : Value, e = .returned v' ∧ RowT w' W.heap.size v' R ∧ Below W.heap.size W w') :
    Calls Tryz.prog 108 #[v, .int .i64 a, .int .i64 m] w fun e w' => ∃ v' : Value, e = .returned v' ∧ RowT w' w.heap.size v' (L ++ R) ∧ Below w.heap.size w w' := by
  have HA : Hid (Ahead w v p) := hA
  obtain ⟨g, rfl, hc⟩ := hA
  have x0 := hc (a + 2 ^ (16 - m)) ha
  have x1 := hc a (Nat.le_trans (Nat.le_add_right _ _) ha)
  have bd := ah_bd p a (2 ^ (16 - m))
  rw [← ah_full] at h1
  rw [← ah_bare] at h2
  have hhalf : 2 ^ (16 - m) = 2 ^ f + 2 ^ f := by rw [show 16 - m = f + 1 by omega, Nat.pow_succ]; omega
  have hle2 := ah_le p (a + 2 ^ (16 - m))
  have hle := ah_le p a
  have hp : 0 < 2 ^ (16 - m) := Nat.pow_pos (by decide)
  have hmf : m ≤ 16 := by omega
  have hm' : (m : Int) ≤ 16 := by omega
  obtain ⟨Z, hZ⟩ : ∃ Z : Nat, Z = 2 ^ (16 - m) := ⟨_, rfl⟩
  have hZi : (2 : Int) ^ (16 - m) = (Z : Int) := by rw [hZ]; simp
  rw [← hZ] at ha x0 hp bd h1 h2 hhalf hle2
  generalize ah p a = A at *
  clear hc hZ
  have b1 : (0 : Int) ≤ (a : Int) + (Z : Int) := by omega
  have b2 : (a : Int) + (Z : Int) < 65537 := by omega
  have b3 : (0 : Int) ≤ (a : Int) := by omega
  have b4 : (a : Int) < 65537 := by omega
  have b5 : (a : Int) < 65536 := by omega
  obtain ⟨B, hB⟩ : ∃ B, B = ah p (a + Z) := ⟨_, rfl⟩
  rw [← hB] at x0 bd h1 h2 hle2
  obtain ⟨Y, hY⟩ : ∃ Y : Nat, Y = 2 ^ f := ⟨_, rfl⟩
  rw [← hY] at hhalf ih2
  have e1 : ¬ (B : Int) - (A : Int) = (Z : Int) := by omega
  have e2 : ¬ (B : Int) - (A : Int) = 0 := by omega
  have e3 : (((B : Int) - (A : Int)) == (Z : Int)) = false := by rw [beq_eq_false_iff_ne]; exact e1
  have e4 : (((B : Int) - (A : Int)) == 0) = false := by rw [beq_eq_false_iff_ne]; exact e2
  have e5 : (Z : Int) / 2 = (Y : Int) := by omega
  have e6 : (Z : Int).tdiv 2 = (Y : Int) := by rw [Int.tdiv_eq_ediv_of_nonneg (by omega)]; omega
  have b6 : (B : Int) ≤ 65536 := by omega
  have b7 : (A : Int) ≤ 65536 := by omega
  have b8 : (Z : Int) ≤ 65536 := by omega
  have b9 : (Y : Int) ≤ 65536 := by omega
  clear hB hY h1 h2 bd hhalf
  go_enter Tryz.func108, Tryz.ntmps108
  go_wp2_with (fail)
  go_region
  go_wp2_with (fail)
  refine (ih1 _ (HA.out.on ((Below.refl _ _).drew))).mono ?_
  rintro e w1 ⟨v1, rfl, r1, hb1⟩
  have R1 : Hid (RowT w1 w.heap.size v1 L) := r1
  have HA1 : Hid (Ahead w1 (.slice (some ⟨g, 0, none⟩) 65537 65537) p) := (HA.out.on ((Below.refl _ _).drew)).on hb1
  have B1 : Hid (Below w.heap.size w w1) := (Below.refl _ _).drew.trans (hb1.mono (Nat.le_refl _))
  have z1 := B1.out.size
  clear r1 hb1 ih1 HA x0 x1
  go_wp2_with (fail)
  refine (ih2 _ HA1.out).mono ?_
  rintro e w2 ⟨v2, rfl, r2, hb2⟩
  have R1' : Hid (RowT w2 w.heap.size v1 L) := R1.out.on hb2
  have R2 : Hid (RowT w2 w1.heap.size v2 R) := r2
  have B2 : Hid (Below w.heap.size w w2) := B1.out.trans (hb2.mono z1)
  have z2 := B2.out.size
  clear r2 hb2 ih2 HA1 R1 B1
  go_wp2_with (at_builtin; refine wpList_append_stems rfl (.tmp 48) (.tmp 49) rfl w.heap.size _ L rfl R1'.out w1.heap.size _ R rfl R2.out z2 (by omega) ?_; intro v5 w5 hrow5 hgr5)
  go_ret
  exact ⟨_, rfl, hrow5, B2.out.grown hgr5 z2 (fun j hj => (R1'.out.lt j hj).1)⟩
set_option maxHeartbeats 1000000 in
theorem tiledT (p : Nat → Bool) : ∀ (f m a : Nat) (v : Value) (w : World), m + f = 16 → a + 2 ^ f ≤ 65536 → Ahead w v p →
    Calls Tryz.prog 108 #[v, .int .i64 a, .int .i64 m] w fun e w' => ∃ v' : Value, e = .returned v' ∧ RowT w' w.heap.size v' (tl p f a) ∧ Below w.heap.size w w' := by
  intro f
  induction f with
  | zero =>
    intro m a v w hm ha hA
    obtain rfl : m = 16 := by omega
    by_cases h1 : full p a (2 ^ (16 - 16))
    · rw [tl_full h1]; exact tiled_full p 16 a v w (Nat.le_refl _) ha hA h1
    · have hb : bare p a (2 ^ (16 - 16)) := fun i i1 i2 => by
        have e : i = a := by simp at i2; omega
        cases hp : p i
        · rfl
        · exact absurd (fun j j1 j2 => by
            have e2 : j = i := by simp at j2; omega
            rw [e2]; exact hp) h1
      rw [tl_bare hb]; exact tiled_bare p 16 a v w (Nat.le_refl _) ha hA hb
  | succ f ih =>
    intro m a v w hm ha hA
    have e : 16 - m = f + 1 := by omega
    have e2 : 2 ^ (f + 1) = 2 ^ f + 2 ^ f := by rw [Nat.pow_succ]; omega
    have h16 : 2 ^ f ≤ 2 ^ 16 := pow_le (by omega)
    have hpos : 0 < 2 ^ f := Nat.pow_pos (by decide)
    by_cases h1 : full p a (2 ^ (f + 1))
    · rw [tl_full h1, show 16 - (f + 1) = m by omega]; exact tiled_full p m a v w (by omega) (by rw [e]; exact ha) hA (by rw [e]; exact h1)
    · by_cases h2 : bare p a (2 ^ (f + 1))
      · rw [tl_bare h2]; exact tiled_bare p m a v w (by omega) (by rw [e]; exact ha) hA (by rw [e]; exact h2)
      · rw [tl_halves h1 h2]
        refine tiled_mixed p m a f v w (by omega) (by rw [e]; exact ha) hA (by rw [e]; exact h1) (by rw [e]; exact h2) _ _ (Nat.le_trans (tl_len p f a) h16) (Nat.le_trans (tl_len p f (a + 2 ^ f)) h16) (fun W h => ?_) (fun W h => ?_)
        · exact ih (m + 1) a v W (by omega) (by omega) h
        · exact ih (m + 1) (a + 2 ^ f) v W (by omega) (by omega) h
end Go.Proofs.YtfpmljgmfapoiaaGreat.Xp
/-
  The document's fewest stems of a set of ports, out of the set in memory (Tiled).
-/
namespace Go.Proofs.YtfpmljgmfapoiaaGreat.Xp
open Go.RowKit
set_option linter.unusedVariables false
set_option linter.unusedSimpArgs false

/-- The counts up to k, in the block g of 65537 numbers. -/
structure Cts (w : World) (g : Nat) (p : Nat → Bool) (k : Nat) : Prop where
  at_ : ∀ i, i ≤ k → w.cell? ⟨g, i, none⟩ = some (.int .i64 ((ah p i : Nat) : Int))
  all : ∀ i, i ≤ 65536 → ∃ u, w.cell? ⟨g, i, none⟩ = some u
  fz : ∀ i, w.frozen? ⟨g, i, none⟩ = false
theorem Cts.next {w : World} {g : Nat} {p : Nat → Bool} {k : Nat} (h : Cts w g p k) (hk : k < 65536) (z : Int) (hz : z = ((ah p (k + 1) : Nat) : Int)) : Cts (w.setCell ⟨g, k + 1, none⟩ (.int .i64 z)) g p (k + 1) := by
  have hs : ∀ i, ¬ i = k + 1 → ∀ u, w.cell? ⟨g, i, none⟩ = some u → (w.setCell ⟨g, k + 1, none⟩ (.int .i64 z)).cell? ⟨g, i, none⟩ = some u := fun i hi u hu => by
    have h1 : ¬ k + 1 = i := fun e => hi e.symm
    simp [go_sem, hu, hi, h1]
  obtain ⟨u0, hu0⟩ := h.all (k + 1) (by omega)
  have hn : (w.setCell ⟨g, k + 1, none⟩ (.int .i64 z)).cell? ⟨g, k + 1, none⟩ = some (.int .i64 z) := World.cell?_setCell_same' w ⟨g, k + 1, none⟩ _ (by rw [hu0]; rfl)
  refine ⟨fun i hi => ?_, fun i hi => ?_, fun i => ?_⟩
  · by_cases e : i = k + 1
    · subst e; rw [hn, hz]
    · exact hs i e _ (h.at_ i (by omega))
  · by_cases e : i = k + 1
    · subst e; exact ⟨_, hn⟩
    · obtain ⟨u, hu⟩ := h.all i hi
      exact ⟨u, hs i e u hu⟩
  · rw [World.frozen?_setCell]; exact h.fz i
theorem Cts.junk {w : World} {g : Nat} {p : Nat → Bool} {k : Nat} (h : Cts w g p k) (hk : k < 65536) (z : Value) : Cts (w.setCell ⟨g, k + 1, none⟩ z) g p k := by
  have hs : ∀ i, ¬ i = k + 1 → ∀ u, w.cell? ⟨g, i, none⟩ = some u → (w.setCell ⟨g, k + 1, none⟩ z).cell? ⟨g, i, none⟩ = some u := fun i hi u hu => by
    have h1 : ¬ k + 1 = i := fun e => hi e.symm
    simp [go_sem, hu, hi, h1]
  obtain ⟨u0, hu0⟩ := h.all (k + 1) (by omega)
  have hn : (w.setCell ⟨g, k + 1, none⟩ z).cell? ⟨g, k + 1, none⟩ = some z := World.cell?_setCell_same' w ⟨g, k + 1, none⟩ _ (by rw [hu0]; rfl)
  refine ⟨fun i hi => hs i (by omega) _ (h.at_ i hi), fun i hi => ?_, fun i => ?_⟩
  · by_cases e : i = k + 1
    · subst e; exact ⟨_, hn⟩
    · obtain ⟨u, hu⟩ := h.all i hi
      exact ⟨u, hs i e u hu⟩
  · rw [World.frozen?_setCell]; exact h.fz i
set_option maxHeartbeats 2000000 in
theorem TiledT (g : Nat) (p : Nat → Bool) (w : World) (h : PortsAt w g p) :
    Calls Tryz.prog 93 #[.pointer (some ⟨g, 0, none⟩)] w fun e w' => ∃ v' : Value, e = .returned v' ∧ RowT w' w.heap.size v' (tl p 16 0) ∧ Below w.heap.size w w' := by
  have hg := h.lt
  have hPc : Hid (∀ i, i < 65536 → w.cell? ⟨g, i, none⟩ = some (.bool (p i))) := fun i hi => (h.cell hi).1
  obtain ⟨i0, hi, hz0, hz1, hz2⟩ := info_parts (show (Tryz.prog.info? 3).map (fun i => (i.zero, i.size, i.bytes)) = some (some (.int .i64 0), 1, 8) by kernel_rfl)
  have hmk : ∀ W : World, (Instr.makeSlice 96 (.int .i64 65537) (.int .i64 65537)).run Tryz.prog W = .ok (.slice (some ⟨W.heap.size, 0, none⟩) 65537 65537) (W.alloc (.cells (madeCells #[.int .i64 0] 65537) 3)) := fun W => by
    have := run_make (P := Tryz.prog) W 96 3 i0 (.int .i64 0) Tryz.underlying96 hi hz0 .i64 .i64 65537 65537 (by omega) (Int.le_refl _) (by rw [hz2]; omega) (by omega)
    simpa [hz1, Value.cells] using this
  have HC : Hid (Cts (w.alloc (.cells (madeCells #[.int .i64 0] 65537) 3)) w.heap.size p 0) := by
    have hg1 := heap_alloc_new w (.cells (madeCells #[Value.int .i64 0] 65537) 3)
    have hcell : ∀ i, i ≤ 65536 → (w.alloc (.cells (madeCells #[Value.int .i64 0] 65537) 3)).cell? ⟨w.heap.size, i, none⟩ = some (.int .i64 0) := fun i hi => by
      rw [cell_of_row _ w.heap.size i _ _ (0, 0) hg1, ← Array.getElem?_toList, toList_madeCells_one, List.getElem?_replicate, if_pos (by omega)]
    refine ⟨fun i hi => ?_, fun i hi => ⟨_, hcell i hi⟩, fun i => by unfold World.frozen?; rw [hg1]; simp⟩
    obtain rfl : i = 0 := by omega
    exact hcell 0 (by omega)
  clear h hi hz0 hz1 hz2
  generalize madeCells #[Value.int IntKind.i64 0] 65537 = mc at *
  go_enter Tryz.func93, Tryz.ntmps93
  go_wp2_with (fail)
  go_loopw [4] (fun iv wr => ∃ k : Nat, k ≤ 65536 ∧ iv = .int .i64 k ∧ Hid (Cts wr w.heap.size p k) ∧ Hid (Below w.heap.size w wr)) (fun iv _ => 65536 - (intOf iv).toNat)
  case atStart => exact ⟨0, Nat.zero_le _, rfl, HC.out, (Below.refl _ _).alloc (Nat.le_refl _) _⟩
  case round =>
    obtain ⟨k, hk, rfl, hC, hB⟩ := hrel
    clear hmk HC
    by_cases hlt : k < 65536
    · have hlt' : (k : Int) < 65536 := by omega
      have hk0 : (0 : Int) ≤ (k : Int) := by omega
      have x0 := hC.out.at_ k (Nat.le_refl _)
      obtain ⟨u1, x1⟩ := hC.out.all (k + 1) (by omega)
      have f1 := hC.out.fz (k + 1)
      have y0 : wr.cell? ⟨g, k, none⟩ = some (.bool (p k)) := by rw [hB.out.cell hg]; exact hPc.out k hlt
      have hle := ah_le p k
      have hne : ¬ w.heap.size = g := by omega
      have hne' : ¬ g = w.heap.size := by omega
      have hst : ah p (k + 1) = ah p k + if p k then 1 else 0 := rfl
      have hah : ((ah p k : Nat) : Int) ≤ 65536 := by omega
      cases hp : p k
      · rw [hp] at y0 hst
        have HN : Hid (((ah p k : Nat) : Int) = ((ah p (k + 1) : Nat) : Int)) := by show _ = _; rw [hst]; simp
        clear hst hp
        go_wp2_with (fail)
        go_roundw
        case rel => exact ⟨k + 1, by omega, by go_num, hC.out.next hlt _ HN.out, hB.out.setCell (Nat.le_refl _) _⟩
        case measure => simp [intOf]; omega
      · rw [hp] at y0 hst
        have HN : Hid (((ah p k : Nat) : Int) + 1 = ((ah p (k + 1) : Nat) : Int)) := by show _ = _; rw [hst]; simp
        clear hst hp
        go_wp2_with (fail)
        go_roundw
        case rel => exact ⟨k + 1, by omega, by go_num, (hC.out.junk hlt _).next hlt _ HN.out, (hB.out.setCell (Nat.le_refl _) _).setCell (Nat.le_refl _) _⟩
        case measure => simp [intOf]; omega
    · obtain rfl : k = 65536 := by omega
      have hz := hB.out.size
      have hA : Ahead wr (.slice (some ⟨w.heap.size, 0, none⟩) 65537 65537) p := ⟨w.heap.size, rfl, fun i hi => hC.out.at_ i hi⟩
      have ht := fun W (h : Ahead W (.slice (some ⟨w.heap.size, 0, none⟩) 65537 65537) p) => tiledT p 16 0 0 (.slice (some ⟨w.heap.size, 0, none⟩) 65537 65537) W rfl (by decide) h
      have HA : Hid (Ahead wr (.slice (some ⟨w.heap.size, 0, none⟩) 65537 65537) p) := hA
      clear hA
      go_wp2_with (fail)
      refine (ht _ HA.out).mono ?_
      rintro e w1 ⟨v1, rfl, r1, hb1⟩
      have R1 : Hid (RowT w1 w.heap.size v1 (tl p 16 0)) := r1.base hz
      have B1 : Hid (Below w.heap.size w w1) := hB.out.trans (hb1.mono hz)
      clear r1 hb1 ht HA
      go_wp2_with (fail)
      go_ret
      exact ⟨_, rfl, R1.out, B1.out⟩
end Go.Proofs.YtfpmljgmfapoiaaGreat.Xp
/-
  The document's answer: Of, ports, Back, Least (where the zero value of a set of ports is not written out in parts: ExZb).
-/
namespace Go.Proofs.YtfpmljgmfapoiaaGreat.Xp
open Go.RowKit
set_option linter.unusedVariables false
set_option linter.unusedSimpArgs false

/-- Only the ports below 65536 count. -/
theorem ah_congr {p q : Nat → Bool} : ∀ n, (∀ i, i < n → p i = q i) → ah p n = ah q n
  | 0, _ => rfl
  | n + 1, h => by
    show ah p n + _ = ah q n + _
    rw [ah_congr n fun i hi => h i (by omega), h n (by omega)]
theorem tl_congr {p q : Nat → Bool} (h : ∀ i, i < 65536 → p i = q i) : ∀ (f a : Nat), a + 2 ^ f ≤ 65536 → tl p f a = tl q f a := by
  intro f
  induction f with
  | zero =>
    intro a ha
    unfold tl
    rw [ah_congr (a + 1) fun i hi => h i (by rw [Nat.pow_zero] at ha; omega), ah_congr a fun i hi => h i (by rw [Nat.pow_zero] at ha; omega)]
  | succ f ih =>
    intro a ha
    have hp : 0 < 2 ^ f := Nat.pow_pos (by decide)
    have e : 2 ^ (f + 1) = 2 ^ f + 2 ^ f := by rw [Nat.pow_succ]; omega
    unfold tl
    rw [ah_congr (a + 2 ^ (f + 1)) fun i hi => h i (by omega), ah_congr a fun i hi => h i (by omega), ih a (by omega), ih (a + 2 ^ f) (by omega)]
set_option maxHeartbeats 1000000 in
theorem rof_ok (lo hi : Nat) (w : World) (h : lo ≤ hi) (hh : hi < 65536) :
    Calls Tryz.prog 72 #[.agg #[.int .u16 lo, .int .u16 hi]] w fun e w' => ∃ v' : Value, e = .returned (.tuple #[v', .int .i64 0]) ∧ RowT w' w.heap.size v' (tl (hasB (lo, hi)) 16 0) ∧ Below w.heap.size w w' := by
  obtain ⟨cs, hz, hsz, hall⟩ := zero_ports
  have hbuild := run_zero_ports hz
  have hne := ports_ne hsz
  have hnew : Hid (PortsAt ((w.alloc (.cells #[.int .u16 lo, .int .u16 hi] 48)).alloc (.cells cs 185)) (w.heap.size + 1) (fun _ => false)) := by
    have := PortsAt.new (w.alloc (.cells #[.int .u16 lo, .int .u16 hi] 48)) hsz hall
    show PortsAt _ _ _
    simpa using this
  have h' : ¬ (hi : Int) < (lo : Int) := by omega
  clear hall hz
  go_enter Tryz.func72, Tryz.ntmps72
  go_wp2_with (fail)
  refine (addS lo hi (by omega) hh (w.heap.size + 1) _ _ hnew.out).mono ?_
  rintro e w1 ⟨rfl, hP, hbt⟩
  have HP : Hid (PortsAt w1 (w.heap.size + 1) (fun i => false || hasB (lo, hi) i)) := hP
  have HB : Hid (Below w.heap.size w w1) := But.below (((Below.refl _ _).alloc (Nat.le_refl _) _).alloc (by simp) _) hbt (by simp; omega) (by omega)
  have hz1 := HB.out.size
  clear hP hbt hnew hbuild
  go_wp2_with (fail)
  refine (TiledT (w.heap.size + 1) _ _ HP.out).mono ?_
  rintro e w2 ⟨v2, rfl, r2, hb2⟩
  have R2 : Hid (RowT w2 w.heap.size v2 (tl (hasB (lo, hi)) 16 0)) := by
    have := r2.base hz1
    rw [tl_congr (p := fun i => false || hasB (lo, hi) i) (q := hasB (lo, hi)) (fun i _ => by simp) 16 0 (by decide)] at this
    exact this
  have B2 : Hid (Below w.heap.size w w2) := HB.out.trans (hb2.mono hz1)
  clear r2 hb2 HP HB
  go_wp2_with (fail)
  go_ret2
  exact ⟨_, rfl, R2.out, B2.out⟩
end Go.Proofs.YtfpmljgmfapoiaaGreat.Xp
/-
  Plain arithmetic on bytes: no program is named here. The bits of a byte from its first one ('tb'), masks as two bytes, what they hold, what two of them share, what is left of one, the hull of some bytes.
-/
namespace Go.Proofs.YtfpmljgmfapoiaaGreat
open Go.RowKit

/-- The bit i of a byte, counted from its first. -/
def tb (a i : Nat) : Nat := a / 2 ^ (7 - i) % 2
theorem tb_lt (a i : Nat) : tb a i < 2 := Nat.mod_lt _ (by decide)
theorem tb_one (a i : Nat) : tb a i = 1 ↔ a.testBit (7 - i) = true := by
  unfold tb; rw [← Nat.toNat_testBit]; cases a.testBit (7 - i) <;> simp
theorem tb_zero (a i : Nat) : tb a i = 0 ↔ a.testBit (7 - i) = false := by
  unfold tb; rw [← Nat.toNat_testBit]; cases a.testBit (7 - i) <;> simp
theorem tb_same (a b i : Nat) : tb a i = tb b i ↔ a.testBit (7 - i) = b.testBit (7 - i) := by
  unfold tb; rw [← Nat.toNat_testBit, ← Nat.toNat_testBit]; cases a.testBit (7 - i) <;> cases b.testBit (7 - i) <;> simp
theorem test_ge {a i : Nat} (ha : a < 256) (h : 8 ≤ i) : a.testBit i = false :=
  Nat.testBit_lt_two_pow (Nat.lt_of_lt_of_le ha (Nat.pow_le_pow_right (n := 2) (by decide) h))
theorem not8 {c : Nat} (hc : c < 256) (i : Nat) : (255 - c).testBit i = (decide (i < 8) && !c.testBit i) := by
  have := Nat.testBit_two_pow_sub_succ (x := c) (n := 8) hc i
  rw [← this, show 2 ^ 8 - (c + 1) = 255 - c by omega]
theorem xor_lt {a b : Nat} (ha : a < 256) (hb : b < 256) : a ^^^ b < 256 := Nat.xor_lt_two_pow (n := 8) ha hb
/-- May the mask be? -/
def okM (v c : Nat) : Bool := decide (v &&& c = v)
/-- Does it hold p? -/
def hasM (v c p : Nat) : Bool := decide (p &&& c = v)
theorem okM_iff (v c : Nat) : okM v c = true ↔ ∀ i, v.testBit i = true → c.testBit i = true := by
  unfold okM
  rw [decide_eq_true_eq]
  constructor
  · intro h i hi
    have := congrArg (fun y => Nat.testBit y i) h
    simp only [Nat.testBit_and, hi, Bool.true_and] at this
    exact this
  · intro h
    apply Nat.eq_of_testBit_eq
    intro i
    have := h i
    rw [Nat.testBit_and]
    cases hv : v.testBit i
    · rfl
    · rw [this hv]; rfl
theorem hasM_iff (v c p : Nat) : hasM v c p = true ↔ ∀ i, (p.testBit i && c.testBit i) = v.testBit i := by
  unfold hasM
  rw [decide_eq_true_eq]
  constructor
  · intro h i
    have := congrArg (fun y => Nat.testBit y i) h
    simpa only [Nat.testBit_and] using this
  · intro h
    apply Nat.eq_of_testBit_eq
    intro i
    rw [Nat.testBit_and, h i]
theorem hasM_ok {v c p : Nat} (h : hasM v c p = true) : okM v c = true := by
  rw [hasM_iff] at h
  rw [okM_iff]
  intro i hi
  have := h i
  rw [hi] at this
  revert this
  cases p.testBit i <;> simp
theorem hasM_of_not {v c p : Nat} (h : okM v c = false) : hasM v c p = false := by
  cases hh : hasM v c p
  · rfl
  · rw [hasM_ok hh] at h; cases h
/-- The code's test of a mask. -/
theorem ok_andNot {v c : Nat} (hc : c < 256) (hv : v < 256) : v &&& (255 - c) = 0 ↔ okM v c = true := by
  rw [okM_iff]
  constructor
  · intro h i hi
    have := congrArg (fun y => Nat.testBit y i) h
    simp only [Nat.testBit_and, not8 hc, Nat.zero_testBit, hi, Bool.true_and] at this
    by_cases h8 : i < 8
    · simpa [h8] using this
    · rw [test_ge hv (by omega)] at hi; cases hi
  · intro h
    apply Nat.eq_of_testBit_eq
    intro i
    have := h i
    simp only [Nat.testBit_and, not8 hc, Nat.zero_testBit]
    revert this
    cases v.testBit i <;> cases c.testBit i <;> simp
/-- The document's test of a mask, and of a byte under it. -/
theorem ok_bits {v c : Nat} (hv : v < 256) : okM v c = true ↔ ∀ i, i < 8 → ¬ (tb v i = 1 ∧ tb c i = 0) := by
  rw [okM_iff]
  constructor
  · rintro h i hi ⟨h1, h2⟩
    rw [tb_one] at h1
    rw [tb_zero] at h2
    rw [h _ h1] at h2; cases h2
  · intro h i hi
    by_cases h8 : i < 8
    · have := h (7 - i) (by omega)
      rw [tb_one, tb_zero, show 7 - (7 - i) = i by omega] at this
      cases hc : c.testBit i
      · exact absurd ⟨hi, hc⟩ this
      · rfl
    · rw [test_ge hv (by omega)] at hi; cases hi
theorem has_bits {v c p : Nat} (hv : v < 256) (hc : c < 256) (hok : okM v c = true) : hasM v c p = true ↔ ∀ i, i < 8 → ¬ (tb c i = 1 ∧ ¬ tb v i = tb p i) := by
  rw [hasM_iff]
  rw [okM_iff] at hok
  constructor
  · rintro h i hi ⟨h1, h2⟩
    rw [tb_one] at h1
    rw [tb_same] at h2
    have := h (7 - i)
    rw [h1, Bool.and_true] at this
    exact h2 this.symm
  · intro h i
    by_cases h8 : i < 8
    · have := h (7 - i) (by omega)
      rw [tb_one, tb_same, show 7 - (7 - i) = i by omega] at this
      have ho := hok i
      revert this ho
      cases v.testBit i <;> cases c.testBit i <;> cases p.testBit i <;> simp
    · rw [test_ge hv (by omega), test_ge hc (by omega), Bool.and_false]

/-- The first i bits of a byte. -/
def hi (x i : Nat) : Nat := x / 2 ^ (8 - i) * 2 ^ (8 - i)
end Go.Proofs.YtfpmljgmfapoiaaGreat
/-
  Plain arithmetic on bytes: what is left of one mask without another, the hull of some bytes, how many bytes a mask holds. No program is named here.
-/
namespace Go.Proofs.YtfpmljgmfapoiaaGreat
open Go.RowKit
set_option linter.unusedVariables false
set_option linter.unusedSimpArgs false

/-- Is the bit i one that b cares for and a does not? -/
def cut (c d i : Nat) : Bool := decide (tb d i = 1 ∧ tb c i = 0)
/-- What is left over at the bit i, and the piece told there. -/
def rv (v x i : Nat) : Nat := v ||| hi x i
def piece (v c x d i : Nat) : Nat × Nat := (rv v x i ||| (1 - tb x i) * 2 ^ (7 - i), rv c d (i + 1))
/-- How many of some masks hold p. -/
def cnt (p : Nat) (l : List (Nat × Nat)) : Nat := l.countP (fun m => hasM m.1 m.2 p)
def num (f : Nat → Bool) (m : Nat) : Nat := (List.range m).countP f
/-- How many values the last bit may have. -/
def way (v c : Nat) : Nat := (if 0 &&& c % 2 = v % 2 then 1 else 0) + (if 1 &&& c % 2 = v % 2 then 1 else 0)
def ways : Nat → Nat → Nat → Nat
  | 0, _, _ => 1
  | n + 1, v, c => ways n (v / 2) (c / 2) * way v c
end Go.Proofs.YtfpmljgmfapoiaaGreat
/-
  What the small functions of package mask, and of the document's answer, hand back: one contract a function, for every world; each makes memory of its own alone.
-/
namespace Go.Proofs.YtfpmljgmfapoiaaGreat
open Go.RowKit
set_option linter.unusedVariables false
set_option linter.unusedSimpArgs false

def chk (v c : Nat) : Int := if okM v c then 0 else 40
theorem chk_ok {v c : Nat} (h : okM v c = true) : chk v c = 0 := by unfold chk; rw [if_pos h]
theorem chk_no {v c : Nat} (h : okM v c = false) : chk v c = 40 := by unfold chk; rw [h]; rfl
theorem checkM (v c : Nat) (w : World) (hv : v < 256) (hc : c < 256) :
    Calls Tryz.prog 85 #[.agg #[.int .u8 v, .int .u8 c]] w fun e w' => e = .returned (.int .i64 (chk v c)) ∧ Below w.heap.size w w' := by
  cases h : okM v c
  · have h' : ¬ bits .andNot .u8 (v : Int) (c : Int) = 0 := by
      rw [u8_andNot_nat _ _ hv hc]
      intro e
      have : v &&& (255 - c) = 0 := by omega
      rw [ok_andNot hc hv, h] at this; cases this
    rw [chk_no h]
    clear h
    go_enter Tryz.func85, Tryz.ntmps85
    go_wp2
    go_ret
    exact ⟨rfl, by (repeat (first | assumption | exact Below.refl _ _ | refine Below.drew ?_ | refine bel_drewN ?_ _ | refine Below.setCell ?_ (by first | omega | (simp; done) | (simp; omega)) _ | refine Below.alloc ?_ (by first | omega | (simp; done) | (simp; omega)) _ | refine bel_of ?_ (by assumption)))⟩
  · have h' : bits .andNot .u8 (v : Int) (c : Int) = 0 := by
      rw [u8_andNot_nat _ _ hv hc, (ok_andNot hc hv).2 h]; rfl
    rw [chk_ok h]
    clear h
    go_enter Tryz.func85, Tryz.ntmps85
    go_wp2
    go_ret
    exact ⟨rfl, by (repeat (first | assumption | exact Below.refl _ _ | refine Below.drew ?_ | refine bel_drewN ?_ _ | refine Below.setCell ?_ (by first | omega | (simp; done) | (simp; omega)) _ | refine Below.alloc ?_ (by first | omega | (simp; done) | (simp; omega)) _ | refine bel_of ?_ (by assumption)))⟩
theorem bitM (a i : Nat) (w : World) (ha : a < 256) (hi : i ≤ 7) :
    Calls Tryz.prog 74 #[.int .u8 a, .int .i64 i] w fun e w' => e = .returned (.int .i64 (tb a i : Int)) ∧ w' = w := by
  go_enter Tryz.func74, Tryz.ntmps74
  go_wp2
  go_ret
  refine ⟨ret_int ?_, rfl⟩
  have e : (a : Int) / 2 ^ (7 - i) = ((a / 2 ^ (7 - i) : Nat) : Int) := by simp
  have l : a / 2 ^ (7 - i) ≤ a := Nat.div_le_self _ _
  rw [e]
  unfold tb
  generalize a / 2 ^ (7 - i) = y at l
  rw [show wrap64 (y : Int) = (y : Int) by unfold wrap64; omega, Int.tmod_eq_emod_of_nonneg (by omega)]
  omega
end Go.Proofs.YtfpmljgmfapoiaaGreat
/-
  Plain arithmetic on prefixes of words of 32 bits: no program is named here.
-/
namespace Go.Proofs.YtfpmljgmfapoiaaGreat.Pf
open Go.RowKit
set_option linter.unusedVariables false
set_option linter.unusedSimpArgs false

/-- How many words begin with the same n bits. -/
def bk (n : Nat) : Nat := 2 ^ (32 - n)
/-- A word's first n bits, zeros behind. -/
def ct (a n : Nat) : Nat := a / bk n * bk n
/-- The bit i of a word, counted from its first. -/
def tb (a i : Nat) : Nat := a / 2 ^ (31 - i) % 2

theorem bk_pos (n : Nat) : 0 < bk n := Nat.pow_pos (by decide)
theorem bk_le (n : Nat) : bk n ≤ 4294967296 := by
  have : bk n ≤ 2 ^ 32 := Nat.pow_le_pow_right (by decide) (by omega)
  simpa using this
theorem bk_zero : bk 0 = 4294967296 := by decide
theorem bk_32 : bk 32 = 1 := by decide
theorem bk_succ (n : Nat) (h : n < 32) : bk n = 2 * bk (n + 1) := by
  unfold bk
  rw [show 32 - n = (32 - (n + 1)) + 1 by omega, Nat.pow_succ]; omega
theorem bk_31 (i : Nat) (h : i < 32) : 2 ^ (31 - i) = bk (i + 1) := by unfold bk; rw [show 32 - (i + 1) = 31 - i by omega]
theorem bk_dvd (m n : Nat) (h : m ≤ n) : bk n ∣ bk m := Nat.pow_dvd_pow 2 (by omega)
theorem tb_lt (a i : Nat) : tb a i < 2 := Nat.mod_lt _ (by decide)
theorem ct_le (a n : Nat) : ct a n ≤ a := Nat.div_mul_le_self _ _
theorem ct_add (a n : Nat) : ct a n + a % bk n = a := by
  unfold ct; have := Nat.div_add_mod a (bk n); rw [Nat.mul_comm] at this; exact this
theorem ct_self (a n : Nat) (h : a % bk n = 0) : ct a n = a := by have := ct_add a n; omega
theorem mod_step (a k : Nat) (h : k < 32) : a % bk k = a % bk (k + 1) + bk (k + 1) * tb a k := by
  unfold tb
  rw [bk_31 k h, bk_succ k h, Nat.mul_comm 2, Nat.mod_mul]
theorem ct_step (a k : Nat) (h : k < 32) : ct a (k + 1) = ct a k + bk (k + 1) * tb a k := by
  have h1 := ct_add a k
  have h2 := ct_add a (k + 1)
  have h3 := mod_step a k h
  omega
theorem ct_zero (a : Nat) (h : a < 4294967296) : ct a 0 = 0 := by
  unfold ct; rw [bk_zero, Nat.div_eq_of_lt h, Nat.zero_mul]
/-- The shorter cut of a cut is the shorter cut. -/
theorem ct_ct (a m n : Nat) (h : m ≤ n) : ct (ct a n) m = ct a m := by
  unfold ct
  obtain ⟨c, hc⟩ := bk_dvd m n h
  rw [hc, ← Nat.div_div_eq_div_mul, ← Nat.div_div_eq_div_mul, Nat.mul_div_cancel _ (bk_pos n)]
theorem ct_lt (a n : Nat) (h : a < 4294967296) : ct a n < 4294967296 := Nat.lt_of_le_of_lt (ct_le a n) h
/-! words -/
theorem shr_all : ∀ n, n < 33 → 4294967295 / 2 ^ n = bk n - 1 := by decide +kernel
theorem shr_int (n : Nat) (h : n ≤ 32) : (4294967295 : Int) / 2 ^ n = ((bk n - 1 : Nat) : Int) := by
  rw [← shr_all n (by omega)]; simp
theorem lw_lt (n : Nat) : bk n - 1 < 4294967296 := by have := bk_le n; have := bk_pos n; omega
theorem and_lw (a n : Nat) (ha : a < 4294967296) : bits .and .u32 (a : Int) ((bk n - 1 : Nat) : Int) = ((a % bk n : Nat) : Int) := by
  rw [u32_and_nat _ _ ha (lw_lt n)]; unfold bk; rw [Nat.and_two_pow_sub_one_eq_mod]
theorem andNot_nat (a k : Nat) (ha : a < 2 ^ 32) (hk : k ≤ 32) : a &&& (2 ^ 32 - 2 ^ k) = a / 2 ^ k * 2 ^ k := by
  apply Nat.eq_of_testBit_eq
  intro i
  have h1 : 2 ^ 32 - 2 ^ k = 2 ^ 32 - ((2 ^ k - 1) + 1) := by have : 0 < 2 ^ k := Nat.pow_pos (by decide); omega
  have h2 : 2 ^ k - 1 < 2 ^ 32 := by have := Nat.pow_le_pow_right (n := 2) (by decide) hk; have : 0 < 2 ^ k := Nat.pow_pos (by decide); omega
  rw [Nat.testBit_and, h1, Nat.testBit_two_pow_sub_succ h2, Nat.testBit_two_pow_sub_one, ← Nat.shiftRight_eq_div_pow, ← Nat.shiftLeft_eq, Nat.testBit_shiftLeft, Nat.testBit_shiftRight]
  by_cases hi : i < k
  · simp [hi]; omega
  · by_cases h3 : i < 32
    · simp [hi, h3, show k ≤ i by omega, show k + (i - k) = i by omega]
    · have : a.testBit i = false := Nat.testBit_lt_two_pow (Nat.lt_of_lt_of_le ha (Nat.pow_le_pow_right (by decide) (by omega)))
      simp [h3, show k ≤ i by omega, show k + (i - k) = i by omega, this]
theorem andNot_lw (a n : Nat) (ha : a < 4294967296) : bits .andNot .u32 (a : Int) ((bk n - 1 : Nat) : Int) = (ct a n : Int) := by
  rw [u32_andNot_nat _ _ ha (lw_lt n)]
  have h : 4294967295 - (bk n - 1) = 2 ^ 32 - 2 ^ (32 - n) := by have := bk_pos n; have := bk_le n; show 4294967295 - (bk n - 1) = 4294967296 - bk n; omega
  rw [h, andNot_nat a (32 - n) (by simpa using ha) (by omega)]
  rfl
theorem bit_int (a i : Nat) : ((a : Int) / 2 ^ (31 - i)) % 2 = (tb a i : Int) := by unfold tb; simp

/-! what a prefix is -/
/-- May it be? 20: the length; 21: a bit beyond; 0: it may. -/
def chk (a : Nat) (n : Int) : Int := if n < 0 ∨ 32 < n then 20 else if a % bk n.toNat = 0 then 0 else 21
theorem chk_out (a : Nat) (n : Int) (h : n < 0 ∨ 32 < n) : chk a n = 20 := by unfold chk; rw [if_pos h]
theorem chk_in (a n : Nat) (h : n ≤ 32) (h' : a % bk n = 0) : chk a (n : Int) = 0 := by
  unfold chk; rw [if_neg (by omega), if_pos (by simpa using h')]
theorem chk_bits (a n : Nat) (h : n ≤ 32) (h' : a % bk n ≠ 0) : chk a (n : Int) = 21 := by
  unfold chk; rw [if_neg (by omega), if_neg (by simpa using h')]
theorem chk_ok {a : Nat} {n : Int} (h : chk a n = 0) : ∃ m : Nat, n = (m : Int) ∧ m ≤ 32 ∧ a % bk m = 0 := by
  unfold chk at h
  by_cases h1 : n < 0 ∨ 32 < n
  · rw [if_pos h1] at h; omega
  · rw [if_neg h1] at h
    refine ⟨n.toNat, by omega, by omega, ?_⟩
    by_cases h2 : a % bk n.toNat = 0
    · exact h2
    · rw [if_neg h2] at h; omega
/-- Does the prefix hold the address? -/
def hasB (a : Nat) (n : Int) (x : Nat) : Bool := decide (chk a n = 0 ∧ ct x n.toNat = a)
theorem hasB_no {a : Nat} {n : Int} {x : Nat} (h : chk a n ≠ 0) : hasB a n x = false := by simp [hasB, h]
theorem hasB_in {a n x : Nat} (h : chk a (n : Int) = 0) : hasB a (n : Int) x = decide (ct x n = a) := by simp [hasB, h]
/-- Ahead, the same, behind. -/
def cmpI (a b : Int) : Int := if a < b then -1 else if b < a then 1 else 0
/-! what the calls answer, as numbers -/
def oA (a : Nat) (n : Int) : Nat := if n < 0 ∨ 32 < n then 0 else ct a n.toNat
def oN (n : Int) : Int := if n < 0 ∨ 32 < n then 0 else n
def oE (n : Int) : Int := if n < 0 ∨ 32 < n then 20 else 0
def hE (a : Nat) (n : Int) : Int := if chk a n = 0 then (if n = 32 then 22 else 0) else chk a n
def hA (a : Nat) (n : Int) : Nat := if hE a n = 0 then a else 0
def hB (a : Nat) (n : Int) : Nat := if hE a n = 0 then a + bk (n.toNat + 1) else 0
def hN (a : Nat) (n : Int) : Int := if hE a n = 0 then n + 1 else 0
/-! how many first bits two words share -/
def bl (x : Nat) : Nat := if x = 0 then 0 else Nat.log2 x + 1
theorem xor_lt (a b : Nat) (ha : a < 4294967296) (hb : b < 4294967296) : a ^^^ b < 4294967296 := by
  have := Nat.xor_lt_two_pow (n := 32) (x := a) (y := b) (by simpa using ha) (by simpa using hb)
  simpa using this
end Go.Proofs.YtfpmljgmfapoiaaGreat.Pf
