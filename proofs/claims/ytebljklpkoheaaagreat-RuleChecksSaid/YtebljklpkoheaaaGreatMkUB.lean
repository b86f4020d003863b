/-
  Lists of bytes in memory; 'append' of one owned row to another; All and Count of the document's answer.
-/
import Derived.Test.YtebljklpkoheaaaGreatMkH
import Derived.Maps.AppendAt
import Derived.OwnWalk
namespace Go.Proofs.YtebljklpkoheaaaGreat
open Go.RowKit
set_option linter.unusedVariables false
set_option linter.unusedSimpArgs false

def flatB (l : List Nat) : List Value := l.map fun p : Nat => Value.int .u8 ((p : Nat) : Int)
theorem flatB_length (l : List Nat) : (flatB l).length = l.length * 1 := by unfold flatB; simp
theorem flatB_append (l k : List Nat) : flatB (l ++ k) = flatB l ++ flatB k := by unfold flatB; simp
theorem flatB_one (l : List Nat) : ∀ u ∈ flatB l, u.oneCell' = true := by
  intro u hu
  unfold flatB at hu
  rw [List.mem_map] at hu
  obtain ⟨p, _, rfl⟩ := hu
  rfl
theorem flatB_at (l : List Nat) (i : Nat) (h : i < l.length) : (flatB l)[i]? = some (.int .u8 ((l[i]'h : Nat) : Int)) := by
  unfold flatB; simp [h]
theorem info_u8 : (Tryz.prog.info? 5).map (fun i => (i.zero, i.size, i.bytes)) = some (some (.int .u8 0), 1, 1) := by kernel_rfl

/-- The row v of w holds the bytes. -/
def RowB (w : World) (base : Nat) (v : Value) (l : List Nat) : Prop := w.ownsRow base 5 1 v l.length (flatB l)
theorem RowB.base {w : World} {b b' : Nat} {v : Value} {l : List Nat} (h : RowB w b v l) (hb : b' ≤ b) : RowB w b' v l := by
  refine ⟨h.1, ?_⟩
  rcases h.2 with h2 | ⟨g, cap, cur, hv, hg, r⟩
  · exact .inl h2
  · exact .inr ⟨g, cap, cur, hv, by omega, r⟩
theorem RowB.on {w w1 : World} {b : Nat} {v : Value} {l : List Nat} (h : RowB w b v l) (hb : Below w.heap.size w w1) : RowB w1 b v l := by
  refine ⟨h.1, ?_⟩
  rcases h.2 with h2 | ⟨g, cap, cur, hv, hg, hh, r⟩
  · exact .inl h2
  · exact .inr ⟨g, cap, cur, hv, hg, by rw [hb.block g (Array.getElem?_eq_some_iff.1 hh).1]; exact hh, r⟩
theorem RowB.alloc {w : World} {b : Nat} {v : Value} {l : List Nat} (h : RowB w b v l) (o : Obj) : RowB (w.alloc o) b v l := World.ownsRow.alloc h o
theorem RowB.nil (w : World) (b : Nat) : RowB w b (.slice none 0 0) [] := World.ownsRow_nil w b _ _
theorem RowB.one (w : World) (b : Nat) {x : Int} (a : Nat) {B : Nat} (hB : B = w.heap.size) (hx : x = (a : Int)) (hb : b ≤ w.heap.size) : RowB (w.alloc (.cells #[.int .u8 x] 5)) b (.slice (some ⟨B, 0, none⟩) 1 1) [a] := by
  subst hx hB
  exact World.ownsRow_lit w #[.int .u8 a] 1 hb (by decide) rfl
theorem RowB.lt {w : World} {b : Nat} {v : Value} {l : List Nat} (h : RowB w b v l) : ∀ k, v.ownBlock = some k → b ≤ k ∧ k < w.heap.size := World.ownsRow.lt h
theorem RowB.src {w : World} {b : Nat} {v : Value} {l : List Nat} (h : RowB w b v l) : SrcB w v l := by
  rcases h.2 with ⟨hv, hn⟩ | ⟨g, cap, cur, hv, hb, hg, r⟩
  · exact ⟨none, 0, by rw [hv, hn], fun h0 => by omega⟩
  · subst hv
    refine ⟨_, cap, rfl, fun _ => ⟨g, 0, rfl, fun j hj => ?_⟩⟩
    have := World.ownsRow.cells h (g := g) rfl j _ (flatB_at l j hj)
    rwa [Addr.add_lit] at this
/-- One owned row behind another. -/
theorem run_append_bytes (w : World) (ty : TypeId) (b : Nat) (v : Value) (l : List Nat) (h : RowB w b v l) (c : Nat) (u : Value) (k : List Nat) (hk : RowB w c u k)
    (hb : b ≤ w.heap.size) (hsz : l.length + k.length ≤ 4294967296) :
    ∃ v' w', (Builtin.append_ #[97, 97] ty #[v, u]).run Tryz.prog w = .ok v' w' ∧ RowB w' b v' (l ++ k) ∧ w.grownBy w' v.ownBlock := by
  obtain ⟨i0, hi, hz0, hz1, hz2⟩ := info_parts info_u8
  have hmx : l.length + k.length ≤ maxLen := by unfold maxLen; omega
  rcases hk.2 with ⟨rfl, hk0⟩ | ⟨g, cap, cur, rfl, hg, hh, hnc, hcm, hcs, htk⟩
  · have hr := run_append_owned_none (P := Tryz.prog) (w := w) b 97 ty 5 i0 1 Tryz.underlying97 hi v l.length (flatB l) h
    refine ⟨v, w, hr, ?_, ⟨rfl, rfl, rfl, Nat.le_refl _, fun _ _ _ => rfl⟩⟩
    rw [List.eq_nil_of_length_eq_zero hk0, List.append_nil]
    exact h
  · have hn := World.ownsRow.cells hk (g := g) rfl
    obtain ⟨v', w', hr, ho, hgr, _⟩ := run_append_own (P := Tryz.prog) w b 97 ty 5 i0 (.int .u8 0) 1 1 Tryz.underlying97 hi hz0 hz1 hz2 rfl (by decide) v l.length (flatB l) h ⟨g, 0, none⟩ k.length cap (flatB k) (flatB_length k) hn (flatB_one k) hmx (by omega) hb
    refine ⟨v', w', hr, ?_, hgr⟩
    unfold RowB
    rw [List.length_append, flatB_append]
    exact ho
theorem wp_append_bytes {o : Oper} {a : Act} {w : World} {K : Act → World → Prop} {Q : Exit → Act → World → Prop} (s x : Operand)
    (ho : o.op = .call { callee := .builtin .append, args := #[s, x], argTypes := #[97, 97] })
    (b : Nat) (v : Value) (l : List Nat) (hs : a.eval s = v) (h : RowB w b v l) (c : Nat) (u : Value) (k : List Nat) (hx : a.eval x = u) (hk : RowB w c u k)
    (hb : b ≤ w.heap.size) (hsz : l.length + k.length ≤ 4294967296)
    (hK : ∀ v' w', RowB w' b v' (l ++ k) → w.grownBy w' v.ownBlock → K (a.put o.dst v') w') : o.wp Tryz.prog a w K Q := by
  obtain ⟨v', w', hr, h2, h3⟩ := run_append_bytes w o.type b v l h c u k hk hb hsz
  unfold Oper.wp execOp
  simp only [ho, resolve, invoke, builtin, Sem.run_bind, Sem.run_pure, Result.andThen_ok, List.map_toArray, List.map_cons, List.map_nil, hs, hx, hr]
  exact hK v' w' h2 h3
theorem wpList_append_bytes {ops : Array Oper} {rest : List Oper} {o : Oper} {a : Act} {w : World} {Q : Exit → Act → World → Prop} (hgd : o.guard = none) (s x : Operand)
    (ho : o.op = .call { callee := .builtin .append, args := #[s, x], argTypes := #[97, 97] })
    (b : Nat) (v : Value) (l : List Nat) (hs : a.eval s = v) (h : RowB w b v l) (c : Nat) (u : Value) (k : List Nat) (hx : a.eval x = u) (hk : RowB w c u k)
    (hb : b ≤ w.heap.size) (hsz : l.length + k.length ≤ 4294967296)
    (hK : ∀ v' w', RowB w' b v' (l ++ k) → w.grownBy w' v.ownBlock → wpList Tryz.prog ops Q rest (a.put o.dst v') w') : wpList Tryz.prog ops Q (o :: rest) a w :=
  wpList_plain hgd fun _ hK' => wp_append_bytes s x ho b v l hs h c u k hx hk hb hsz fun v' w' h2 h3 => hK' _ _ (hK v' w' h2 h3)
theorem cell_allocB {w : World} {p : Addr} {v : Value} {o : Obj} (h : w.cell? p = some v) : (w.alloc o).cell? p = some v := cell_on1 ((Below.refl _ _).alloc (Nat.le_refl _) o) h

set_option maxHeartbeats 1000000 in
theorem rallM (v c : Nat) (w : World) (hv : v < 256) (hc : c < 256) :
    Calls Tryz.prog 65 #[.agg #[.int .u8 v, .int .u8 c]] w fun e w' => ∃ v' : Value, e = .returned v' ∧ RowB w' w.heap.size v' (allN v c 256) ∧ Below w.heap.size w w' := by
  go_enter Tryz.func65, Tryz.ntmps65
  go_wp2_with (fail)
  go_loopw [3, 4] (fun lv iv wr => ∃ k : Nat, k ≤ 256 ∧ iv = .int .i64 k ∧ Hid (RowB wr (w.heap.size + 1) lv (allN v c k)) ∧ wr.cell? ⟨w.heap.size, 0, none⟩ = some (.int .u8 v) ∧ wr.cell? ⟨w.heap.size, 1, none⟩ = some (.int .u8 c) ∧ Hid (Below w.heap.size w wr)) (fun _ iv _ => 256 - (intOf iv).toNat)
  case atStart => exact ⟨0, Nat.zero_le _, rfl, RowB.nil _ _, by simp [go_sem], by simp [go_sem], by show Below _ _ _; (repeat (first | assumption | exact Below.refl _ _ | refine Below.drew ?_ | refine bel_drewN ?_ _ | refine Below.setCell ?_ (by first | omega | (simp; done) | (simp; omega)) _ | refine Below.alloc ?_ (by first | omega | (simp; done) | (simp; omega)) _ | refine bel_of ?_ (by assumption)))⟩
  case round =>
    obtain ⟨k, hk, rfl, hrow, a0, a1, hbw⟩ := hrel
    have hz := hbw.out.size
    have hB : w.heap.size < wr.heap.size := World.block_lt_of_cell? _ _ a0
    by_cases hlt : k < 256
    · have hlt' : (k : Int) < 256 := by omega
      go_wp2_with (fail)
      refine (rhasM v c k _ hv hc hlt).mono ?_
      rintro e w1 ⟨rfl, hb1⟩
      have A0 := cell_on1 hb1 a0
      have A1 := cell_on1 hb1 a1
      have HR1 : Hid (RowB w1 (w.heap.size + 1) u3 (allN v c k)) := hrow.out.on hb1
      have hbw1 : Hid (Below w.heap.size w w1) := hbw.out.trans (hb1.mono hz)
      have hz1 := hb1.size
      clear a0 a1 hb1 hbw hrow
      cases h1 : hasM v c k
      · have HN : Hid (allN v c (k + 1) = allN v c k) := by show _ = _; rw [allN_succ, h1]; rfl
        clear h1
        go_wp2_with (fail)
        go_roundw
        case rel => exact ⟨k + 1, by omega, by go_num, by show RowB _ _ _ _; rw [HN.out]; exact HR1.out, A0, A1, hbw1.out⟩
        case measure => simp [intOf]; omega
      · have HN : Hid (allN v c (k + 1) = allN v c k ++ [k]) := by show _ = _; rw [allN_succ, h1]; rfl
        have hmod : (k : Int) % 256 = (k : Int) := by omega
        have HNE : Hid (some w.heap.size ≠ u3.ownBlock) := fun e => by have := (HR1.out.lt _ e.symm).1; omega
        clear h1
        go_wp2_with (at_builtin; refine wpList_append_bytes rfl (.tmp 13) (.tmp 16) rfl (w.heap.size + 1) _ (allN v c k) rfl (HR1.out.alloc _) (w.heap.size + 1) _ [k] rfl (RowB.one w1 (w.heap.size + 1) k (by first | rfl | simp) (by first | rfl | omega | (simp; omega)) (by omega)) (by simp; omega) (by have := allN_le v c k; simp; omega) ?_; intro v5 w5 hrow5 hgr5)
        go_roundw
        case rel => exact ⟨k + 1, by omega, by go_num, by show RowB _ _ _ _; rw [HN.out]; exact hrow5, hgr5.cell (cell_allocB A0) (HNE.out), hgr5.cell (cell_allocB A1) (HNE.out), (hbw1.out.alloc (by omega) _).grown hgr5 (by simp; omega) (fun j hj => by have := (HR1.out.lt j hj).1; omega)⟩
        case measure => simp [intOf]; omega
    · obtain rfl : k = 256 := by omega
      go_wp2_with (fail)
      go_ret
      exact ⟨_, rfl, hrow.out.base (by omega), hbw.out⟩
theorem rcountM (v c : Nat) (w : World) (hv : v < 256) (hc : c < 256) :
    Calls Tryz.prog 39 #[.agg #[.int .u8 v, .int .u8 c]] w fun e w' => e = .returned (.int .i64 (cntM v c : Int)) ∧ Below w.heap.size w w' := by
  have hall := fun W => rallM v c W hv hc
  have hl := allN_length v c hv hc
  have hm := cntM_le v c hv hc
  generalize allN v c 256 = l at hall hl
  go_enter Tryz.func39, Tryz.ntmps39
  go_wp2_with (fail)
  refine (hall _).mono ?_
  rintro e w1 ⟨v1, rfl, hr1, hb1⟩
  have hbw : Hid (Below w.heap.size w w1) := by show Below _ _ _; (repeat (first | assumption | exact Below.refl _ _ | refine Below.drew ?_ | refine bel_drewN ?_ _ | refine Below.setCell ?_ (by first | omega | (simp; done) | (simp; omega)) _ | refine Below.alloc ?_ (by first | omega | (simp; done) | (simp; omega)) _ | refine bel_of ?_ (by assumption)))
  obtain ⟨ad, cap, rfl, _⟩ := hr1.src
  rw [hl]
  clear hr1 hb1 hall
  go_wp2
  go_ret
  exact ⟨rfl, hbw.out⟩
end Go.Proofs.YtebljklpkoheaaaGreat
