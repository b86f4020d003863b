/-
  Rows of numbers; nest's count, and the shelf's least and put; comparing rows of numbers.
-/
import Derived.Lib.MinMax
import Derived.Test.YtgidohnikggjfaaGreatNsU
namespace Go.Proofs.YtgidohnikggjfaaGreat
open Go.RowKit
set_option linter.unusedVariables false
set_option linter.unusedSimpArgs false

def eI (l : List Int) : List Value := l.map (Value.int .i64)
theorem eI_len (l : List Int) : (eI l).length = l.length := by simp [eI]
theorem eI_at {l : List Int} {k : Nat} (h : k < l.length) : (eI l)[k]? = some (.int .i64 l[k]) := by simp [eI, h]
theorem eI_app (l k : List Int) : eI (l ++ k) = eI l ++ eI k := by simp [eI]
theorem eI_one (l : List Int) : ∀ u ∈ eI l, u.oneCell' = true := by
  intro u hu
  obtain ⟨x, _, rfl⟩ := List.mem_map.1 hu
  rfl
theorem eI_set (l : List Int) (j : Nat) (x : Int) : (eI l).set j (.int .i64 x) = eI (l.set j x) := by simp [eI, List.map_set]
theorem infoI : (Tryz.prog.info? 3).map (fun i => (i.zero, i.size, i.bytes)) = some (some (.int .i64 0), 1, 8) := by kernel_rfl
/-- The row v of w holds the numbers. -/
def RowI (w : World) (b : Nat) (v : Value) (l : List Int) : Prop := w.ownsRow b 3 1 v l.length (eI l)
/-- The slice v of w reads as the numbers. -/
def SrcI (w : World) (v : Value) (l : List Int) : Prop :=
  ∃ (ad : Option Addr) (cap : Nat), v = .slice ad l.length cap ∧ (0 < l.length → ∃ g off, ad = some ⟨g, off, none⟩ ∧ ∀ k (hk : k < l.length), w.cell? ⟨g, off + k, none⟩ = some (.int .i64 (l[k]'hk)))
theorem RowI.on {w w1 : World} {b : Nat} {v : Value} {l : List Int} (h : RowI w b v l) (hb : Below w.heap.size w w1) : RowI w1 b v l := by
  refine ⟨h.1, ?_⟩
  rcases h.2 with h2 | ⟨g, cap, cur, hv, hg, hh, r⟩
  · exact .inl h2
  · exact .inr ⟨g, cap, cur, hv, hg, by rw [hb.block g (Array.getElem?_eq_some_iff.1 hh).1]; exact hh, r⟩
theorem RowI.base {w : World} {b b' : Nat} {v : Value} {l : List Int} (h : RowI w b v l) (hb : b' ≤ b) : RowI w b' v l := by
  refine ⟨h.1, ?_⟩
  rcases h.2 with h2 | ⟨g, cap, cur, hv, hg, r⟩
  · exact .inl h2
  · exact .inr ⟨g, cap, cur, hv, by omega, r⟩
theorem RowI.kept {w w' : World} {b : Nat} {v : Value} {l : List Int} {row : Option Nat} (h : RowI w b v l) (hg : w.grownBy w' row) (hne : v.ownBlock = none ∨ v.ownBlock ≠ row) : RowI w' b v l := World.ownsRow.kept h hg hne
theorem RowI.nil (w : World) (b : Nat) : RowI w b (.slice none 0 0) [] := World.ownsRow_nil w b _ _
theorem RowI.lt {w : World} {b : Nat} {v : Value} {l : List Int} (h : RowI w b v l) : ∀ k, v.ownBlock = some k → b ≤ k ∧ k < w.heap.size := World.ownsRow.lt h
theorem RowI.form {w : World} {b : Nat} {v : Value} {l : List Int} (h : RowI w b v l) : ∃ (ad : Option Addr) (cap : Nat), v = .slice ad l.length cap ∧
    (0 < l.length → ∃ g, ad = some ⟨g, 0, none⟩ ∧ b ≤ g ∧ g < w.heap.size ∧ ∀ k (hk : k < l.length), w.cell? ⟨g, k, none⟩ = some (.int .i64 (l[k]'hk)) ∧ w.frozen? ⟨g, k, none⟩ = false) := by
  rcases h.2 with ⟨hv, hn⟩ | ⟨g, cap, cur, hv, hb, hg, r⟩
  · exact ⟨none, 0, by rw [hv, hn], fun h0 => by omega⟩
  · subst hv
    refine ⟨_, cap, rfl, fun _ => ⟨g, rfl, hb, blk_lt hg, fun k hk => ⟨?_, World.ownsRow.frozenAt h k⟩⟩⟩
    rw [World.ownsRow.cellAt h k (by omega), eI_at hk]
theorem RowI.src {w : World} {b : Nat} {v : Value} {l : List Int} (h : RowI w b v l) : SrcI w v l := by
  obtain ⟨ad, cap, hv, h2⟩ := h.form
  refine ⟨ad, cap, hv, fun h0 => ?_⟩
  obtain ⟨g, e, _, _, h3⟩ := h2 h0
  exact ⟨g, 0, e, fun k hk => by rw [Nat.zero_add]; exact (h3 k hk).1⟩
theorem RowI.cell {w : World} {b g n cap : Nat} {l : List Int} (h : RowI w b (.slice (some ⟨g, 0, none⟩) n cap) l) {k : Nat} (hk : k < l.length) : w.cell? ⟨g, k, none⟩ = some (.int .i64 (l[k]'hk)) ∧ w.frozen? ⟨g, k, none⟩ = false := by
  obtain ⟨ad, c, e, h2⟩ := h.form
  cases e
  obtain ⟨g', e', _, _, h3⟩ := h2 (by omega)
  cases e'
  exact h3 k hk
theorem RowI.set {w : World} {b g n cap : Nat} {l : List Int} (h : RowI w b (.slice (some ⟨g, 0, none⟩) n cap) l) (j : Nat) (x : Int) : RowI (w.setCell ⟨g, j, none⟩ (.int .i64 x)) b (.slice (some ⟨g, 0, none⟩) n cap) (l.set j x) ∧ w.grownBy (w.setCell ⟨g, j, none⟩ (.int .i64 x)) (some g) := by
  have hn : n = l.length := by obtain ⟨ad, c, e, _⟩ := h.form; injection e
  subst hn
  obtain ⟨a, b⟩ := World.ownsRow.stored h j (.int .i64 x)
  rw [eI_set] at a
  exact ⟨by unfold RowI; simpa using a, b⟩
theorem SrcI.keep {w w1 : World} {v : Value} {l : List Int} (h : SrcI w v l) (hb : Below w.heap.size w w1) : SrcI w1 v l := by
  obtain ⟨ad, cap, rfl, h2⟩ := h
  refine ⟨ad, cap, rfl, fun h0 => ?_⟩
  obtain ⟨g, off, rfl, h3⟩ := h2 h0
  exact ⟨g, off, rfl, fun k hk => cell_on1 hb (h3 k hk)⟩
theorem SrcI.at {w : World} {ad : Option Addr} {n cap : Nat} {l : List Int} (h : SrcI w (.slice ad n cap) l) {k : Nat} (hk : k < l.length) : ∃ g off, ad = some ⟨g, off, none⟩ ∧ w.cell? ⟨g, off + k, none⟩ = some (.int .i64 (l[k]'hk)) := by
  obtain ⟨ad', c, e, h2⟩ := h
  cases e
  obtain ⟨g, off, e', h3⟩ := h2 (by omega)
  exact ⟨g, off, e', h3 k hk⟩
theorem SrcI.len {w : World} {v : Value} {l : List Int} (h : SrcI w v l) : ∃ (ad : Option Addr) (cap : Nat), v = .slice ad l.length cap := by
  obtain ⟨ad, cap, e, _⟩ := h
  exact ⟨ad, cap, e⟩

def ofN (ns : List Nat) : List Int := ns.map Int.ofNat
theorem ofN_len (ns : List Nat) : (ofN ns).length = ns.length := by simp [ofN]
theorem ofN_at {ns : List Nat} {k : Nat} (h : k < (ofN ns).length) : (ofN ns)[k] = ((ns[k]'(by rwa [ofN_len] at h) : Nat) : Int) := by simp [ofN]
theorem take_at {α : Type} {l : List α} {k : Nat} (h : k < l.length) : l.take (k + 1) = l.take k ++ [l[k]] := List.take_succ_eq_append_getElem h
theorem dep_max (ns : List Nat) (k : Nat) (h : k < ns.length) : max (dep (ns.take k) : Int) ((ns[k] : Nat) + 1 : Int) = ((dep (ns.take (k + 1)) : Nat) : Int) := by
  rw [take_at h, dep_app]; omega
theorem wrap64_nat' {n : Nat} (h : n < 9223372036854775808) : IntKind.i64.wrap (n : Int) = (n : Int) := by
  simp [IntKind.wrap, IntKind.bits, IntKind.signed]; omega
/-- A row as an array. -/
def RowA (w : World) (g n cap : Nat) (d : Array Int) : Prop := RowI w 0 (.slice (some ⟨g, 0, none⟩) n cap) d.toList
theorem RowA.size {w : World} {g n cap : Nat} {d : Array Int} (h : RowA w g n cap d) : n = d.size := by
  have h' : RowI w 0 (.slice (some ⟨g, 0, none⟩) n cap) d.toList := h
  obtain ⟨ad, c, e, _⟩ := h'.form
  simpa using (Value.slice.inj e).2.1
theorem RowA.cell {w : World} {g n cap : Nat} {d : Array Int} (h : RowA w g n cap d) {k : Nat} (hk : k < n) : w.cell? ⟨g, k, none⟩ = some (.int .i64 d[k]!) ∧ w.frozen? ⟨g, k, none⟩ = false := by
  have hs := h.size
  have h' : RowI w 0 (.slice (some ⟨g, 0, none⟩) n cap) d.toList := h
  have := h'.cell (k := k) (by simp; omega)
  rw [Array.getElem_toList] at this
  rw [getElem!_pos d k (by omega)]
  exact this
theorem RowA.set {w : World} {g n cap : Nat} {d : Array Int} (h : RowA w g n cap d) (j : Nat) (x : Int) : RowA (w.setCell ⟨g, j, none⟩ (.int .i64 x)) g n cap (d.setIfInBounds j x) ∧ w.grownBy (w.setCell ⟨g, j, none⟩ (.int .i64 x)) (some g) := by
  have h' : RowI w 0 (.slice (some ⟨g, 0, none⟩) n cap) d.toList := h
  have := h'.set j x
  unfold RowA
  rw [Array.toList_setIfInBounds]
  exact this
theorem RowA.drew {w : World} {g n cap : Nat} {d : Array Int} (h : RowA w g n cap d) (q : Nat) : RowA (w.drewN q) g n cap d := h
theorem RowA.on {w w1 : World} {g n cap : Nat} {d : Array Int} (h : RowA w g n cap d) (hb : Below w.heap.size w w1) : RowA w1 g n cap d := RowI.on h hb
theorem grown_drewN {w w1 : World} {g : Option Nat} (h : w.grownBy w1 g) (q : Nat) : w.grownBy (w1.drewN q) g := ⟨h.os, h.tape, h.output, h.size, h.block⟩
end Go.Proofs.YtgidohnikggjfaaGreat
