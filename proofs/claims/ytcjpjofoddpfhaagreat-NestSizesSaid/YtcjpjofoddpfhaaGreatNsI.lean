/-
  Rows of numbers; nest's count, and the shelf's least and put; comparing rows of numbers.
-/
import Derived.Lib.MinMax
import Derived.Test.YtcjpjofoddpfhaaGreatNsU
namespace Go.Proofs.YtcjpjofoddpfhaaGreat
open Go.RowKit
set_option linter.unusedVariables false
set_option linter.unusedSimpArgs false

def eI (l : List Int) : List Value := l.map (Value.int .i64)
theorem eI_len (l : List Int) : (eI l).length = l.length := by simp [eI]
theorem eI_at {l : List Int} {k : Nat} (h : k < l.length) : (eI l)[k]? = some (.int .i64 l[k]) := by simp [eI, h]
theorem eI_app (l k : List Int) : eI (l ++ k) = eI l ++ eI k := by simp [eI]
theorem eI_one (l : List Int) : ∀ u ∈ eI l, u.oneCell' = true := by
  intro u hu
  obtain ⟨x, _, rfl⟩ := List.mem_map.1 hu
  rfl
theorem eI_set (l : List Int) (j : Nat) (x : Int) : (eI l).set j (.int .i64 x) = eI (l.set j x) := by simp [eI, List.map_set]
theorem infoI : (Tryz.prog.info? 3).map (fun i => (i.zero, i.size, i.bytes)) = some (some (.int .i64 0), 1, 8) := by kernel_rfl
/-- The row v of w holds the numbers. -/
def RowI (w : World) (b : Nat) (v : Value) (l : List Int) : Prop := w.ownsRow b 3 1 v l.length (eI l)
/-- The slice v of w reads as the numbers. -/
def SrcI (w : World) (v : Value) (l : List Int) : Prop :=
  ∃ (ad : Option Addr) (cap : Nat), v = .slice ad l.length cap ∧ (0 < l.length → ∃ g off, ad = some ⟨g, off, none⟩ ∧ ∀ k (hk : k < l.length), w.cell? ⟨g, off + k, none⟩ = some (.int .i64 (l[k]'hk)))
theorem RowI.on {w w1 : World} {b : Nat} {v : Value} {l : List Int} (h : RowI w b v l) (hb : Below w.heap.size w w1) : RowI w1 b v l := by
  refine ⟨h.1, ?_⟩
  rcases h.2 with h2 | ⟨g, cap, cur, hv, hg, hh, r⟩
  · exact .inl h2
  · exact .inr ⟨g, cap, cur, hv, hg, by rw [hb.block g (Array.getElem?_eq_some_iff.1 hh).1]; exact hh, r⟩
theorem RowI.base {w : World} {b b' : Nat} {v : Value} {l : List Int} (h : RowI w b v l) (hb : b' ≤ b) : RowI w b' v l := by
  refine ⟨h.1, ?_⟩
  rcases h.2 with h2 | ⟨g, cap, cur, hv, hg, r⟩
  · exact .inl h2
  · exact .inr ⟨g, cap, cur, hv, by omega, r⟩
theorem RowI.kept {w w' : World} {b : Nat} {v : Value} {l : List Int} {row : Option Nat} (h : RowI w b v l) (hg : w.grownBy w' row) (hne : v.ownBlock = none ∨ v.ownBlock ≠ row) : RowI w' b v l := World.ownsRow.kept h hg hne
theorem RowI.nil (w : World) (b : Nat) : RowI w b (.slice none 0 0) [] := World.ownsRow_nil w b _ _
theorem RowI.lt {w : World} {b : Nat} {v : Value} {l : List Int} (h : RowI w b v l) : ∀ k, v.ownBlock = some k → b ≤ k ∧ k < w.heap.size := World.ownsRow.lt h
theorem RowI.form {w : World} {b : Nat} {v : Value} {l : List Int} (h : RowI w b v l) : ∃ (ad : Option Addr) (cap : Nat), v = .slice ad l.length cap ∧
    (0 < l.length → ∃ g, ad = some ⟨g, 0, none⟩ ∧ b ≤ g ∧ g < w.heap.size ∧ ∀ k (hk : k < l.length), w.cell? ⟨g, k, none⟩ = some (.int .i64 (l[k]'hk)) ∧ w.frozen? ⟨g, k, none⟩ = false) := by
  rcases h.2 with ⟨hv, hn⟩ | ⟨g, cap, cur, hv, hb, hg, r⟩
  · exact ⟨none, 0, by rw [hv, hn], fun h0 => by omega⟩
  · subst hv
    refine ⟨_, cap, rfl, fun _ => ⟨g, rfl, hb, blk_lt hg, fun k hk => ⟨?_, World.ownsRow.frozenAt h k⟩⟩⟩
    rw [World.ownsRow.cellAt h k (by omega), eI_at hk]
theorem RowI.src {w : World} {b : Nat} {v : Value} {l : List Int} (h : RowI w b v l) : SrcI w v l := by
  obtain ⟨ad, cap, hv, h2⟩ := h.form
  refine ⟨ad, cap, hv, fun h0 => ?_⟩
  obtain ⟨g, e, _, _, h3⟩ := h2 h0
  exact ⟨g, 0, e, fun k hk => by rw [Nat.zero_add]; exact (h3 k hk).1⟩
theorem RowI.cell {w : World} {b g n cap : Nat} {l : List Int} (h : RowI w b (.slice (some ⟨g, 0, none⟩) n cap) l) {k : Nat} (hk : k < l.length) : w.cell? ⟨g, k, none⟩ = some (.int .i64 (l[k]'hk)) ∧ w.frozen? ⟨g, k, none⟩ = false := by
  obtain ⟨ad, c, e, h2⟩ := h.form
  cases e
  obtain ⟨g', e', _, _, h3⟩ := h2 (by omega)
  cases e'
  exact h3 k hk
theorem RowI.set {w : World} {b g n cap : Nat} {l : List Int} (h : RowI w b (.slice (some ⟨g, 0, none⟩) n cap) l) (j : Nat) (x : Int) : RowI (w.setCell ⟨g, j, none⟩ (.int .i64 x)) b (.slice (some ⟨g, 0, none⟩) n cap) (l.set j x) ∧ w.grownBy (w.setCell ⟨g, j, none⟩ (.int .i64 x)) (some g) := by
  have hn : n = l.length := by obtain ⟨ad, c, e, _⟩ := h.form; injection e
  subst hn
  obtain ⟨a, b⟩ := World.ownsRow.stored h j (.int .i64 x)
  rw [eI_set] at a
  exact ⟨by unfold RowI; simpa using a, b⟩
theorem SrcI.keep {w w1 : World} {v : Value} {l : List Int} (h : SrcI w v l) (hb : Below w.heap.size w w1) : SrcI w1 v l := by
  obtain ⟨ad, cap, rfl, h2⟩ := h
  refine ⟨ad, cap, rfl, fun h0 => ?_⟩
  obtain ⟨g, off, rfl, h3⟩ := h2 h0
  exact ⟨g, off, rfl, fun k hk => cell_on1 hb (h3 k hk)⟩
theorem SrcI.at {w : World} {ad : Option Addr} {n cap : Nat} {l : List Int} (h : SrcI w (.slice ad n cap) l) {k : Nat} (hk : k < l.length) : ∃ g off, ad = some ⟨g, off, none⟩ ∧ w.cell? ⟨g, off + k, none⟩ = some (.int .i64 (l[k]'hk)) := by
  obtain ⟨ad', c, e, h2⟩ := h
  cases e
  obtain ⟨g, off, e', h3⟩ := h2 (by omega)
  exact ⟨g, off, e', h3 k hk⟩
theorem SrcI.len {w : World} {v : Value} {l : List Int} (h : SrcI w v l) : ∃ (ad : Option Addr) (cap : Nat), v = .slice ad l.length cap := by
  obtain ⟨ad, cap, e, _⟩ := h
  exact ⟨ad, cap, e⟩

def ofN (ns : List Nat) : List Int := ns.map Int.ofNat
theorem ofN_len (ns : List Nat) : (ofN ns).length = ns.length := by simp [ofN]
theorem ofN_at {ns : List Nat} {k : Nat} (h : k < (ofN ns).length) : (ofN ns)[k] = ((ns[k]'(by rwa [ofN_len] at h) : Nat) : Int) := by simp [ofN]
theorem take_at {α : Type} {l : List α} {k : Nat} (h : k < l.length) : l.take (k + 1) = l.take k ++ [l[k]] := List.take_succ_eq_append_getElem h
theorem dep_max (ns : List Nat) (k : Nat) (h : k < ns.length) : max (dep (ns.take k) : Int) ((ns[k] : Nat) + 1 : Int) = ((dep (ns.take (k + 1)) : Nat) : Int) := by
  rw [take_at h, dep_app]; omega
theorem wrap64_nat' {n : Nat} (h : n < 9223372036854775808) : IntKind.i64.wrap (n : Int) = (n : Int) := by
  simp [IntKind.wrap, IntKind.bits, IntKind.signed]; omega
set_option maxHeartbeats 1000000 in
theorem countC (ns : List Nat) (v : Value) (w : World) (h : SrcI w v (ofN ns)) (hl : ns.length ≤ 4294967296) (hb : ∀ n ∈ ns, n < 4294967296) :
    Calls Tryz.prog 31 #[v] w fun e w' => e = .returned (.int .i64 (dep ns : Nat)) ∧ w' = w := by
  obtain ⟨ad, cap, rfl⟩ := h.len
  rw [ofN_len] at h ⊢
  have HS : Hid (SrcI w (.slice ad ns.length cap) (ofN ns)) := h
  obtain ⟨n, hn⟩ : ∃ n, n = ns.length := ⟨_, rfl⟩
  rw [← hn] at HS hl ⊢
  have Hn : Hid (n = ns.length) := hn
  have Hb : Hid (∀ n ∈ ns, n < 4294967296) := hb
  clear h hn hb
  go_enter Tryz.func31, Tryz.ntmps31
  go_wp2
  go_loopw [3, 8] (fun vm vi wr => ∃ i : Nat, i ≤ n ∧ vm = .int .i64 ((dep (ns.take i) : Nat) : Int) ∧ vi = .int .i64 (i : Int) ∧ wr = w) (fun _ vi _ => n - (intOf vi).toNat)
  case atStart => exact ⟨0, Nat.zero_le _, rfl, rfl, rfl⟩
  case round =>
    obtain ⟨i, hi, rfl, rfl, rfl⟩ := hrel
    by_cases hlt : i < n
    · have hlt' : i < ns.length := by rw [← Hn.out]; exact hlt
      obtain ⟨g, off, rfl, hc⟩ := HS.out.at (k := i) (by rw [ofN_len]; exact hlt')
      rw [ofN_at] at hc
      have hm := dep_max ns i hlt'
      have hx := Hb.out _ (List.getElem_mem hlt')
      generalize ns[i] = x at hc hm hx
      have hlti : (i : Int) < (n : Int) := by omega
      have Hm : Hid (max (dep (ns.take i) : Int) ((x : Nat) + 1 : Int) = ((dep (ns.take (i + 1)) : Nat) : Int)) := hm
      clear hm
      generalize dep (ns.take i) = D at *
      go_wp2
      go_roundw
      case rel => exact ⟨i + 1, by omega, by rw [← Hm.out], by go_num, trivial⟩
      case measure => simp [intOf]; omega
    · obtain rfl : i = n := by omega
      have hni : ¬ (i : Int) < (i : Int) := by omega
      have e : ns.take i = ns := by rw [Hn.out]; exact List.take_length
      rw [e]
      go_wp2
      go_ret
      exact ⟨rfl, rfl⟩
set_option maxHeartbeats 1000000 in
theorem leastC (d : Array Int) (k h g cap : Nat) (lo : Int) (w : World) (hh : h = 2 ^ k) (T : Tre d h) (hk : h ≤ 4294967296) (hc : ∀ j, j < 2 * h → w.cell? ⟨g, j, none⟩ = some (.int .i64 d[j]!)) (x : Nat) (hx : h ≤ x) (hx2 : x < 2 * h) (hl : d[x]! < lo) :
    Calls Tryz.prog 52 #[.slice (some ⟨g, 0, none⟩) (2 * h) cap, .int .i64 lo] w fun e w' => ∃ j : Nat, e = .returned (.int .i64 (j : Int)) ∧ j < h ∧ d[h + j]! < lo ∧ (∀ x, h ≤ x → x < h + j → lo ≤ d[x]!) ∧ w' = w := by
  have D0 : Hid (Dwn d h lo 1) := by subst hh; exact dwn_zero T x hx hx2 hl
  have HT : Hid (Tre d h) := T
  have HC : Hid (∀ j, j < 2 * h → w.cell? ⟨g, j, none⟩ = some (.int .i64 d[j]!)) := hc
  obtain ⟨n2, hn2⟩ : ∃ n2, n2 = 2 * h := ⟨_, rfl⟩
  rw [← hn2]
  have hq : (n2 : Int) / 2 = (h : Int) := by omega
  have hq2 : Int.tdiv (n2 : Int) 2 = (h : Int) := by rw [Int.tdiv_eq_ediv_of_nonneg (by omega)]; exact hq
  have Hn2 : Hid (n2 = 2 * h) := hn2
  clear hc T hh hx hx2 hl hn2
  go_enter Tryz.func52, Tryz.ntmps52
  go_wp2
  go_loopw [6] (fun vi wr => ∃ i : Nat, vi = .int .i64 (i : Int) ∧ Hid (Dwn d h lo i) ∧ wr = w) (fun vi _ => h - (intOf vi).toNat)
  case atStart => exact ⟨1, rfl, D0.out, rfl⟩
  case round =>
    obtain ⟨i, rfl, HD, rfl⟩ := hrel
    have hd1 := HD.out.1
    by_cases hlt : i < h
    · have hlti : (i : Int) < (h : Int) := by omega
      have c1 := HC.out (2 * i) (by omega)
      obtain ⟨s1, s2⟩ := dwn_step HT.out HD.out hlt
      have S1 : Hid _ := s1
      have S2 : Hid _ := s2
      have e2 : (i : Int) * 2 = ((2 * i : Nat) : Int) := by omega
      have hwr : IntKind.i64.wrap ((i : Int) * 2) = ((2 * i : Nat) : Int) := by rw [e2]; exact wrap64_nat' (by omega)
      have hi0 : (0 : Int) ≤ ((2 * i : Nat) : Int) := by omega
      have hi1 : ((2 * i : Nat) : Int) < (n2 : Int) := by have := Hn2.out; omega
      clear s1 s2 e2
      generalize hy : d[2 * i]! = y at c1
      have HY : Hid _ := hy
      clear hy
      obtain ⟨m, hm⟩ : ∃ m, m = 2 * i := ⟨_, rfl⟩
      rw [← hm] at c1 hwr hi0 hi1
      have Hm : Hid _ := hm
      clear hm
      by_cases hge : lo ≤ y
      · go_wp2
        go_roundw
        case rel => exact ⟨m + 1, by go_num, by have := S2.out (by rw [HY.out]; exact hge); rw [Hm.out]; exact this, trivial⟩
        case measure => have := Hm.out; simp [intOf]; omega
      · go_wp2
        go_roundw
        case rel => exact ⟨m, rfl, by have := S1.out (by rw [HY.out]; omega); rw [Hm.out]; exact this, trivial⟩
        case measure => have := Hm.out; simp [intOf]; omega
    · have hni : ¬ (i : Int) < (h : Int) := by omega
      obtain ⟨q1, q2⟩ := dwn_end HD.out (by omega)
      have hu := HD.out.2.1
      have Q1 : Hid _ := q1
      have Q2 : Hid _ := q2
      clear q1 q2
      go_wp2
      go_ret
      refine ⟨i - h, by go_num, by omega, by rw [show h + (i - h) = i by omega]; exact Q1.out, by rw [show h + (i - h) = i by omega]; exact Q2.out, rfl⟩
set_option maxRecDepth 20000 in
/-- Comparing two rows. -/
theorem intsC (l : List Int) (v u : Value) (w : World) (h1 : SrcI w v l) (h2 : SrcI w u l) (hl : l.length ≤ 4294967296) :
    Calls Tryz.prog 10 #[v, u] w fun e w' => e = .returned (.bool true) ∧ Below w.heap.size w w' := by
  obtain ⟨a1, c1, rfl⟩ := h1.len
  obtain ⟨a2, c2, rfl⟩ := h2.len
  obtain ⟨n, hn⟩ : ∃ n, n = l.length := ⟨_, rfl⟩
  rw [← hn] at h1 h2 hl ⊢
  have H1 : Hid (SrcI w (.slice a1 n c1) l) := h1
  have H2 : Hid (SrcI w (.slice a2 n c2) l) := h2
  clear h1 h2
  have Hn : Hid (n = l.length) := hn
  clear hn
  go_enter Tryz.func10, Tryz.ntmps10
  go_wp2
  go_loopw [5] (fun vi wr => ∃ i : Nat, i ≤ n ∧ vi = .int .i64 (i : Int) ∧ Hid (Below w.heap.size w wr)) (fun vi _ => n - (intOf vi).toNat)
  case atStart => exact ⟨0, Nat.zero_le _, rfl, Below.refl _ _⟩
  case round =>
    obtain ⟨i, hi, rfl, hb⟩ := hrel
    by_cases hlt : i < n
    · have hlt' : i < l.length := by rw [← Hn.out]; exact hlt
      obtain ⟨g1, o1, rfl, y1⟩ := H1.out.at hlt'
      obtain ⟨g2, o2, rfl, y2⟩ := H2.out.at hlt'
      have z1 := cell_on1 hb.out y1
      have z2 := cell_on1 hb.out y2
      have hlti : (i : Int) < (n : Int) := by omega
      clear y1 y2 
      generalize l[i] = gi at z1 z2
      go_wp2
      go_quiet (fail)
      go_wp2
      go_roundw
      case rel => exact ⟨i + 1, by omega, by go_num, bel_drewN hb.out _⟩
      case measure => simp [intOf]; omega
    · obtain rfl : i = n := by omega
      have hni : ¬ (i : Int) < (i : Int) := by omega
      go_wp2
      go_ret
      exact ⟨rfl, hb.out⟩
/-- A row as an array. -/
def RowA (w : World) (g n cap : Nat) (d : Array Int) : Prop := RowI w 0 (.slice (some ⟨g, 0, none⟩) n cap) d.toList
theorem RowA.size {w : World} {g n cap : Nat} {d : Array Int} (h : RowA w g n cap d) : n = d.size := by
  have h' : RowI w 0 (.slice (some ⟨g, 0, none⟩) n cap) d.toList := h
  obtain ⟨ad, c, e, _⟩ := h'.form
  simpa using (Value.slice.inj e).2.1
theorem RowA.cell {w : World} {g n cap : Nat} {d : Array Int} (h : RowA w g n cap d) {k : Nat} (hk : k < n) : w.cell? ⟨g, k, none⟩ = some (.int .i64 d[k]!) ∧ w.frozen? ⟨g, k, none⟩ = false := by
  have hs := h.size
  have h' : RowI w 0 (.slice (some ⟨g, 0, none⟩) n cap) d.toList := h
  have := h'.cell (k := k) (by simp; omega)
  rw [Array.getElem_toList] at this
  rw [getElem!_pos d k (by omega)]
  exact this
theorem RowA.set {w : World} {g n cap : Nat} {d : Array Int} (h : RowA w g n cap d) (j : Nat) (x : Int) : RowA (w.setCell ⟨g, j, none⟩ (.int .i64 x)) g n cap (d.setIfInBounds j x) ∧ w.grownBy (w.setCell ⟨g, j, none⟩ (.int .i64 x)) (some g) := by
  have h' : RowI w 0 (.slice (some ⟨g, 0, none⟩) n cap) d.toList := h
  have := h'.set j x
  unfold RowA
  rw [Array.toList_setIfInBounds]
  exact this
theorem RowA.drew {w : World} {g n cap : Nat} {d : Array Int} (h : RowA w g n cap d) (q : Nat) : RowA (w.drewN q) g n cap d := h
theorem RowA.on {w w1 : World} {g n cap : Nat} {d : Array Int} (h : RowA w g n cap d) (hb : Below w.heap.size w w1) : RowA w1 g n cap d := RowI.on h hb
theorem grown_drewN {w w1 : World} {g : Option Nat} (h : w.grownBy w1 g) (q : Nat) : w.grownBy (w1.drewN q) g := ⟨h.os, h.tape, h.output, h.size, h.block⟩
end Go.Proofs.YtcjpjofoddpfhaaGreat
