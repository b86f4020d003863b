/-
  Lists of stems that are read (any Len); Same of two lists that are the same; the document's Back and Least.
-/
import Derived.Test.YtapaoemcjpfpoaaExD
namespace Go.Proofs.Ytapaoemcjpfpoaa
open Go.RowKit
set_option linter.unusedVariables false
set_option linter.unusedSimpArgs false

def flatI : List (Nat × Int) → List Value
  | [] => []
  | p :: l => .int .u16 (p.1 : Int) :: .int .i64 p.2 :: flatI l
def castT (l : List (Nat × Nat)) : List (Nat × Int) := l.map fun t => (t.1, (t.2 : Int))
theorem castT_length (l : List (Nat × Nat)) : (castT l).length = l.length := List.length_map _
theorem flatI_cast (l : List (Nat × Nat)) : flatI (castT l) = flatT l := by
  induction l with
  | nil => rfl
  | cons p l ih => show _ :: _ :: flatI (castT l) = _ :: _ :: flatT l; rw [ih]
theorem flatI_length (l : List (Nat × Int)) : (flatI l).length = l.length * 2 := by
  induction l with
  | nil => rfl
  | cons p l ih => simp only [flatI, List.length_cons, ih]; omega
theorem flatI_append (l k : List (Nat × Int)) : flatI (l ++ k) = flatI l ++ flatI k := by
  induction l with
  | nil => rfl
  | cons p l ih => simp only [flatI, List.cons_append, ih]
theorem flatI_one (l : List (Nat × Int)) : ∀ u ∈ flatI l, u.oneCell' = true := by
  induction l with
  | nil => intro u hu; cases hu
  | cons p l ih =>
    intro u hu
    simp only [flatI, List.mem_cons] at hu
    rcases hu with rfl | rfl | hu
    · rfl
    · rfl
    · exact ih u hu
theorem flatI_at : ∀ (l : List (Nat × Int)) (i : Nat) (h : i < l.length), (flatI l)[i * 2]? = some (.int .u16 ((l[i]'h).1 : Int)) ∧ (flatI l)[i * 2 + 1]? = some (.int .i64 ((l[i]'h).2))
  | p :: l, 0, _ => ⟨rfl, rfl⟩
  | p :: l, i + 1, h => by
    have := flatI_at l i (by simpa using h)
    rw [show (i + 1) * 2 = i * 2 + 2 by omega]
    exact this
/-- The slice v reads as the list. -/
def SrcT (w : World) (v : Value) (l : List (Nat × Int)) : Prop :=
  ∃ (ad : Option Addr) (cap : Nat), v = .slice ad l.length cap ∧ (0 < l.length → ∃ g off, ad = some ⟨g, off, none⟩ ∧ ∀ j u, (flatI l)[j]? = some u → w.cell? ⟨g, off + j, none⟩ = some u)
theorem RowT.src {w : World} {b : Nat} {v : Value} {l : List (Nat × Nat)} (h : RowT w b v l) : SrcT w v (castT l) := by
  rcases h.2 with ⟨hv, hn⟩ | ⟨g, cap, cur, hv, hb, hg, r⟩
  · exact ⟨none, 0, by rw [hv, castT_length, hn], fun h0 => by rw [castT_length] at h0; omega⟩
  · subst hv
    refine ⟨_, cap, by rw [castT_length], fun _ => ⟨g, 0, rfl, fun j u hu => ?_⟩⟩
    rw [flatI_cast] at hu
    have hh := World.ownsRow.cells (show w.ownsRow b 24 2 _ l.length (flatT l) from h) (g := g) rfl j u hu
    rw [Addr.add_lit] at hh
    exact hh
theorem SrcT.keep {w w1 : World} {v : Value} {l : List (Nat × Int)} (h : SrcT w v l) (hb : Below w.heap.size w w1) : SrcT w1 v l := by
  obtain ⟨ad, cap, rfl, h2⟩ := h
  refine ⟨ad, cap, rfl, fun h0 => ?_⟩
  obtain ⟨g, off, rfl, h3⟩ := h2 h0
  exact ⟨g, off, rfl, fun j u hu => by
    have := h3 j u hu
    rw [hb.cell (World.block_lt_of_cell? w _ this)]; exact this⟩
theorem SrcT.at {w : World} {v : Value} {l : List (Nat × Int)} (h : SrcT w v l) : ∃ (ad : Option Addr) (cap : Nat), v = .slice ad l.length cap ∧
    (0 < l.length → ∃ g off, ad = some ⟨g, off, none⟩ ∧ ∀ k (hk : k < l.length), w.cell? ⟨g, off + k * 2, none⟩ = some (.int .u16 ((l[k]'hk).1 : Int)) ∧ w.cell? ⟨g, off + k * 2 + 1, none⟩ = some (.int .i64 ((l[k]'hk).2))) := by
  obtain ⟨ad, cap, rfl, h2⟩ := h
  refine ⟨ad, cap, rfl, fun h0 => ?_⟩
  obtain ⟨g, off, rfl, h3⟩ := h2 h0
  exact ⟨g, off, rfl, fun k hk => ⟨h3 _ _ (flatI_at l k hk).1, by rw [Nat.add_assoc]; exact h3 _ _ (flatI_at l k hk).2⟩⟩
/-- A list that is written out, in memory. -/
theorem srcT_of_cells {w : World} {g : Nat} {cur : Array Value} {l : List (Nat × Int)} {n cap : Nat} (hg : w.heap[g]? = some (.cells cur 24 (0, 0))) (hc : cur.toList = flatI l) (hn : n = l.length) : SrcT w (.slice (some ⟨g, 0, none⟩) n cap) l := by
  subst hn
  refine ⟨_, cap, rfl, fun _ => ⟨g, 0, rfl, fun j u hu => ?_⟩⟩
  rw [cell_of_row w g (0 + j) cur _ (0, 0) hg, Nat.zero_add, ← Array.getElem?_toList, hc]
  exact hu
set_option maxHeartbeats 1000000 in
theorem sameT (l : List (Nat × Int)) (hl : l.length ≤ 4294967296) (v u : Value) (w : World) (h1 : SrcT w v l) (h2 : SrcT w u l) :
    Calls Try.prog 19 #[v, u] w fun e w' => e = .returned (.bool true) ∧ Below w.heap.size w w' := by
  obtain ⟨a1, cap1, rfl, f1⟩ := h1.at
  obtain ⟨a2, cap2, rfl, f2⟩ := h2.at
  clear h1 h2
  go_enter Try.func19, Try.ntmps19
  go_wp2
  go_loopw [5] (fun i wr => ∃ k d : Nat, k ≤ l.length ∧ i = .int .i64 k ∧ wr = w.drewN d) (fun i _ => l.length - (intOf i).toNat)
  case atStart => exact ⟨0, 0, Nat.zero_le _, rfl, rfl⟩
  case round =>
    obtain ⟨k, d, hk, rfl, rfl⟩ := hrel
    by_cases hlt : k < l.length
    · obtain ⟨g1, o1, rfl, c1⟩ := f1 (by omega)
      obtain ⟨g2, o2, rfl, c2⟩ := f2 (by omega)
      obtain ⟨p, hp⟩ : ∃ p, p = l[k] := ⟨_, rfl⟩
      obtain ⟨x1, y1⟩ := c1 k hlt
      obtain ⟨x2, y2⟩ := c2 k hlt
      rw [← hp] at x1 y1 x2 y2
      clear c1 c2 f1 f2 hp
      have hlt' : (k : Int) < (l.length : Int) := by omega
      have hk0 : (0 : Int) ≤ (k : Int) := by omega
      go_wp2
      go_quiet (fail)
      go_wp2
      go_roundw
      case rel => exact ⟨k + 1, _, by omega, by go_num, rfl⟩
      case measure => simp [intOf]; omega
    · go_wp2
      go_ret
      exact ⟨rfl, by (repeat (first | assumption | exact Below.refl _ _ | refine Below.drew ?_ | refine bel_drewN ?_ _ | refine Below.setCell ?_ (by first | omega | (simp; done) | (simp; omega)) _ | refine Below.alloc ?_ (by first | omega | (simp; done) | (simp; omega)) _ | refine bel_of ?_ (by assumption)))⟩

/-- The ports of some stems; may all of them be? -/
def memT (l : List (Nat × Int)) (i : Nat) : Bool := l.any fun t => hasB (t.1, topT t.1 t.2) i
def okT (l : List (Nat × Int)) : Bool := l.all fun t => mayT t.1 t.2
/-- Every stem of a list has a number of 16 bits. -/
def BdT (l : List (Nat × Int)) : Prop := ∀ t ∈ l, t.1 < 65536
theorem memT_nil (i : Nat) : memT [] i = false := rfl
theorem memT_cons (t : Nat × Int) (l : List (Nat × Int)) (i : Nat) : memT (t :: l) i = (hasB (t.1, topT t.1 t.2) i || memT l i) := rfl
theorem take_snocT {α : Type} {l : List α} {k : Nat} (h : k < l.length) : l.take (k + 1) = l.take k ++ [l[k]] := by
  rw [List.take_add_one, List.getElem?_eq_getElem h]; rfl
theorem memT_take {l : List (Nat × Int)} {k : Nat} (h : k < l.length) (i : Nat) : memT (l.take (k + 1)) i = (memT (l.take k) i || hasB ((l[k]).1, topT (l[k]).1 (l[k]).2) i) := by
  unfold memT; rw [take_snocT h, List.any_append]; simp only [List.any_cons, List.any_nil, Bool.or_false]
theorem okT_take {l : List (Nat × Int)} {k : Nat} (h : k < l.length) : okT (l.take (k + 1)) = (okT (l.take k) && mayT (l[k]).1 (l[k]).2) := by
  unfold okT; rw [take_snocT h, List.all_append]; simp only [List.all_cons, List.all_nil, Bool.and_true]
theorem okT_no {l : List (Nat × Int)} {k : Nat} (h : k < l.length) (h2 : mayT (l[k]).1 (l[k]).2 = false) : okT l = false := by
  cases e : okT l with
  | false => rfl
  | true => have := List.all_eq_true.1 e (l[k]) (List.getElem_mem h); rw [h2] at this; cases this
set_option maxHeartbeats 1000000 in
theorem rportsT (l : List (Nat × Int)) (v : Value) (w : World) (h : SrcT w v l) (hl : l.length ≤ 4294967296) (hbd : BdT l) :
    Calls Try.prog 41 #[v] w fun e w' => (okT l = true → ∃ g, e = .returned (.tuple #[.pointer (some ⟨g, 0, none⟩), .bool true]) ∧ w.heap.size ≤ g ∧ PortsAt w' g (memT l)) ∧ (okT l = false → e = .returned (.tuple #[.pointer none, .bool false])) ∧ Below w.heap.size w w' := by
  obtain ⟨cs, hz, hsz, hall⟩ := zero_ports
  have hbuild := run_zero_ports hz
  have hne := ports_ne hsz
  have hnew : Hid (PortsAt (w.alloc (.cells cs 59)) w.heap.size (fun _ => false)) := PortsAt.new w hsz hall
  obtain ⟨ad, cap, rfl, hat⟩ := h.at
  have HBD : Hid (BdT l) := hbd
  clear h hbd hsz hall hz
  go_enter Try.func41, Try.ntmps41
  go_wp2_with (fail)
  go_loopw [5] (fun iv wr => ∃ k : Nat, k ≤ l.length ∧ iv = .int .i64 k ∧ Hid (okT (l.take k) = true) ∧ Hid (PortsAt wr w.heap.size (memT (l.take k))) ∧ Hid (Below w.heap.size w wr)) (fun iv _ => l.length - (intOf iv).toNat)
  case atStart => exact ⟨0, Nat.zero_le _, rfl, rfl, hnew.out, (Below.refl _ _).alloc (Nat.le_refl _) _⟩
  case round =>
    obtain ⟨k, hk, rfl, hO, hP, hB⟩ := hrel
    have hzW := hB.out.size
    by_cases hlt : k < l.length
    · obtain ⟨g, off, rfl, hcell⟩ := hat (by omega)
      obtain ⟨s, hs⟩ : ∃ s, s = l[k] := ⟨_, rfl⟩
      obtain ⟨x0, x1⟩ := hcell k hlt
      rw [← hs] at x0 x1
      have y0 := cell_onT hB.out x0
      have y1 := cell_onT hB.out x1
      have hsb := HBD.out s (by rw [hs]; exact List.getElem_mem _)
      have hln : okT (l.take (k + 1)) = (okT (l.take k) && mayT s.1 s.2) := by rw [hs]; exact okT_take hlt
      have E : Hid (∀ i, memT (l.take (k + 1)) i = (memT (l.take k) i || hasB (s.1, topT s.1 s.2) i)) := fun i => by rw [hs]; exact memT_take hlt i
      have F : Hid (mayT s.1 s.2 = false → okT l = false) := fun h => okT_no hlt (by rw [← hs]; exact h)
      obtain ⟨a, n⟩ := s
      simp only at y0 y1 hsb hln
      rw [hO.out, Bool.true_and] at hln
      have hk0 : (0 : Int) ≤ (k : Int) := by omega
      have hlt' : (k : Int) < (l.length : Int) := by omega
      clear hat hcell x0 x1 hs
      cases hm : mayT a n
      · have F' : Hid (okT l = false) := F.out hm
        go_wp2_with (fail)
        refine (rspan_no a n _ hsb hm).mono ?_
        rintro e w3 ⟨rfl, hb3⟩
        have HB3 : Hid (Below w.heap.size w w3) := hB.out.trans (hb3.mono hzW)
        clear hb3 y0 y1 E F hln hm
        go_wp2
        go_ret2
        exact ⟨(fun h => by rw [F'.out] at h; cases h), fun _ => rfl, HB3.out.alloc (by have := HB3.out.size; omega) _⟩
      · have ht := topT_lt hsb hm
        have HO3 : Hid (okT (l.take (k + 1)) = true) := hln.trans hm
        go_wp2_with (fail)
        refine (rspan_ok a n _ hsb hm).mono ?_
        rintro e w3 ⟨rfl, hb3⟩
        have HP3 : Hid (PortsAt w3 w.heap.size (memT (l.take k))) := hP.out.on (hb3.block _ hP.out.lt)
        have HB3 : Hid (Below w.heap.size w w3) := hB.out.trans (hb3.mono hzW)
        have hz3 := HB3.out.size
        clear hb3 y0 y1 F hln hm hP hB
        go_wp2_with (fail)
        have HP4 : PortsAt (w3.alloc (.cells #[.int .u16 (a : Nat), .int .u16 (topT a n : Nat)] 26)) w.heap.size (memT (l.take k)) := HP3.out.on (((Below.refl w3.heap.size w3).alloc (Nat.le_refl _) _).block _ HP3.out.lt)
        refine (addS a (topT a n) hsb ht.1 w.heap.size _ _ HP4).mono ?_
        rintro e w5 ⟨rfl, hP5, hb5⟩
        have HP5 : Hid (PortsAt w5 w.heap.size (memT (l.take (k + 1)))) := hP5.congr fun i _ => (E.out i).symm
        have HB5 : Hid (Below w.heap.size w w5) := But.below (HB3.out.alloc (by omega) _) hb5 (by simp; omega) (Nat.le_refl _)
        clear hP5 hb5 E HP4 HP3 HB3
        go_wp2
        go_roundw
        case rel => exact ⟨k + 1, by omega, by go_num, HO3, HP5, HB5⟩
        case measure => simp [intOf]; omega
    · obtain rfl : k = l.length := by omega
      have hP' := hP.out
      have hO' := hO.out
      rw [List.take_length] at hP' hO'
      have HP' : Hid (PortsAt wr w.heap.size (memT l)) := hP'
      have HO' : Hid (okT l = true) := hO'
      clear hP' hO'
      go_wp2
      go_ret2
      exact ⟨fun _ => ⟨_, rfl, Nat.le_refl _, HP'.out⟩, (fun h => by rw [HO'.out] at h; cases h), hB.out⟩
theorem rback_no (l : List (Nat × Int)) (v : Value) (w : World) (h : SrcT w v l) (hl : l.length ≤ 4294967296) (hbd : BdT l) (ho : okT l = false) :
    Calls Try.prog 21 #[v] w fun e w' => e = .returned (.tuple #[.slice none 0 0, .int .i64 50]) ∧ Below w.heap.size w w' := by
  have hp := (rportsT l v w h hl hbd).mono (R' := fun e w' => e = .returned (.tuple #[.pointer none, .bool false]) ∧ Below w.heap.size w w') fun e w' h => ⟨h.2.1 ho, h.2.2⟩
  clear h hbd
  go_enter Try.func21, Try.ntmps21
  go_wp2_with (fail)
  refine hp.mono ?_
  rintro e w1 ⟨rfl, hb1⟩
  go_wp2
  go_ret2
  exact ⟨rfl, hb1⟩
theorem rback_ok (l : List (Nat × Int)) (v : Value) (w : World) (h : SrcT w v l) (hl : l.length ≤ 4294967296) (hbd : BdT l) (ho : okT l = true) :
    Calls Try.prog 21 #[v] w fun e w' => ∃ v' : Value, e = .returned (.tuple #[v', .int .i64 0]) ∧ Row w' w.heap.size v' (canonOf (memT l)) ∧ Below w.heap.size w w' := by
  have hp := (rportsT l v w h hl hbd).mono (R' := fun e w' => ∃ g, e = .returned (.tuple #[.pointer (some ⟨g, 0, none⟩), .bool true]) ∧ w.heap.size ≤ g ∧ PortsAt w' g (memT l) ∧ Below w.heap.size w w') fun e w' h => by
    obtain ⟨g, h1, h2, h3⟩ := h.1 ho
    exact ⟨g, h1, h2, h3, h.2.2⟩
  clear h hbd
  go_enter Try.func21, Try.ntmps21
  go_wp2_with (fail)
  refine hp.mono ?_
  rintro e w1 ⟨g, rfl, hg, hP, hb1⟩
  have HP : Hid (PortsAt w1 g (memT l)) := hP
  have HB : Hid (Below w.heap.size w w1) := hb1
  have hz1 := hb1.size
  clear hP hb1
  go_wp2_with (fail)
  refine (spansS g _ _ HP.out).mono ?_
  rintro e w2 ⟨v2, rfl, r2, hb2⟩
  have R2 : Hid (Row w2 w.heap.size v2 (canonOf (memT l))) := r2.base hz1
  have B2 : Hid (Below w.heap.size w w2) := HB.out.trans (hb2.mono hz1)
  clear r2 hb2 HP HB
  go_wp2_with (fail)
  go_ret2
  exact ⟨_, rfl, R2.out, B2.out⟩
theorem rleast_no (l : List (Nat × Int)) (v : Value) (w : World) (h : SrcT w v l) (hl : l.length ≤ 4294967296) (hbd : BdT l) (ho : okT l = false) :
    Calls Try.prog 26 #[v] w fun e w' => e = .returned (.tuple #[.slice none 0 0, .int .i64 50]) ∧ Below w.heap.size w w' := by
  have hp := (rportsT l v w h hl hbd).mono (R' := fun e w' => e = .returned (.tuple #[.pointer none, .bool false]) ∧ Below w.heap.size w w') fun e w' h => ⟨h.2.1 ho, h.2.2⟩
  clear h hbd
  go_enter Try.func26, Try.ntmps26
  go_wp2_with (fail)
  refine hp.mono ?_
  rintro e w1 ⟨rfl, hb1⟩
  go_wp2
  go_ret2
  exact ⟨rfl, hb1⟩
theorem rleast_ok (l : List (Nat × Int)) (v : Value) (w : World) (h : SrcT w v l) (hl : l.length ≤ 4294967296) (hbd : BdT l) (ho : okT l = true) :
    Calls Try.prog 26 #[v] w fun e w' => ∃ v' : Value, e = .returned (.tuple #[v', .int .i64 0]) ∧ RowT w' w.heap.size v' (tl (memT l) 16 0) ∧ Below w.heap.size w w' := by
  have hp := (rportsT l v w h hl hbd).mono (R' := fun e w' => ∃ g, e = .returned (.tuple #[.pointer (some ⟨g, 0, none⟩), .bool true]) ∧ w.heap.size ≤ g ∧ PortsAt w' g (memT l) ∧ Below w.heap.size w w') fun e w' h => by
    obtain ⟨g, h1, h2, h3⟩ := h.1 ho
    exact ⟨g, h1, h2, h3, h.2.2⟩
  clear h hbd
  go_enter Try.func26, Try.ntmps26
  go_wp2_with (fail)
  refine hp.mono ?_
  rintro e w1 ⟨g, rfl, hg, hP, hb1⟩
  have HP : Hid (PortsAt w1 g (memT l)) := hP
  have HB : Hid (Below w.heap.size w w1) := hb1
  have hz1 := hb1.size
  clear hP hb1
  go_wp2_with (fail)
  refine (TiledT g _ _ HP.out).mono ?_
  rintro e w2 ⟨v2, rfl, r2, hb2⟩
  have R2 : Hid (RowT w2 w.heap.size v2 (tl (memT l) 16 0)) := r2.base hz1
  have B2 : Hid (Below w.heap.size w w2) := HB.out.trans (hb2.mono hz1)
  clear r2 hb2 HP HB
  go_wp2_with (fail)
  go_ret2
  exact ⟨_, rfl, R2.out, B2.out⟩
end Go.Proofs.Ytapaoemcjpfpoaa
