/-
  nest's Levels, Depth and Find.
-/
import Derived.Test.YtcjpjofoddpfhaaGreatNsM
import Derived.Test.YtcjpjofoddpfhaaGreatTbRa
namespace Go.Proofs.YtcjpjofoddpfhaaGreat
open Go.RowKit
set_option linter.unusedVariables false
set_option linter.unusedSimpArgs false

def okS (l : List (Nat × Nat)) : Bool := l.all fun s => decide (s.1 ≤ s.2)
theorem okS_iff {l : List (Nat × Nat)} : okS l = true ↔ ∀ s ∈ l, s.1 ≤ s.2 := by simp [okS]
theorem okS_no {l : List (Nat × Nat)} {k : Nat} (hk : k < l.length) (h : ¬ (l[k]).1 ≤ (l[k]).2) : okS l = false := by
  rw [Bool.eq_false_iff]
  intro e
  exact h (okS_iff.1 e _ (List.getElem_mem hk))
theorem srcS_at {w : World} {ad : Option Addr} {n cap : Nat} {l : List (Nat × Nat)} (h : SrcS w (.slice ad n cap) l) : n = l.length ∧ ∀ {W : World}, Below w.heap.size w W → ∀ k (hk : k < l.length), ∃ g off, ad = some ⟨g, off, none⟩ ∧ W.cell? ⟨g, off + k * 2, none⟩ = some (.int .u16 ((l[k]'hk).1 : Int)) ∧ W.cell? ⟨g, off + k * 2 + 1, none⟩ = some (.int .u16 ((l[k]'hk).2 : Int)) := by
  obtain ⟨ad', c, e, _, h2⟩ := h
  cases e
  refine ⟨rfl, fun {W} hb k hk => ?_⟩
  obtain ⟨g, off, rfl, h3⟩ := h2 (by omega)
  have h0 := h3 k hk 0 (by omega)
  have h1 := h3 k hk 1 (by omega)
  rw [Nat.add_zero] at h0
  rw [← Nat.add_assoc] at h1
  exact ⟨g, off, rfl, cell_on1 hb h0, cell_on1 hb h1⟩
theorem lvs_ext (u l : List (Nat × Nat)) : (ofN (l.map (lvU u))).length = l.length := by simp [ofN]
/-- A row of zeroes that is filled in. -/
def upto (f : Nat → Nat) (i n : Nat) : List Int := (List.range n).map fun k => if k < i then (f k : Int) else 0
theorem upto_len (f : Nat → Nat) (i n : Nat) : (upto f i n).length = n := by simp [upto]
theorem upto_set (f : Nat → Nat) {i n : Nat} (hi : i < n) : (upto f i n).set i (f i : Int) = upto f (i + 1) n := by
  apply List.ext_getElem
  · simp [upto]
  · intro k h1 h2
    rw [List.getElem_set]
    simp only [upto, List.getElem_map, List.getElem_range]
    by_cases e : i = k
    · subst e; simp
    · rw [if_neg e]
      by_cases h : k < i
      · rw [if_pos h, if_pos (by omega)]
      · rw [if_neg h, if_neg (by omega)]
theorem upto_zero (f : Nat → Nat) (n : Nat) : upto f 0 n = List.replicate n 0 := by
  apply List.ext_getElem
  · simp [upto]
  · intro k h1 h2; simp [upto]
theorem upto_all {g : Nat × Nat → Nat} {l : List (Nat × Nat)} {f : Nat → Nat} (hf : ∀ k (hk : k < l.length), f k = g l[k]) : upto f l.length l.length = ofN (l.map g) := by
  apply List.ext_getElem
  · simp [upto, ofN]
  · intro k h1 h2
    have hk : k < l.length := by simpa [upto] using h1
    simp [upto, ofN, hk, hf k hk]
set_option maxHeartbeats 2000000 in
set_option maxRecDepth 20000 in
theorem levelsC (l : List (Nat × Nat)) (v : Value) (w : World) (hs : SrcS w v l) (hl : l.length ≤ 16777216) (hb : ∀ s ∈ l, Bd16 s) :
    Calls Tryz.prog 8 #[v] w fun e w' => ((okS l = true ∧ ∃ (v' : Value) (u : List (Nat × Nat)), e = .returned (.tuple #[v', .int .i64 0]) ∧ InO u ∧ (∀ x, x ∈ u ↔ x ∈ l) ∧ RowI w' w.heap.size v' (ofN (l.map (lvU u)))) ∨ (okS l = false ∧ e = .returned (.tuple #[.slice none 0 0, .int .i64 30]))) ∧ Below w.heap.size w w' := by
  have HS : Hid (SrcS w v l) := hs
  have HBd : Hid (∀ s ∈ l, Bd16 s) := hb
  obtain ⟨ad, cap, rfl, _, _⟩ := hs
  obtain ⟨n, hn⟩ : ∃ n, n = l.length := ⟨_, rfl⟩
  rw [← hn] at HS hl ⊢
  have Hn : Hid (n = l.length) := hn
  clear hn hb
  go_enter Tryz.func8, Tryz.ntmps8
  go_wp2_with (fail)
  go_loopw [13] (fun vi wr => ∃ i : Nat, i ≤ n ∧ vi = .int .i64 (i : Int) ∧ Hid (∀ k (hk : k < l.length), k < i → (l[k]).1 ≤ (l[k]).2) ∧ Hid (Below w.heap.size w wr)) (fun vi _ => n - (intOf vi).toNat)
  case atStart => exact ⟨0, Nat.zero_le _, rfl, fun k _ hk => by omega, Below.refl _ _⟩
  case round =>
    obtain ⟨i, hi, rfl, HV, HB⟩ := hrel
    by_cases hlt : i < n
    · have hlt' : i < l.length := by rw [← Hn.out]; exact hlt
      have hlti : (i : Int) < (n : Int) := by omega
      obtain ⟨g, off, rfl, c0, c1⟩ := (srcS_at HS.out).2 HB.out i hlt'
      obtain ⟨s, hs⟩ : ∃ s, s = l[i] := ⟨_, rfl⟩
      rw [← hs] at c0 c1
      have Hs : Hid (s = l[i]) := hs
      clear hs
      have hC := fun W => checkSp s.1 s.2 W
      by_cases hok : s.1 ≤ s.2
      · rw [show errS s.1 s.2 = 0 by unfold errS; rw [if_neg (by omega)]] at hC
        go_wp2_with (go_at_call 26; fail)
        refine (hC _).mono ?_
        rintro e w2 ⟨rfl, hb2⟩
        have HB2 : Hid (Below w.heap.size w w2) := bel_of (HB.out.alloc HB.out.size _) hb2 (by have := HB.out.size; simp; omega)
        clear hb2 hC
        go_wp2
        go_roundw
        case rel => exact ⟨i + 1, by omega, by go_num, fun k hk hki => by
          by_cases e : k = i
          · subst e; rw [← Hs.out]; exact hok
          · exact HV.out k hk (by omega), HB2.out⟩
        case measure => simp [intOf]; omega
      · rw [show errS s.1 s.2 = 30 by unfold errS; rw [if_pos (by omega)]] at hC
        go_wp2_with (go_at_call 26; fail)
        refine (hC _).mono ?_
        rintro e w2 ⟨rfl, hb2⟩
        have HB2 : Hid (Below w.heap.size w w2) := bel_of (HB.out.alloc HB.out.size _) hb2 (by have := HB.out.size; simp; omega)
        have Hno : Hid (okS l = false) := okS_no hlt' (by rw [← Hs.out]; exact hok)
        clear hb2 hC
        go_wp2
        go_ret2
        exact ⟨.inr ⟨Hno.out, rfl⟩, HB2.out⟩
    · obtain rfl : i = n := by omega
      have hni : ¬ (i : Int) < (i : Int) := by omega
      have hok : okS l = true := okS_iff.2 fun s hs => by
        obtain ⟨k, hk, rfl⟩ := List.mem_iff_getElem.1 hs
        exact HV.out k hk (by rw [Hn.out]; exact hk)
      have hP := spreadC l (.slice ad i cap) wr (HS.out.keep HB.out) (by rw [← Hn.out]; exact hl) (fun s hs => ⟨HBd.out s hs, okS_iff.1 hok s hs⟩)
      have Hok : Hid (okS l = true) := hok
      clear hok HV
      go_wp2_with (go_at_call 27; fail)
      refine hP.mono ?_
      rintro e w2 ⟨B, u, rfl, hu1, hu2, hm2, hb2⟩
      have HU1 : Hid (InO u) := hu1
      have HU2 : Hid (∀ x, x ∈ u ↔ x ∈ l) := hu2
      have HM : Hid (Lvm w2 B (lvs [] u)) := hm2
      have HB2 : Hid (Below w.heap.size w w2) := bel_of HB.out hb2 HB.out.size
      clear hu1 hu2 hm2 hb2 hP HB
      obtain ⟨i0, hi0, hz0, hz1, hz2⟩ := info_parts infoI
      have hmk := fun W => run_make (P := Tryz.prog) W 25 3 i0 _ Tryz.underlying25 hi0 hz0 .i64 .i64 (i : Int) (i : Int) (by omega) (Int.le_refl _) (by rw [hz2]; omega) (by omega)
      simp only [hz1, Int.toNat_natCast, Nat.mul_one, Value.cells, fil_zero 0] at hmk
      have hR0 : Hid (RowI (w2.alloc (.cells (fil 0 0 i).toArray 3)) w.heap.size (.slice (some ⟨w2.heap.size, 0, none⟩) i i) (upto (fun k => lvU u (l.getD k (0, 0))) 0 i)) := by
        rw [upto_zero]
        have e : fil 0 0 i = fil 0 i i := by simp [fil]
        exact fil_row (by rw [e]; exact blk_new w2 _) HB2.out.size (by omega)
      have HB3 : Hid (Below w2.heap.size w2 (w2.alloc (.cells (fil 0 0 i).toArray 3))) := (Below.refl _ _).alloc (Nat.le_refl _) _
      clear hi0 hz0 hz1 hz2
      obtain ⟨F, hF⟩ : ∃ F, F = (fil 0 0 i).toArray := ⟨_, rfl⟩
      rw [← hF] at hmk hR0 HB3
      clear hF
      have HG : Hid (B < w2.heap.size ∧ w.heap.size ≤ w2.heap.size) := ⟨HM.out.lt, HB2.out.size⟩
      have HM3 : Hid (Lvm (w2.alloc (.cells F 3)) B (lvs [] u)) := HM.out.on HB3.out
      have HB4 : Hid (Below w.heap.size w (w2.alloc (.cells F 3))) := HB2.out.alloc HB2.out.size _
      obtain ⟨G, hG⟩ : ∃ G, G = w2.heap.size := ⟨_, rfl⟩
      have hmk2 := hmk w2
      rw [← hG] at hR0 HG hmk2
      clear hmk
      clear hG HM HB2 HB3
      go_wp2_with (fail)
      generalize w2.alloc (.cells F 3) = w3 at *
      go_loopw [30] (fun vi wr => ∃ k : Nat, k ≤ i ∧ vi = .int .i64 (k : Int) ∧ Hid (RowI wr w.heap.size (.slice (some ⟨G, 0, none⟩) i i) (upto (fun k => lvU u (l.getD k (0, 0))) k i)) ∧ Hid (Lvm wr B (lvs [] u)) ∧ Hid (Below w.heap.size w wr)) (fun vi _ => i - (intOf vi).toNat)
      case atStart => exact ⟨0, Nat.zero_le _, rfl, hR0.out, HM3.out, HB4.out⟩
      case round =>
        obtain ⟨k, hk, rfl, HR, HM, HB⟩ := hrel
        clear hR0 HM3 HB4
        by_cases hlt : k < i
        · have hlt' : k < l.length := by rw [← Hn.out]; exact hlt
          have hlti : (k : Int) < (i : Int) := by omega
          obtain ⟨g, off, rfl, c0, c1⟩ := (srcS_at HS.out).2 HB.out k hlt'
          obtain ⟨s, hs⟩ : ∃ s, s = l[k] := ⟨_, rfl⟩
          rw [← hs] at c0 c1
          have hsl : s ∈ l := by rw [hs]; exact List.getElem_mem _
          have hgd : l.getD k (0, 0) = s := by rw [hs]; simp [hlt']
          obtain ⟨W1, hW1⟩ : ∃ W1, W1 = wr.alloc (.cells #[.int .u16 (s.1 : Int), .int .u16 (s.2 : Int)] 47) := ⟨_, rfl⟩
          have hbW : Below wr.heap.size wr W1 := by rw [hW1]; exact (Below.refl _ _).alloc (Nat.le_refl _) _
          have hlk := (HM.out.on hbW).look (lvU_mem ((HU2.out s).2 hsl)) (HBd.out s hsl)
          have hR1 := HR.out.on hbW
          have hlen := upto_len (fun k => lvU u (l.getD k (0, 0))) k i
          obtain ⟨cg, fg⟩ := hR1.cell (k := k) (by rw [hlen]; exact hlt)
          obtain ⟨r2, g2⟩ := hR1.set k (lvU u s : Int)
          have hR2 : Hid (RowI (W1.setCell ⟨G, k, none⟩ (.int .i64 (lvU u s : Int))) w.heap.size (.slice (some ⟨G, 0, none⟩) i i) (upto (fun k => lvU u (l.getD k (0, 0))) (k + 1) i)) := by
            rw [← upto_set _ hlt, hgd]; exact r2
          have hM2 : Hid (Lvm (W1.setCell ⟨G, k, none⟩ (.int .i64 (lvU u s : Int))) B (lvs [] u)) := (HM.out.on hbW).kept g2 (fun e => by injection e with e; have := HG.out.1; omega)
          have hB2 : Hid (Below w.heap.size w (W1.setCell ⟨G, k, none⟩ (.int .i64 (lvU u s : Int)))) := (HB.out.trans (hbW.mono HB.out.size)).grown g2 (by have := (HB.out.trans (hbW.mono HB.out.size)).size; omega) (fun q hq => by injection hq with e; have := HG.out.2; omega)
          have cA := blk_cell (j := 0) (blk_new wr (.cells #[.int .u16 (s.1 : Int), .int .u16 (s.2 : Int)] 47)) rfl
          have cB := blk_cell (j := 1) (blk_new wr (.cells #[.int .u16 (s.1 : Int), .int .u16 (s.2 : Int)] 47)) rfl
          rw [← hW1] at cA cB
          have hW1s : wr.alloc (.cells #[.int .u16 (s.1 : Int), .int .u16 (s.2 : Int)] 47) = W1 := hW1.symm
          generalize (upto (fun k => lvU u (l.getD k (0, 0))) k i)[k]'_ = old at cg
          clear hW1 hbW hR1 r2 g2 hlen hgd hsl hs HR HM
          generalize lvU u s = L at *
          subst hW1s
          go_wp2_with (fail)
          go_roundw
          case rel => exact ⟨k + 1, by omega, by go_num, hR2.out, hM2.out, hB2.out⟩
          case measure => simp [intOf]; omega
        · obtain rfl : k = i := by omega
          have hni : ¬ (k : Int) < (k : Int) := by omega
          have hend : upto (fun j => lvU u (l.getD j (0, 0))) k k = ofN (l.map (lvU u)) := by
            rw [Hn.out]
            exact upto_all (fun j hj => by simp [hj])
          have HR' : Hid (RowI wr w.heap.size (.slice (some ⟨G, 0, none⟩) k k) (ofN (l.map (lvU u)))) := by rw [← hend]; exact HR.out
          clear hend HR
          go_wp2
          go_ret2
          exact ⟨.inl ⟨Hok.out, _, rfl, u, HU1.out, fun a b => HU2.out (a, b), HR'.out⟩, HB.out⟩
end Go.Proofs.YtcjpjofoddpfhaaGreat
