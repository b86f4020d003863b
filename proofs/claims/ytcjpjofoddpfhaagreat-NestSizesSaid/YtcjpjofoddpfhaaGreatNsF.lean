/-
  nest's Depth and Find.
-/
import Derived.Test.YtcjpjofoddpfhaaGreatNsL
namespace Go.Proofs.YtcjpjofoddpfhaaGreat
open Go.RowKit
set_option linter.unusedVariables false
set_option linter.unusedSimpArgs false

theorem fstI_skip {q : Nat → Bool} {k : Nat} (h : q k = false) : fstI q (k + 1) = fstI q k := by
  show (if 0 ≤ fstI q k then fstI q k else if q k then (k : Int) else -1) = fstI q k
  rw [h]
  rcases fstI_spec q k with ⟨e, _⟩ | ⟨j, e, _⟩ <;> rw [e]
  · simp
  · rw [if_pos (by omega)]
theorem fstI_hit {q : Nat → Bool} {k : Nat} (h0 : fstI q k < 0) (h : q k = true) : fstI q (k + 1) = (k : Int) := by
  show (if 0 ≤ fstI q k then fstI q k else if q k then (k : Int) else -1) = (k : Int)
  rw [if_neg (by omega), if_pos h]
theorem fstI_old {q : Nat → Bool} {k : Nat} (h0 : 0 ≤ fstI q k) : fstI q (k + 1) = fstI q k := by
  show (if 0 ≤ fstI q k then fstI q k else if q k then (k : Int) else -1) = fstI q k
  rw [if_pos h0]
/-- Of each level the first place. -/
def fndR (q : Nat → Nat → Bool) (D k : Nat) : List Int := (List.range D).map fun n => fstI (q n) k
theorem fndR_len (q : Nat → Nat → Bool) (D k : Nat) : (fndR q D k).length = D := by simp [fndR]
theorem fndR_at {q : Nat → Nat → Bool} {D k j : Nat} (h : j < (fndR q D k).length) : (fndR q D k)[j] = fstI (q j) k := by simp [fndR]
theorem fndR_zero (q : Nat → Nat → Bool) (D : Nat) : fndR q D 0 = List.replicate D (-1) := by
  apply List.ext_getElem
  · simp [fndR]
  · intro j h1 h2; simp [fndR, fstI]
theorem fndR_same {q : Nat → Nat → Bool} {D k L : Nat} (ho : ∀ n, n ≠ L → q n k = false) (hl : 0 ≤ fstI (q L) k ∨ q L k = false) : fndR q D (k + 1) = fndR q D k := by
  unfold fndR
  refine List.map_congr_left fun n _ => ?_
  by_cases e : n = L
  · subst e
    rcases hl with h | h
    · exact fstI_old h
    · exact fstI_skip h
  · exact fstI_skip (ho n e)
theorem fndR_set {q : Nat → Nat → Bool} {D k L : Nat} (ho : ∀ n, n ≠ L → q n k = false) (h0 : fstI (q L) k < 0) (h1 : q L k = true) : (fndR q D k).set L (k : Int) = fndR q D (k + 1) := by
  apply List.ext_getElem
  · simp [fndR]
  · intro j h2 h3
    rw [List.getElem_set]
    simp only [fndR, List.getElem_map, List.getElem_range]
    by_cases e : L = j
    · subst e; rw [if_pos rfl, fstI_hit h0 h1]
    · rw [if_neg e, fstI_skip (ho j (fun x => e x.symm))]

set_option maxHeartbeats 1000000 in
theorem depthC (l : List (Nat × Nat)) (v : Value) (w : World) (hs : SrcS w v l) (hl : l.length ≤ 16777216) (hb : ∀ s ∈ l, Bd16 s) :
    Calls Tryz.prog 11 #[v] w fun e w' => ((okS l = true ∧ ∃ u : List (Nat × Nat), InO u ∧ (∀ x, x ∈ u ↔ x ∈ l) ∧ e = .returned (.tuple #[.int .i64 (dep (l.map (lvU u)) : Nat), .int .i64 0])) ∨ (okS l = false ∧ e = .returned (.tuple #[.int .i64 0, .int .i64 30]))) ∧ Below w.heap.size w w' := by
  have hL := levelsC l v w hs hl hb
  clear hs hb
  go_enter Tryz.func11, Tryz.ntmps11
  go_wp2_with (fail)
  refine hL.mono ?_
  rintro e w1 ⟨hq, hb1⟩
  have HB : Hid (Below w.heap.size w w1) := hb1
  clear hb1 hL
  rcases hq with ⟨hok, v', u, rfl, h1, h2, h3⟩ | ⟨hno, rfl⟩
  · have hC := countC (l.map (lvU u)) v' w1 h3.src (by simpa using (by omega : l.length ≤ 4294967296)) (fun n hn => by
      obtain ⟨s, hs, rfl⟩ := List.mem_map.1 hn
      have := lvU_lt ((h2 s).2 hs)
      have h4 : u.length ≤ l.length := List.Nodup.length_le_of_subset (ino_nodup h1) (fun x hx => (h2 x).1 hx)
      omega)
    have HQ : Hid (okS l = true ∧ InO u ∧ (∀ x, x ∈ u ↔ x ∈ l)) := ⟨hok, h1, h2⟩
    clear hok h1 h2 h3
    go_wp2_with (fail)
    refine hC.mono ?_
    rintro e w2 ⟨rfl, hw⟩
    obtain rfl := hw.symm
    clear hw hC
    go_wp2
    go_ret2
    exact ⟨.inl ⟨HQ.out.1, u, HQ.out.2.1, HQ.out.2.2, rfl⟩, HB.out⟩
  · have hC := countC [] (.slice none 0 0) w1 ⟨none, 0, rfl, fun h => absurd h (by simp [ofN])⟩ (by simp) (fun n hn => by cases hn)
    rw [show ((dep [] : Nat) : Int) = 0 from rfl] at hC
    have HQ : Hid (okS l = false) := hno
    clear hno
    go_wp2_with (fail)
    refine hC.mono ?_
    rintro e w2 ⟨rfl, hw⟩
    obtain rfl := hw.symm
    clear hw hC
    go_wp2
    go_ret2
    exact ⟨.inr ⟨HQ.out, rfl⟩, HB.out⟩

/-- Does the span at place k, of level n, hold the port? -/
def qF (u l : List (Nat × Nat)) (p : Nat) (n k : Nat) : Bool := decide (lvU u (l.getD k (0, 0)) = n) && hasI (l.getD k (0, 0)) p
def fnds (u l : List (Nat × Nat)) (p : Nat) : List Int := fndR (qF u l p) (dep (l.map (lvU u))) l.length
set_option maxHeartbeats 2000000 in
set_option maxRecDepth 20000 in
theorem findC (l : List (Nat × Nat)) (p : Nat) (v : Value) (w : World) (hs : SrcS w v l) (hl : l.length ≤ 16777216) (hb : ∀ s ∈ l, Bd16 s) :
    Calls Tryz.prog 14 #[v, .int .u16 (p : Int)] w fun e w' => ((okS l = true ∧ ∃ (v' : Value) (u : List (Nat × Nat)), e = .returned (.tuple #[v', .int .i64 0]) ∧ InO u ∧ (∀ x, x ∈ u ↔ x ∈ l) ∧ RowI w' w.heap.size v' (fnds u l p)) ∨ (okS l = false ∧ e = .returned (.tuple #[.slice none 0 0, .int .i64 30]))) ∧ Below w.heap.size w w' := by
  have hL := levelsC l v w hs hl hb
  have HS : Hid (SrcS w v l) := hs
  obtain ⟨ad, cap, rfl, _, _⟩ := hs
  obtain ⟨n, hn⟩ : ∃ n, n = l.length := ⟨_, rfl⟩
  rw [← hn] at HS hl hL ⊢
  have Hn : Hid (n = l.length) := hn
  clear hb hn
  go_enter Tryz.func14, Tryz.ntmps14
  go_wp2_with (fail)
  refine hL.mono ?_
  rintro e w1 ⟨hq, hb1⟩
  have HB : Hid (Below w.heap.size w w1) := hb1
  clear hb1 hL
  rcases hq with ⟨hok, v', u, rfl, h1, h2, h3⟩ | ⟨hno, rfl⟩
  · have hul : u.length ≤ l.length := List.Nodup.length_le_of_subset (ino_nodup h1) (fun x hx => (h2 x).1 hx)
    have hlv : ∀ s ∈ l, lvU u s < u.length := fun s hs => lvU_lt ((h2 s).2 hs)
    have Hlv : Hid (∀ k (hk : k < l.length), lvU u l[k] < dep (l.map (lvU u))) := fun k hk => dep_lt (List.mem_map.2 ⟨_, List.getElem_mem hk, rfl⟩)
    have hD : dep (l.map (lvU u)) ≤ 16777216 := by
      have : dep (l.map (lvU u)) ≤ u.length := dep_le (fun n hn => by
        obtain ⟨s, hs, rfl⟩ := List.mem_map.1 hn
        exact hlv s hs)
      have := Hn.out; omega
    have hC := fun W (hb : Below w1.heap.size w1 W) => countC (l.map (lvU u)) v' W (h3.src.keep hb) (by rw [List.length_map]; have := Hn.out; omega) (fun n hn => by
      obtain ⟨s, hs, rfl⟩ := List.mem_map.1 hn
      have := hlv s hs
      have := Hn.out
      omega)
    have HQ : Hid (okS l = true ∧ InO u ∧ (∀ x, x ∈ u ↔ x ∈ l)) := ⟨hok, h1, h2⟩
    have HR : Hid (RowI w1 w.heap.size v' (ofN (l.map (lvU u)))) := h3
    clear hok h1 h2 h3 hul hlv
    have hend : Hid (fnds u l p = fndR (qF u l p) (dep (l.map (lvU u))) l.length) := rfl
    obtain ⟨D, hDD⟩ : ∃ D, D = dep (l.map (lvU u)) := ⟨_, rfl⟩
    rw [← hDD] at hD hC hend Hlv
    clear hDD
    obtain ⟨W1, hW1⟩ : ∃ W1, W1 = w1.alloc (.cells #[.int .i64 (-1)] 3) := ⟨_, rfl⟩
    have hbW : Below w1.heap.size w1 W1 := by rw [hW1]; exact (Below.refl _ _).alloc (Nat.le_refl _) _
    have hR := repI D w1.heap.size 1 (-1) W1 (by rw [hW1]; exact blk_cell (blk_new w1 _) rfl) (by omega)
    have hC1 := hC W1 hbW
    have HW1 : Hid (Below w.heap.size w W1 ∧ RowI W1 w.heap.size v' (ofN (l.map (lvU u)))) := ⟨HB.out.trans (hbW.mono HB.out.size), HR.out.on hbW⟩
    have hsz : W1.heap.size = w1.heap.size + 1 := by rw [hW1]; simp
    rw [hsz] at hR
    have HGw : Hid (w.heap.size ≤ w1.heap.size + 1) := by have := HB.out.size; exact Nat.le_succ_of_le this
    have hv6 : Hid (v'.ownBlock ≠ some (w1.heap.size + 1)) := fun e => by have := (HW1.out.2.lt _ e).2; omega
    have Hsz : Hid (W1.heap.size = w1.heap.size + 1) := hsz
    subst hW1
    clear hC hbW HB hsz
    go_wp2_with (go_at_call 31; fail)
    refine hC1.mono ?_
    rintro e w2 ⟨rfl, hw⟩
    obtain rfl := hw.symm
    clear hw hC1
    go_wp2_with (go_at_call 32; fail)
    refine hR.mono ?_
    rintro e w3 ⟨rfl, hg3, hb3⟩
    rw [← Hsz.out] at hb3
    have HR3 : Hid (RowI w3 w.heap.size v' (ofN (l.map (lvU u)))) := HW1.out.2.on hb3
    have HF3 : Hid (RowI w3 w.heap.size (.slice (some ⟨w1.heap.size + 1, 0, none⟩) D D) (fndR (qF u l p) D 0)) := by
      rw [fndR_zero]; exact fil_row hg3 HGw.out (by omega)
    have HB3 : Hid (Below w.heap.size w w3) := bel_of HW1.out.1 hb3 HW1.out.1.size
    clear hg3 hb3 hR HW1 HR Hsz
    generalize w1.heap.size + 1 = G at *
    obtain ⟨a6, c6, rfl⟩ := HR3.out.src.len
    have e6 : (ofN (l.map (lvU u))).length = n := by rw [Hn.out]; simp [ofN]
    rw [e6] at HR3 hv6 ⊢
    clear e6
    go_wp2_with (fail)
    go_loopw [26] (fun vi wr => ∃ k : Nat, k ≤ n ∧ vi = .int .i64 (k : Int) ∧ Hid (RowI wr w.heap.size (.slice a6 n c6) (ofN (l.map (lvU u)))) ∧ Hid (RowI wr w.heap.size (.slice (some ⟨G, 0, none⟩) D D) (fndR (qF u l p) D k)) ∧ Hid (Below w.heap.size w wr)) (fun vi _ => n - (intOf vi).toNat)
    case atStart => exact ⟨0, Nat.zero_le _, rfl, HR3.out, HF3.out, HB3.out⟩
    case round =>
      obtain ⟨k, hk, rfl, HR, HF, HB⟩ := hrel
      clear HR3 HF3 HB3
      by_cases hlt : k < n
      · have hlt' : k < l.length := by rw [← Hn.out]; exact hlt
        have hlti : (k : Int) < (n : Int) := by omega
        obtain ⟨g, off, rfl, c0, c1⟩ := (srcS_at HS.out).2 HB.out k hlt'
        obtain ⟨s, hs⟩ : ∃ s, s = l[k] := ⟨_, rfl⟩
        rw [← hs] at c0 c1
        have hgd : l.getD k (0, 0) = s := by rw [hs]; simp [hlt']
        obtain ⟨W1, hW1⟩ : ∃ W1, W1 = wr.alloc (.cells #[.int .u16 (s.1 : Int), .int .u16 (s.2 : Int)] 47) := ⟨_, rfl⟩
        have hbW : Below wr.heap.size wr W1 := by rw [hW1]; exact (Below.refl _ _).alloc (Nat.le_refl _) _
        obtain ⟨g6, o6, ea, c6'⟩ := (HR.out.on hbW).src.at (k := k) (by simp [ofN]; exact hlt')
        subst ea
        rw [ofN_at, List.getElem_map, ← hs] at c6'
        have hL := Hlv.out k hlt'
        rw [← hs] at hL
        have hqo : ∀ m, m ≠ lvU u s → qF u l p m k = false := fun m hm => by unfold qF; rw [hgd, decide_eq_false (fun e => hm e.symm)]; rfl
        have hqs : qF u l p (lvU u s) k = hasI s p := by unfold qF; rw [hgd, decide_eq_true rfl]; rfl
        have hR1 := HR.out.on hbW
        have hF1 := HF.out.on hbW
        have hB1 : Below w.heap.size w W1 := HB.out.trans (hbW.mono HB.out.size)
        obtain ⟨cg, fg⟩ := hF1.cell (k := lvU u s) (by rw [fndR_len]; exact hL)
        rw [fndR_at] at cg
        obtain ⟨r2, g2⟩ := hF1.set (lvU u s) (k : Int)
        have hH := fun W => hasSp s p W
        have cA := blk_cell (j := 0) (blk_new wr (.cells #[.int .u16 (s.1 : Int), .int .u16 (s.2 : Int)] 47)) rfl
        have cB := blk_cell (j := 1) (blk_new wr (.cells #[.int .u16 (s.1 : Int), .int .u16 (s.2 : Int)] 47)) rfl
        rw [← hW1] at cA cB
        have HR1 : Hid (RowI W1 w.heap.size (.slice (some ⟨g6, o6, none⟩) n c6) (ofN (l.map (lvU u)))) := hR1
        have HF1 : Hid (RowI W1 w.heap.size (.slice (some ⟨G, 0, none⟩) D D) (fndR (qF u l p) D k)) := hF1
        have HB1 : Hid (Below w.heap.size w W1) := hB1
        have hLi : (lvU u s : Int) < (D : Int) := by omega
        have Hqo : Hid _ := hqo
        have Hqs : Hid _ := hqs
        clear hR1 hF1 hB1 hqo hqs hgd hs HR HF HB r2 g2 hbW
        obtain ⟨L, hLL⟩ : ∃ L, L = lvU u s := ⟨_, rfl⟩
        rw [← hLL] at Hqo Hqs cg fg hL hLi c6'
        clear hLL
        by_cases h0 : 0 ≤ fstI (qF u l p L) k
        · have hni : ¬ fstI (qF u l p L) k < 0 := by omega
          have HF2 : Hid (RowI W1 w.heap.size (.slice (some ⟨G, 0, none⟩) D D) (fndR (qF u l p) D (k + 1))) := by rw [fndR_same Hqo.out (.inl h0)]; exact HF1.out
          generalize fstI (qF u l p L) k = old at *
          subst hW1
          go_wp2
          go_roundw
          case rel => exact ⟨k + 1, by omega, by go_num, HR1.out, HF2.out, HB1.out⟩
          case measure => simp [intOf]; omega
        · have hni : fstI (qF u l p L) k < 0 := by omega
          cases hp : hasI s p with
          | false =>
            have HF2 : Hid (RowI W1 w.heap.size (.slice (some ⟨G, 0, none⟩) D D) (fndR (qF u l p) D (k + 1))) := by rw [fndR_same Hqo.out (.inr (by rw [Hqs.out, hp]))]; exact HF1.out
            rw [hp] at hH
            generalize fstI (qF u l p L) k = old at *
            subst hW1
            go_wp2_with (go_at_call 33; refine (hH _).mono ?_; rintro e w5 ⟨rfl, hb5⟩)
            have HR5 : Hid (RowI w5 w.heap.size (.slice (some ⟨g6, o6, none⟩) n c6) (ofN (l.map (lvU u)))) := HR1.out.on (by assumption)
            have HF5 : Hid (RowI w5 w.heap.size (.slice (some ⟨G, 0, none⟩) D D) (fndR (qF u l p) D (k + 1))) := HF2.out.on (by assumption)
            have HB5 : Hid (Below w.heap.size w w5) := bel_of HB1.out (by assumption) HB1.out.size
            go_roundw
            case rel => exact ⟨k + 1, by omega, by go_num, HR5.out, HF5.out, HB5.out⟩
            case measure => simp [intOf]; omega
          | true =>
            rw [hp] at hH
            have Hset : Hid ((fndR (qF u l p) D k).set L (k : Int) = fndR (qF u l p) D (k + 1)) := fndR_set Hqo.out hni (by rw [Hqs.out, hp])
            generalize fstI (qF u l p L) k = old at *
            subst hW1
            go_wp2_with (go_at_call 33; refine (hH _).mono ?_; rintro e w5 ⟨rfl, hb5⟩; have cg5 := cell_on1 hb5 cg; have fg5 := (hb5.frozen (p := ⟨G, L, none⟩) (World.block_lt_of_cell? _ _ cg)).trans fg)
            have hb5' : Below (wr.alloc (.cells #[.int .u16 (s.1 : Int), .int .u16 (s.2 : Int)] 47)).heap.size (wr.alloc (.cells #[.int .u16 (s.1 : Int), .int .u16 (s.2 : Int)] 47)) w5 := by assumption
            obtain ⟨r5, g5⟩ := (HF1.out.on hb5').set L (k : Int)
            have hB5 : Below w.heap.size w w5 := bel_of HB1.out hb5' HB1.out.size
            refine ⟨⟨k + 1, by omega, by go_num, (HR1.out.on hb5').kept g5 (.inr hv6.out), by rw [← Hset.out]; exact r5, hB5.grown g5 hB5.size (fun q hq => by injection hq with e; have := HGw.out; omega)⟩, by simp [intOf]; omega⟩
      · obtain rfl : k = n := by omega
        have hni : ¬ (k : Int) < (k : Int) := by omega
        have HF' : Hid (RowI wr w.heap.size (.slice (some ⟨G, 0, none⟩) D D) (fnds u l p)) := by rw [hend.out, ← Hn.out]; exact HF.out
        clear HF
        go_wp2
        go_ret2
        exact ⟨.inl ⟨HQ.out.1, _, rfl, u, HQ.out.2.1, fun a b => HQ.out.2.2 (a, b), HF'.out⟩, HB.out⟩
  · have HQ : Hid (okS l = false) := hno
    clear hno
    go_wp2
    go_ret2
    exact ⟨.inr ⟨HQ.out, rfl⟩, HB.out⟩
end Go.Proofs.YtcjpjofoddpfhaaGreat
