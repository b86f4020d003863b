/-
  nest's sources, targets, held, Grid and Prune. Written by tools/mkNsK.py.
-/
import Derived.Test.YtcjpjofoddpfhaaGreatNsK
import Derived.Test.YtcjpjofoddpfhaaGreatNsPm
namespace Go.Proofs.YtcjpjofoddpfhaaGreat
open Go.RowKit
set_option linter.unusedVariables false
set_option linter.unusedSimpArgs false


def ruZ0 : Ru := ⟨0, 0, 0, 0, 0, (0, 0), (0, 0), (0, 0), 0⟩
/-- The prefixes of a rule that may be. -/
def sr (R : Ru) : Nat × Nat := (R.s, R.sl.toNat)
def ds (R : Ru) : Nat × Nat := (R.d, R.dl.toNat)
/-- Prefixes that may be. -/
def OkX (x : Nat × Nat) : Prop := x.1 < 4294967296 ∧ Pf.chk x.1 (x.2 : Int) = 0
def witX (a b : Nat × Nat) : Bool := Pf.witB a.1 (a.2 : Int) b.1 (b.2 : Int)
theorem witX_self {a : Nat × Nat} (h : OkX a) : witX a a = true := by
  unfold witX Pf.witB Pf.hasB
  obtain ⟨m, e, _, hm⟩ := Pf.chk_ok h.2
  have e' : a.2 = m := by omega
  simp only [h.2, decide_eq_true_eq, true_and]
  refine ⟨Int.le_refl _, ?_⟩
  rw [e']
  simpa using Pf.ct_self _ _ hm
theorem okR_sr {R : Ru} (h : okR R = true) (b : BdR R) : OkX (sr R) ∧ R.sl = ((sr R).2 : Int) ∧ OkX (ds R) ∧ R.dl = ((ds R).2 : Int) := by
  obtain ⟨_, h1, h2, _⟩ := (okR_iff R).1 h
  obtain ⟨m, e, _, _⟩ := Pf.chk_ok h1
  obtain ⟨m', e', _, _⟩ := Pf.chk_ok h2
  have q1 : R.sl = (R.sl.toNat : Int) := by omega
  have q2 : R.dl = (R.dl.toNat : Int) := by omega
  exact ⟨⟨b.1, by show Pf.chk R.s (R.sl.toNat : Int) = 0; rw [← q1]; exact h1⟩, q1, ⟨b.2.1, by show Pf.chk R.d (R.dl.toNat : Int) = 0; rw [← q2]; exact h2⟩, q2⟩
theorem withinX (a b : Nat × Nat) (w : World) (ha : a.1 < 4294967296) (hb : b.1 < 4294967296) :
    Calls Tryz.prog 63 #[.agg #[.int .u32 (a.1), .int .i64 (a.2)], .agg #[.int .u32 (b.1), .int .i64 (b.2)]] w fun e w' => e = .returned (.bool (witX a b)) ∧ Below w.heap.size w w' := Pf.within_any a.1 a.2 b.1 b.2 w ha hb
/-- A row of prefixes that is filled in. -/
def uptoX (f : Nat → Nat × Nat) (i n : Nat) : List (Nat × Nat) := (List.range n).map fun k => if k < i then f k else (0, 0)
theorem uptoX_len (f : Nat → Nat × Nat) (i n : Nat) : (uptoX f i n).length = n := by simp [uptoX]
theorem uptoX_set (f : Nat → Nat × Nat) {i n : Nat} (hi : i < n) : (uptoX f i n).take i ++ [f i] ++ (uptoX f i n).drop (i + [f i].length) = uptoX f (i + 1) n := by
  have e : (uptoX f i n).take i ++ [f i] ++ (uptoX f i n).drop (i + [f i].length) = (uptoX f i n).set i (f i) := by
    rw [List.set_eq_take_append_cons_drop, if_pos (by rw [uptoX_len]; exact hi)]; simp
  rw [e]
  apply List.ext_getElem
  · simp [uptoX]
  · intro k h1 h2
    rw [List.getElem_set]
    simp only [uptoX, List.getElem_map, List.getElem_range]
    by_cases e : i = k
    · subst e; simp
    · rw [if_neg e]
      by_cases h : k < i
      · rw [if_pos h, if_pos (by omega)]
      · rw [if_neg h, if_neg (by omega)]
theorem uptoX_zero (f : Nat → Nat × Nat) (n : Nat) : uptoX f 0 n = List.replicate n (0, 0) := by
  apply List.ext_getElem
  · simp [uptoX]
  · intro k h1 h2; simp [uptoX]
theorem uptoX_all {g : Ru → Nat × Nat} {l : List Ru} {f : Nat → Nat × Nat} (hf : ∀ k (hk : k < l.length), f k = g l[k]) : uptoX f l.length l.length = l.map g := by
  apply List.ext_getElem
  · simp [uptoX]
  · intro k h1 h2
    have hk : k < l.length := by simpa [uptoX] using h1
    simp [uptoX, hk, hf k hk]
theorem made_X (z : Array Value) (n : Nat) (hz : z = #[.int .u32 0, .int .i64 0]) : madeCells z (n * 2) = (flatX (List.replicate n (0, 0))).toArray := by
  subst hz
  apply Array.toList_inj.1
  apply List.ext_getElem
  · rw [Array.length_toList, size_madeCells]; simp [flatX_length]
  · intro k h1 h2
    have hk : k < n * 2 := by rw [Array.length_toList, size_madeCells] at h1; exact h1
    have f := flatX_at (List.replicate n (0, 0)) (k / 2) (by simp; omega) (k % 2) (by omega)
    rw [show k / 2 * 2 + k % 2 = k by omega] at f
    have h2' : k < (flatX (List.replicate n (0, 0))).length := by simpa using h2
    rw [List.getElem?_eq_getElem h2'] at f
    have hr : (madeCells #[Value.int .u32 0, .int .i64 0] (n * 2)).toList[k] = (encX (0, 0))[k % 2]'(by simp [encX]; omega) := by
      simp only [madeCells, Array.getElem_toList, Array.getElem_map, Array.getElem_range]
      have : k % 2 = 0 ∨ k % 2 = 1 := by omega
      rcases this with e | e <;> simp [e, encX]
    rw [hr]
    have e2 : (flatX (List.replicate n (0, 0))).toArray.toList[k] = (flatX (List.replicate n (0, 0)))[k] := by simp
    rw [e2]
    have e3 : (List.replicate n ((0, 0) : Nat × Nat))[k / 2]'(by simp; omega) = (0, 0) := by simp
    rw [e3] at f
    rw [List.getElem?_eq_getElem (by simp [encX]; omega)] at f
    injection f with f
    exact f.symm
theorem rowX_new {w : World} {b g n : Nat} (h : w.heap[g]? = some (.cells (flatX (List.replicate n (0, 0))).toArray 50 (0, 0))) (hb : b ≤ g) (hn : n ≤ 16777216) : RowX w b (.slice (some ⟨g, 0, none⟩) n n) (List.replicate n (0, 0)) := by
  refine ⟨flatX_length _, .inr ⟨g, n, _, by simp, hb, h, by simp, by unfold maxLen; omega, by simp [flatX_length], ?_⟩⟩
  rw [List.take_of_length_le (by simp [flatX_length])]
set_option maxRecDepth 20000 in
set_option maxHeartbeats 4000000 in
theorem sourcesC (l : List Ru) (v : Value) (w : World) (hs : SrcU w v l) (hl : l.length ≤ 64) (hb : ∀ R ∈ l, BdR R ∧ okR R = true) :
    Calls Tryz.prog 37 #[v] w fun e w' => ∃ v' : Value, e = .returned v' ∧ RowX w' w.heap.size v' (l.map sr) ∧ Below w.heap.size w w' := by
  have HS : Hid (SrcU w v l) := hs
  have HBd : Hid (∀ R ∈ l, BdR R ∧ okR R = true) := hb
  obtain ⟨ad, cap, rfl, hcp, _⟩ := hs
  obtain ⟨n, hn⟩ : ∃ n, n = l.length := ⟨_, rfl⟩
  rw [← hn] at HS hl ⊢
  have Hn : Hid (n = l.length) := hn
  clear hn hb hcp
  obtain ⟨i0, hi, hz0, hz1, hz2⟩ := info_parts infoX
  have hmk := fun W => run_make (P := Tryz.prog) W 64 50 i0 _ Tryz.underlying64 hi hz0 .i64 .i64 (n : Int) (n : Int) (by omega) (Int.le_refl _) (by rw [hz2]; omega) (by omega)
  simp only [hz1, Int.toNat_natCast, Value.cells, made_X _ _ rfl] at hmk
  obtain ⟨F, hF⟩ : ∃ F, F = (flatX (List.replicate n (0, 0))).toArray := ⟨_, rfl⟩
  rw [← hF] at hmk
  have HR0 : Hid (RowX (w.alloc (.cells F 50)) w.heap.size (.slice (some ⟨w.heap.size, 0, none⟩) n n) (uptoX (fun k => sr (l.getD k ruZ0)) 0 n)) := by
    rw [uptoX_zero]; exact rowX_new (by rw [← hF]; exact blk_new w _) (Nat.le_refl _) (by omega)
  have HB0 : Hid (Below w.heap.size w (w.alloc (.cells F 50))) := (Below.refl _ _).alloc (Nat.le_refl _) _
  clear hi hz0 hz1 hz2 hF
  have hmk2 := hmk w
  clear hmk
  go_enter Tryz.func37, Tryz.ntmps37
  go_wp2_with (fail)
  generalize w.alloc (.cells F 50) = w1 at *
  clear hmk2
  go_loopw [11] (fun vi wr => ∃ k : Nat, k ≤ n ∧ vi = .int .i64 (k : Int) ∧ Hid (RowX wr w.heap.size (.slice (some ⟨w.heap.size, 0, none⟩) n n) (uptoX (fun k => sr (l.getD k ruZ0)) k n)) ∧ Hid (Below w.heap.size w wr)) (fun vi _ => n - (intOf vi).toNat)
  case atStart => exact ⟨0, Nat.zero_le _, rfl, HR0.out, HB0.out⟩
  case round =>
    obtain ⟨k, hk, rfl, HR, HB⟩ := hrel
    clear HR0 HB0
    by_cases hlt : k < n
    · have hlt' : k < l.length := by rw [← Hn.out]; exact hlt
      have hlti : (k : Int) < (n : Int) := by omega
      obtain ⟨g, off, rfl, hrg⟩ := (rngU HS.out).2 wr HB.out k hlt'
      have hbd := HBd.out _ (List.getElem_mem hlt')
      obtain ⟨p, hp⟩ : ∃ p, p = l[k] := ⟨_, rfl⟩
      rw [← hp] at hrg hbd
      have hgd : l.getD k ruZ0 = p := by rw [hp]; simp [hlt']
      have hq := (okR_sr hbd.2 hbd.1).2.1
      have x0 : wr.cell? ⟨g, off + k * 12, none⟩ = some (.int .i64 p.i) := hrg 0 _ rfl
      have x1 : wr.cell? ⟨g, off + k * 12 + 1, none⟩ = some (.int .u32 (p.s : Int)) := hrg 1 _ rfl
      have x2 : wr.cell? ⟨g, off + k * 12 + 2, none⟩ = some (.int .i64 p.sl) := hrg 2 _ rfl
      have x3 : wr.cell? ⟨g, off + k * 12 + 3, none⟩ = some (.int .u32 (p.d : Int)) := hrg 3 _ rfl
      have x4 : wr.cell? ⟨g, off + k * 12 + 4, none⟩ = some (.int .i64 p.dl) := hrg 4 _ rfl
      have x5 : wr.cell? ⟨g, off + k * 12 + 5, none⟩ = some (.int .u16 (p.p.1 : Int)) := hrg 5 _ rfl
      have x6 : wr.cell? ⟨g, off + k * 12 + 6, none⟩ = some (.int .u16 (p.p.2 : Int)) := hrg 6 _ rfl
      have x7 : wr.cell? ⟨g, off + k * 12 + 7, none⟩ = some (.int .u16 (p.q.1 : Int)) := hrg 7 _ rfl
      have x8 : wr.cell? ⟨g, off + k * 12 + 8, none⟩ = some (.int .u16 (p.q.2 : Int)) := hrg 8 _ rfl
      have x9 : wr.cell? ⟨g, off + k * 12 + 9, none⟩ = some (.int .u8 (p.m.1 : Int)) := hrg 9 _ rfl
      have x10 : wr.cell? ⟨g, off + k * 12 + 10, none⟩ = some (.int .u8 (p.m.2 : Int)) := hrg 10 _ rfl
      have x11 : wr.cell? ⟨g, off + k * 12 + 11, none⟩ = some (.int .i64 p.act) := hrg 11 _ rfl
      obtain ⟨W1, hW1⟩ : ∃ W1, W1 = wr.alloc (.cells #[.int .i64 p.i, .int .u32 (p.s : Int), .int .i64 p.sl, .int .u32 (p.d : Int), .int .i64 p.dl, .int .u16 (p.p.1 : Int), .int .u16 (p.p.2 : Int), .int .u16 (p.q.1 : Int), .int .u16 (p.q.2 : Int), .int .u8 (p.m.1 : Int), .int .u8 (p.m.2 : Int), .int .i64 p.act] 54) := ⟨_, rfl⟩
      have hbW : Below wr.heap.size wr W1 := by rw [hW1]; exact (Below.refl _ _).alloc (Nat.le_refl _) _
      have HR1 : Hid (RowX W1 w.heap.size (.slice (some ⟨w.heap.size, 0, none⟩) n n) (uptoX (fun k => sr (l.getD k ruZ0)) k n)) := HR.out.on hbW
      have HB1 : Hid (Below w.heap.size w W1) := HB.out.trans (hbW.mono HB.out.size)
      have y1 : W1.cell? ⟨wr.heap.size, 1, none⟩ = some (.int .u32 (p.s : Int)) := by rw [hW1]; exact blk_cell (blk_new wr _) rfl
      have y2 : W1.cell? ⟨wr.heap.size, 2, none⟩ = some (.int .i64 p.sl) := by rw [hW1]; exact blk_cell (blk_new wr _) rfl
      have Hset : Hid ((uptoX (fun k => sr (l.getD k ruZ0)) k n).take k ++ [sr p] ++ (uptoX (fun k => sr (l.getD k ruZ0)) k n).drop (k + [sr p].length) = uptoX (fun k => sr (l.getD k ruZ0)) (k + 1) n) := by
        have := uptoX_set (fun k => sr (l.getD k ruZ0)) hlt
        simp only [hgd] at this
        exact this
      have hv : Value.agg #[.int .u32 (p.s : Int), .int .i64 p.sl] = .agg #[.int .u32 ((sr p).1 : Int), .int .i64 ((sr p).2 : Int)] := by rw [← hq]; rfl
      have Hv : Hid _ := hv
      clear hrg hbd hp hgd hq hbW HR HB hv
      subst hW1
      go_wp2_with (refine wpList_storeX rfl (.tmp 20) (.tmp 19) rfl w.heap.size w.heap.size n n _ HR1.out k hlt (sr p) rfl Hv.out ?_; intro w3 hr3 hg3)
      have HR3 : Hid (RowX w3 w.heap.size (.slice (some ⟨w.heap.size, 0, none⟩) n n) (uptoX (fun k => sr (l.getD k ruZ0)) (k + 1) n)) := by rw [Hset.out] at hr3; exact hr3
      have HB3 : Hid (Below w.heap.size w w3) := HB1.out.grown hg3 HB1.out.size (fun q hq => by injection hq with e; omega)
      clear hr3 hg3
      go_roundw
      case rel => exact ⟨k + 1, by omega, by go_num, HR3.out, HB3.out⟩
      case measure => simp [intOf]; omega
    · obtain rfl : k = n := by omega
      have hni : ¬ (k : Int) < (k : Int) := by omega
      have HR' : Hid (RowX wr w.heap.size (.slice (some ⟨w.heap.size, 0, none⟩) k k) (l.map sr)) := by
        have e : uptoX (fun j => sr (l.getD j ruZ0)) k k = l.map sr := by rw [Hn.out]; exact uptoX_all (fun j hj => by simp [hj])
        rw [← e]; exact HR.out
      clear HR
      go_wp2
      go_ret
      exact ⟨_, rfl, HR'.out, HB.out⟩
end Go.Proofs.YtcjpjofoddpfhaaGreat
