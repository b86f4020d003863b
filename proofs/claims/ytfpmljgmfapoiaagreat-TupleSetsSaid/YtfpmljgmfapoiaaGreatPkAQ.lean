/-
  PkAQ: HvL HvQ, one behind the other (tools/pack.py).
-/
import Derived.Test.YtfpmljgmfapoiaaGreatPkAP
import Derived.Laws.MakeOwn
import Derived.Test.YtfpmljgmfapoiaaGreatPkAD
/-
  The slots laid anew. Written by tools/mkHhL.py.
-/
namespace Go.Proofs.YtfpmljgmfapoiaaGreat.Hx
open Go.RowKit
set_option linter.unusedVariables false
set_option linter.unusedSimpArgs false

def slZ : SlI := ⟨0, ⟨0, 0, 0, 0, 0⟩, ⟨none, 0, 0⟩⟩
/-- A row that was just made. -/
theorem made_rowL (w : World) (m : Nat) (hm : m ≤ 4294967296) : RowL (w.alloc (.cells (madeCells #[.int .i64 0, .int .u32 0, .int .u32 0, .int .u16 0, .int .u16 0, .int .u8 0, .slice none 0 0] (m * 7)) 157)) w.heap.size (.slice (some ⟨w.heap.size, 0, none⟩) m m) (List.replicate m slZ) := by
  have hl : (List.replicate m slZ).length = m := List.length_replicate
  refine ⟨flatL_length _, .inr ⟨w.heap.size, m, _, by rw [hl], Nat.le_refl _, blk_new w _, by rw [hl]; exact Nat.le_refl _, by unfold maxLen; omega, size_madeCells _ _, ?_⟩⟩
  rw [hl]
  apply List.ext_getElem?
  intro i
  by_cases hi : i < m * 7
  · have h1 : i / 7 < (List.replicate m slZ).length := by rw [hl]; omega
    have h2 := flatL_at (List.replicate m slZ) (i / 7) h1 (i % 7) (Nat.mod_lt _ (by decide))
    rw [show i / 7 * 7 + i % 7 = i by omega, List.getElem_replicate] at h2
    rw [h2, List.getElem?_take, if_pos hi]
    have hj : i % 7 < 7 := Nat.mod_lt _ (by decide)
    simp only [madeCells, Array.toList_map, Array.toList_range, List.getElem?_map, List.getElem?_range hi, Option.map_some]
    show some ((#[.int .i64 0, .int .u32 0, .int .u32 0, .int .u16 0, .int .u16 0, .int .u8 0, .slice none 0 0] : Array Value)[i % 7]!) = _
    generalize i % 7 = j at hj
    match j, hj with
    | 0, _ => rfl
    | 1, _ => rfl
    | 2, _ => rfl
    | 3, _ => rfl
    | 4, _ => rfl
    | 5, _ => rfl
    | 6, _ => rfl
  · rw [List.getElem?_eq_none (by rw [List.length_take]; omega), List.getElem?_eq_none (by rw [flatL_length, hl]; omega)]

theorem RowL.moved {w w' : World} {t b : Nat} {u v v' : Value} {l : List SlI} (h : RowL w b u l) (m : Moved w w' t v v') (ht : u.ownBlock ≠ Option.some t) (hv : ∀ k, u.ownBlock = Option.some k → v.ownBlock ≠ Option.some k) : RowL w' b u l := by
  refine ⟨h.1, ?_⟩
  rcases h.2 with h2 | ⟨g, cap, cur, hu, hg, hh, q⟩
  · exact .inl h2
  · refine .inr ⟨g, cap, cur, hu, hg, ?_, q⟩
    rw [m.block g (blk_lt hh) (fun e => ht (by rw [hu, e]; rfl)) (hv g (by rw [hu]; rfl))]; exact hh
/-- A row that is not the table's. -/
def Or (w : World) (t : Nat) (v u : Value) (l : List SlI) : Prop := RowL w 0 u l ∧ u.ownBlock ≠ some t ∧ ∀ k, u.ownBlock = some k → v.ownBlock ≠ some k
theorem Or.moved {w w' : World} {t : Nat} {v v' u : Value} {l : List SlI} (h : Or w t v u l) (m : Moved w w' t v v') : Or w' t v' u l :=
  ⟨h.1.moved m h.2.1 h.2.2, h.2.1, fun k e e' => by
    rcases m.own k e' with q | q
    · exact h.2.2 k e q
    · have := (h.1.lt k e).2; omega⟩
theorem Moved.row {w : World} {t N : Nat} {v : Value} (o : Obj) (ht : t < w.heap.size) : Moved w ((w.alloc o).setCell ⟨t, 3, none⟩ (.slice (some ⟨w.heap.size, 0, none⟩) N N)) t v (.slice (some ⟨w.heap.size, 0, none⟩) N N) where
  os := rfl
  tape := rfl
  output := rfl
  size := by simp
  block := fun k hk h1 h2 => by rw [(only_setCell _ t 3 _).block k h1]; exact Below.heap_alloc _ _ _ hk
  own := fun k e => .inr (by simp [Value.ownBlock] at e; omega)
/-- New slots in the place of the old ones. -/
def layW (w : World) (t N : Nat) : World := ((((w.alloc (.cells (madeCells #[.int .i64 0, .int .u32 0, .int .u32 0, .int .u16 0, .int .u16 0, .int .u8 0, .slice none 0 0] (N * 7)) 157)).setCell ⟨t, 3, none⟩ (.slice (some ⟨w.heap.size, 0, none⟩) N N)).setCell ⟨t, 1, none⟩ (.int .i64 0)).setCell ⟨t, 2, none⟩ (.int .i64 0))
theorem layW_eq {w : World} {t N : Nat} (ht : t < w.heap.size) : (((w.setCell ⟨t, 3, none⟩ (.slice (some ⟨w.heap.size, 0, none⟩) N N)).setCell ⟨t, 1, none⟩ (.int .i64 0)).setCell ⟨t, 2, none⟩ (.int .i64 0)).alloc (.cells (madeCells #[.int .i64 0, .int .u32 0, .int .u32 0, .int .u16 0, .int .u16 0, .int .u8 0, .slice none 0 0] (N * 7)) 157) = layW w t N := by
  unfold layW
  rw [World.setCell_alloc_past _ _ _ _ ht, World.setCell_alloc_past _ _ _ _ (by simpa using ht), World.setCell_alloc_past _ _ _ _ (by simpa using ht)]
/-- The world, once new slots stand in the place of the old ones. -/
theorem new_row {w : World} {t : Nat} {v : Value} {M c sp N : Nat} {l : List SlI} (h : Tab w t v M c sp l) (hN : N ≤ 4294967296) :
    Tab (layW w t N) t (.slice (some ⟨w.heap.size, 0, none⟩) N N) M 0 0 (newL N slZ) ∧
    Moved w (layW w t N) t v (.slice (some ⟨w.heap.size, 0, none⟩) N N) ∧ (v.ownBlock ≠ some t → Or (layW w t N) t (.slice (some ⟨w.heap.size, 0, none⟩) N N) v l) := by
  have hlt := h.lt
  have hr := (made_rowL w N hN).base (Nat.zero_le _)
  have hb := blk_alloc h.1 (.cells (madeCells #[.int .i64 0, .int .u32 0, .int .u32 0, .int .u16 0, .int .u16 0, .int .u8 0, .slice none 0 0] (N * 7)) 157)
  have h1 := Tab.row hr (by simp [Value.ownBlock]; omega) hb
  have h2 := h1.set1 0
  have h3 := h2.1.set2 0
  refine ⟨h3.1, ((Moved.row _ hlt).trans h2.2).trans h3.2, fun hvt => ?_⟩
  have hvt' : some t ≠ v.ownBlock := fun e => hvt e.symm
  exact ⟨(((h.2.1.alloc _).put hvt' _).put hvt' _).put hvt' _, hvt, fun k e e' => by have := h.own e; simp [Value.ownBlock] at e'; omega⟩
theorem spot0 (x p : Int) (b : Bool) (w : World) : Sem.run Tryz.prog (Instr.field 153 (.agg #[.int .i64 x, .bool b, .int .i64 p]) 0) w = .ok (.int .i64 x) w := by
  simp [Instr.field, part, run_underlying Tryz.underlying153, run_underlying Tryz.underlying3, asAgg, go_sem]
set_option maxHeartbeats 4000000 in
set_option maxRecDepth 20000 in
theorem layC (t : Nat) (v : Value) (M c sp : Nat) (l0 : List SlI) (m : Hd → Option Sv) (w : World) (h : Tab w t v M c sp l0) (hi : Inv way l0 c sp) (hh : Holds l0 m) (hok : ∀ k v, m k = some v → OkH k) (hl : l0.length ≤ 4294967296) (hc : c + 1 ≤ 65536) :
    Calls Tryz.prog 105 #[.pointer (some ⟨t, 0, none⟩)] w fun e w' => e = .returned (.tuple #[]) ∧ ∃ v' l', Tab w' t v' M c c l' ∧ Inv way l' c c ∧ Holds l' m ∧ 2 * (c + 1) ≤ l'.length ∧ l'.length ≤ 8 + 4 * (c + 1) ∧ Moved w w' t v v' := by
  obtain ⟨mm, hN1, hN2, hN3, hN4⟩ := sltN_is (n := c + 1) (by omega)
  have hslt := fun W => sltC (c + 1) W (by omega)
  obtain ⟨N, hNe⟩ : ∃ N, N = sltN (c + 1) := ⟨_, rfl⟩
  rw [← hNe] at hN1 hN3 hN4
  simp only [← hNe] at hslt
  clear hNe
  have HNb : Hid (N ≤ 8 + 4 * (c + 1)) := by show _ ≤ _; omega
  obtain ⟨hnt, hnm, hno⟩ := new_row h (N := N) (by omega)
  have HL0 : Hid (Lay way l0 0 (newL N slZ) 0) := lay_zero hN1 hN2 rfl
  have HN2 : Hid (2 * (c + 1) ≤ N) := hN3
  have hN0 : N ≤ 300000 := by omega
  clear hN1 hN2 hN3 hN4
  have hlt := h.lt
  have h8 := hi.eight
  obtain ⟨g, cap, hv, hcap, hg⟩ := h.filled (by omega)
  have hgt : g ≠ t := fun e => h.2.2 (by rw [hv, e]; rfl)
  have hor : Or w t v v l0 → True := fun _ => trivial
  obtain ⟨c0, c1, c2, c3⟩ := blk4 h.1
  have f1 := blk_free h.1 1
  have f2 := blk_free h.1 2
  have f3 := blk_free h.1 3
  have HRow : Hid (RowL w 0 v l0) := h.2.1
  have HHd : Hid (Holds l0 m) := hh
  have HI0 : Hid (Inv way l0 c sp) := hi
  have HOk : Hid (∀ k v, m k = some v → OkH k) := hok
  obtain ⟨n, hn⟩ : ∃ n, n = l0.length := ⟨_, rfl⟩
  have Hn : Hid (n = l0.length) := hn
  rw [← hn] at hl hv hcap h8
  have hvt : some t ≠ v.ownBlock := by rw [hv]; simp [Value.ownBlock]; omega
  have HNT : Hid (Tab (layW w t N) t (.slice (some ⟨w.heap.size, 0, none⟩) N N) M 0 0 (newL N slZ)) := hnt
  have HNM : Hid (Moved w (layW w t N) t v (.slice (some ⟨w.heap.size, 0, none⟩) N N)) := hnm
  have HO1 : Hid (Or (layW w t N) t (.slice (some ⟨w.heap.size, 0, none⟩) N N) v l0) := hno (fun e => hvt e.symm)
  clear hnt hnm hno hor hi hh hok hn h
  obtain ⟨i0, hi, hz0, hz1, hz2⟩ := info_parts infoL
  have hmk := fun W => run_make (P := Tryz.prog) W 158 157 i0 _ Tryz.underlying158 hi hz0 .i64 .i64 (N : Int) (N : Int) (by omega) (Int.le_refl _) (by rw [hz2]; omega) (by omega)
  simp only [hz1, show ((N : Int)).toNat = N by omega] at hmk
  clear hi hz0 hz1 hz2
  have hcI : (c : Int) + 1 ≤ 65536 := by omega
  have hwc : IntKind.i64.wrap ((c : Int) + 1) = (c : Int) + 1 := by rw [IntKind.wrap_i64]; omega
  have hcn : ((c + 1 : Nat) : Int) = (c : Int) + 1 := by omega
  rw [hcn] at hslt
  go_enter Tryz.func105, Tryz.ntmps105
  go_upto_region 3 with (go_at_call 112; refine (hslt _).mono ?_; rintro e w1 ⟨rfl, hw⟩; obtain rfl := hw.symm; clear hw)
  rw [layW_eq hlt]
  have hW0 : w.heap.size < (layW w t N).heap.size := by unfold layW; simp
  generalize layW w t N = W1 at *
  clear c0 c1 c2 c3 f1 f2 f3 hslt hmk
  subst hv
  obtain ⟨v0, hv0⟩ : ∃ v0, v0 = Value.slice (some ⟨g, 0, none⟩) n cap := ⟨_, rfl⟩
  have HV0 : Hid (v0 = Value.slice (some ⟨g, 0, none⟩) n cap) := hv0
  have HNM' : Hid (Moved w W1 t v0 (.slice (some ⟨w.heap.size, 0, none⟩) N N)) := by rw [hv0]; exact HNM.out
  have HO1' : Hid (Or W1 t (.slice (some ⟨w.heap.size, 0, none⟩) N N) v0 l0) := by rw [hv0]; exact HO1.out
  clear HNM HO1 hv0 HRow
  go_wp2_with (fail)
  go_loopw [27] (fun vi wr => ∃ (i c' : Nat) (l : List SlI), i ≤ n ∧ vi = .int .i64 i ∧ Hid (Tab wr t (.slice (some ⟨w.heap.size, 0, none⟩) N N) M c' c' l) ∧ Hid (Lay way l0 i l c') ∧ Hid (l.length = N) ∧ Hid (Or wr t (.slice (some ⟨w.heap.size, 0, none⟩) N N) v0 l0) ∧ Hid (Moved w wr t v0 (.slice (some ⟨w.heap.size, 0, none⟩) N N))) (fun vi _ => n - (intOf vi).toNat)
  case atStart => exact ⟨0, 0, _, Nat.zero_le _, rfl, HNT.out, HL0.out, (by show (newL N slZ).length = N; unfold newL; exact List.length_replicate), HO1'.out, HNM'.out⟩
  case round =>
    obtain ⟨i, c, l, hi, rfl, HT, HL, HLN, HO, HM⟩ := hrel
    by_cases hlt' : i < n
    · obtain ⟨s, hs⟩ : ∃ s, l0[i]? = some s := ⟨_, List.getElem?_eq_getElem (by rw [← Hn.out]; exact hlt')⟩
      have hrow := HO.out.1
      rw [HV0.out] at hrow
      obtain ⟨d0, d1, d2, d3, d4, d5, d6⟩ := rowL_at hrow hs
      clear hrow
      have hix : (i : Int) < (n : Int) := by omega
      have hix2 : ¬ n ≤ i := by omega
      have Hs1 : Hid (l0[i]? = some s) := hs
      clear hs
      have hZZ := blk_new wr (.cells #[.int .i64 0, .int .u32 0, .int .u32 0, .int .u16 0, .int .u16 0, .int .u8 0, .slice none 0 0] 157)
      have hltr := HT.out.lt
      have hgr : w.heap.size < wr.heap.size := HT.out.own (by rfl)
      have hgx : g < wr.heap.size := World.block_lt_of_cell? _ _ d0
      have hgx2 : ¬ g = wr.heap.size := by omega
      go_upto_region 6 with (refine wpList_store_blk rfl 157 (.tmp 4) (.tmp 30) rfl wr.heap.size 0 #[.int .i64 s.st, .int .u32 s.k.s, .int .u32 s.k.d, .int .u16 s.k.p, .int .u16 s.k.q, .int .u8 s.k.r, .slice s.v.ad s.v.n s.v.cap] #[.int .i64 s.st, .int .u32 s.k.s, .int .u32 s.k.d, .int .u16 s.k.p, .int .u16 s.k.q, .int .u8 s.k.r, .slice s.v.ad s.v.n s.v.cap] rfl rfl 157 _ hZZ (Nat.le_of_ble_eq_true rfl) rfl (by kernel_rfl) rfl ?_; intro w2 hw2 how2)
      simp only [nrm]
      have b2 : Below wr.heap.size wr w2 := ((Below.refl _ _).alloc (Nat.le_refl _) _).trans (how2.below (Nat.le_refl _))
      have HT3 : Hid (Tab w2 t (.slice (some ⟨w.heap.size, 0, none⟩) N N) M c c l) := HT.out.on b2
      have HO3 : Hid (Or w2 t (.slice (some ⟨w.heap.size, 0, none⟩) N N) v0 l0) := HO.out.moved (Moved.of_below b2)
      have HM3 : Hid (Moved w w2 t v0 (.slice (some ⟨w.heap.size, 0, none⟩) N N)) := HM.out.trans (Moved.of_below b2)
      have HBX : Hid (w2.heap[wr.heap.size]? = some (.cells #[.int .i64 s.st, .int .u32 s.k.s, .int .u32 s.k.d, .int .u16 s.k.p, .int .u16 s.k.q, .int .u8 s.k.r, .slice s.v.ad s.v.n s.v.cap] 157)) := hw2
      have e0 : w2.cell? ⟨wr.heap.size, 0, none⟩ = some (.int .i64 s.st) := blk_cell hw2 rfl
      have hlt0 : t < wr.heap.size := hltr
      have hcw : c ≤ 65536 := by have := HL.out.le HI0.out; omega
      clear d0 d1 d2 d3 d4 d5 d6 hZZ hw2 how2 b2 HT HO HM hgx hgx2
      by_cases hst1 : s.st = 1
      · have Hs : Hid (l0[i]? = some s ∧ s.st = 1) := ⟨Hs1.out, hst1⟩
        have HOs : Hid (OkH s.k) := HOk.out s.k s.v ((HHd.out s.k s.v).1 ⟨i, s, Hs1.out, hst1, rfl, rfl⟩)
        rw [hst1] at e0
        clear Hs1 hst1
        go_upto_region 7 with (fail)
        clear e0
        refine wp_region_held_drew (S := fun w' => w'.heap[wr.heap.size]? = some (.cells #[.int .i64 s.st, .int .u32 s.k.s, .int .u32 s.k.d, .int .u16 s.k.p, .int .u16 s.k.q, .int .u8 s.k.r, .slice s.v.ad s.v.n s.v.cap] 157)) (by kernel_rfl) HBX.out (fun hS1 => ?_)
        show wpAnyH _ _ _ _ _ 11 _ _ _
        refine wpTk (i := 0) (v := .pointer (some ⟨t, 0, none⟩)) hS1 ?_
        simp only [nrm]
        refine wpTk (i := 1) (v := .pointer (some ⟨t, 0, none⟩)) hS1 ?_
        simp only [nrm]
        refine wpTk (i := 2) (v := .pointer (some ⟨wr.heap.size, 1, none⟩)) hS1 ?_
        simp only [nrm]
        refine wpAnyH_take (i := 3) (v := .agg #[.int .u32 ((s.k).s : Int), .int .u32 ((s.k).d : Int), .int .u16 ((s.k).p : Int), .int .u16 ((s.k).q : Int), .int .u8 ((s.k).r : Int)]) rfl (by kernel_rfl) (by kernel_rfl) (by kernel_rfl) (fun _ _ _ h => h) (yieldsIf_load_mid rfl 54 (.tmp 36) rfl wr.heap.size 1 rfl [.int .u32 s.k.s, .int .u32 s.k.d, .int .u16 s.k.p, .int .u16 s.k.q, .int .u8 s.k.r] _ (fun w' hw' => by have := World.rangeAt_of_block hw' 1 5; simpa using this) Tryz.underlying54 rfl (by kernel_rfl)) hS1 ?_
        simp only [nrm]
        refine wpTk (i := 6) (v := .pointer (some ⟨wr.heap.size, 1, none⟩)) hS1 ?_
        simp only [nrm]
        refine wpAnyH_take (i := 7) (v := .agg #[.int .u32 ((s.k).s : Int), .int .u32 ((s.k).d : Int), .int .u16 ((s.k).p : Int), .int .u16 ((s.k).q : Int), .int .u8 ((s.k).r : Int)]) rfl (by kernel_rfl) (by kernel_rfl) (by kernel_rfl) (fun _ _ _ h => h) (yieldsIf_load_mid rfl 54 (.tmp 40) rfl wr.heap.size 1 rfl [.int .u32 s.k.s, .int .u32 s.k.d, .int .u16 s.k.p, .int .u16 s.k.q, .int .u8 s.k.r] _ (fun w' hw' => by have := World.rangeAt_of_block hw' 1 5; simpa using this) Tryz.underlying54 rfl (by kernel_rfl)) hS1 ?_
        simp only [nrm]
        refine wpTk (i := 8) (v := .pointer (some ⟨wr.heap.size, 6, none⟩)) hS1 ?_
        simp only [nrm]
        refine wpAnyH_take (i := 9) (v := .slice s.v.ad s.v.n s.v.cap) rfl (by kernel_rfl) (by kernel_rfl) (by kernel_rfl) (fun _ _ _ h => h) (.inl ⟨rfl, fun w' hw' => by have hcc := blk_cell (j := 6) hw' rfl; simp [execOp, go_sem, hcc]⟩) hS1 ?_
        simp only [nrm]
        refine wpO 4 (fun K' hK' => ?_)
        go_wp2_with (go_at_call 68; refine (seekC t _ M c c l s.k _ HT3.out.drew HL.out.inv (by rw [HLN.out]; omega) HOs.out).mono ?_; rintro e w4 ⟨x, b, p, rfl, hf, hb4⟩)
        have hS4 := blk_on hS1 hb4
        refine ⟨hS4, ?_⟩
        refine wpAnyH_take (i := 5) (v := .int .i64 x) rfl (by kernel_rfl) (by kernel_rfl) (by kernel_rfl) (fun _ _ _ h => h) (.inl ⟨rfl, fun _ _ => by simp [execOp, go_sem, spot0]⟩) hS4 ?_
        simp only [nrm]
        refine wpO 10 (fun K' hK' => ?_)
        have hbf : b = false := by
          cases b with
          | false => rfl
          | true =>
            obtain ⟨s2, e2, e3, e4⟩ := hf.2.2.2.1 rfl
            exact absurd ((HL.out.has s.k s2.v).1 ⟨x, s2, e2, e3, e4, rfl⟩) (HI0.out.fresh Hs.out.1 Hs.out.2 _)
        have hmay := hf.2.2.2.2.1 hbf
        obtain ⟨a, ha⟩ : ∃ a, l[x]? = some a := ⟨_, List.getElem?_eq_getElem hf.1⟩
        have hcc := HL.out.lt HI0.out Hs.out.1 Hs.out.2
        have hlay := HL.out.fill HI0.out Hs.out.1 Hs.out.2 hmay ha (by rw [HLN.out]; have := HN2.out; omega)
        have hst : a.st = 0 := HL.out.inv.noleft ha (by obtain ⟨_, q, a2, _, h2, h3, _⟩ := hmay; rw [ha] at h2; cases h2; exact h3)
        have HT4 : Hid (Tab w4 t (.slice (some ⟨w.heap.size, 0, none⟩) N N) M c c l) := HT3.out.drew.on hb4
        go_wp2_with (go_at_call 106; refine (fillC t _ M c c x l s.k s.v a _ HT4.out (by rw [HLN.out]; omega) (by omega) (by omega) ha).mono ?_; rintro e w5 ⟨rfl, hT5, hM5⟩)
        rw [if_pos hst] at hT5
        refine ⟨?_, ?_⟩
        · have := hM5.block wr.heap.size (blk_lt hS4) (by have := HT4.out.lt; have := hlt0; omega) (by simp [Value.ownBlock]; omega)
          rw [this]; exact hS4
        · refine wpAnyH_done (by kernel_rfl) ?_ _
          have HT5 : Hid (Tab w5 t (.slice (some ⟨w.heap.size, 0, none⟩) N N) M (c + 1) (c + 1) (l.set x ⟨1, s.k, s.v⟩)) := hT5
          have HM5 : Hid (Moved w w5 t v0 (.slice (some ⟨w.heap.size, 0, none⟩) N N)) := (HM3.out.trans (Moved.of_below (Below.drew (Below.refl _ _)))).trans ((Moved.of_below hb4).trans hM5)
          have HO5 : Hid (Or w5 t (.slice (some ⟨w.heap.size, 0, none⟩) N N) v0 l0) := (HO3.out.moved (Moved.of_below (Below.drew (Below.refl _ _)))).moved ((Moved.of_below hb4).trans hM5)
          have HL5 : Hid (Lay way l0 (i + 1) (l.set x ⟨1, s.k, s.v⟩) (c + 1)) := hlay
          clear hT5 hM5 hlay hmay ha hst hcc hf hb4 hS1 hS4 HT4 HT3 HM3 HO3
          go_wp2_with (fail)
          go_roundw
          case rel => exact ⟨i + 1, c + 1, _, by omega, by go_num, HT5.out, HL5.out, by show _ = _; rw [List.length_set]; exact HLN.out, HO5.out, HM5.out⟩
          case measure => simp [intOf]; omega
      · have HL5 : Hid (Lay way l0 (i + 1) l c) := HL.out.skip Hs1.out hst1
        obtain ⟨st, hst⟩ : ∃ st, st = s.st := ⟨_, rfl⟩
        rw [← hst] at e0 hst1
        have hst2 : ¬ (st : Int) = 1 := by omega
        clear hst hst1
        have hst3 : ((st : Int) == 1) = false := by simpa using hst2
        go_upto_region 8 with (fail)
        go_wp2_with (fail)
        go_roundw
        case rel => exact ⟨i + 1, c, l, by omega, by go_num, HT3.out, HL5.out, HLN.out, HO3.out, HM3.out⟩
        case measure => simp [intOf]; omega
    · obtain rfl : i = n := by omega
      have hni : ¬ (i : Int) < (i : Int) := by omega
      have hall := HL.out
      rw [Hn.out] at hall
      obtain ⟨hc1, hc2⟩ := hall.all HI0.out HHd.out
      have HI5 := HL.out.inv
      subst hc1
      have HX : Hid (Tab wr t (.slice (some ⟨w.heap.size, 0, none⟩) N N) M c c l ∧ Inv way l c c ∧ Holds l m ∧ 2 * (c + 1) ≤ l.length ∧ l.length ≤ 8 + 4 * (c + 1)) := ⟨HT.out, HI5, hc2, by rw [HLN.out]; exact HN2.out, by rw [HLN.out]; exact HNb.out⟩
      clear hall hc2 HI5
      go_wp2_with (fail)
      go_end0
      refine ⟨rfl, _, l, HX.out.1, HX.out.2.1, HX.out.2.2.1, HX.out.2.2.2.1, HX.out.2.2.2.2, ?_⟩
      have := HM.out
      rw [HV0.out] at this
      exact this
end Go.Proofs.YtfpmljgmfapoiaaGreat.Hx
/-
  A table that holds a map: Get, Delete, Len, Slots, Probes. Written by tools/mkHhP.py.
-/
namespace Go.Proofs.YtfpmljgmfapoiaaGreat.Hx
open Go.RowKit
set_option linter.unusedVariables false
set_option linter.unusedSimpArgs false

/-- The table in block t holds the map m: M entries there may be, c are, P were at most. -/
def Tb (w : World) (t : Nat) (v : Value) (M c P : Nat) (m : Hd → Option Sv) : Prop :=
  ∃ (sp : Nat) (l : List SlI), Tab w t v M c sp l ∧ Inv way l c sp ∧ Holds l m ∧ (∀ k v, m k = some v → OkH k) ∧ l.length ≤ 8 + 4 * P ∧ c ≤ P ∧ P ≤ M ∧ M ≤ 65536
theorem Tb.on {w w1 : World} {t : Nat} {v : Value} {M c P : Nat} {m : Hd → Option Sv} (h : Tb w t v M c P m) (hb : Below w.heap.size w w1) : Tb w1 t v M c P m := by
  obtain ⟨sp, l, h1, h2⟩ := h
  exact ⟨sp, l, h1.on hb, h2⟩
theorem Tb.lt {w : World} {t : Nat} {v : Value} {M c P : Nat} {m : Hd → Option Sv} (h : Tb w t v M c P m) : t < w.heap.size := by
  obtain ⟨sp, l, h1, h2⟩ := h
  exact h1.lt
theorem Tb.own {w : World} {t : Nat} {v : Value} {M c P : Nat} {m : Hd → Option Sv} (h : Tb w t v M c P m) : ∀ k, v.ownBlock = some k → k < w.heap.size := by
  obtain ⟨sp, l, h1, h2⟩ := h
  exact fun k e => h1.own e
/-- What a search of a table says of the map. -/
theorem found_map {l : List SlI} {c sp x p : Nat} {b : Bool} {k : Hd} {m : Hd → Option Sv} (hi : Inv way l c sp) (hh : Holds l m) (hf : Found l k x b p) : b = (m k).isSome ∧ (b = true → ∃ s, l[x]? = some s ∧ s.st = 1 ∧ s.k = k ∧ m k = some s.v) ∧ (b = false → m k = none ∧ May way l k x) := by
  cases b with
  | true =>
    obtain ⟨s, h1, h2, h3⟩ := hf.2.2.2.1 rfl
    have h4 := (hh k s.v).1 ⟨x, s, h1, h2, h3, rfl⟩
    exact ⟨by rw [h4]; rfl, fun _ => ⟨s, h1, h2, h3, h4⟩, fun e => by cases e⟩
  | false =>
    have h1 := hf.2.2.2.2.1 rfl
    have h2 := hh.none h1.1
    exact ⟨by rw [h2]; rfl, fun e => (by cases e), fun _ => ⟨h2, h1⟩⟩
theorem spot2 (x p : Int) (b : Bool) (w : World) : Sem.run Tryz.prog (Instr.field 153 (.agg #[.int .i64 x, .bool b, .int .i64 p]) 2) w = .ok (.int .i64 p) w := by
  simp [Instr.field, part, run_underlying Tryz.underlying153, run_underlying Tryz.underlying3, asAgg, go_sem]
set_option maxHeartbeats 1000000 in
theorem probesC (t : Nat) (v : Value) (M c sp : Nat) (l : List SlI) (k : Hd) (w : World) (h : Tab w t v M c sp l) (hi : Inv way l c sp) (hl : l.length ≤ 4294967296) (o : OkH k) :
    Calls Tryz.prog 52 #[.pointer (some ⟨t, 0, none⟩), .agg #[.int .u32 k.s, .int .u32 k.d, .int .u16 k.p, .int .u16 k.q, .int .u8 k.r]] w fun e w' => ∃ p : Nat, e = .returned (.int .i64 p) ∧ 1 ≤ p ∧ p < l.length ∧ Prb l k p ∧ Below w.heap.size w w' := by
  have hs := seekC t v M c sp l k _ (h.on ((Below.refl _ _).alloc (Nat.le_refl _) (.cells #[.int .u32 k.s, .int .u32 k.d, .int .u16 k.p, .int .u16 k.q, .int .u8 k.r] 54))) hi hl o
  clear h hi hl o
  go_enter Tryz.func52, Tryz.ntmps52
  go_wp2_with (fail)
  refine hs.mono ?_
  rintro e w1 ⟨x, b, p, rfl, hf, hb⟩
  have HF : Hid (Found l k x b p) := hf
  have HB : Hid (Below w.heap.size w w1) := ((Below.refl _ _).alloc (Nat.le_refl _) _).trans (hb.mono (by simp))
  clear hf hb hs
  have hsp := fun W => spot2 x p b W
  go_wp2
  go_ret
  exact ⟨p, rfl, HF.out.2.1, HF.out.2.2.1, HF.out.2.2.2.2.2, HB.out⟩
set_option maxHeartbeats 4000000 in
set_option maxRecDepth 20000 in
theorem getC (t : Nat) (v : Value) (M c P : Nat) (m : Hd → Option Sv) (k : Hd) (w : World) (ht : Tb w t v M c P m) (o : OkH k) :
    Calls Tryz.prog 51 #[.pointer (some ⟨t, 0, none⟩), .agg #[.int .u32 k.s, .int .u32 k.d, .int .u16 k.p, .int .u16 k.q, .int .u8 k.r]] w fun e w' => e = .returned (.tuple #[.slice ((m k).getD svZ).ad ((m k).getD svZ).n ((m k).getD svZ).cap, .bool (m k).isSome]) ∧ Below w.heap.size w w' := by
  obtain ⟨sp, l, h, hi, hh, hok, hl, hcP, hPM, hM⟩ := ht
  have h1 := h.on ((Below.refl _ _).alloc (Nat.le_refl _) (.cells #[.int .u32 k.s, .int .u32 k.d, .int .u16 k.p, .int .u16 k.q, .int .u8 k.r] 54))
  have hlt := h.lt
  have hs := seekC t v M c sp l k _ h1 hi (by omega) o
  have HK1 : Hid (Kb (w.alloc (.cells #[.int .u32 k.s, .int .u32 k.d, .int .u16 k.p, .int .u16 k.q, .int .u8 k.r] 54)) t v w.heap.size (.cells #[.int .u32 k.s, .int .u32 k.d, .int .u16 k.p, .int .u16 k.q, .int .u8 k.r] 54)) := ⟨blk_new w _, by omega, fun e => by have := h.own e; omega⟩
  have HT1 : Hid (Tab (w.alloc (.cells #[.int .u32 k.s, .int .u32 k.d, .int .u16 k.p, .int .u16 k.q, .int .u8 k.r] 54)) t v M c sp l) := h1
  have HM1 : Hid (Moved w (w.alloc (.cells #[.int .u32 k.s, .int .u32 k.d, .int .u16 k.p, .int .u16 k.q, .int .u8 k.r] 54)) t v v) := Moved.of_below ((Below.refl _ _).alloc (Nat.le_refl _) _)
  have HB1 : Hid (Below w.heap.size w (w.alloc (.cells #[.int .u32 k.s, .int .u32 k.d, .int .u16 k.p, .int .u16 k.q, .int .u8 k.r] 54))) := (Below.refl _ _).alloc (Nat.le_refl _) _
  have HI : Hid (Inv way l c sp) := hi
  have HH : Hid (Holds l m) := hh
  obtain ⟨k0, k1, k2, k3, k4⟩ := blk5 HK1.out.1
  have hW1 : w.heap.size < (w.alloc (.cells #[.int .u32 k.s, .int .u32 k.d, .int .u16 k.p, .int .u16 k.q, .int .u8 k.r] 54)).heap.size := by simp
  clear h h1 hi hh
  go_enter Tryz.func51, Tryz.ntmps51
  go_upto_region 4 with (fail)
  generalize w.alloc (.cells #[.int .u32 k.s, .int .u32 k.d, .int .u16 k.p, .int .u16 k.q, .int .u8 k.r] 54) = W1 at *
  go_wp2_with (fail)
  refine hs.mono ?_
  rintro e w2 ⟨x, b, p, rfl, hf, hb2⟩
  have hz2 := hb2.size
  have HMAP : Hid _ := found_map HI.out HH.out hf
  have hxl := hf.1
  clear k0 k1 k2 k3 k4 hs
  go_upto_region 5 with (fail)
  have hw3 := blk_new w2 (.cells #[.int .i64 x, .bool b, .int .i64 p] 153)
  have b3 : Below W1.heap.size W1 (w2.alloc (.cells #[.int .i64 x, .bool b, .int .i64 p] 153)) := hb2.trans ((Below.refl _ _).alloc hz2 _)
  generalize w2.alloc (.cells #[.int .i64 x, .bool b, .int .i64 p] 153) = w3 at *
  have HT3 : Hid (Tab w3 t v M c sp l) := HT1.out.on b3
  have HK3 : Hid (Kb w3 t v w.heap.size (.cells #[.int .u32 k.s, .int .u32 k.d, .int .u16 k.p, .int .u16 k.q, .int .u8 k.r] 54)) := HK1.out.on b3
  have HM3 : Hid (Moved w w3 t v v) := HM1.out.trans (Moved.of_below b3)
  have HB3 : Hid (Below w.heap.size w w3) := HB1.out.trans (b3.mono (by omega))
  have HS3 : Hid (Kb w3 t v w2.heap.size (.cells #[.int .i64 x, .bool b, .int .i64 p] 153)) := ⟨hw3, by have := HT1.out.lt; omega, fun e => by have := HT1.out.own e; omega⟩
  obtain ⟨s0, s1, s2⟩ := blk3 HS3.out.1
  clear hw3 hb2 b3 HT1 HK1 HM1 HB1 hf
  obtain ⟨hb, hm1, hm2⟩ := HMAP.out
  clear HMAP hb
  cases b with
  | false =>
    obtain ⟨hno, _⟩ := hm2 rfl
    have Hno : Hid (m k = none) := hno
    clear hm1 hm2 hno
    go_wp2_with (fail)
    go_ret2
    rw [Hno.out]
    exact ⟨rfl, HB3.out⟩
  | true =>
    obtain ⟨s, hs1, hs2, hs3, hs4⟩ := hm1 rfl
    have Hs4 : Hid (m k = some s.v) := hs4
    obtain ⟨g, cap, hv, hcap, hg⟩ := HT3.out.filled (by omega)
    subst hv
    obtain ⟨c0, c1, c2, c3⟩ := blk4 HT3.out.1
    obtain ⟨_, _, _, _, _, _, d6⟩ := rowL_at HT3.out.2.1 hs1
    obtain ⟨n, hn⟩ : ∃ n, n = l.length := ⟨_, rfl⟩
    rw [← hn] at c3 hxl hcap hl
    have hn0 : (n : Int) ≤ 300000 := by omega
    have hix : (x : Int) < (n : Int) := by omega
    have hix2 : ¬ n ≤ x := by omega
    clear hm1 hm2 hn HT3 hs1 hs2 hs3 hs4 HS3 HM3 HK3
    go_upto_region 7 with (fail)
    go_quiet (fail)
    go_wp2
    go_ret2
    rw [Hs4.out]
    exact ⟨rfl, bel_drewN HB3.out _⟩
end Go.Proofs.YtfpmljgmfapoiaaGreat.Hx
