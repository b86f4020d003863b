/-
  What a table holds, by rising headers: rising.
-/
import Derived.Test.YthfjdoenofkghaaHhR
import Derived.Test.YthfjdoenofkghaaHhE
namespace Go.Proofs.Ythfjdoenofkghaa
open Go.RowKit Go.Shelf Go.Sort Go.Lib
set_option linter.unusedVariables false
set_option linter.unusedSimpArgs false

def heldB (s : SlI) : Bool := s.st == 1
theorem held_pair {l : List SlI} {c sp : Nat} (hi : Inv way l c sp) : (l.filter heldB).Pairwise (fun a b => a.k ≠ b.k) := by
  have h : l.Pairwise (fun a b => a.st = 1 → b.st = 1 → a.k ≠ b.k) := by
    rw [List.pairwise_iff_getElem]
    intro i j h1 h2 hij e1 e2 e3
    have := hi.one (List.getElem?_eq_getElem h1) (List.getElem?_eq_getElem h2) e1 e2 e3
    omega
  have h2 := h.filter heldB
  refine h2.imp_of_mem ?_
  intro a b ha hb hab
  have h3 := (List.mem_filter.1 ha).2
  have h4 := (List.mem_filter.1 hb).2
  unfold heldB at h3 h4
  exact hab (by simpa using h3) (by simpa using h4)
/-- A list of entries by rising headers. -/
def Srt (D : List Ey) : Prop := D.Pairwise (fun a b => val a.k < val b.k)
/-- The list tells the map. -/
structure Tells (m : Hd → Option Int) (D : List Ey) : Prop where
  srt : Srt D
  ok : ∀ x ∈ D, OkH x.k
  mem : ∀ x : Ey, x ∈ D ↔ m x.k = some x.v
theorem srt_uniq : ∀ {u v : List Ey}, Srt u → Srt v → (∀ x, x ∈ u ↔ x ∈ v) → u = v
  | [], [], _, _, _ => rfl
  | [], y :: v, _, _, h => absurd ((h y).2 (List.mem_cons_self ..)) (by simp)
  | x :: u, [], _, _, h => absurd ((h x).1 (List.mem_cons_self ..)) (by simp)
  | x :: u, y :: v, hu, hv, h => by
    have hu' := List.pairwise_cons.1 hu
    have hv' := List.pairwise_cons.1 hv
    have exy : x = y := by
      rcases List.mem_cons.1 ((h x).1 (List.mem_cons_self ..)) with e | e
      · exact e
      · rcases List.mem_cons.1 ((h y).2 (List.mem_cons_self ..)) with e' | e'
        · exact e'.symm
        · have a := hu'.1 _ e'
          have b := hv'.1 _ e
          omega
    subst exy
    have : u = v := srt_uniq hu'.2 hv'.2 (fun z => by
      constructor
      · intro hz
        rcases List.mem_cons.1 ((h z).1 (List.mem_cons_of_mem _ hz)) with e | e
        · subst e; have := hu'.1 _ hz; omega
        · exact e
      · intro hz
        rcases List.mem_cons.1 ((h z).2 (List.mem_cons_of_mem _ hz)) with e | e
        · subst e; have := hv'.1 _ hz; omega
        · exact e)
    rw [this]
theorem Tells.uniq {m : Hd → Option Int} {D E : List Ey} (h : Tells m D) (g : Tells m E) : D = E := srt_uniq h.srt g.srt (fun x => by rw [h.mem, g.mem])
def eyOf (s : SlI) : Ey := ⟨s.k, s.v⟩
theorem rise_tells [Inhabited SlO] {l : List SlI} {c sp : Nat} {m : Hd → Option Int} {lo : List SlO} {d : Array SlO} (hi : Inv way l c sp) (hh : Holds l m) (hlo : lo.map (·.1) = l.filter heldB) (hp : d.toList.Perm lo) (hs : ∀ i j, i < j → j < d.size → ¬ val d[j]!.1.k < val d[i]!.1.k) :
    Tells m ((d.toList.map (·.1)).map eyOf) ∧ d.toList.length = c := by
  have hpm : (d.toList.map (·.1)).Perm (l.filter heldB) := by rw [← hlo]; exact hp.map _
  have hpw : (d.toList.map (·.1)).Pairwise (fun a b => a.k ≠ b.k) := (hpm.pairwise_iff (fun h e => h e.symm)).2 (held_pair hi)
  have hpw2 : d.toList.Pairwise (fun a b : SlO => a.1.k ≠ b.1.k) := by rw [List.pairwise_map] at hpw; exact hpw
  have hps : d.toList.Pairwise (fun a b : SlO => val a.1.k < val b.1.k) := by
    rw [List.pairwise_iff_getElem] at hpw2 ⊢
    intro i j h1 h2 hij
    have h3 := hs i j hij (by simpa using h2)
    rw [getElem!_pos d j (by simpa using h2), getElem!_pos d i (by simpa using h1)] at h3
    have h4 := hpw2 i j h1 h2 hij
    simp only [Array.getElem_toList] at h4 ⊢
    have h5 : val d[i].1.k ≠ val d[j].1.k := fun e => h4 (val_inj d[i].2 d[j].2 e)
    omega
  refine ⟨⟨?_, ?_, ?_⟩, ?_⟩
  · unfold Srt
    rw [List.map_map, List.pairwise_map]
    exact hps
  · intro x hx
    obtain ⟨s, hs1, rfl⟩ := List.mem_map.1 hx
    obtain ⟨y, hy, rfl⟩ := List.mem_map.1 hs1
    exact y.2
  · intro x
    rw [← hh x.k x.v]
    constructor
    · intro hx
      obtain ⟨s, hs1, rfl⟩ := List.mem_map.1 hx
      have h2 := (List.mem_filter.1 (hpm.mem_iff.1 hs1))
      obtain ⟨j, hj⟩ := List.getElem?_of_mem h2.1
      exact ⟨j, s, hj, by have := h2.2; unfold heldB at this; simpa using this, rfl, rfl⟩
    · rintro ⟨j, s, hj, h1, h2, h3⟩
      refine List.mem_map.2 ⟨s, hpm.mem_iff.2 (List.mem_filter.2 ⟨List.mem_of_getElem? hj, by unfold heldB; simpa using h1⟩), ?_⟩
      unfold eyOf; rw [h2, h3]
  · have h1 := hpm.length_eq
    rw [List.length_map] at h1
    rw [h1, hi.cn, List.countP_eq_length_filter]
    rfl
theorem filter_take {l : List SlI} {i : Nat} {s : SlI} (hs : l[i]? = some s) : (l.take (i + 1)).filter heldB = (l.take i).filter heldB ++ (if s.st = 1 then [s] else []) := by
  rw [List.take_add_one, hs, List.filter_append]
  unfold heldB
  by_cases h : s.st = 1
  · simp [h]
  · simp [h]
theorem blk7 {w : World} {B : Nat} {v0 v1 v2 v3 v4 v5 v6 : Value} {t : TypeId} {fr : Nat × Nat} (h : w.heap[B]? = some (.cells #[v0, v1, v2, v3, v4, v5, v6] t fr)) : w.cell? ⟨B, 0, none⟩ = some v0 ∧ w.cell? ⟨B, 1, none⟩ = some v1 ∧ w.cell? ⟨B, 2, none⟩ = some v2 ∧ w.cell? ⟨B, 3, none⟩ = some v3 ∧ w.cell? ⟨B, 4, none⟩ = some v4 ∧ w.cell? ⟨B, 5, none⟩ = some v5 ∧ w.cell? ⟨B, 6, none⟩ = some v6 := ⟨blk_cell h rfl, blk_cell h rfl, blk_cell h rfl, blk_cell h rfl, blk_cell h rfl, blk_cell h rfl, blk_cell h rfl⟩
theorem Tab.grown {w w' : World} {t : Nat} {v : Value} {M c sp : Nat} {l : List SlI} {r : Option Nat} (h : Tab w t v M c sp l) (hg : w.grownBy w' r) (h1 : r ≠ some t) (h2 : ∀ k, v.ownBlock = some k → r ≠ some k) : Tab w' t v M c sp l := by
  refine ⟨by rw [hg.block t h.lt (fun e => h1 e.symm)]; exact h.1, ⟨h.2.1.1, ?_⟩, h.2.2⟩
  rcases h.2.1.2 with h3 | ⟨g, cap, cur, hv, hgg, hh, q⟩
  · exact .inl h3
  · exact .inr ⟨g, cap, cur, hv, hgg, by rw [hg.block g (blk_lt hh) (fun e => h2 g (by rw [hv]; rfl) e.symm)]; exact hh, q⟩
theorem run_make0 (w : World) (c : Nat) (hc : c ≤ 65536) : ∃ W, (∀ V : World, V = w → (Instr.makeSlice 60 (.int .i64 0) (.int .i64 (c : Int))).run Try.prog V = .ok (.slice (some ⟨w.heap.size, 0, none⟩) 0 c) W) ∧ RowL W w.heap.size (.slice (some ⟨w.heap.size, 0, none⟩) 0 c) [] ∧ Below w.heap.size w W := by
  obtain ⟨i0, hi, hz0, hz1, hz2⟩ := info_parts infoL
  have hmk := run_make (P := Try.prog) w 60 72 i0 _ Try.underlying60 hi hz0 .i64 .i64 (0 : Int) (c : Int) (by omega) (by omega) (by rw [hz2]; omega) (by omega)
  simp only [hz1, show ((0 : Int)).toNat = 0 from rfl, show ((c : Int)).toNat = c by omega] at hmk
  refine ⟨_, fun V e => by rw [e]; exact hmk, ⟨rfl, .inr ⟨w.heap.size, c, _, rfl, Nat.le_refl _, blk_new w _, Nat.zero_le _, by unfold maxLen; omega, size_madeCells _ _, by simp [flatL]⟩⟩, (Below.refl _ _).alloc (Nat.le_refl _) _⟩
theorem rowL_ptr {w : World} {b : Nat} {v : Value} {l : List SlI} (h : RowL w b v l) (hv : v.ownBlock ≠ none) : ∃ g cap, v = .slice (some ⟨g, 0, none⟩) l.length cap ∧ b ≤ g ∧ g < w.heap.size := by
  rcases h.2 with ⟨e, _⟩ | ⟨g, cap, cur, e, hb, hg, _⟩
  · rw [e] at hv; exact absurd rfl hv
  · exact ⟨g, cap, e, hb, blk_lt hg⟩
theorem slo_list {l : List SlI} (h : ∀ s ∈ l, OkH s.k) : ∃ lo : List SlO, lo.map (·.1) = l := by
  induction l with
  | nil => exact ⟨[], rfl⟩
  | cons s l ih =>
    obtain ⟨lo, e⟩ := ih (fun x hx => h x (List.mem_cons_of_mem _ hx))
    exact ⟨⟨s, h s (List.mem_cons_self ..)⟩ :: lo, by rw [List.map_cons, e]⟩
set_option maxHeartbeats 4000000 in
set_option maxRecDepth 20000 in
theorem risingC (t : Nat) (v : Value) (M c P : Nat) (m : Hd → Option Int) (w : World) (ht : Tb w t v M c P m) :
    Calls Try.prog 29 #[.pointer (some ⟨t, 0, none⟩)] w fun e w' => ∃ (g cap : Nat) (r : List SlI), e = .returned (.slice (some ⟨g, 0, none⟩) r.length cap) ∧ RowL w' w.heap.size (.slice (some ⟨g, 0, none⟩) r.length cap) r ∧ Tells m (r.map eyOf) ∧ r.length = c ∧ Below w.heap.size w w' := by
  haveI : Inhabited SlO := ⟨slO⟩
  obtain ⟨sp, l, h, hi, hh, hok, hl, hcP, hPM, hM⟩ := ht
  obtain ⟨g, cap, rfl, hcap, hg⟩ := h.filled (by have := hi.eight; omega)
  obtain ⟨n, hn⟩ : ∃ n, n = l.length := ⟨_, rfl⟩
  have Hn : Hid (n = l.length) := hn
  rw [← hn] at h hcap hl
  have HI : Hid (Inv way l c sp) := hi
  have HH : Hid (Holds l m) := hh
  have HOk : Hid (∀ k v, m k = some v → OkH k) := hok
  obtain ⟨c0, c1, c2, c3⟩ := blk4 h.1
  obtain ⟨W1, hmk, hr1, hb1⟩ := run_make0 w c (by omega)
  have HT1 : Hid (Tab W1 t (.slice (some ⟨g, 0, none⟩) n cap) M c sp l) := h.on hb1
  have HR1 : Hid (RowL W1 w.heap.size (.slice (some ⟨w.heap.size, 0, none⟩) 0 c) []) := hr1
  have HB1 : Hid (Below w.heap.size w W1) := hb1
  have hcb : c ≤ 65536 := by omega
  have hn0 : (n : Int) ≤ 300000 := by omega
  have hc0 : (c : Int) ≤ 65536 := by omega
  have hlt := h.lt
  clear hi hh hok hn hr1 hb1
  have HT0 : Hid (Tab w t (.slice (some ⟨g, 0, none⟩) n cap) M c sp l) := h
  clear h
  go_enter Try.func29, Try.ntmps29
  have hmk1 := hmk w rfl
  clear hmk
  go_upto_region 2 with (fail)
  clear c0 c1 c2 c3 hmk1
  obtain ⟨c0, c1, c2, c3⟩ := blk4 HT1.out.1
  go_wp2_with (fail)
  go_loopw [3, 16] (fun vl vi wr => ∃ i : Nat, i ≤ n ∧ vi = .int .i64 (i : Int) ∧ Hid (RowL wr w.heap.size vl ((l.take i).filter heldB)) ∧ Hid (vl.ownBlock ≠ none) ∧ Hid (Tab wr t (.slice (some ⟨g, 0, none⟩) n cap) M c sp l) ∧ Hid (Below w.heap.size w wr)) (fun _ vi _ => n - (intOf vi).toNat)
  case atStart => exact ⟨0, Nat.zero_le _, rfl, HR1.out, (by show _ ≠ _; intro e; cases e), HT1.out, HB1.out⟩
  case round =>
    clear c0 c1 c2 c3 HT1 HR1 HB1
    obtain ⟨i, hi, rfl, HR, HV, HT, HB⟩ := hrel
    by_cases hlt' : i < n
    · obtain ⟨s, hs⟩ : ∃ s, l[i]? = some s := ⟨_, List.getElem?_eq_getElem (by rw [← Hn.out]; exact hlt')⟩
      obtain ⟨d0, d1, d2, d3, d4, d5, d6⟩ := rowL_at HT.out.2.1 hs
      have hft := filter_take hs
      have hix : (i : Int) < (n : Int) := by omega
      have hix2 : ¬ n ≤ i := by omega
      have hgx : g < wr.heap.size := World.block_lt_of_cell? _ _ d0
      have hgx2 : ¬ g = wr.heap.size := by omega
      have hZZ := blk_new wr (.cells #[.int .i64 0, .int .u32 0, .int .u32 0, .int .u16 0, .int .u16 0, .int .u8 0, .int .i64 0] 72)
      obtain ⟨g1, cap1, rfl, hg1, hg2⟩ := rowL_ptr HR.out HV.out
      have Hlen : Hid (((l.take i).filter heldB).length ≤ 300000) := by show _ ≤ _; have := List.length_filter_le heldB (l.take i); rw [List.length_take] at this; omega
      obtain ⟨F, hF⟩ : ∃ F, F = (l.take i).filter heldB := ⟨_, rfl⟩
      rw [← hF] at hft HR Hlen
      obtain ⟨fn, hfn⟩ : ∃ fn, fn = F.length := ⟨_, rfl⟩
      rw [← hF, ← hfn]
      rw [← hfn] at HR Hlen
      clear hF hs
      go_upto_region 5 with (refine wpList_store_blk rfl 72 (.tmp 5) (.tmp 19) rfl wr.heap.size 0 #[.int .i64 (s.st : Int), .int .u32 (s.k.s : Int), .int .u32 (s.k.d : Int), .int .u16 (s.k.p : Int), .int .u16 (s.k.q : Int), .int .u8 (s.k.r : Int), .int .i64 s.v] #[.int .i64 (s.st : Int), .int .u32 (s.k.s : Int), .int .u32 (s.k.d : Int), .int .u16 (s.k.p : Int), .int .u16 (s.k.q : Int), .int .u8 (s.k.r : Int), .int .i64 s.v] rfl rfl 72 _ hZZ (Nat.le_of_ble_eq_true rfl) rfl (by kernel_rfl) rfl ?_; intro w2 hw2 how2)
      simp only [List.getElem_toArray, List.getElem_cons_succ, List.getElem_cons_zero, Act.put, List.setIfInBounds_toArray, List.set_cons_zero, List.set_cons_succ]
      have b2 : Below wr.heap.size wr w2 := ((Below.refl _ _).alloc (Nat.le_refl _) _).trans (how2.below (Nat.le_refl _))
      have HT2 : Hid (Tab w2 t (.slice (some ⟨g, 0, none⟩) n cap) M c sp l) := HT.out.on b2
      have HR2 : Hid (RowL w2 w.heap.size (.slice (some ⟨g1, 0, none⟩) fn cap1) F) := HR.out.on b2
      have HB2 : Hid (Below w.heap.size w w2) := HB.out.trans (b2.mono HB.out.size)
      obtain ⟨e0, e1, e2, e3, e4, e5, e6⟩ := blk7 hw2
      have hwz : wr.heap.size < w2.heap.size := blk_lt hw2
      have hnw : ¬ wr.heap.size = w2.heap.size := by omega
      have hbs : w.heap.size ≤ w2.heap.size := HB2.out.size
      clear hw2 how2 b2 d0 d1 d2 d3 d4 d5 d6 hZZ HT HR HB hgx hgx2
      by_cases hst : s.st = 1
      · rw [if_pos hst] at hft
        have HF : Hid (List.filter heldB (l.take (i + 1)) = F ++ [s]) := hft
        have HS : Hid (SrcL (w2.alloc (.cells #[.int .i64 (s.st : Int), .int .u32 (s.k.s : Int), .int .u32 (s.k.d : Int), .int .u16 (s.k.p : Int), .int .u16 (s.k.q : Int), .int .u8 (s.k.r : Int), .int .i64 s.v] 72)) (.slice (some ⟨w2.heap.size, 0, none⟩) 1 1) [s]) := (RowL.one w2 0 s (Nat.zero_le _)).src
        have HR3 : Hid (RowL (w2.alloc (.cells #[.int .i64 (s.st : Int), .int .u32 (s.k.s : Int), .int .u32 (s.k.d : Int), .int .u16 (s.k.p : Int), .int .u16 (s.k.q : Int), .int .u8 (s.k.r : Int), .int .i64 s.v] 72)) w.heap.size (.slice (some ⟨g1, 0, none⟩) fn cap1) F) := HR2.out.alloc _
        obtain ⟨st, hste⟩ : ∃ st, st = s.st := ⟨_, rfl⟩
        have hst1 : st = 1 := by rw [hste]; exact hst
        rw [← hste] at e0 HS HR3
        subst hst1
        clear hft hst hste HR2
        go_upto_region 7 with (first | (at_builtin; refine wpList_appendSL rfl (.tmp 23) (.tmp 25) rfl w.heap.size (.slice (some ⟨g1, 0, none⟩) fn cap1) F rfl HR3.out _ [s] rfl HS.out (by simp; omega) (by rw [← hfn]; have := Hlen.out; simp; omega) ?_; intro v5 w5 hr5 hgr5 hat5))
        have hb3 : ∀ o, Below w2.heap.size w2 (w2.alloc o) := fun o => (Below.refl _ _).alloc (Nat.le_refl _) o
        have HT5 : Hid (Tab w5 t (.slice (some ⟨g, 0, none⟩) n cap) M c sp l) := (HT2.out.on (hb3 _)).grown hgr5 (by simp only [Value.ownBlock, ne_eq, Option.some.injEq]; omega) (fun k e => by simp only [Value.ownBlock, ne_eq, Option.some.injEq] at e ⊢; omega)
        have HB5 : Hid (Below w.heap.size w w5) := (HB2.out.trans ((hb3 _).mono hbs)).grown hgr5 (by simp; omega) (fun k e => by simp only [Value.ownBlock, Option.some.injEq] at e; omega)
        have HR5 : Hid (RowL w5 w.heap.size v5 (F ++ [s])) := hr5
        have HV5 : Hid (v5.ownBlock ≠ none) := by
          show _ ≠ _
          rcases hat5 with e | e <;> rw [e] <;> simp [Value.ownBlock]
        clear hr5 hgr5 hat5 hb3 HT2 HB2 HR3 HS e0 e1 e2 e3 e4 e5 e6
        go_wp2_with (fail)
        go_roundw
        case rel => exact ⟨i + 1, by omega, by go_num, by show RowL _ _ _ _; rw [HF.out]; exact HR5.out, HV5.out, HT5.out, HB5.out⟩
        case measure => simp [intOf]; omega
      · rw [if_neg hst, List.append_nil] at hft
        have HF : Hid (List.filter heldB (l.take (i + 1)) = F) := hft
        obtain ⟨st, hste⟩ : ∃ st, st = s.st := ⟨_, rfl⟩
        rw [← hste] at e0 hst
        have hst2 : ¬ (st : Int) = 1 := by omega
        have hst3 : ((st : Int) == 1) = false := by simpa using hst2
        clear hft hst hste
        go_upto_region 7 with (fail)
        go_wp2_with (fail)
        go_roundw
        case rel => exact ⟨i + 1, by omega, by go_num, by show RowL _ _ _ _; rw [HF.out]; exact HR2.out, HV.out, HT2.out, HB2.out⟩
        case measure => simp [intOf]; omega
    · obtain rfl : i = n := by omega
      have hni : ¬ (i : Int) < (i : Int) := by omega
      have hfull : l.take i = l := List.take_of_length_le (by rw [Hn.out]; exact Nat.le_refl _)
      rw [hfull] at HR
      have hokl : ∀ s ∈ l.filter heldB, OkH s.k := fun s hs => by
        obtain ⟨h1, h2⟩ := List.mem_filter.1 hs
        obtain ⟨j, hj⟩ := List.getElem?_of_mem h1
        exact HOk.out s.k s.v ((HH.out s.k s.v).1 ⟨j, s, hj, by unfold heldB at h2; simpa using h2, rfl, rfl⟩)
      obtain ⟨lo, hlo⟩ := slo_list hokl
      obtain ⟨g1, cap1, rfl, hg1, hg2⟩ := rowL_ptr HR.out HV.out
      have hlen : (l.filter heldB).length ≤ 300000 := by have := List.length_filter_le heldB l; rw [← Hn.out] at this; omega
      have hrow := HR.out
      rw [← hlo] at hrow hlen
      have hsort := sortL lo w.heap.size g1 (lo.map (·.1)).length cap1 wr hrow (by omega)
      have Hlo : Hid (lo.map (·.1) = l.filter heldB) := hlo
      rw [← hlo]
      obtain ⟨fn, hfn⟩ : ∃ fn, fn = (lo.map (·.1)).length := ⟨_, rfl⟩
      have Hfn : Hid (fn = (lo.map (·.1)).length) := hfn
      rw [← hfn] at hsort ⊢
      have Hg1 : Hid (w.heap.size ≤ g1) := hg1
      clear hrow hlen hfn hlo hokl hfull HR HT HV hg2
      go_wp2_with (fail)
      refine hsort.mono ?_
      rintro e w5 ⟨rfl, d, hp, hsd, hr5, hgr5⟩
      obtain ⟨q1, q2⟩ := rise_tells HI.out HH.out Hlo.out hp hsd
      have HB5 : Hid (Below w.heap.size w w5) := HB.out.grown hgr5 HB.out.size (fun k hk => by injection hk with e; have := Hg1.out; omega)
      have hl5 : fn = (d.toList.map (·.1)).length := by
        rw [Hfn.out, List.length_map, List.length_map, hp.length_eq]
      have HX : Hid (∃ (g cap : Nat) (r : List SlI), (Value.slice (some ⟨g1, 0, none⟩) fn cap1) = .slice (some ⟨g, 0, none⟩) r.length cap ∧ RowL w5 w.heap.size (.slice (some ⟨g, 0, none⟩) r.length cap) r ∧ Tells m (r.map eyOf) ∧ r.length = c) := ⟨g1, cap1, d.toList.map (·.1), by rw [← hl5], by rw [← hl5]; exact hr5, q1, by rw [List.length_map]; exact q2⟩
      clear hsort hp hsd hr5 hgr5 q1 q2 hl5
      go_wp2_with (fail)
      go_ret
      obtain ⟨ga, ca, ra, x1, x2, x3, x4⟩ := HX.out
      exact ⟨ga, ca, ra, by rw [← x1]; rfl, x2, x3, x4, HB5.out⟩
end Go.Proofs.Ythfjdoenofkghaa
