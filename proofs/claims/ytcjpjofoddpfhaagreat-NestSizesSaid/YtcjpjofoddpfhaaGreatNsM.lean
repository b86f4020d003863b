/-
  A map from spans to their levels; nest's newShelf and spread.
-/
import Derived.MapViews
import Derived.DeepKeys4
import Derived.Maps.OwnSet
import Derived.Maps.Views
import Derived.Maps.OwnOps
import Derived.ProofKit
import Derived.OpenShut
import Derived.Lib.SmallJoins
import Derived.Test.YtcjpjofoddpfhaaGreatNsJ
import Derived.Test.YtcjpjofoddpfhaaGreatNsO
namespace Go.Proofs.YtcjpjofoddpfhaaGreat
open Go.ChangeShapes Go.WideShapes Go.ChangeAt Go.RowKit Go.Joins Go.Maps
set_option linter.unusedVariables false
set_option linter.unusedSimpArgs false
set_option maxRecDepth 100000

theorem sp_cells : Tryz.prog.cellsOf 47 = 2 := by kernel_rfl
theorem sp_laid : laidOutB Tryz.prog = true := by kernel_rfl
theorem sp_row : (47 : TypeId) < Tryz.prog.types.size := of_decide_eq_true (by kernel_rfl)
theorem sp_deep : Tryz.prog.keyTypeAt (Tryz.prog.types.size + 1) 47 = true := by kernel_rfl
theorem sp_wide : (match Tryz.prog.underlying 47 with | some (.array _ _) | some (.struct _) => true | _ => false) = true := by rw [Tryz.underlying47]
theorem sp_keyed : Keyed Tryz.prog 47 := Keyed.of_law (deep_law_laid sp_laid (m := 2) (by omega) sp_row (by kernel_rfl) sp_wide)
theorem sp_formed {c0 c1 : Value} : (Value.agg #[c0, c1]).formed Tryz.prog 47 = true := by simp [Value.formed, Tryz.underlying47, sp_cells]
theorem wf16 {a : Nat} (h : a < 65536) : (Lit.int .u16 (a : Int)).wf = true := by
  have e1 : IntKind.u16.min = 0 := rfl
  have e2 : IntKind.u16.max = 65535 := rfl
  simp [Lit.wf, e1, e2]; omega
theorem wf64 {a : Nat} (h : a < 9223372036854775808) : (Lit.int .i64 (a : Int)).wf = true := by
  have e1 : IntKind.i64.min = -9223372036854775808 := rfl
  have e2 : IntKind.i64.max = 9223372036854775807 := rfl
  simp [Lit.wf, e1, e2]; omega
theorem sp_key {a b : Nat} (ha : a < 65536) (hb : b < 65536) : ∃ kl, keyOf Tryz.prog 47 (.agg #[.int .u16 a, .int .u16 b]) = some kl := by
  have ht : ∀ w : World, DataW.Trod (fun _ : TypeId × Value => ()) Tryz.prog w 0 (fun _ => true) true 47 (.agg #[.int .u16 a, .int .u16 b]) (.agg [.lit (.int .u16 (a : Int)), .lit (.int .u16 (b : Int))]) [] := fun w =>
    shut_agg2 (y0 := (.lit (.int .u16 (a : Int)), [])) (y1 := (.lit (.int .u16 (b : Int)), [])) Tryz.underlying47 (by kernel_rfl) sp_cells ⟨1, by simp [DataW.trod, Tryz.underlying34, wf16 ha]⟩ ⟨1, by simp [DataW.trod, Tryz.underlying34, wf16 hb]⟩
  exact ⟨_, (keyOf_asKey sp_deep sp_wide sp_formed (ht (World.settled Tryz.prog default))).1⟩
theorem zero_int (w : World) : (zeroValue 3).run Tryz.prog w = .ok (.int .i64 0) w := by kernel_rfl
def Bd16 (s : Nat × Nat) : Prop := s.1 < 65536 ∧ s.2 < 65536
/-- Block B of w is a map that tells the levels. -/
def Lvm (w : World) (B : Nat) (acc : List ((Nat × Nat) × Nat)) : Prop :=
  ∃ (n : Nat) (D : DataW Unit), w.ownsMap Tryz.prog 47 (plainElem Tryz.prog 3) B n D ∧ n ≤ acc.length ∧
    ∀ p ∈ acc, ∀ kl, keyOf Tryz.prog 47 (.agg #[.int .u16 (p.1.1), .int .u16 (p.1.2)]) = some kl → D.atKey kl (.lit (.int .i64 0)) = .lit (.int .i64 (p.2 : Int))
theorem Lvm.new (w : World) : Lvm (w.alloc (.map #[] 0)) w.heap.size [] := ⟨0, _, World.ownsMap_made w Tryz.prog _ _, Nat.le_refl _, fun p hp => by cases hp⟩
theorem Lvm.kept {w w' : World} {B : Nat} {acc : List ((Nat × Nat) × Nat)} {row : Option Nat} (h : Lvm w B acc) (hg : w.grownBy w' row) (hne : some B ≠ row) : Lvm w' B acc := by
  obtain ⟨n, D, h1, h2, h3⟩ := h
  exact ⟨n, D, h1.kept hg hne, h2, h3⟩
theorem Lvm.lt {w : World} {B : Nat} {acc : List ((Nat × Nat) × Nat)} (h : Lvm w B acc) : B < w.heap.size := by
  obtain ⟨n, D, h1, _⟩ := h
  exact h1.lt
theorem Lvm.on {w w' : World} {B : Nat} {acc : List ((Nat × Nat) × Nat)} (h : Lvm w B acc) (hb : Below w.heap.size w w') : Lvm w' B acc :=
  h.kept (row := none) ⟨hb.os, hb.tape, hb.output, hb.size, fun k hk _ => hb.block k hk⟩ (by simp)
theorem Lvm.look {w : World} {B : Nat} {acc : List ((Nat × Nat) × Nat)} (h : Lvm w B acc) {s : Nat × Nat} {n : Nat} (hs : (s, n) ∈ acc) (hb : Bd16 s) :
    (Instr.lookup 56 (.map (some B)) (.agg #[.int .u16 (s.1), .int .u16 (s.2)]) false).run Tryz.prog w = .ok (.int .i64 (n : Int)) w := by
  obtain ⟨m, D, h1, h2, h3⟩ := h
  obtain ⟨kl, hk⟩ := sp_key hb.1 hb.2
  obtain ⟨c, hr, hat, _⟩ := h1.lookup_int sp_keyed Tryz.underlying56 Tryz.underlying3 (zero_int w) hk
  have := h3 _ hs kl hk
  rw [hat] at this
  injection this with e
  injection e with _ e
  rw [hr, e]
theorem Lvm.put {w : World} {B : Nat} {acc : List ((Nat × Nat) × Nat)} (h : Lvm w B acc) {s : Nat × Nat} {n : Nat} (hs : ∀ p ∈ acc, p.1 ≠ s) (hb : Bd16 s) (hn : n < 4294967296) (hl : acc.length < 4294967296) :
    ∃ w', (Instr.mapUpdate 56 (.map (some B)) (.agg #[.int .u16 (s.1), .int .u16 (s.2)]) (.int .i64 (n : Int))).run Tryz.prog w = .ok () w' ∧ Lvm w' B (acc ++ [(s, n)]) ∧ w.grownBy w' (some B) := by
  obtain ⟨m, D, h1, h2, h3⟩ := h
  obtain ⟨kl, hk⟩ := sp_key hb.1 hb.2
  obtain ⟨w', hr, ho, hg⟩ := h1.update (val := .int .i64 (n : Int)) sp_keyed Tryz.underlying56 (by unfold maxLen; omega) hk (plainElem_int Tryz.underlying3 (wf64 (by omega)))
  refine ⟨w', hr, ⟨m + 1, _, ho, by simp; omega, fun p hp kl' hk' => ?_⟩, hg⟩
  rcases List.mem_append.1 hp with e | e
  · have hne : kl' ≠ kl := fun e' => by
      subst e'
      have := sp_keyed.inj hk' hk
      simp only [Value.agg.injEq] at this
      apply hs p e
      have h1 : (p.1.1 : Int) = s.1 ∧ (p.1.2 : Int) = s.2 := by simpa using this
      exact Prod.ext (by omega) (by omega)
    rw [atKey_put_other hne]
    exact h3 p e kl' hk'
  · rw [List.mem_singleton] at e
    subst e
    rw [hk] at hk'
    injection hk' with e
    subst e
    exact atKey_put_same h1.isMap (sp_keyed.key hk) _ _

set_option maxHeartbeats 1000000 in
theorem newShelfC (n : Nat) (w : World) (hn : n ≤ 1073741824) :
    Calls Tryz.prog 51 #[.int .i64 (n : Int)] w fun e w' => ∃ (h k g : Nat), h = 2 ^ k ∧ n ≤ h ∧ h ≤ 2 * n + 1 ∧ w.heap.size ≤ g ∧ e = .returned (.slice (some ⟨g, 0, none⟩) (2 * h) (2 * h)) ∧ w'.heap[g]? = some (.cells (fil (-1) (2 * h) (2 * h)).toArray 3 (0, 0)) ∧ Below w.heap.size w w' := by
  go_enter Tryz.func51, Tryz.ntmps51
  go_wp2
  go_loopw [3] (fun vi wr => ∃ h : Nat, vi = .int .i64 (h : Int) ∧ h ≤ 2 * n + 1 ∧ 1 ≤ h ∧ Hid (∃ k, h = 2 ^ k) ∧ wr = w) (fun vi _ => n - (intOf vi).toNat)
  case atStart => exact ⟨1, rfl, by omega, by omega, ⟨0, rfl⟩, rfl⟩
  case round =>
    obtain ⟨h, rfl, hb, h1, HK, rfl⟩ := hrel
    by_cases hlt : h < n
    · have hlti : (h : Int) < (n : Int) := by omega
      go_wp2
      go_roundw
      case rel =>
        obtain ⟨k, e⟩ := HK.out
        exact ⟨2 * h, by go_num, by omega, by omega, ⟨k + 1, by rw [Nat.pow_succ, ← e]; omega⟩, trivial⟩
      case measure => simp [intOf]; omega
    · have hni : ¬ (h : Int) < (n : Int) := by omega
      have hR := repH (2 * h) wr.heap.size 1 (-1) (wr.alloc (.cells #[.int .i64 (-1)] 3)) (blk_cell (blk_new wr _) rfl) (by omega)
      rw [show ((2 * h : Nat) : Int) = 2 * (h : Int) by omega] at hR
      have Hn : Hid (n ≤ h) := (by omega : n ≤ h)
      go_wp2_with (go_at_call 81; fail)
      refine hR.mono ?_
      rintro e w2 ⟨rfl, hg, hb2⟩
      have HG : Hid _ := hg
      have HB : Hid (Below wr.heap.size wr w2) := ((Below.refl _ _).alloc (Nat.le_refl _) _).trans (hb2.mono (by simp))
      clear hg hb2 hR
      go_wp2
      go_ret
      obtain ⟨k, e⟩ := HK.out
      exact ⟨h, k, _, e, Hn.out, hb, by simp, rfl, by simpa using HG.out, HB.out⟩
/-- What holds while spans are spread over levels. -/
structure Spr (w wr : World) (u : List (Nat × Nat)) (v3 : Value) (g cap h B i : Nat) : Prop where
  ro : RowS wr w.heap.size v3 u
  ne1 : v3.ownBlock ≠ some g
  ne2 : v3.ownBlock ≠ some B
  ne3 : g ≠ B
  ga : w.heap.size ≤ g
  gB : w.heap.size ≤ B
  sh : ∃ d : Array Int, RowA wr g (2 * h) cap d ∧ Tre d h ∧ Hld d h (lvs [] (u.take i))
  mp : Lvm wr B (lvs [] (u.take i))
  bl : Below w.heap.size w wr
theorem Spr.on {w wr wr' : World} {u : List (Nat × Nat)} {v3 : Value} {g cap h B i : Nat} (s : Spr w wr u v3 g cap h B i) (hb : Below wr.heap.size wr wr') : Spr w wr' u v3 g cap h B i := by
  obtain ⟨d, r, t, hl⟩ := s.sh
  exact ⟨s.ro.on hb, s.ne1, s.ne2, s.ne3, s.ga, s.gB, ⟨d, r.on hb, t, hl⟩, s.mp.on hb, s.bl.trans (hb.mono s.bl.size)⟩
theorem rowS_kept {w w' : World} {b : Nat} {v : Value} {l : List (Nat × Nat)} {g : Nat} (h : RowS w b v l) (hg : w.grownBy w' (some g)) (hne : v.ownBlock ≠ some g) : RowS w' b v l := World.ownsRow.kept h hg (by
  cases e : v.ownBlock with
  | none => exact .inl rfl
  | some k => exact .inr (fun e2 => hne (e ▸ e2)))
theorem lvs_take (u : List (Nat × Nat)) {i : Nat} (hi : i < u.length) : lvs [] (u.take (i + 1)) = lvs [] (u.take i) ++ [(u[i], lev (lvs [] (u.take i)) u[i])] := by
  rw [take_at hi, lvs_app]
theorem lvU_bound (u : List (Nat × Nat)) : ∀ p ∈ lvs [] u, p.2 < u.length := by
  have := lvs_lt u
  rwa [lvs_len] at this
theorem fil_RowA {w : World} {g h : Nat} (hg : w.heap[g]? = some (.cells (fil (-1) (2 * h) (2 * h)).toArray 3 (0, 0))) (hh : h ≤ 8589934592) : RowA w g (2 * h) (2 * h) (List.replicate (2 * h) (-1)).toArray := by
  have := fil_row (b := 0) hg (Nat.zero_le _) (by omega)
  unfold RowA
  simpa using this
theorem rep_at {n k : Nat} (h : k < n) : (List.replicate n (-1 : Int)).toArray[k]! = -1 := by
  rw [getElem!_pos _ k (by simpa using h)]; simp
theorem rep_tre (h : Nat) : Tre (List.replicate (2 * h) (-1 : Int)).toArray h ∧ Hld (List.replicate (2 * h) (-1 : Int)).toArray h [] :=
  ⟨⟨by simp, fun m h1 h2 => by rw [rep_at (by omega), rep_at (by omega), rep_at (by omega)]; rfl⟩, fun j hj => ⟨fun p hp _ => absurd hp (by simp), .inl (rep_at (by omega))⟩⟩
set_option maxHeartbeats 2000000 in
theorem spreadC (l : List (Nat × Nat)) (v : Value) (w : World) (hs : SrcS w v l) (hl : l.length ≤ 16777216) (hb : ∀ s ∈ l, Bd16 s ∧ s.1 ≤ s.2) :
    Calls Tryz.prog 27 #[v] w fun e w' => ∃ (B : Nat) (u : List (Nat × Nat)), e = .returned (.map (some B)) ∧ InO u ∧ (∀ x, x ∈ u ↔ x ∈ l) ∧ Lvm w' B (lvs [] u) ∧ Below w.heap.size w w' := by
  have hU := unlS l v w hs (by omega)
  have HBd : Hid (∀ s ∈ l, Bd16 s ∧ s.1 ≤ s.2) := hb
  clear hs hb
  go_enter Tryz.func27, Tryz.ntmps27
  go_wp2_with (fail)
  refine hU.mono ?_
  rintro e w1 ⟨v3, u, rfl, hm, hp, hr1, hb1⟩
  have HM : Hid (∀ x, x ∈ u ↔ x ∈ l) := hm
  have HP : Hid (InO u) := hp
  have hul : u.length ≤ 16777216 := by
    have : u.length ≤ l.length := List.Nodup.length_le_of_subset (ino_nodup hp) (fun x hx => (hm x).1 hx)
    omega
  have HR1 : Hid (RowS w1 w.heap.size v3 u) := hr1
  have HB1 : Hid (Below w.heap.size w w1) := hb1
  obtain ⟨ad, cu, rfl, _, _⟩ := hr1.form
  clear hU hm hp hr1 hb1
  obtain ⟨n, hn⟩ : ∃ n, n = u.length := ⟨_, rfl⟩
  rw [← hn] at HR1 hul ⊢
  have Hn : Hid (n = u.length) := hn
  clear hn
  have HM1 : Hid (Lvm (w1.alloc (.map #[] 0)) w1.heap.size []) := Lvm.new w1
  have HB2 : Hid (Below w1.heap.size w1 (w1.alloc (.map #[] 0))) := (Below.refl _ _).alloc (Nat.le_refl _) _
  have hmm : (Instr.makeMap 56 (some (.int .i64 (n : Int)))).run Tryz.prog w1 = .ok (.map (some w1.heap.size)) (w1.alloc (.map #[] 0)) := by
    have := wrap64_nat' (n := n) (by omega)
    simp [Instr.makeMap, Tryz.runUnderlying56, asInt, asIntOf, this]
  have hN := newShelfC n (w1.alloc (.map #[] 0)) (by omega)
  obtain ⟨B, hB⟩ : ∃ B, B = w1.heap.size := ⟨_, rfl⟩
  rw [← hB] at hmm HM1 HB2
  have Hle : Hid (w.heap.size ≤ B) := by rw [hB]; exact HB1.out.size
  have HBw : Hid (B = w1.heap.size) := hB
  clear hB
  generalize w1.alloc (.map #[] 0) = w2 at *
  go_wp2_with (go_at_call 51; fail)
  refine hN.mono ?_
  rintro e w3 ⟨h, k, g, hhk, hnh, hh, hgg, rfl, hg3, hb3⟩
  obtain ⟨rt, rh⟩ := rep_tre h
  have RB := HBw.out
  have B2 : Below w1.heap.size w1 w2 := by rw [← RB]; exact HB2.out
  have B13 : Below w1.heap.size w1 w3 := bel_of B2 hb3 (by have := HM1.out.lt; omega)
  have S0 : Hid (Spr w w3 u (.slice ad n cu) g (2 * h) h B 0) := ⟨HR1.out.on B13, fun e => by have := (HR1.out.lt _ e).2; have := HM1.out.lt; omega, fun e => by have := (HR1.out.lt _ e).2; omega, by have := HM1.out.lt; omega, by have := HM1.out.lt; have := Hle.out; omega, Hle.out, ⟨_, fil_RowA hg3 (by omega), rt, rh⟩, HM1.out.on hb3, HB1.out.trans (B13.mono HB1.out.size)⟩
  have Hk : Hid (h = 2 ^ k) := hhk
  clear rt rh RB B2 B13 HM1 HB1 HB2 HBw Hle HR1 hN hmm hg3 hb3 hgg hhk
  obtain ⟨n2, hn2⟩ : ∃ n2, n2 = 2 * h := ⟨_, rfl⟩
  rw [← hn2]
  have Hn2 : Hid (n2 = 2 * h) := hn2
  clear hn2
  go_wp2_with (fail)
  go_loopw [19] (fun vi wr => ∃ i : Nat, i ≤ n ∧ vi = .int .i64 (i : Int) ∧ Hid (Spr w wr u (.slice ad n cu) g n2 h B i)) (fun vi _ => n - (intOf vi).toNat)
  case atStart => exact ⟨0, Nat.zero_le _, rfl, by rw [Hn2.out]; exact S0.out⟩
  case round =>
    obtain ⟨i, hi, rfl, HS⟩ := hrel
    clear S0
    by_cases hlt : i < n
    · have hlt' : i < u.length := by rw [← Hn.out]; exact hlt
      have hlti : (i : Int) < (n : Int) := by omega
      obtain ⟨ad', c', e', _, hf⟩ := HS.out.ro.form
      injection e' with e1 e2 e3
      subst e1 e3
      clear e2
      obtain ⟨gu, rfl, _, _, hcell⟩ := hf (by omega)
      have c0 := hcell i hlt' 0 (by omega)
      have c1 := hcell i hlt' 1 (by omega)
      obtain ⟨s, hs⟩ : ∃ s, s = u[i] := ⟨_, rfl⟩
      rw [← hs] at c0 c1
      have hbs := HBd.out s ((HM.out s).1 (by rw [hs]; exact List.getElem_mem _))
      obtain ⟨d, rA, rT, rH⟩ := HS.out.sh
      have hbefore : ∀ p ∈ u.take i, p.1 ≤ s.1 := fun p hp => by
        obtain ⟨j, hj, e⟩ := List.mem_iff_getElem.1 hp
        rw [List.length_take] at hj
        have := List.pairwise_iff_getElem.1 HP.out j i (by omega) hlt' (by omega)
        rw [List.getElem_take] at e
        rw [e, ← hs] at this
        unfold ahd at this; omega
      have hroom := hld_room rH hbs.2 hbefore (by rw [List.length_take]; omega)
      rw [List.length_take, Nat.min_eq_left (by omega)] at hroom
      have hnot : ∀ p ∈ lvs [] (u.take i), p.1 ≠ s := fun p hp e => by
        have h1 : p.1 ∈ u.take i := by
          have : p.1 ∈ (lvs [] (u.take i)).map (·.1) := List.mem_map.2 ⟨_, hp, rfl⟩
          rw [lvs_fst] at this; simpa using this
        obtain ⟨j, hj, e2⟩ := List.mem_iff_getElem.1 h1
        rw [List.length_take] at hj
        have := List.pairwise_iff_getElem.1 HP.out j i (by omega) hlt' (by omega)
        rw [List.getElem_take] at e2
        rw [e2, ← hs, e] at this
        exact ahd_irr this
      obtain ⟨W1, hW1⟩ : ∃ W1, W1 = wr.alloc (.cells #[.int .u16 (s.1 : Int), .int .u16 (s.2 : Int)] 47) := ⟨_, rfl⟩
      have hbW : Below wr.heap.size wr W1 := by rw [hW1]; exact (Below.refl _ _).alloc (Nat.le_refl _) _
      have hL := leastC d k h g (2 * h) (s.1 : Int) (wr.alloc (.cells #[.int .u16 (s.1 : Int), .int .u16 (s.2 : Int)] 47)) Hk.out rT (by omega) (fun j hj => cell_on1 ((Below.refl _ _).alloc (Nat.le_refl _) _) (rA.cell hj).1) (h + i) (by omega) (by omega) hroom
      have hsz := HS.out.mp.lt
      have Hbs : Hid (Bd16 s ∧ s.1 ≤ s.2) := hbs
      have HbefS : Hid _ := hbefore
      have Hnot : Hid _ := hnot
      have Hs : Hid (s = u[i]) := hs
      have S1 : Hid (Spr w W1 u (.slice (some ⟨gu, 0, none⟩) n cu) g n2 h B i) := HS.out.on hbW
      have HA : Hid (RowA W1 g (2 * h) n2 d) := rA.on hbW
      have HT : Hid (Tre d h) := rT
      have Hgw : Hid (g < wr.heap.size) := by
        have h' : RowI wr 0 (.slice (some ⟨g, 0, none⟩) (2 * h) n2) d.toList := rA
        exact (h'.lt g rfl).2
      have HH : Hid (Hld d h (lvs [] (u.take i))) := rH
      have cA := blk_cell (j := 0) (blk_new wr (.cells #[.int .u16 (s.1 : Int), .int .u16 (s.2 : Int)] 47)) rfl
      have cB := blk_cell (j := 1) (blk_new wr (.cells #[.int .u16 (s.1 : Int), .int .u16 (s.2 : Int)] 47)) rfl
      rw [← Hn2.out] at hL
      rw [← hW1] at hL cA cB
      have w16a : IntKind.i64.wrap (s.1 : Int) = (s.1 : Int) := wrap64_nat' (by have := hbs.1.1; omega)
      have w16b : IntKind.i64.wrap (s.2 : Int) = (s.2 : Int) := wrap64_nat' (by have := hbs.1.2; omega)
      clear rA rT rH hroom hbefore hnot hbs hs hcell hf HS hbW
      simp only [encS, List.getElem?_cons_zero, List.getElem?_cons_succ, Nat.add_zero] at c0 c1
      have HW1 : Hid _ := hW1
      clear hW1
      have hW1s : wr.alloc (.cells #[.int .u16 (s.1 : Int), .int .u16 (s.2 : Int)] 47) = W1 := HW1.out.symm
      go_wp2_with (go_at_call 52; fail)
      try rw [hW1s]
      refine hL.mono ?_
      rintro e w4 ⟨j, rfl, hj, hj1, hj2, hw⟩
      obtain rfl := hw.symm
      clear hw hL hW1s c0 c1
      have hjl : j = lev (lvs [] (u.take i)) s := hld_lev HH.out Hbs.out.2 HbefS.out hj hj1 hj2
      have hji : j < n := by
        have h1 := (lev_spec (s := s) (lvs_lt (u.take i))).2
        rw [lvs_len, List.length_take] at h1
        have := Hn.out; omega
      have hP := putC d h g n2 j (s.2 : Int) W1 HT.out (by omega) hj HA.out
      rw [← Hn2.out] at hP
      have Hj1 : Hid _ := hj1
      have Hjl : Hid _ := hjl
      clear hj1 hj2 hjl
      go_wp2_with (go_at_call 53; fail)
      refine hP.mono ?_
      rintro e w5 ⟨rfl, d5, hr5, ht5, hl5, hg5⟩
      have hgl : g < W1.heap.size := by
        have h' : RowI W1 0 (.slice (some ⟨g, 0, none⟩) (2 * h) n2) d.toList := HA.out
        exact (h'.lt g rfl).2
      have hm5 : Lvm w5 B (lvs [] (u.take i)) := S1.out.mp.kept hg5 (fun e => S1.out.ne3 (by injection e with e; exact e.symm))
      obtain ⟨w6, hu6, hm6, hg6⟩ := hm5.put Hnot.out Hbs.out.1 (n := j) (by omega) (by rw [lvs_len, List.length_take]; omega)
      have cA5 : w5.cell? ⟨wr.heap.size, 0, none⟩ = some (.int .u16 (s.1 : Int)) := hg5.cell cA (fun e => absurd (show wr.heap.size = g by injection e) (Nat.ne_of_gt Hgw.out))
      have cB5 : w5.cell? ⟨wr.heap.size, 1, none⟩ = some (.int .u16 (s.2 : Int)) := hg5.cell cB (fun e => absurd (show wr.heap.size = g by injection e) (Nat.ne_of_gt Hgw.out))
      have S6 : Hid (Spr w w6 u (.slice (some ⟨gu, 0, none⟩) n cu) g n2 h B (i + 1)) := by
        have hg56 := hg6
        refine ⟨rowS_kept (rowS_kept S1.out.ro hg5 S1.out.ne1) hg6 S1.out.ne2, S1.out.ne1, S1.out.ne2, S1.out.ne3, S1.out.ga, S1.out.gB, ⟨d5, ?_, ht5, ?_⟩, ?_, ?_⟩
        · have h5 : RowI w5 0 (.slice (some ⟨g, 0, none⟩) n2 n2) d5.toList := hr5
          rw [← Hn2.out]
          exact h5.kept hg6 (.inr (fun e => S1.out.ne3 (by injection e)))
        · rw [lvs_take u hlt', ← Hs.out, ← Hjl.out]
          exact hld_put HH.out Hbs.out.2 hj Hj1.out (fun q hq => by
            rw [hl5 (h + q) (by omega) (by have := Hn2.out; omega)]
            by_cases e : q = j
            · rw [if_pos e, if_pos (by omega)]
            · rw [if_neg e, if_neg (by omega)])
        · rw [lvs_take u hlt', ← Hs.out, ← Hjl.out]; exact hm6
        · exact (S1.out.bl.grown hg5 S1.out.bl.size (fun q hq => by injection hq with e; have := S1.out.ga; omega)).grown hg6 (by have := (S1.out.bl.grown hg5 S1.out.bl.size (fun q hq => by injection hq with e; have := S1.out.ga; omega)).size; omega) (fun q hq => by injection hq with e; have := S1.out.gB; omega)
      clear hP hr5 ht5 hl5 hm5 hm6 hg5 hg6 HA HT HH S1 cA cB
      go_wp2
      go_roundw
      case rel => exact ⟨i + 1, by omega, by go_num, S6.out⟩
      case measure => simp [intOf]; omega
    · obtain rfl : i = n := by omega
      have hni : ¬ (i : Int) < (i : Int) := by omega
      have et : u.take i = u := by rw [Hn.out]; exact List.take_length
      go_wp2
      go_ret
      have := HS.out.mp
      rw [et] at this
      exact ⟨B, rfl, u, HP.out, fun a b => HM.out (a, b), this, HS.out.bl⟩
end Go.Proofs.YtcjpjofoddpfhaaGreat
