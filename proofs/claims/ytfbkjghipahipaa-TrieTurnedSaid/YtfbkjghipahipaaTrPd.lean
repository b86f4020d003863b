/-
  Scripts of calls; played.
-/
import Derived.Test.YtfbkjghipahipaaTrTo
namespace Go.Proofs.Ytfbkjghipahipaa
open Go.RowKit Go.Shelf
set_option linter.unusedVariables false
set_option linter.unusedSimpArgs false

/-- A call: Kind, Second, Key, N, V. -/
structure Opx where
  k : Int
  s : Bool
  a : Nat
  n : Int
  v : Int
def encO (o : Opx) : List Value := [.int .i64 o.k, .bool o.s, .int .u32 (o.a : Int), .int .i64 o.n, .int .i64 o.v]
def SrcO (w : World) (v : Value) (l : List Opx) : Prop :=
  ∃ (ad : Option Addr) (cap : Nat), v = .slice ad l.length cap ∧ (l.length ≤ cap ∧ (ad = none → cap = 0)) ∧ (0 < l.length → ∃ g off, ad = some ⟨g, off, none⟩ ∧ ∀ k (hk : k < l.length) j, j < 5 → w.cell? ⟨g, off + (k * 5 + j), none⟩ = (encO (l[k]'hk))[j]?)
theorem SrcO.cells {w : World} {ad : Option Addr} {n cap : Nat} {l : List Opx} (h : SrcO w (.slice ad n cap) l) (k : Nat) (hk : k < l.length) : ∃ g off, ad = some ⟨g, off, none⟩ ∧ ∀ W, Below w.heap.size w W → ∀ j, j < 5 → ∀ u, (encO (l[k]'hk))[j]? = some u → W.cell? ⟨g, off + k * 5 + j, none⟩ = some u := by
  obtain ⟨ad', cap', e, hc, h2⟩ := h
  obtain ⟨rfl, e2, rfl⟩ : ad = ad' ∧ n = l.length ∧ cap = cap' := by cases e; exact ⟨rfl, rfl, rfl⟩
  obtain ⟨g, off, e, h3⟩ := h2 (by omega)
  refine ⟨g, off, e, fun W hb j hj u hu => ?_⟩
  have := h3 k hk j hj
  rw [show off + k * 5 + j = off + (k * 5 + j) by omega]
  exact cell_on1 hb (this.trans hu)
/-- One call more, and the whole of them. -/
def stp (Wd M : Nat) (s : List En × Nat) (o : Opx) : List En × Nat := if o.k = 1 then (cutM Wd s.1 o.a o.n, s.2) else (putM Wd M s.1 o.a o.n o.v, putA Wd M s.1 s.2 o.a o.n o.v)
def ply (Wd M : Nat) (l : List Opx) : List En × Nat := l.foldl (stp Wd M) ([], 0)
theorem ply_step (Wd M : Nat) (l : List Opx) (k : Nat) (hk : k < l.length) : ply Wd M (l.take (k + 1)) = stp Wd M (ply Wd M (l.take k)) (l[k]'hk) := by
  unfold ply
  rw [← List.take_append_getElem hk, List.foldl_append]
  rfl
set_option maxRecDepth 20000 in
set_option maxHeartbeats 4000000 in
theorem playedC (Wd : Nat) (h : okN Wd 1048576 = true) (l : List Opx) (bd : ∀ o ∈ l, o.a < 4294967296) (hl : l.length ≤ 16777216) (u : Value) (w : World) (hS : SrcO w u l) :
    Calls Try.prog 10 #[.int .i64 (Wd : Int), u] w fun e W' => ∃ t v, e = .returned (.pointer (some ⟨t, 0, none⟩)) ∧ Own w W' t v Wd 1048576 (ply Wd 1048576 l).1 (ply Wd 1048576 l).2 := by
  have hN : Calls Try.prog 6 #[.int .i64 (Wd : Int), .int .i64 1048576] w fun e W' => ∃ t, e = .returned (.tuple #[.pointer (some ⟨t, 0, none⟩), .int .i64 0]) ∧ Own w W' t (.slice none 0 0) Wd 1048576 [] 0 ∧ Below w.heap.size w W' := own_new Wd 1048576 h w w (Below.refl _ _)
  have HS : Hid (SrcO w u l) := hS
  have HB : Hid (∀ o ∈ l, o.a < 4294967296) := bd
  obtain ⟨ad, cap, rfl, hcap, _⟩ := hS
  obtain ⟨n, hn⟩ : ∃ n, n = l.length := ⟨_, rfl⟩
  have Hn : Hid (n = l.length) := hn
  rw [← hn] at hl HS hcap ⊢
  clear hn bd h hcap
  have hn0 : (n : Int) ≤ 16777216 := by omega
  go_enter Try.func10, Try.ntmps10
  go_wp2_with (fail)
  refine hN.mono ?_
  rintro e W1 ⟨t, rfl, o1, -⟩
  have O1 : Hid (Own w W1 t (.slice none 0 0) Wd 1048576 [] 0) := o1
  clear o1 hN
  go_wp2_with (fail)
  go_loopw [7] (fun s7 wr => ∃ (k : Nat) (v : Value), k ≤ n ∧ s7 = .int .i64 (k : Int) ∧ Hid (Own w wr t v Wd 1048576 (ply Wd 1048576 (l.take k)).1 (ply Wd 1048576 (l.take k)).2)) (fun s7 _ => n - (intOf s7).toNat)
  case atStart => exact ⟨0, _, Nat.zero_le _, rfl, O1.out⟩
  case round =>
    clear O1
    obtain ⟨k, v, hk, rfl, HO⟩ := hrel
    by_cases hlt : k < n
    · have hkl : k < l.length := by rw [← Hn.out]; exact hlt
      have hlt' : (k : Int) < (n : Int) := by omega
      have hix : (k : Int) < (n : Int) := hlt'
      have hix2 : ¬ n ≤ k := by omega
      obtain ⟨g, off, rfl, hcs⟩ := HS.out.cells k hkl
      have hoa := HB.out _ (List.getElem_mem hkl)
      have HP : Hid (ply Wd 1048576 (l.take (k + 1)) = stp Wd 1048576 (ply Wd 1048576 (l.take k)) (l[k]'hkl)) := ply_step _ _ l k hkl
      generalize l[k]'hkl = o at hcs hoa HP
      have x0 : wr.cell? ⟨g, off + k * 5, none⟩ = some (.int .i64 o.k) := hcs wr HO.out.be 0 (by decide) _ rfl
      have Hc2 : Hid (∀ W, Below w.heap.size w W → W.cell? ⟨g, off + k * 5 + 2, none⟩ = some (.int .u32 (o.a : Int))) := fun W hb => hcs W hb 2 (by decide) _ rfl
      have Hc3 : Hid (∀ W, Below w.heap.size w W → W.cell? ⟨g, off + k * 5 + 3, none⟩ = some (.int .i64 o.n)) := fun W hb => hcs W hb 3 (by decide) _ rfl
      have Hc4 : Hid (∀ W, Below w.heap.size w W → W.cell? ⟨g, off + k * 5 + 4, none⟩ = some (.int .i64 o.v)) := fun W hb => hcs W hb 4 (by decide) _ rfl
      clear hcs
      have hwk : IntKind.i64.wrap ((k : Int) + 1) = (k : Int) + 1 := by rw [IntKind.wrap_i64]; omega
      generalize hs : ply Wd 1048576 (l.take k) = s at *
      by_cases hk1 : o.k = 1
      · rw [hk1] at x0
        have HE : Hid (stp Wd 1048576 s o = (cutM Wd s.1 o.a o.n, s.2)) := by show _ = _; unfold stp; rw [if_pos hk1]
        go_upto_region 8 with (fail)
        clear x0
        refine wp_region_held_drew (S := fun w' => Below w.heap.size w w') (by kernel_rfl) HO.out.be.drew (fun hS1 => ?_)
        show wpAnyH _ _ _ _ _ 12 _ _ _
        refine wpAnyH_take (i := 0) (v := .pointer (some ⟨t, 0, none⟩)) rfl (by kernel_rfl) (by kernel_rfl) (by kernel_rfl) (fun _ _ _ h => h) (.inl ⟨rfl, fun _ _ => by simp [execOp, go_sem]⟩) hS1 ?_
        simp only [List.getElem_toArray, List.getElem_cons_succ, List.getElem_cons_zero, Act.put, List.setIfInBounds_toArray, List.set_cons_zero, List.set_cons_succ]
        refine wpAnyH_take (i := 1) (v := .slice (some ⟨g, off, none⟩) n cap) rfl (by kernel_rfl) (by kernel_rfl) (by kernel_rfl) (fun _ _ _ h => h) (.inl ⟨rfl, fun _ _ => by simp [execOp, go_sem]⟩) hS1 ?_
        simp only [List.getElem_toArray, List.getElem_cons_succ, List.getElem_cons_zero, Act.put, List.setIfInBounds_toArray, List.set_cons_zero, List.set_cons_succ]
        refine wpAnyH_take (i := 2) (v := .int .i64 (k : Int)) rfl (by kernel_rfl) (by kernel_rfl) (by kernel_rfl) (fun _ _ _ h => h) (.inl ⟨rfl, fun _ _ => by simp [execOp, go_sem]⟩) hS1 ?_
        simp only [List.getElem_toArray, List.getElem_cons_succ, List.getElem_cons_zero, Act.put, List.setIfInBounds_toArray, List.set_cons_zero, List.set_cons_succ]
        refine wpAnyH_take (i := 3) (v := .pointer (some ⟨g, off + k * 5, none⟩)) rfl (by kernel_rfl) (by kernel_rfl) (by kernel_rfl) (fun _ _ _ h => h) (yieldsIf_index rfl 22 (.tmp 32) (.tmp 33) rfl _ (fun w => by simp [Instr.indexAt, go_sem, hix, hix2])) hS1 ?_
        simp only [List.getElem_toArray, List.getElem_cons_succ, List.getElem_cons_zero, Act.put, List.setIfInBounds_toArray, List.set_cons_zero, List.set_cons_succ]
        refine wpAnyH_take (i := 4) (v := .pointer (some ⟨g, off + k * 5 + 2, none⟩)) rfl (by kernel_rfl) (by kernel_rfl) (by kernel_rfl) (fun _ _ _ h => h) (.inl ⟨rfl, fun _ _ => by simp [execOp, go_sem]⟩) hS1 ?_
        simp only [List.getElem_toArray, List.getElem_cons_succ, List.getElem_cons_zero, Act.put, List.setIfInBounds_toArray, List.set_cons_zero, List.set_cons_succ]
        refine wpAnyH_take (i := 5) (v := .int .u32 (o.a : Int)) rfl (by kernel_rfl) (by kernel_rfl) (by kernel_rfl) (fun _ _ _ h => h) (.inl ⟨rfl, fun w' hw' => by have hcc := Hc2.out w' hw'; simp [execOp, go_sem, hcc]⟩) hS1 ?_
        simp only [List.getElem_toArray, List.getElem_cons_succ, List.getElem_cons_zero, Act.put, List.setIfInBounds_toArray, List.set_cons_zero, List.set_cons_succ]
        refine wpAnyH_take (i := 6) (v := .slice (some ⟨g, off, none⟩) n cap) rfl (by kernel_rfl) (by kernel_rfl) (by kernel_rfl) (fun _ _ _ h => h) (.inl ⟨rfl, fun _ _ => by simp [execOp, go_sem]⟩) hS1 ?_
        simp only [List.getElem_toArray, List.getElem_cons_succ, List.getElem_cons_zero, Act.put, List.setIfInBounds_toArray, List.set_cons_zero, List.set_cons_succ]
        refine wpAnyH_take (i := 7) (v := .int .i64 (k : Int)) rfl (by kernel_rfl) (by kernel_rfl) (by kernel_rfl) (fun _ _ _ h => h) (.inl ⟨rfl, fun _ _ => by simp [execOp, go_sem]⟩) hS1 ?_
        simp only [List.getElem_toArray, List.getElem_cons_succ, List.getElem_cons_zero, Act.put, List.setIfInBounds_toArray, List.set_cons_zero, List.set_cons_succ]
        refine wpAnyH_take (i := 8) (v := .pointer (some ⟨g, off + k * 5, none⟩)) rfl (by kernel_rfl) (by kernel_rfl) (by kernel_rfl) (fun _ _ _ h => h) (yieldsIf_index rfl 22 (.tmp 37) (.tmp 38) rfl _ (fun w => by simp [Instr.indexAt, go_sem, hix, hix2])) hS1 ?_
        simp only [List.getElem_toArray, List.getElem_cons_succ, List.getElem_cons_zero, Act.put, List.setIfInBounds_toArray, List.set_cons_zero, List.set_cons_succ]
        refine wpAnyH_take (i := 9) (v := .pointer (some ⟨g, off + k * 5 + 3, none⟩)) rfl (by kernel_rfl) (by kernel_rfl) (by kernel_rfl) (fun _ _ _ h => h) (.inl ⟨rfl, fun _ _ => by simp [execOp, go_sem]⟩) hS1 ?_
        simp only [List.getElem_toArray, List.getElem_cons_succ, List.getElem_cons_zero, Act.put, List.setIfInBounds_toArray, List.set_cons_zero, List.set_cons_succ]
        refine wpAnyH_take (i := 10) (v := .int .i64 o.n) rfl (by kernel_rfl) (by kernel_rfl) (by kernel_rfl) (fun _ _ _ h => h) (.inl ⟨rfl, fun w' hw' => by have hcc := Hc3.out w' hw'; simp [execOp, go_sem, hcc]⟩) hS1 ?_
        simp only [List.getElem_toArray, List.getElem_cons_succ, List.getElem_cons_zero, Act.put, List.setIfInBounds_toArray, List.set_cons_zero, List.set_cons_succ]
        refine wpAnyH_all (rs := [11]) (by kernel_rfl) (by simp) ?_
        intro i hi
        simp only [List.mem_cons, List.not_mem_nil, or_false] at hi
        subst hi
        refine wpOp_of_wp rfl rfl (fun K' hK' => ?_)
        go_wp2_with (go_at_call 20; refine (own_cut (HO.out.on ((Below.refl _ _).drew)) o.a o.n hoa).mono ?_; rintro e W3 ⟨rfl, v3, o3, m3⟩)
        have HO3 : Hid (Own w W3 t v3 Wd 1048576 (ply Wd 1048576 (l.take (k + 1))).1 (ply Wd 1048576 (l.take (k + 1))).2) := by rw [HP.out, HE.out]; exact o3
        refine ⟨HO3.out.be, ?_⟩
        refine wpAnyH_done (by kernel_rfl) ?_ _
        clear hS1 o3 m3 HO hs
        go_wp2_with (fail)
        go_roundw
        case rel => exact ⟨k + 1, v3, by omega, by go_num, HO3.out⟩
        case measure => simp [intOf]; omega
      · have HE : Hid (stp Wd 1048576 s o = (putM Wd 1048576 s.1 o.a o.n o.v, putA Wd 1048576 s.1 s.2 o.a o.n o.v)) := by show _ = _; unfold stp; rw [if_neg hk1]
        have hk1' : ¬ o.k = 1 := hk1
        go_upto_region 9 with (fail)
        clear x0
        refine wp_region_held_drew (S := fun w' => Below w.heap.size w w') (by kernel_rfl) HO.out.be.drew (fun hS1 => ?_)
        show wpAnyH _ _ _ _ _ 17 _ _ _
        refine wpAnyH_take (i := 0) (v := .pointer (some ⟨t, 0, none⟩)) rfl (by kernel_rfl) (by kernel_rfl) (by kernel_rfl) (fun _ _ _ h => h) (.inl ⟨rfl, fun _ _ => by simp [execOp, go_sem]⟩) hS1 ?_
        simp only [List.getElem_toArray, List.getElem_cons_succ, List.getElem_cons_zero, Act.put, List.setIfInBounds_toArray, List.set_cons_zero, List.set_cons_succ]
        refine wpAnyH_take (i := 1) (v := .slice (some ⟨g, off, none⟩) n cap) rfl (by kernel_rfl) (by kernel_rfl) (by kernel_rfl) (fun _ _ _ h => h) (.inl ⟨rfl, fun _ _ => by simp [execOp, go_sem]⟩) hS1 ?_
        simp only [List.getElem_toArray, List.getElem_cons_succ, List.getElem_cons_zero, Act.put, List.setIfInBounds_toArray, List.set_cons_zero, List.set_cons_succ]
        refine wpAnyH_take (i := 2) (v := .int .i64 (k : Int)) rfl (by kernel_rfl) (by kernel_rfl) (by kernel_rfl) (fun _ _ _ h => h) (.inl ⟨rfl, fun _ _ => by simp [execOp, go_sem]⟩) hS1 ?_
        simp only [List.getElem_toArray, List.getElem_cons_succ, List.getElem_cons_zero, Act.put, List.setIfInBounds_toArray, List.set_cons_zero, List.set_cons_succ]
        refine wpAnyH_take (i := 3) (v := .pointer (some ⟨g, off + k * 5, none⟩)) rfl (by kernel_rfl) (by kernel_rfl) (by kernel_rfl) (fun _ _ _ h => h) (yieldsIf_index rfl 22 (.tmp 44) (.tmp 45) rfl _ (fun w => by simp [Instr.indexAt, go_sem, hix, hix2])) hS1 ?_
        simp only [List.getElem_toArray, List.getElem_cons_succ, List.getElem_cons_zero, Act.put, List.setIfInBounds_toArray, List.set_cons_zero, List.set_cons_succ]
        refine wpAnyH_take (i := 4) (v := .pointer (some ⟨g, off + k * 5 + 2, none⟩)) rfl (by kernel_rfl) (by kernel_rfl) (by kernel_rfl) (fun _ _ _ h => h) (.inl ⟨rfl, fun _ _ => by simp [execOp, go_sem]⟩) hS1 ?_
        simp only [List.getElem_toArray, List.getElem_cons_succ, List.getElem_cons_zero, Act.put, List.setIfInBounds_toArray, List.set_cons_zero, List.set_cons_succ]
        refine wpAnyH_take (i := 5) (v := .int .u32 (o.a : Int)) rfl (by kernel_rfl) (by kernel_rfl) (by kernel_rfl) (fun _ _ _ h => h) (.inl ⟨rfl, fun w' hw' => by have hcc := Hc2.out w' hw'; simp [execOp, go_sem, hcc]⟩) hS1 ?_
        simp only [List.getElem_toArray, List.getElem_cons_succ, List.getElem_cons_zero, Act.put, List.setIfInBounds_toArray, List.set_cons_zero, List.set_cons_succ]
        refine wpAnyH_take (i := 6) (v := .slice (some ⟨g, off, none⟩) n cap) rfl (by kernel_rfl) (by kernel_rfl) (by kernel_rfl) (fun _ _ _ h => h) (.inl ⟨rfl, fun _ _ => by simp [execOp, go_sem]⟩) hS1 ?_
        simp only [List.getElem_toArray, List.getElem_cons_succ, List.getElem_cons_zero, Act.put, List.setIfInBounds_toArray, List.set_cons_zero, List.set_cons_succ]
        refine wpAnyH_take (i := 7) (v := .int .i64 (k : Int)) rfl (by kernel_rfl) (by kernel_rfl) (by kernel_rfl) (fun _ _ _ h => h) (.inl ⟨rfl, fun _ _ => by simp [execOp, go_sem]⟩) hS1 ?_
        simp only [List.getElem_toArray, List.getElem_cons_succ, List.getElem_cons_zero, Act.put, List.setIfInBounds_toArray, List.set_cons_zero, List.set_cons_succ]
        refine wpAnyH_take (i := 8) (v := .pointer (some ⟨g, off + k * 5, none⟩)) rfl (by kernel_rfl) (by kernel_rfl) (by kernel_rfl) (fun _ _ _ h => h) (yieldsIf_index rfl 22 (.tmp 49) (.tmp 50) rfl _ (fun w => by simp [Instr.indexAt, go_sem, hix, hix2])) hS1 ?_
        simp only [List.getElem_toArray, List.getElem_cons_succ, List.getElem_cons_zero, Act.put, List.setIfInBounds_toArray, List.set_cons_zero, List.set_cons_succ]
        refine wpAnyH_take (i := 9) (v := .pointer (some ⟨g, off + k * 5 + 3, none⟩)) rfl (by kernel_rfl) (by kernel_rfl) (by kernel_rfl) (fun _ _ _ h => h) (.inl ⟨rfl, fun _ _ => by simp [execOp, go_sem]⟩) hS1 ?_
        simp only [List.getElem_toArray, List.getElem_cons_succ, List.getElem_cons_zero, Act.put, List.setIfInBounds_toArray, List.set_cons_zero, List.set_cons_succ]
        refine wpAnyH_take (i := 10) (v := .int .i64 o.n) rfl (by kernel_rfl) (by kernel_rfl) (by kernel_rfl) (fun _ _ _ h => h) (.inl ⟨rfl, fun w' hw' => by have hcc := Hc3.out w' hw'; simp [execOp, go_sem, hcc]⟩) hS1 ?_
        simp only [List.getElem_toArray, List.getElem_cons_succ, List.getElem_cons_zero, Act.put, List.setIfInBounds_toArray, List.set_cons_zero, List.set_cons_succ]
        refine wpAnyH_take (i := 11) (v := .slice (some ⟨g, off, none⟩) n cap) rfl (by kernel_rfl) (by kernel_rfl) (by kernel_rfl) (fun _ _ _ h => h) (.inl ⟨rfl, fun _ _ => by simp [execOp, go_sem]⟩) hS1 ?_
        simp only [List.getElem_toArray, List.getElem_cons_succ, List.getElem_cons_zero, Act.put, List.setIfInBounds_toArray, List.set_cons_zero, List.set_cons_succ]
        refine wpAnyH_take (i := 12) (v := .int .i64 (k : Int)) rfl (by kernel_rfl) (by kernel_rfl) (by kernel_rfl) (fun _ _ _ h => h) (.inl ⟨rfl, fun _ _ => by simp [execOp, go_sem]⟩) hS1 ?_
        simp only [List.getElem_toArray, List.getElem_cons_succ, List.getElem_cons_zero, Act.put, List.setIfInBounds_toArray, List.set_cons_zero, List.set_cons_succ]
        refine wpAnyH_take (i := 13) (v := .pointer (some ⟨g, off + k * 5, none⟩)) rfl (by kernel_rfl) (by kernel_rfl) (by kernel_rfl) (fun _ _ _ h => h) (yieldsIf_index rfl 22 (.tmp 54) (.tmp 55) rfl _ (fun w => by simp [Instr.indexAt, go_sem, hix, hix2])) hS1 ?_
        simp only [List.getElem_toArray, List.getElem_cons_succ, List.getElem_cons_zero, Act.put, List.setIfInBounds_toArray, List.set_cons_zero, List.set_cons_succ]
        refine wpAnyH_take (i := 14) (v := .pointer (some ⟨g, off + k * 5 + 4, none⟩)) rfl (by kernel_rfl) (by kernel_rfl) (by kernel_rfl) (fun _ _ _ h => h) (.inl ⟨rfl, fun _ _ => by simp [execOp, go_sem]⟩) hS1 ?_
        simp only [List.getElem_toArray, List.getElem_cons_succ, List.getElem_cons_zero, Act.put, List.setIfInBounds_toArray, List.set_cons_zero, List.set_cons_succ]
        refine wpAnyH_take (i := 15) (v := .int .i64 o.v) rfl (by kernel_rfl) (by kernel_rfl) (by kernel_rfl) (fun _ _ _ h => h) (.inl ⟨rfl, fun w' hw' => by have hcc := Hc4.out w' hw'; simp [execOp, go_sem, hcc]⟩) hS1 ?_
        simp only [List.getElem_toArray, List.getElem_cons_succ, List.getElem_cons_zero, Act.put, List.setIfInBounds_toArray, List.set_cons_zero, List.set_cons_succ]
        refine wpAnyH_all (rs := [16]) (by kernel_rfl) (by simp) ?_
        intro i hi
        simp only [List.mem_cons, List.not_mem_nil, or_false] at hi
        subst hi
        refine wpOp_of_wp rfl rfl (fun K' hK' => ?_)
        go_wp2_with (go_at_call 19; refine (own_put (HO.out.on ((Below.refl _ _).drew)) o.a o.n o.v hoa).mono ?_; rintro e W3 ⟨rfl, v3, o3, m3⟩)
        have HO3 : Hid (Own w W3 t v3 Wd 1048576 (ply Wd 1048576 (l.take (k + 1))).1 (ply Wd 1048576 (l.take (k + 1))).2) := by rw [HP.out, HE.out]; exact o3
        refine ⟨HO3.out.be, ?_⟩
        refine wpAnyH_done (by kernel_rfl) ?_ _
        clear hS1 o3 m3 HO hs
        go_wp2_with (fail)
        go_roundw
        case rel => exact ⟨k + 1, v3, by omega, by go_num, HO3.out⟩
        case measure => simp [intOf]; omega
    · have hlt' : ¬ (k : Int) < (n : Int) := by omega
      have HF : Hid (Own w wr t v Wd 1048576 (ply Wd 1048576 l).1 (ply Wd 1048576 l).2) := by
        have e : l.take k = l := List.take_of_length_le (by have := Hn.out; omega)
        have := HO.out
        rw [e] at this
        exact this
      clear HO
      go_wp2_with (fail)
      go_ret
      exact ⟨t, rfl, v, HF.out⟩
end Go.Proofs.Ytfbkjghipahipaa
