/-
  (*Table).Delete. Written by tools/mkTbD.py.
-/
import Derived.Test.YtgidohnikggjfaaGreatTbI
namespace Go.Proofs.YtgidohnikggjfaaGreat
open Go.RowKit
set_option linter.unusedVariables false
set_option linter.unusedSimpArgs false

theorem del_list (l : List Ru) (k : Nat) (hk : k < l.length) (X : List Ru) (hX : X = l.take k ++ ((l.take l.length).drop (k + 1)).take (l.length - k) ++ l.drop (k + (((l.take l.length).drop (k + 1)).take (l.length - k)).length)) :
    X.take (l.length - 1) = outL l k := by
  have e0 : l.take l.length = l := List.take_of_length_le (Nat.le_refl _)
  have e1 : (l.drop (k + 1)).take (l.length - k) = l.drop (k + 1) := List.take_of_length_le (by simp; omega)
  rw [e0, e1] at hX
  rw [hX]
  unfold outL
  have hl : (l.take k ++ l.drop (k + 1)).length = l.length - 1 := by simp; omega
  rw [← hl, List.take_left]
/-- A row that is made shorter. -/
theorem RowU.less {w : World} {b g n cap : Nat} {l : List Ru} (h : RowU w b (.slice (.some ⟨g, 0, none⟩) n cap) l) (m : Nat) (hm : m ≤ n) : RowU w b (.slice (.some ⟨g, 0, none⟩) m cap) (l.take m) := by
  have hn : l.length = n := by
    rcases h.2 with ⟨hv, _⟩ | ⟨g', cap', cur, hv, _⟩
    · cases hv
    · cases hv; rfl
  have hlen : (l.take m).length = m := by rw [List.length_take]; omega
  rcases h.2 with ⟨hv, _⟩ | ⟨g', cap', cur, hv, hb, hg, hc, hmx, hs, ht⟩
  · cases hv
  · cases hv
    refine ⟨by rw [flatU_length], .inr ⟨g, cap, cur, by rw [hlen], hb, hg, by omega, hmx, hs, ?_⟩⟩
    rw [hlen, ← flatU_take, ← ht, List.take_take]
    congr 1
    omega
theorem Tab.set2 {w : World} {t : Nat} {v v' : Value} {M A : Int} {l l' : List Ru} (h : Tab w t v M A l) (hr : RowU w 0 v' l') (hne : v'.ownBlock ≠ some t) (hown : ∀ k, v'.ownBlock = some k → v.ownBlock = some k ∨ w.heap.size ≤ k) :
    Tab (w.setCell ⟨t, 2, none⟩ v') t v' M A l' ∧ Moved w (w.setCell ⟨t, 2, none⟩ v') t v v' := by
  refine ⟨⟨by have := blk_set h.1 (j := 2) v'; simpa using this, hr.put (fun e => hne e.symm) v', hne⟩, ⟨rfl, rfl, rfl, by simp, fun k hk ht _ => Below.heap_setCell _ _ _ _ ht, hown⟩⟩
set_option maxRecDepth 20000 in
set_option maxHeartbeats 8000000 in
theorem deleteOk (t : Nat) (v : Value) (M A : Int) (l : List Ru) (x : Int) (k : Nat) (w : World) (h : Tab w t v M A l) (hl : l.length ≤ 200000) (hf : fnd l x = (k : Int)) :
    Calls Tryz.prog 148 #[.pointer (some ⟨t, 0, none⟩), .int .i64 x] w fun e w' => e = .returned (.int .i64 0) ∧ ∃ v', Tab w' t v' M A (outL l k) ∧ Moved w w' t v v' := by
  have hF := findC t v M A l x w h hl
  rw [hf] at hF
  have hk : k < l.length := by rcases fnd_range l x with e | e <;> omega
  obtain ⟨g, cap, rfl, hcap, _, hgl⟩ := h.2.1.some (by omega)
  have HI : Hid (∀ X, X = l.take k ++ ((l.take l.length).drop (k + 1)).take (l.length - k) ++ l.drop (k + (((l.take l.length).drop (k + 1)).take (l.length - k)).length) → X.take (l.length - 1) = outL l k) := fun X hX => del_list l k hk X hX
  have hlt := h.lt
  have HT : Hid (Tab w t (.slice (some ⟨g, 0, none⟩) l.length cap) M A l) := h
  have hgt : t ≠ g := fun e => h.2.2 (by simp [Value.ownBlock, e])
  obtain ⟨n, hn⟩ : ∃ n, n = l.length := ⟨_, rfl⟩
  have Hn : Hid (n = l.length) := hn
  rw [← hn] at hl hk hcap HT HI ⊢
  clear h hn hf
  have hk0 : (0 : Int) ≤ (k : Int) := by omega
  have hn0 : (n : Int) ≤ 200000 := by omega
  have hwp : IntKind.i64.wrap ((k : Int) + 1) = (k : Int) + 1 := by rw [IntKind.wrap_i64]; omega
  go_enter Tryz.func148, Tryz.ntmps148
  go_wp2_with (fail)
  refine hF.mono ?_
  rintro e W1 ⟨rfl, hb1⟩
  have HT1 : Hid (Tab W1 t (.slice (some ⟨g, 0, none⟩) n cap) M A l) := HT.out.on hb1
  have HB1 : Hid (Below w.heap.size w W1) := hb1
  clear hb1 hF HT
  go_upto_region 6 with (fail)
  have HSr : Hid (SrcU W1.drew (cutU (some ⟨g, 0, none⟩) (k + 1) n cap) ((l.take n).drop (k + 1))) := SrcU.cut (HT1.out.drew.2.1.src) (k + 1) n (by omega) (by rw [Hn.out]; exact Nat.le_refl _)
  refine wp_region_held_drew (S := fun w' => w'.cell? ⟨t, 2, none⟩ = some (.slice (some ⟨g, 0, none⟩) n cap)) (by kernel_rfl) (blk3 HT1.out.1).2.2 (fun hS0 => ?_)
  show wpAnyH _ _ _ _ _ 14 _ _ _
  refine wpAnyH_take (i := 0) (v := .pointer (some ⟨t, 0, none⟩)) rfl (by kernel_rfl) (by kernel_rfl) (by kernel_rfl) (fun _ _ _ h => h) (.inl ⟨rfl, fun _ _ => by simp [execOp, go_sem]⟩) hS0 ?_
  simp only [List.getElem_toArray, List.getElem_cons_succ, List.getElem_cons_zero, Act.put, List.setIfInBounds_toArray, List.set_cons_zero, List.set_cons_succ]
  refine wpAnyH_take (i := 1) (v := .pointer (some ⟨t, 0, none⟩)) rfl (by kernel_rfl) (by kernel_rfl) (by kernel_rfl) (fun _ _ _ h => h) (.inl ⟨rfl, fun _ _ => by simp [execOp, go_sem]⟩) hS0 ?_
  simp only [List.getElem_toArray, List.getElem_cons_succ, List.getElem_cons_zero, Act.put, List.setIfInBounds_toArray, List.set_cons_zero, List.set_cons_succ]
  refine wpAnyH_take (i := 2) (v := .pointer (some ⟨t, 2, none⟩)) rfl (by kernel_rfl) (by kernel_rfl) (by kernel_rfl) (fun _ _ _ h => h) (.inl ⟨rfl, fun _ _ => by simp [execOp, go_sem]⟩) hS0 ?_
  simp only [List.getElem_toArray, List.getElem_cons_succ, List.getElem_cons_zero, Act.put, List.setIfInBounds_toArray, List.set_cons_zero, List.set_cons_succ]
  refine wpAnyH_take (i := 3) (v := .slice (some ⟨g, 0, none⟩) n cap) rfl (by kernel_rfl) (by kernel_rfl) (by kernel_rfl) (fun _ _ _ h => h) (.inl ⟨rfl, fun w' hw' => by have hcc := hw'; simp [execOp, go_sem, hcc]⟩) hS0 ?_
  simp only [List.getElem_toArray, List.getElem_cons_succ, List.getElem_cons_zero, Act.put, List.setIfInBounds_toArray, List.set_cons_zero, List.set_cons_succ]
  refine wpAnyH_take (i := 4) (v := .int .i64 (k : Int)) rfl (by kernel_rfl) (by kernel_rfl) (by kernel_rfl) (fun _ _ _ h => h) (.inl ⟨rfl, fun _ _ => by simp [execOp, go_sem]⟩) hS0 ?_
  simp only [List.getElem_toArray, List.getElem_cons_succ, List.getElem_cons_zero, Act.put, List.setIfInBounds_toArray, List.set_cons_zero, List.set_cons_succ]
  refine wpAnyH_take (i := 5) (v := cutU (some ⟨g, 0, none⟩) k n cap) rfl (by kernel_rfl) (by kernel_rfl) (by kernel_rfl) (fun _ _ _ h => h) (yieldsIf_slice rfl 56 (.tmp 16) (some (.tmp 17)) none none rfl _ (fun w => cut_l' w (some ⟨g, 0, none⟩) n cap k _ rfl (by omega))) hS0 ?_
  simp only [List.getElem_toArray, List.getElem_cons_succ, List.getElem_cons_zero, Act.put, List.setIfInBounds_toArray, List.set_cons_zero, List.set_cons_succ]
  refine wpAnyH_take (i := 6) (v := .pointer (some ⟨t, 0, none⟩)) rfl (by kernel_rfl) (by kernel_rfl) (by kernel_rfl) (fun _ _ _ h => h) (.inl ⟨rfl, fun _ _ => by simp [execOp, go_sem]⟩) hS0 ?_
  simp only [List.getElem_toArray, List.getElem_cons_succ, List.getElem_cons_zero, Act.put, List.setIfInBounds_toArray, List.set_cons_zero, List.set_cons_succ]
  refine wpAnyH_take (i := 7) (v := .pointer (some ⟨t, 0, none⟩)) rfl (by kernel_rfl) (by kernel_rfl) (by kernel_rfl) (fun _ _ _ h => h) (.inl ⟨rfl, fun _ _ => by simp [execOp, go_sem]⟩) hS0 ?_
  simp only [List.getElem_toArray, List.getElem_cons_succ, List.getElem_cons_zero, Act.put, List.setIfInBounds_toArray, List.set_cons_zero, List.set_cons_succ]
  refine wpAnyH_take (i := 8) (v := .pointer (some ⟨t, 2, none⟩)) rfl (by kernel_rfl) (by kernel_rfl) (by kernel_rfl) (fun _ _ _ h => h) (.inl ⟨rfl, fun _ _ => by simp [execOp, go_sem]⟩) hS0 ?_
  simp only [List.getElem_toArray, List.getElem_cons_succ, List.getElem_cons_zero, Act.put, List.setIfInBounds_toArray, List.set_cons_zero, List.set_cons_succ]
  refine wpAnyH_take (i := 9) (v := .slice (some ⟨g, 0, none⟩) n cap) rfl (by kernel_rfl) (by kernel_rfl) (by kernel_rfl) (fun _ _ _ h => h) (.inl ⟨rfl, fun w' hw' => by have hcc := hw'; simp [execOp, go_sem, hcc]⟩) hS0 ?_
  simp only [List.getElem_toArray, List.getElem_cons_succ, List.getElem_cons_zero, Act.put, List.setIfInBounds_toArray, List.set_cons_zero, List.set_cons_succ]
  refine wpAnyH_take (i := 10) (v := .int .i64 (k : Int)) rfl (by kernel_rfl) (by kernel_rfl) (by kernel_rfl) (fun _ _ _ h => h) (.inl ⟨rfl, fun _ _ => by simp [execOp, go_sem]⟩) hS0 ?_
  simp only [List.getElem_toArray, List.getElem_cons_succ, List.getElem_cons_zero, Act.put, List.setIfInBounds_toArray, List.set_cons_zero, List.set_cons_succ]
  refine wpAnyH_take (i := 11) (v := .int .i64 ((k : Int) + 1)) rfl (by kernel_rfl) (by kernel_rfl) (by kernel_rfl) (fun _ _ _ h => h) (.inl ⟨rfl, fun _ _ => by simp [execOp, go_sem, hwp]⟩) hS0 ?_
  simp only [List.getElem_toArray, List.getElem_cons_succ, List.getElem_cons_zero, Act.put, List.setIfInBounds_toArray, List.set_cons_zero, List.set_cons_succ]
  refine wpAnyH_take (i := 12) (v := cutU (some ⟨g, 0, none⟩) (k + 1) n cap) rfl (by kernel_rfl) (by kernel_rfl) (by kernel_rfl) (fun _ _ _ h => h) (yieldsIf_slice rfl 56 (.tmp 22) (some (.tmp 24)) none none rfl _ (fun w => cut_l' w (some ⟨g, 0, none⟩) n cap (k + 1) _ (by first | rfl | omega) (by omega))) hS0 ?_
  simp only [List.getElem_toArray, List.getElem_cons_succ, List.getElem_cons_zero, Act.put, List.setIfInBounds_toArray, List.set_cons_zero, List.set_cons_succ]
  refine wpAnyH_all (rs := [13]) (by kernel_rfl) (by simp) ?_
  intro i hi
  simp only [List.mem_cons, List.not_mem_nil, or_false] at hi
  subst hi
  refine wpOp_of_wp rfl rfl (fun K' hK' => ?_)
  refine wp_copyU (.tmp 18) (.tmp 25) rfl 0 g n cap l HT1.out.2.1 k (by omega) rfl _ _ rfl HSr.out (fun w5 hr5 hg5 => hK' _ _ ⟨?_, ?_⟩)
  · exact (hg5.cell_far ⟨t, 2, none⟩ HT1.out.lt (by simpa using hgt)).trans (blk3 HT1.out.1).2.2
  refine wpAnyH_done (by kernel_rfl) ?_ _
  simp only [List.getElem_toArray, List.getElem_cons_succ, List.getElem_cons_zero, Act.put, List.setIfInBounds_toArray, List.set_cons_zero, List.set_cons_succ]
  have HT5 : Hid (Tab w5 t (.slice (some ⟨g, 0, none⟩) n cap) M A _) := (Tab.grown rfl HT1.out.drew hr5 hg5).1
  have HM5 : Hid (Moved w w5 t (.slice (some ⟨g, 0, none⟩) n cap) (.slice (some ⟨g, 0, none⟩) n cap)) := Moved.start HB1.out hlt (Tab.grown rfl HT1.out.drew hr5 hg5).2.undrew
  clear hr5 hg5 hS0 HSr HT1 HB1 hK'
  go_upto_region 7 with (fail)
  obtain ⟨c0, c1, c2⟩ := blk3 HT5.out.1
  have f2 : w5.frozen? ⟨t, 2, none⟩ = false := blk_free HT5.out.1 2
  have i1 : (0 : Int) ≤ (n : Int) - 1 := by omega
  have i6 : (1 : Int) ≤ (n : Int) := by omega
  have i2 : (n : Int) - 1 ≤ (cap : Int) := by omega
  have i3 : ¬ cap = 0 := by omega
  have i4 : IntKind.i64.wrap ((n : Int) - 1) = (n : Int) - 1 := by rw [IntKind.wrap_i64]; omega
  have i5 : ((n : Int) - 1).toNat = n - 1 := by omega
  go_region
  go_wp2_with (fail)
  go_ret
  have HR6 := HT5.out.2.1.less (n - 1) (by omega)
  rw [HI.out _ rfl] at HR6
  have HT6 := Tab.set2 HT5.out.drew HR6 (fun e => hgt (by simpa [Value.ownBlock] using e.symm)) (fun k e => .inl e)
  exact ⟨rfl, .slice (some ⟨g, 0, none⟩) (n - 1) cap, HT6.1, HM5.out.trans HT6.2.undrew⟩
theorem deleteNo (t : Nat) (v : Value) (M A : Int) (l : List Ru) (x : Int) (w : World) (h : Tab w t v M A l) (hl : l.length ≤ 200000) (hf : fnd l x = -1) :
    Calls Tryz.prog 148 #[.pointer (some ⟨t, 0, none⟩), .int .i64 x] w fun e w' => e = .returned (.int .i64 114) ∧ Below w.heap.size w w' := by
  have hF := findC t v M A l x w h hl
  rw [hf] at hF
  clear h hf hl
  go_enter Tryz.func148, Tryz.ntmps148
  go_wp2_with (fail)
  refine hF.mono ?_
  rintro e W1 ⟨rfl, hb1⟩
  have HB1 : Hid (Below w.heap.size w W1) := hb1
  clear hb1 hF
  go_wp2_with (fail)
  go_ret
  exact ⟨rfl, HB1.out⟩
/-- Delete, whatever the id. -/
theorem deleteC (t : Nat) (v : Value) (M A : Int) (l : List Ru) (x : Int) (w : World) (h : Tab w t v M A l) (hl : l.length ≤ 200000) :
    Calls Tryz.prog 148 #[.pointer (some ⟨t, 0, none⟩), .int .i64 x] w fun e w' => e = .returned (.int .i64 (delE l x)) ∧ ∃ v', Tab w' t v' M A (delL l x) ∧ Moved w w' t v v' := by
  rcases fnd_range l x with e | e
  · have e1 : delE l x = 114 := if_neg (by omega)
    have e2 : delL l x = l := if_neg (by omega)
    rw [e1, e2]
    exact (deleteNo t v M A l x w h hl e).mono fun e w' ⟨h1, h2⟩ => ⟨h1, v, h.on h2, Moved.of_below h2⟩
  · have e1 : delE l x = 0 := if_pos e.1
    have e2 : delL l x = outL l (fnd l x).toNat := if_pos e.1
    rw [e1, e2]
    exact deleteOk t v M A l x (fnd l x).toNat w h hl (by omega)
end Go.Proofs.YtgidohnikggjfaaGreat
