/-
  PkAY: TbD TpEo TpAk TpAl TpSt TpV, one behind the other (tools/pack.py).
-/
import Derived.Test.YtfpmljgmfapoiaaGreatPkAW
import Derived.Test.YtfpmljgmfapoiaaGreatPkAD
import Derived.Test.YtfpmljgmfapoiaaGreatPkAX
import Derived.Test.YtfpmljgmfapoiaaGreatPkAV
/-
  (*Table).Delete. Written by tools/mkTbD.py.
-/
namespace Go.Proofs.YtfpmljgmfapoiaaGreat
open Go.RowKit
set_option linter.unusedVariables false
set_option linter.unusedSimpArgs false

theorem del_list (l : List Ru) (k : Nat) (hk : k < l.length) (X : List Ru) (hX : X = l.take k ++ ((l.take l.length).drop (k + 1)).take (l.length - k) ++ l.drop (k + (((l.take l.length).drop (k + 1)).take (l.length - k)).length)) :
    X.take (l.length - 1) = outL l k := by
  have e0 : l.take l.length = l := List.take_of_length_le (Nat.le_refl _)
  have e1 : (l.drop (k + 1)).take (l.length - k) = l.drop (k + 1) := List.take_of_length_le (by simp; omega)
  rw [e0, e1] at hX
  rw [hX]
  unfold outL
  have hl : (l.take k ++ l.drop (k + 1)).length = l.length - 1 := by simp; omega
  rw [← hl, List.take_left]
/-- A row that is made shorter. -/
theorem RowU.less {w : World} {b g n cap : Nat} {l : List Ru} (h : RowU w b (.slice (.some ⟨g, 0, none⟩) n cap) l) (m : Nat) (hm : m ≤ n) : RowU w b (.slice (.some ⟨g, 0, none⟩) m cap) (l.take m) := by
  have hn : l.length = n := by
    rcases h.2 with ⟨hv, _⟩ | ⟨g', cap', cur, hv, _⟩
    · cases hv
    · cases hv; rfl
  have hlen : (l.take m).length = m := by rw [List.length_take]; omega
  rcases h.2 with ⟨hv, _⟩ | ⟨g', cap', cur, hv, hb, hg, hc, hmx, hs, ht⟩
  · cases hv
  · cases hv
    refine ⟨by rw [flatU_length], .inr ⟨g, cap, cur, by rw [hlen], hb, hg, by omega, hmx, hs, ?_⟩⟩
    rw [hlen, ← flatU_take, ← ht, List.take_take]
    congr 1
    omega
theorem Tab.set2 {w : World} {t : Nat} {v v' : Value} {M A : Int} {l l' : List Ru} (h : Tab w t v M A l) (hr : RowU w 0 v' l') (hne : v'.ownBlock ≠ some t) (hown : ∀ k, v'.ownBlock = some k → v.ownBlock = some k ∨ w.heap.size ≤ k) :
    Tab (w.setCell ⟨t, 2, none⟩ v') t v' M A l' ∧ Moved w (w.setCell ⟨t, 2, none⟩ v') t v v' := by
  refine ⟨⟨by have := blk_set h.1 (j := 2) v'; simpa using this, hr.put (fun e => hne e.symm) v', hne⟩, ⟨rfl, rfl, rfl, by simp, fun k hk ht _ => Below.heap_setCell _ _ _ _ ht, hown⟩⟩
set_option maxRecDepth 20000 in
set_option maxHeartbeats 8000000 in
theorem deleteOk (t : Nat) (v : Value) (M A : Int) (l : List Ru) (x : Int) (k : Nat) (w : World) (h : Tab w t v M A l) (hl : l.length ≤ 200000) (hf : fnd l x = (k : Int)) :
    Calls Tryz.prog 134 #[.pointer (some ⟨t, 0, none⟩), .int .i64 x] w fun e w' => e = .returned (.int .i64 0) ∧ ∃ v', Tab w' t v' M A (outL l k) ∧ Moved w w' t v v' := by
  have hF := findC t v M A l x w h hl
  rw [hf] at hF
  have hk : k < l.length := by rcases fnd_range l x with e | e <;> omega
  obtain ⟨g, cap, rfl, hcap, _, hgl⟩ := h.2.1.some (by omega)
  have HI : Hid (∀ X, X = l.take k ++ ((l.take l.length).drop (k + 1)).take (l.length - k) ++ l.drop (k + (((l.take l.length).drop (k + 1)).take (l.length - k)).length) → X.take (l.length - 1) = outL l k) := fun X hX => del_list l k hk X hX
  have hlt := h.lt
  have HT : Hid (Tab w t (.slice (some ⟨g, 0, none⟩) l.length cap) M A l) := h
  have hgt : t ≠ g := fun e => h.2.2 (by simp [Value.ownBlock, e])
  obtain ⟨n, hn⟩ : ∃ n, n = l.length := ⟨_, rfl⟩
  have Hn : Hid (n = l.length) := hn
  rw [← hn] at hl hk hcap HT HI ⊢
  clear h hn hf
  have hk0 : (0 : Int) ≤ (k : Int) := by omega
  have hn0 : (n : Int) ≤ 200000 := by omega
  have hwp : IntKind.i64.wrap ((k : Int) + 1) = (k : Int) + 1 := by rw [IntKind.wrap_i64]; omega
  go_enter Tryz.func134, Tryz.ntmps134
  go_wp2_with (fail)
  refine hF.mono ?_
  rintro e W1 ⟨rfl, hb1⟩
  have HT1 : Hid (Tab W1 t (.slice (some ⟨g, 0, none⟩) n cap) M A l) := HT.out.on hb1
  have HB1 : Hid (Below w.heap.size w W1) := hb1
  clear hb1 hF HT
  go_upto_region 6 with (fail)
  have HSr : Hid (SrcU W1.drew (cutU (some ⟨g, 0, none⟩) (k + 1) n cap) ((l.take n).drop (k + 1))) := SrcU.cut (HT1.out.drew.2.1.src) (k + 1) n (by omega) (by rw [Hn.out]; exact Nat.le_refl _)
  refine wp_region_held_drew (S := fun w' => w'.cell? ⟨t, 2, none⟩ = some (.slice (some ⟨g, 0, none⟩) n cap)) (by kernel_rfl) (blk3 HT1.out.1).2.2 (fun hS0 => ?_)
  show wpAnyH _ _ _ _ _ 14 _ _ _
  refine wpTk (i := 0) (v := .pointer (some ⟨t, 0, none⟩)) hS0 ?_
  simp only [nrm]
  refine wpTk (i := 1) (v := .pointer (some ⟨t, 0, none⟩)) hS0 ?_
  simp only [nrm]
  refine wpTk (i := 2) (v := .pointer (some ⟨t, 2, none⟩)) hS0 ?_
  simp only [nrm]
  refine wpAnyH_take (i := 3) (v := .slice (some ⟨g, 0, none⟩) n cap) rfl (by kernel_rfl) (by kernel_rfl) (by kernel_rfl) (fun _ _ _ h => h) (.inl ⟨rfl, fun w' hw' => by have hcc := hw'; simp [execOp, go_sem, hcc]⟩) hS0 ?_
  simp only [nrm]
  refine wpTk (i := 4) (v := .int .i64 k) hS0 ?_
  simp only [nrm]
  refine wpAnyH_take (i := 5) (v := cutU (some ⟨g, 0, none⟩) k n cap) rfl (by kernel_rfl) (by kernel_rfl) (by kernel_rfl) (fun _ _ _ h => h) (yieldsIf_slice rfl 42 (.tmp 16) (some (.tmp 17)) none none rfl _ (fun w => cut_l' w (some ⟨g, 0, none⟩) n cap k _ rfl (by omega))) hS0 ?_
  simp only [nrm]
  refine wpTk (i := 6) (v := .pointer (some ⟨t, 0, none⟩)) hS0 ?_
  simp only [nrm]
  refine wpTk (i := 7) (v := .pointer (some ⟨t, 0, none⟩)) hS0 ?_
  simp only [nrm]
  refine wpTk (i := 8) (v := .pointer (some ⟨t, 2, none⟩)) hS0 ?_
  simp only [nrm]
  refine wpAnyH_take (i := 9) (v := .slice (some ⟨g, 0, none⟩) n cap) rfl (by kernel_rfl) (by kernel_rfl) (by kernel_rfl) (fun _ _ _ h => h) (.inl ⟨rfl, fun w' hw' => by have hcc := hw'; simp [execOp, go_sem, hcc]⟩) hS0 ?_
  simp only [nrm]
  refine wpTk (i := 10) (v := .int .i64 k) hS0 ?_
  simp only [nrm]
  refine wpAnyH_take (i := 11) (v := .int .i64 ((k : Int) + 1)) rfl (by kernel_rfl) (by kernel_rfl) (by kernel_rfl) (fun _ _ _ h => h) (.inl ⟨rfl, fun _ _ => by simp [execOp, go_sem, hwp]⟩) hS0 ?_
  simp only [nrm]
  refine wpAnyH_take (i := 12) (v := cutU (some ⟨g, 0, none⟩) (k + 1) n cap) rfl (by kernel_rfl) (by kernel_rfl) (by kernel_rfl) (fun _ _ _ h => h) (yieldsIf_slice rfl 42 (.tmp 22) (some (.tmp 24)) none none rfl _ (fun w => cut_l' w (some ⟨g, 0, none⟩) n cap (k + 1) _ (by first | rfl | omega) (by omega))) hS0 ?_
  simp only [nrm]
  refine wpO 13 (fun K' hK' => ?_)
  refine wp_copyU (.tmp 18) (.tmp 25) rfl 0 g n cap l HT1.out.2.1 k (by omega) rfl _ _ rfl HSr.out (fun w5 hr5 hg5 => hK' _ _ ⟨?_, ?_⟩)
  · exact (hg5.cell_far ⟨t, 2, none⟩ HT1.out.lt (by simpa using hgt)).trans (blk3 HT1.out.1).2.2
  refine wpAnyH_done (by kernel_rfl) ?_ _
  simp only [nrm]
  have HT5 : Hid (Tab w5 t (.slice (some ⟨g, 0, none⟩) n cap) M A _) := (Tab.grown rfl HT1.out.drew hr5 hg5).1
  have HM5 : Hid (Moved w w5 t (.slice (some ⟨g, 0, none⟩) n cap) (.slice (some ⟨g, 0, none⟩) n cap)) := Moved.start HB1.out hlt (Tab.grown rfl HT1.out.drew hr5 hg5).2.undrew
  clear hr5 hg5 hS0 HSr HT1 HB1 hK'
  go_upto_region 7 with (fail)
  obtain ⟨c0, c1, c2⟩ := blk3 HT5.out.1
  have f2 : w5.frozen? ⟨t, 2, none⟩ = false := blk_free HT5.out.1 2
  have i1 : (0 : Int) ≤ (n : Int) - 1 := by omega
  have i6 : (1 : Int) ≤ (n : Int) := by omega
  have i2 : (n : Int) - 1 ≤ (cap : Int) := by omega
  have i3 : ¬ cap = 0 := by omega
  have i4 : IntKind.i64.wrap ((n : Int) - 1) = (n : Int) - 1 := by rw [IntKind.wrap_i64]; omega
  have i5 : ((n : Int) - 1).toNat = n - 1 := by omega
  go_region
  go_wp2_with (fail)
  go_ret
  have HR6 := HT5.out.2.1.less (n - 1) (by omega)
  rw [HI.out _ rfl] at HR6
  have HT6 := Tab.set2 HT5.out.drew HR6 (fun e => hgt (by simpa [Value.ownBlock] using e.symm)) (fun k e => .inl e)
  exact ⟨rfl, .slice (some ⟨g, 0, none⟩) (n - 1) cap, HT6.1, HM5.out.trans HT6.2.undrew⟩
theorem deleteNo (t : Nat) (v : Value) (M A : Int) (l : List Ru) (x : Int) (w : World) (h : Tab w t v M A l) (hl : l.length ≤ 200000) (hf : fnd l x = -1) :
    Calls Tryz.prog 134 #[.pointer (some ⟨t, 0, none⟩), .int .i64 x] w fun e w' => e = .returned (.int .i64 114) ∧ Below w.heap.size w w' := by
  have hF := findC t v M A l x w h hl
  rw [hf] at hF
  clear h hf hl
  go_enter Tryz.func134, Tryz.ntmps134
  go_wp2_with (fail)
  refine hF.mono ?_
  rintro e W1 ⟨rfl, hb1⟩
  have HB1 : Hid (Below w.heap.size w W1) := hb1
  clear hb1 hF
  go_wp2_with (fail)
  go_ret
  exact ⟨rfl, HB1.out⟩
/-- Delete, whatever the id. -/
theorem deleteC (t : Nat) (v : Value) (M A : Int) (l : List Ru) (x : Int) (w : World) (h : Tab w t v M A l) (hl : l.length ≤ 200000) :
    Calls Tryz.prog 134 #[.pointer (some ⟨t, 0, none⟩), .int .i64 x] w fun e w' => e = .returned (.int .i64 (delE l x)) ∧ ∃ v', Tab w' t v' M A (delL l x) ∧ Moved w w' t v v' := by
  rcases fnd_range l x with e | e
  · have e1 : delE l x = 114 := if_neg (by omega)
    have e2 : delL l x = l := if_neg (by omega)
    rw [e1, e2]
    exact (deleteNo t v M A l x w h hl e).mono fun e w' ⟨h1, h2⟩ => ⟨h1, v, h.on h2, Moved.of_below h2⟩
  · have e1 : delE l x = 0 := if_pos e.1
    have e2 : delL l x = outL l (fnd l x).toNat := if_pos e.1
    rw [e1, e2]
    exact deleteOk t v M A l x (fnd l x).toNat w h hl (by omega)
end Go.Proofs.YtfpmljgmfapoiaaGreat
/-
  Lists that may be (out of GvE); a table that stays.
-/
namespace Go.Proofs.YtfpmljgmfapoiaaGreat
open Go.RowKit
set_option linter.unusedVariables false
set_option linter.unusedSimpArgs false

/-- A list that may be: each rule may be, no id twice, at most 64. -/
structure OkN (l : List Ru) : Prop where
  may : ∀ R ∈ l, okR R = true
  one : (l.map Ru.i).Nodup
  few : l.length ≤ 64
theorem OkN.nil : OkN [] := ⟨by simp, by simp, by simp⟩
theorem OkN.fnd {l : List Ru} (o : OkN l) {k : Nat} (hk : k < l.length) : fnd (l.take k) l[k].i = -1 := by
  rw [fnd_none]
  intro R hR e
  obtain ⟨j, hj, rfl⟩ := List.mem_iff_getElem.1 hR
  rw [List.length_take] at hj
  rw [List.getElem_take] at e
  have h1 := o.one
  rw [List.nodup_iff_pairwise_ne, List.pairwise_iff_getElem] at h1
  exact h1 j k (by simp; omega) (by simp; omega) (by omega) (by simpa using e)
theorem OkN.set {l : List Ru} (o : OkN l) : setE l 64 = 0 := by
  have key : ∀ d, d ≤ l.length → setK 64 (l.take (l.length - d)) (l.drop (l.length - d)) = 0 := fun d => by
    induction d with
    | zero => intro _; exact setK_end (Nat.le_refl _)
    | succ d ih =>
      intro hd
      have hk : l.length - (d + 1) < l.length := by omega
      have hj : joinE (l.take (l.length - (d + 1))) l[l.length - (d + 1)] = 0 := joinE_ok.2 ⟨(okR_err _).1 (o.may _ (List.getElem_mem hk)), o.fnd hk⟩
      have hf := o.few
      rw [setK_next hk hj (by omega), show l.length - (d + 1) + 1 = l.length - d by omega]
      exact ih (by omega)
  have := key l.length (Nat.le_refl _)
  rw [Nat.sub_self] at this
  exact this
theorem OkN.of_set {l : List Ru} {M : Int} (h : setE l M = 0) (hM : M ≤ 64) : OkN l := by
  have o := setE_ok h
  refine ⟨fun R hR => ?_, ?_, ?_⟩
  · obtain ⟨k, hk, rfl⟩ := List.mem_iff_getElem.1 hR
    exact o.may k hk
  · rw [List.nodup_iff_pairwise_ne, List.pairwise_iff_getElem]
    intro i j hi hj hij
    have := o.ne (j := i) (k := j) hij (by simpa using hj)
    simpa using this
  · rcases o.few with e | e
    · rw [e]; simp
    · omega
theorem okN_ins {l : List Ru} (o : OkN l) {M p : Int} {R : Ru} (h : insE l M p R = 0) (hM : M ≤ 64) : OkN (putL l p.toNat R) := by
  have hj : joinE l R = 0 := by
    unfold insE at h
    by_cases e : joinE l R = 0
    · exact e
    · rw [if_neg e] at h; exact absurd h e
  have hlt : (l.length : Int) < M := by
    unfold insE at h
    rw [if_pos hj] at h
    by_cases e : 0 ≤ p ∧ p ≤ l.length
    · rw [if_pos e] at h
      by_cases e2 : M ≤ l.length
      · rw [if_pos e2] at h; exact absurd h (by decide)
      · omega
    · rw [if_neg e] at h; exact absurd h (by decide)
  obtain ⟨j1, j2⟩ := joinE_ok.1 hj
  have hp : (putL l p.toNat R).Perm (R :: l) := by
    unfold putL
    refine (List.perm_middle).trans ?_
    rw [List.take_append_drop]
  refine ⟨fun S hS => ?_, ?_, ?_⟩
  · rcases List.mem_cons.1 (hp.mem_iff.1 hS) with rfl | hS
    · exact (okR_err _).2 j1
    · exact o.may S hS
  · rw [(hp.map Ru.i).nodup_iff, List.map_cons, List.nodup_cons]
    refine ⟨fun hm => ?_, o.one⟩
    obtain ⟨S, hS, e⟩ := List.mem_map.1 hm
    exact (fnd_none.1 j2) S hS e
  · rw [hp.length_eq, List.length_cons]; omega
theorem outL_sub (l : List Ru) (k : Nat) : (outL l k).Sublist l := by
  unfold outL
  conv => rhs; rw [← List.take_append_drop k l]
  exact List.Sublist.append_left (List.drop_sublist_drop_left l (Nat.le_succ k)) _
theorem okN_sub {l m : List Ru} (o : OkN l) (h : m.Sublist l) : OkN m := ⟨fun R hR => o.may R (h.subset hR), (h.map Ru.i).nodup o.one, Nat.le_trans h.length_le o.few⟩
theorem delL_sub (l : List Ru) (x : Int) : (delL l x).Sublist l := by
  unfold delL; split
  · exact outL_sub l _
  · exact List.Sublist.refl l
theorem putL_mem {l : List Ru} {p : Nat} {R S : Ru} (h : S ∈ putL l p R) : S = R ∨ S ∈ l := by
  unfold putL at h
  rcases List.mem_append.1 h with h | h
  · exact .inr (List.mem_of_mem_take h)
  · rcases List.mem_cons.1 h with h | h
    · exact .inl h
    · exact .inr (List.mem_of_mem_drop h)

theorem tab_stay {w w1 : World} {t : Nat} {v : Value} {M A : Int} {l : List Ru} (h : Tab w t v M A l) (ht : w1.heap[t]? = w.heap[t]?) (hv : ∀ k, v.ownBlock = some k → w1.heap[k]? = w.heap[k]?) : Tab w1 t v M A l := by
  refine ⟨ht.trans h.1, ?_, h.2.2⟩
  refine ⟨h.2.1.1, ?_⟩
  rcases h.2.1.2 with h2 | ⟨g, cap, cur, e, hg, hh, q⟩
  · exact .inl h2
  · exact .inr ⟨g, cap, cur, e, hg, by rw [hv g (by rw [e]; rfl)]; exact hh, q⟩
end Go.Proofs.YtfpmljgmfapoiaaGreat
/-
  The order of the tables; what Ask finds (no program named).
-/
namespace Go.Proofs.YtfpmljgmfapoiaaGreat
open Go.RowKit
set_option linter.unusedVariables false
set_option linter.unusedSimpArgs false

/-- The turns T of the tuples that P says, by the places of the list l up to k. -/
structure Od (l : List Ru) (k : Nat) (P : Tp → Prop) (T : List (Nat × Tp)) : Prop where
  nod : (T.map (·.2)).Nodup
  mem : ∀ t, t ∈ T.map (·.2) ↔ P t
  fst : ∀ x ∈ T, x.1 ≤ k ∧ ∃ hx : x.1 < l.length, x.2 ∈ tpR (l[x.1]'hx) ∧ ∀ i (hi : i < x.1), x.2 ∉ tpR (l[i]'(by omega))
  so : T.Pairwise fun a b => a.1 ≤ b.1
theorem Od.iff {l : List Ru} {k : Nat} {P Q : Tp → Prop} {T : List (Nat × Tp)} (h : Od l k P T) (e : ∀ t, P t ↔ Q t) : Od l k Q T := ⟨h.nod, fun t => (h.mem t).trans (e t), h.fst, h.so⟩
theorem Od.up {l : List Ru} {k k' : Nat} {P : Tp → Prop} {T : List (Nat × Tp)} (h : Od l k P T) (e : k ≤ k') : Od l k' P T := ⟨h.nod, h.mem, fun x hx => ⟨Nat.le_trans (h.fst x hx).1 e, (h.fst x hx).2⟩, h.so⟩
theorem Od.step {l : List Ru} {k : Nat} {P : Tp → Prop} {T : List (Nat × Tp)} (h : Od l k P T) (hk : k < l.length) {t : Tp} (ht : t ∈ tpR (l[k]'hk)) (hP : ∀ i (hi : i < k), t ∈ tpR (l[i]'(by omega)) → P t) : Od l k (fun s => P s ∨ s = t) (rkStep T k t) := by
  unfold rkStep
  split
  · rename_i e
    exact h.iff fun s => ⟨.inl, fun e2 => e2.elim id fun e3 => e3 ▸ (h.mem t).1 e⟩
  · rename_i e
    refine ⟨?_, fun s => ?_, fun x hx => ?_, ?_⟩
    · rw [List.map_append, List.nodup_append]
      exact ⟨h.nod, by simp, fun a ha b hb e2 => by simp at hb; subst hb; exact e (e2 ▸ ha)⟩
    · rw [List.map_append, List.mem_append, h.mem]; simp
    · rcases List.mem_append.1 hx with hx | hx
      · exact h.fst x hx
      · simp at hx; subst hx
        exact ⟨Nat.le_refl _, hk, ht, fun i hi hm => e ((h.mem t).2 (hP i hi hm))⟩
    · rw [List.pairwise_append]
      exact ⟨h.so, by simp, fun a ha b hb => by simp at hb; subst hb; exact (h.fst a ha).1⟩
theorem Od.row {l : List Ru} {k : Nat} (hk : k < l.length) : ∀ (xs : List Spt) {P : Tp → Prop} {T : List (Nat × Tp)}, Od l k P T → (∀ x ∈ xs, x.1 ∈ tpR (l[k]'hk)) → (∀ t i (hi : i < k), t ∈ tpR (l[i]'(by omega)) → P t) → Od l k (fun s => P s ∨ ∃ x ∈ xs, x.1 = s) (rkR T k xs)
  | [], P, T, h, _, _ => h.iff fun s => by simp
  | x :: xs, P, T, h, hx, hP => by
    have h1 := h.step hk (hx x (by simp)) (fun i hi e => hP _ i hi e)
    have h2 := Od.row hk xs h1 (fun y hy => hx y (by simp [hy])) (fun t i hi e => .inl (hP t i hi e))
    exact h2.iff fun s => by
      simp only [List.mem_cons, exists_eq_or_imp]
      constructor
      · rintro ((e | rfl) | e)
        · exact .inl e
        · exact .inr (.inl rfl)
        · exact .inr (.inr e)
      · rintro (e | rfl | e)
        · exact .inl (.inl e)
        · exact .inl (.inr rfl)
        · exact .inr e
theorem rk_od (l : List Ru) : ∀ k, k ≤ l.length → Od l k (fun s => ∃ i, ∃ hi : i < l.length, i < k ∧ s ∈ tpR (l[i]'hi)) (rkK l k)
  | 0, _ => ⟨by simp [rkK, rkG], fun t => by simp [rkK, rkG], fun x hx => by simp [rkK, rkG] at hx, by simp [rkK, rkG]⟩
  | k + 1, hk => by
    have h := rk_od l k (by omega)
    rw [rkK_step (by omega)]
    refine ((h.row (by omega) (spR (l[k]'(by omega))) (fun x hx => List.mem_map.2 ⟨x, hx, rfl⟩) (fun t i hi e => ⟨i, by omega, hi, e⟩)).iff fun s => ?_).up (Nat.le_succ k)
    constructor
    · rintro (⟨i, hi, h1, h2⟩ | ⟨x, hx, rfl⟩)
      · exact ⟨i, hi, by omega, h2⟩
      · exact ⟨k, by omega, by omega, List.mem_map.2 ⟨x, hx, rfl⟩⟩
    · rintro ⟨i, hi, h1, h2⟩
      by_cases e : i = k
      · subst e
        obtain ⟨x, hx, rfl⟩ := List.mem_map.1 h2
        exact .inr ⟨x, hx, rfl⟩
      · exact .inl ⟨i, hi, by omega, h2⟩

/-- What was found so far: the least place, the tables asked, the most slots, the rules held. -/
structure As where
  m : Nat
  tb : Nat
  pb : Nat
  ru : Nat
def asStp (fd : Tp → Option Nat) (pr : Tp → Nat) (s : As) (x : Nat × Tp) : As :=
  ⟨match fd x.2 with | none => s.m | some i => min s.m i, s.tb + 1, max s.pb (pr x.2), match fd x.2 with | none => s.ru | some _ => s.ru + 1⟩
def askS (fd : Tp → Option Nat) (pr : Tp → Nat) : List (Nat × Tp) → As → As
  | [], s => s
  | x :: T, s => if s.m ≤ x.1 then s else askS fd pr T (asStp fd pr s x)
theorem ask_split (fd : Tp → Option Nat) (pr : Tp → Nat) : ∀ (T : List (Nat × Tp)) (s : As), ∃ T1 T2, T = T1 ++ T2 ∧ askS fd pr T s = T1.foldl (asStp fd pr) s ∧ (T2 = [] ∨ ∃ x T3, T2 = x :: T3 ∧ (askS fd pr T s).m ≤ x.1)
  | [], s => ⟨[], [], rfl, rfl, .inl rfl⟩
  | x :: T, s => by
    unfold askS
    split
    · rename_i e
      exact ⟨[], x :: T, rfl, rfl, .inr ⟨x, T, rfl, e⟩⟩
    · obtain ⟨T1, T2, e1, e2, e3⟩ := ask_split fd pr T (asStp fd pr s x)
      exact ⟨x :: T1, T2, by rw [e1]; rfl, e2, e3⟩
theorem as_tb (fd : Tp → Option Nat) (pr : Tp → Nat) : ∀ (T : List (Nat × Tp)) (s : As), (T.foldl (asStp fd pr) s).tb = s.tb + T.length
  | [], s => rfl
  | x :: T, s => by
    rw [List.foldl_cons, as_tb fd pr T, List.length_cons]
    show s.tb + 1 + T.length = _
    omega
theorem as_ru (fd : Tp → Option Nat) (pr : Tp → Nat) : ∀ (T : List (Nat × Tp)) (s : As), (T.foldl (asStp fd pr) s).ru = s.ru + (T.filterMap fun x => fd x.2).length
  | [], s => rfl
  | x :: T, s => by
    rw [List.foldl_cons, as_ru fd pr T, List.filterMap_cons]
    unfold asStp
    cases h : fd x.2 with
    | none => simp [h]
    | some i => simp [h]; omega
theorem as_m_le (fd : Tp → Option Nat) (pr : Tp → Nat) : ∀ (T : List (Nat × Tp)) (s : As), (T.foldl (asStp fd pr) s).m ≤ s.m ∧ ∀ x ∈ T, ∀ i, fd x.2 = some i → (T.foldl (asStp fd pr) s).m ≤ i
  | [], s => ⟨Nat.le_refl _, fun x hx => by simp at hx⟩
  | x :: T, s => by
    obtain ⟨h1, h2⟩ := as_m_le fd pr T (asStp fd pr s x)
    have h3 : (asStp fd pr s x).m ≤ s.m := by unfold asStp; cases fd x.2 <;> simp; omega
    rw [List.foldl_cons]
    refine ⟨Nat.le_trans h1 h3, fun y hy i hi => ?_⟩
    rcases List.mem_cons.1 hy with rfl | hy
    · refine Nat.le_trans h1 ?_
      unfold asStp; rw [hi]; simp; omega
    · exact h2 y hy i hi
theorem as_m_is (fd : Tp → Option Nat) (pr : Tp → Nat) : ∀ (T : List (Nat × Tp)) (s : As), (T.foldl (asStp fd pr) s).m = s.m ∨ ∃ x ∈ T, fd x.2 = some (T.foldl (asStp fd pr) s).m
  | [], s => .inl rfl
  | x :: T, s => by
    rw [List.foldl_cons]
    rcases as_m_is fd pr T (asStp fd pr s x) with h | ⟨y, hy, h⟩
    · rw [h]
      cases hx : fd x.2 with
      | none => left; unfold asStp; rw [hx]
      | some i =>
        have e : (asStp fd pr s x).m = min s.m i := by unfold asStp; rw [hx]
        rw [e]
        by_cases hm : s.m ≤ i
        · left; omega
        · right; exact ⟨x, by simp, by rw [hx]; congr 1; omega⟩
    · exact .inr ⟨y, by simp [hy], h⟩
theorem as_pb (fd : Tp → Option Nat) (pr : Tp → Nat) : ∀ (T : List (Nat × Tp)) (s : As), s.pb ≤ (T.foldl (asStp fd pr) s).pb ∧ (∀ x ∈ T, pr x.2 ≤ (T.foldl (asStp fd pr) s).pb) ∧ ((T.foldl (asStp fd pr) s).pb = s.pb ∨ ∃ x ∈ T, (T.foldl (asStp fd pr) s).pb = pr x.2)
  | [], s => ⟨Nat.le_refl _, fun x hx => by simp at hx, .inl rfl⟩
  | x :: T, s => by
    obtain ⟨h1, h2, h3⟩ := as_pb fd pr T (asStp fd pr s x)
    have e : (asStp fd pr s x).pb = max s.pb (pr x.2) := rfl
    rw [List.foldl_cons]
    refine ⟨by omega, fun y hy => ?_, ?_⟩
    · rcases List.mem_cons.1 hy with rfl | hy
      · omega
      · exact h2 y hy
    · rcases h3 with h3 | ⟨y, hy, h3⟩
      · by_cases hm : pr x.2 ≤ s.pb
        · left; omega
        · right; exact ⟨x, by simp, by omega⟩
      · exact .inr ⟨y, by simp [hy], h3⟩
end Go.Proofs.YtfpmljgmfapoiaaGreat
/-
  What Ask finds is the rule that matches first (no program named).
-/
namespace Go.Proofs.YtfpmljgmfapoiaaGreat
open Go.RowKit
set_option linter.unusedVariables false
set_option linter.unusedSimpArgs false

theorem mat_atN {h : Hd} {l : List Ru} {k : Nat} (hk : k < l.length) (hn : ∀ j (hj : j < k), matchR (l[j]'(by omega)) h = false) (hm : matchR (l[k]'hk) h = true) : mat l h = (k : Int) := by
  have key : ∀ d, d ≤ k → matK h (l.drop (k - d)) (k - d) = (k : Int) := fun d => by
    induction d with
    | zero => intro _; exact matK_hit hk hm
    | succ d ih =>
      intro hd
      rw [matK_no (by omega) (hn (k - (d + 1)) (by omega)), show k - (d + 1) + 1 = k - d by omega]
      exact ih (by omega)
  have := key k (Nat.le_refl _)
  rw [Nat.sub_self] at this
  exact this
theorem mat_noneN {h : Hd} {l : List Ru} (hn : ∀ j (hj : j < l.length), matchR (l[j]'hj) h = false) : mat l h = -1 := by
  have key : ∀ d, d ≤ l.length → matK h (l.drop (l.length - d)) (l.length - d) = -1 := fun d => by
    induction d with
    | zero => intro _; exact matK_end (Nat.le_refl _)
    | succ d ih =>
      intro hd
      rw [matK_no (by omega) (hn (l.length - (d + 1)) (by omega)), show l.length - (d + 1) + 1 = l.length - d by omega]
      exact ih (by omega)
  have := key l.length (Nat.le_refl _)
  rw [Nat.sub_self] at this
  exact this
/-- The least place of the rules that the table of a tuple has for a header. -/
def fdK (l : List Ru) (h : Hd) (t : Tp) : Option Nat := match con (allS l) t (cutH t h) with | [] => none | i :: _ => some (fnd l i).toNat
theorem fd_none {l : List Ru} {h : Hd} {t : Tp} (e : fdK l h t = none) : ∀ R ∈ l, (t, cutH t h) ∉ spR R := by
  unfold fdK at e
  split at e
  · rename_i e2
    exact con_nil.1 e2
  · cases e
theorem fnd_atN {l : List Ru} (o : OkN l) {j : Nat} (hj : j < l.length) : fnd l (l[j]'hj).i = (j : Int) := by
  rcases fnd_range l (l[j]'hj).i with e | ⟨e1, e2⟩
  · exact absurd rfl (fnd_none.1 e _ (List.getElem_mem hj))
  · obtain ⟨hk, e3⟩ := fnd_get (l := l) (id := (l[j]'hj).i) (k := (fnd l (l[j]'hj).i).toNat) (by omega)
    have h1 := o.one
    rw [List.nodup_iff_pairwise_ne, List.pairwise_iff_getElem] at h1
    rcases Nat.lt_trichotomy (fnd l (l[j]'hj).i).toNat j with h2 | h2 | h2
    · exact absurd (by rw [List.getElem_map, List.getElem_map]; exact e3) (h1 _ j (by simp; omega) (by simp; omega) h2)
    · omega
    · exact absurd (by rw [List.getElem_map, List.getElem_map]; exact e3.symm) (h1 j _ (by simp; omega) (by simp; omega) h2)
theorem fd_some {l : List Ru} (o : OkN l) {h : Hd} {t : Tp} {i : Nat} (e : fdK l h t = some i) : ∃ hi : i < l.length, (t, cutH t h) ∈ spR (l[i]'hi) ∧ ∀ j (hj : j < i), (t, cutH t h) ∉ spR (l[j]'(by omega)) := by
  unfold fdK at e
  split at e
  · cases e
  · rename_i q rest e2
    obtain ⟨j, hj, e3, e4, e5⟩ := con_head e2
    injection e with e
    rw [← e3, fnd_atN o hj] at e
    have e6 : j = i := by omega
    subst e6
    exact ⟨hj, e4, fun j' hj' hm => by have := e5 j' (by omega) hm; omega⟩
theorem fd_match {l : List Ru} (o : OkN l) {h : Hd} (oh : OkH h) {t : Tp} {i : Nat} (e : fdK l h t = some i) : ∃ hi : i < l.length, matchR (l[i]'hi) h = true := by
  obtain ⟨hi, h1, _⟩ := fd_some o e
  exact ⟨hi, (sp_match oh (o.may _ (List.getElem_mem hi))).2 ⟨_, h1, rfl⟩⟩
/-- A rule that matches stands in the table of one of the turns, at a place no greater. -/
theorem fd_turn {l : List Ru} (o : OkN l) {h : Hd} (oh : OkH h) {i : Nat} (hi : i < l.length) (hm : matchR (l[i]'hi) h = true) : ∃ x ∈ rkK l l.length, x.1 ≤ i ∧ ∃ j, fdK l h x.2 = some j ∧ j ≤ i := by
  obtain ⟨y, hy, e⟩ := (sp_match oh (o.may _ (List.getElem_mem hi))).1 hm
  have od := rk_od l l.length (Nat.le_refl _)
  have ht : y.1 ∈ tpR (l[i]'hi) := List.mem_map.2 ⟨y, hy, rfl⟩
  obtain ⟨x, hx, hxy⟩ := List.mem_map.1 ((od.mem y.1).2 ⟨i, hi, hi, ht⟩)
  have hy2 : (y.1, cutH y.1 h) ∈ spR (l[i]'hi) := by rw [e]; exact hy
  refine ⟨x, hx, ?_, ?_⟩
  · obtain ⟨_, _, _, h3⟩ := od.fst x hx
    by_cases hlt : i < x.1
    · exact absurd (hxy ▸ ht) (h3 i hlt)
    · omega
  · rw [hxy]
    cases hf : fdK l h y.1 with
    | none => exact absurd hy2 (fd_none hf _ (List.getElem_mem hi))
    | some j =>
      refine ⟨j, rfl, ?_⟩
      obtain ⟨_, _, h5⟩ := fd_some o hf
      by_cases hlt : i < j
      · exact absurd hy2 (h5 i hlt)
      · omega
theorem nodup_lt : ∀ (n : Nat) (L : List Nat), L.Nodup → (∀ x ∈ L, x < n) → L.length ≤ n := fun n L h hb => by
  have := List.Nodup.length_le_of_subset h (l₂ := List.range n) fun x hx => List.mem_range.2 (hb x hx)
  simpa using this
theorem ask_ok {l : List Ru} (o : OkN l) {h : Hd} (oh : OkH h) (pr : Tp → Nat) (s : As) (hs : s = askS (fdK l h) pr (rkK l l.length) ⟨64, 0, 0, 0⟩) :
    ((s.m = 64 ∧ mat l h = -1 ∧ s.ru = 0) ∨ (s.m < l.length ∧ mat l h = (s.m : Int) ∧ 1 ≤ s.ru)) ∧ s.ru ≤ l.length ∧ s.tb ≤ (rkK l l.length).length ∧ ((s.tb = 0 ∧ s.pb = 0) ∨ ∃ x ∈ rkK l l.length, s.pb = pr x.2) := by
  have od := rk_od l l.length (Nat.le_refl _)
  obtain ⟨T1, T2, e1, e2, e3⟩ := ask_split (fdK l h) pr (rkK l l.length) ⟨64, 0, 0, 0⟩
  rw [← hs] at e2 e3
  have hT1 : ∀ x ∈ T1, x ∈ rkK l l.length := fun x hx => by rw [e1]; exact List.mem_append_left _ hx
  have htb := as_tb (fdK l h) pr T1 ⟨64, 0, 0, 0⟩
  have hru := as_ru (fdK l h) pr T1 ⟨64, 0, 0, 0⟩
  obtain ⟨hm1, hm2⟩ := as_m_le (fdK l h) pr T1 ⟨64, 0, 0, 0⟩
  have hm3 := as_m_is (fdK l h) pr T1 ⟨64, 0, 0, 0⟩
  obtain ⟨_, hp2, hp3⟩ := as_pb (fdK l h) pr T1 ⟨64, 0, 0, 0⟩
  rw [← e2] at htb hru hm1 hm2 hm3 hp2 hp3
  simp only [Nat.zero_add] at htb hru hm1 hm3 hp3
  have hfew := o.few
  -- a turn that was left out has a place no less
  have hleft : ∀ x ∈ rkK l l.length, x ∈ T1 ∨ s.m ≤ x.1 := fun x hx => by
    rw [e1] at hx
    rcases List.mem_append.1 hx with hx | hx
    · exact .inl hx
    · rcases e3 with e3 | ⟨y, T3, e3, e4⟩
      · rw [e3] at hx; cases hx
      · right
        have hso := od.so
        rw [e1, e3, List.pairwise_append] at hso
        rw [e3] at hx
        rcases List.mem_cons.1 hx with rfl | hx
        · exact e4
        · exact Nat.le_trans e4 ((List.pairwise_cons.1 hso.2.1).1 x hx)
  refine ⟨?_, ?_, ?_, ?_⟩
  · rcases hm3 with hm3 | ⟨x, hx, hm3⟩
    · left
      have hno : ∀ x ∈ T1, fdK l h x.2 = none := fun x hx => by
        cases hf : fdK l h x.2 with
        | none => rfl
        | some i =>
          have h1 := hm2 x hx i hf
          obtain ⟨hi, _⟩ := fd_some o hf
          omega
      refine ⟨hm3, mat_noneN fun j hj => ?_, ?_⟩
      · cases hmj : matchR (l[j]'hj) h with
        | false => rfl
        | true =>
          obtain ⟨x, hx, h1, i, h2, h3⟩ := fd_turn o oh hj hmj
          rcases hleft x hx with h4 | h4
          · rw [hno x h4] at h2; cases h2
          · omega
      · rw [hru]
        rw [List.length_eq_zero_iff, List.filterMap_eq_nil_iff]
        exact hno
    · right
      obtain ⟨hi, hmi⟩ := fd_match o oh hm3
      refine ⟨hi, mat_atN hi (fun j hj => ?_) hmi, ?_⟩
      · cases hmj : matchR (l[j]'(by omega)) h with
        | false => rfl
        | true =>
          obtain ⟨y, hy, h1, i, h2, h3⟩ := fd_turn o oh (by omega) hmj
          rcases hleft y hy with h4 | h4
          · have := hm2 y h4 i h2; omega
          · omega
      · rw [hru]
        exact List.length_pos_of_mem (List.mem_filterMap.2 ⟨x, hx, hm3⟩)
  · rw [hru]
    refine nodup_lt _ _ ?_ fun i hi => ?_
    · have hnd : (T1.map (·.2)).Nodup := by
        have := od.nod
        rw [e1, List.map_append, List.nodup_append] at this
        exact this.1
      rw [List.Nodup, List.pairwise_filterMap]
      rw [List.Nodup, List.pairwise_map] at hnd
      refine hnd.imp fun {a b} hab i hi j hj e => ?_
      subst e
      obtain ⟨h1, h2, _⟩ := fd_some o hi
      obtain ⟨_, h4, _⟩ := fd_some o hj
      have := sp_uniq oh (o.may _ (List.getElem_mem h1)) h2 h4 rfl rfl
      exact hab (congrArg (·.1) this)
    · obtain ⟨x, _, hx⟩ := List.mem_filterMap.1 hi
      exact (fd_some o hx).1
  · rw [htb, e1, List.length_append]; omega
  · rcases hp3 with hp3 | ⟨x, hx, hp3⟩
    · cases hT : T1 with
      | nil => left; rw [hT] at htb; exact ⟨htb, hp3⟩
      | cons x T3 =>
        right
        have := hp2 x (by rw [hT]; simp)
        exact ⟨x, hT1 x (by rw [hT]; simp), by omega⟩
    · exact .inr ⟨x, hT1 x hx, hp3⟩
end Go.Proofs.YtfpmljgmfapoiaaGreat
/-
  What Stats sums up (no program named).
-/
namespace Go.Proofs.YtfpmljgmfapoiaaGreat
open Go.RowKit
set_option linter.unusedVariables false
set_option linter.unusedSimpArgs false

theorem sum_add {α : Type} (f g : α → Nat) : ∀ (D : List α), (D.map fun t => f t + g t).sum = (D.map f).sum + (D.map g).sum
  | [] => rfl
  | x :: D => by
    have := sum_add f g D
    simp only [List.map_cons, List.sum_cons]; omega
theorem sum_ind (s : Tp) : ∀ (D : List Tp), D.Nodup → s ∈ D → (D.map fun t => if s = t then 1 else 0).sum = 1
  | [], _, h => by cases h
  | x :: D, hn, h => by
    rw [List.nodup_cons] at hn
    rw [List.map_cons, List.sum_cons]
    by_cases e : s = x
    · subst e
      have h0 : (D.map fun t => if s = t then 1 else 0) = D.map fun _ => 0 := List.map_congr_left fun t ht => if_neg fun (e2 : s = t) => hn.1 (e2 ▸ ht)
      have h1 : ∀ D : List Tp, (D.map fun _ => (0 : Nat)).sum = 0 := fun D => by
        induction D with
        | nil => rfl
        | cons y D ih => rw [List.map_cons, List.sum_cons, ih]
      rw [h0, h1, if_pos rfl]
    · rw [if_neg e, sum_ind s D hn.2 ((List.mem_cons.1 h).resolve_left e)]
theorem sum_ent {D : List Tp} (hD : D.Nodup) : ∀ (A : List ((Tp × Hx.Hd) × Int)), (∀ y ∈ A, y.1.1 ∈ D) → (D.map (ent A)).sum = A.length
  | [], _ => by
    have h1 : ∀ D : List Tp, (D.map (ent [])).sum = 0 := fun D => by
      induction D with
      | nil => rfl
      | cons y D ih => rw [List.map_cons, List.sum_cons, ih]; rfl
    rw [h1]; rfl
  | y :: A, h => by
    have e : (D.map (ent (y :: A))) = D.map fun t => ent A t + if y.1.1 = t then 1 else 0 := List.map_congr_left fun t _ => by
      unfold ent
      rw [List.countP_cons]
      by_cases e2 : y.1.1 = t <;> simp [e2]
    rw [e, sum_add, sum_ent hD A (fun z hz => h z (by simp [hz])), sum_ind _ D hD (h y (by simp)), List.length_cons]
theorem sum_zero : ∀ D : List Tp, (D.map fun _ => (0 : Nat)).sum = 0
  | [] => rfl
  | x :: D => by rw [List.map_cons, List.sum_cons, sum_zero D]
theorem sum_ent_le {D : List Tp} (hD : D.Nodup) : ∀ (A : List ((Tp × Hx.Hd) × Int)), (D.map (ent A)).sum ≤ A.length
  | [] => by
    have e : D.map (ent []) = D.map fun _ => 0 := List.map_congr_left fun t _ => rfl
    rw [e, sum_zero]; exact Nat.le_refl _
  | y :: A => by
    have e : (D.map (ent (y :: A))) = D.map fun t => ent A t + if y.1.1 = t then 1 else 0 := List.map_congr_left fun t _ => by
      unfold ent
      rw [List.countP_cons]
      by_cases e2 : y.1.1 = t <;> simp [e2]
    have h1 := sum_ent_le hD A
    have h2 : (D.map fun t => if y.1.1 = t then 1 else 0).sum ≤ 1 := by
      by_cases h : y.1.1 ∈ D
      · rw [sum_ind _ D hD h]; exact Nat.le_refl _
      · have h0 : (D.map fun t => if y.1.1 = t then 1 else 0) = D.map fun _ => 0 := List.map_congr_left fun t ht => if_neg fun (e2 : y.1.1 = t) => h (e2 ▸ ht)
        rw [h0, sum_zero]; omega
    rw [e, sum_add, List.length_cons]; omega
/-- The greatest of the slots. -/
def maxS (L : Tp → List Hx.SlI) (D : List Tp) : Nat := D.foldr (fun t n => max (L t).length n) 0
theorem maxS_ge {L : Tp → List Hx.SlI} : ∀ {D : List Tp} {t : Tp}, t ∈ D → (L t).length ≤ maxS L D
  | x :: D, t, h => by
    show _ ≤ max (L x).length (maxS L D)
    rcases List.mem_cons.1 h with rfl | h
    · omega
    · have := maxS_ge (L := L) h; omega
theorem maxS_le {L : Tp → List Hx.SlI} {n : Nat} : ∀ {D : List Tp}, (∀ t ∈ D, (L t).length ≤ n) → maxS L D ≤ n
  | [], _ => Nat.zero_le _
  | x :: D, h => by
    have h1 := h x (by simp)
    have h2 := maxS_le (L := L) (D := D) fun t ht => h t (by simp [ht])
    show max (L x).length (maxS L D) ≤ n
    omega
theorem maxS_same {L : Tp → List Hx.SlI} {D D' : List Tp} (h : ∀ t, t ∈ D ↔ t ∈ D') : maxS L D = maxS L D' :=
  Nat.le_antisymm (maxS_le fun t ht => maxS_ge ((h t).1 ht)) (maxS_le fun t ht => maxS_ge ((h t).2 ht))
theorem len_same {D D' : List Tp} (hD : D.Nodup) (hD' : D'.Nodup) (h : ∀ t, t ∈ D ↔ t ∈ D') : D.length = D'.length :=
  Nat.le_antisymm (List.Nodup.length_le_of_subset hD fun t ht => (h t).1 ht) (List.Nodup.length_le_of_subset hD' fun t ht => (h t).2 ht)
/-- The tuples of a list, in the order of their turns. -/
def tpsK (l : List Ru) : List Tp := (rkK l l.length).map (·.2)
theorem tps_nod (l : List Ru) : (tpsK l).Nodup := (rk_od l l.length (Nat.le_refl _)).nod
theorem tps_mem {l : List Ru} {t : Tp} : t ∈ tpsK l ↔ 0 < ent (allS l) t := by
  rw [ent_all]
  refine ((rk_od l l.length (Nat.le_refl _)).mem t).trans ⟨fun ⟨i, hi, _, h⟩ => ⟨_, List.getElem_mem hi, h⟩, fun ⟨R, hR, h⟩ => ?_⟩
  obtain ⟨i, hi, rfl⟩ := List.mem_iff_getElem.1 hR
  exact ⟨i, hi, hi, h⟩
theorem tps_sum (l : List Ru) : ((tpsK l).map (ent (allS l))).sum = (allS l).length := sum_ent (tps_nod l) _ fun y hy => tps_mem.2 (ent_pos.2 ⟨y, hy, rfl⟩)
end Go.Proofs.YtfpmljgmfapoiaaGreat
/-
  verdict. Written by tools/mkTpV.py.
-/
namespace Go.Proofs.YtfpmljgmfapoiaaGreat
open Go.RowKit
set_option linter.unusedVariables false
set_option linter.unusedSimpArgs false

set_option maxHeartbeats 2000000 in
set_option maxRecDepth 20000 in
theorem verdictIn (X t : Nat) (v c2 c3 c4 : Value) (c : Cf) (l : List Ru) (k : Nat) (hk : k < l.length) (p : Ru) (hp : p = l[k]'hk) (w : World) (h : w.heap[X]? = some (.cells #[.pointer (some ⟨t, 0, none⟩), .int .i64 c.a, c2, c3, c4] 76 (0, 0))) (hT : Tab w t v c.m c.a l) (hl : l.length ≤ 64) :
    Calls Tryz.prog 35 #[.pointer (some ⟨X, 0, none⟩), .int .i64 k] w fun e w' => e = .returned (.agg #[.bool true, .int .i64 p.i, .int .i64 p.act]) ∧ Below w.heap.size w w' := by
  have hb0 : Below w.heap.size w (w.alloc (.cells #[.bool false, .int .i64 0, .int .i64 0] 62)) := (Below.refl _ _).alloc (Nat.le_refl _) _
  have HB0 : Hid _ := hb0
  have HV0 : Hid ((w.alloc (.cells #[.bool false, .int .i64 0, .int .i64 0] 62)).heap[w.heap.size]? = some (.cells #[.bool false, .int .i64 0, .int .i64 0] 62)) := blk_new _ _
  have C0 : Hid (w.cell? ⟨X, 1, none⟩ = some (.int .i64 c.a)) := blk_cell h rfl
  have C1 : Hid ((w.alloc (.cells #[.bool false, .int .i64 0, .int .i64 0] 62)).cell? ⟨X, 1, none⟩ = some (.int .i64 c.a)) := cell_on1 hb0 C0.out
  have x0 : (w.alloc (.cells #[.bool false, .int .i64 0, .int .i64 0] 62)).cell? ⟨X, 0, none⟩ = some (.pointer (some ⟨t, 0, none⟩)) := cell_on1 hb0 (blk_cell h rfl)
  have hat := at_in t v c.m c.a l k _ (hT.on hb0) (Nat.le_trans hl (by decide)) hk p hp
  clear hp hk
  clear h hT hl hb0
  go_enter Tryz.func35, Tryz.ntmps35
  go_wp2_with (first | (go_at_call 54; refine hat.mono ?_; rintro e w1 ⟨rfl, hb1⟩; have hz1 : Hid ((w1.alloc (.cells #[.int .i64 0, .int .u32 0, .int .i64 0, .int .u32 0, .int .i64 0, .int .u16 0, .int .u16 0, .int .u16 0, .int .u16 0, .int .u8 0, .int .u8 0, .int .i64 0] 52)).heap[w1.heap.size]? = some (.cells #[.int .i64 0, .int .u32 0, .int .i64 0, .int .u32 0, .int .i64 0, .int .u16 0, .int .u16 0, .int .u16 0, .int .u16 0, .int .u8 0, .int .u8 0, .int .i64 0] 52)) := blk_new _ _; have hv1 : Hid (w1.heap[w.heap.size]? = some (.cells #[.bool false, .int .i64 0, .int .i64 0] 62)) := blk_on HV0.out hb1; have HB1 : Hid (Below w.heap.size w w1) := HB0.out.trans (hb1.mono HB0.out.size); have cx1 : w1.cell? ⟨X, 1, none⟩ = some (.int .i64 c.a) := cell_on1 hb1 C1.out; clear hb1) | (refine wpList_store_blk rfl 52 (.tmp 5) (.tmp 14) rfl w1.heap.size 0 #[.int .i64 p.i, .int .u32 p.s, .int .i64 p.sl, .int .u32 p.d, .int .i64 p.dl, .int .u16 p.p.1, .int .u16 p.p.2, .int .u16 p.q.1, .int .u16 p.q.2, .int .u8 p.m.1, .int .u8 p.m.2, .int .i64 p.act] #[.int .i64 p.i, .int .u32 p.s, .int .i64 p.sl, .int .u32 p.d, .int .i64 p.dl, .int .u16 p.p.1, .int .u16 p.p.2, .int .u16 p.q.1, .int .u16 p.q.2, .int .u8 p.m.1, .int .u8 p.m.2, .int .i64 p.act] rfl rfl 52 _ hz1.out (Nat.le_of_ble_eq_true rfl) rfl (by kernel_rfl) rfl ?_; intro w2 hw2 ho2; have HO2 : Hid (Below w.heap.size w w2) := (HB1.out.alloc HB1.out.size _).trans (ho2.below HB1.out.size); have hlt1 := blk_lt hv1.out; have HV2 : Hid (w2.heap[w.heap.size]? = some (.cells #[.bool false, .int .i64 0, .int .i64 0] 62)) := (ho2.block _ (by omega)).trans (blk_on hv1.out ((Below.refl _ _).alloc (Nat.le_refl _) _)); have cx2 : w2.cell? ⟨X, 1, none⟩ = some (.int .i64 c.a) := cell_on1 HO2.out C0.out; have p0 := blk_cell (j := 0) hw2 rfl; have p11 := blk_cell (j := 11) hw2 rfl; clear ho2 hw2) | (refine wpList_store_blk rfl 62 (.tmp 4) (.tmp 27) rfl w.heap.size 0 #[.bool true, .int .i64 p.i, .int .i64 p.act] #[.bool true, .int .i64 p.i, .int .i64 p.act] rfl rfl 62 _ HV2.out (Nat.le_of_ble_eq_true rfl) rfl (by kernel_rfl) rfl ?_; intro w3 hw3 ho3))
  exact bodyPost_ret (results_blk Tryz.results35 rfl hw3 Tryz.underlying62 rfl (by kernel_rfl)) rfl ⟨rfl, HO2.out.trans (ho3.below (Nat.le_refl _))⟩
set_option maxHeartbeats 2000000 in
set_option maxRecDepth 20000 in
theorem verdictNo (X t : Nat) (v c2 c3 c4 : Value) (c : Cf) (l : List Ru)  (w : World) (h : w.heap[X]? = some (.cells #[.pointer (some ⟨t, 0, none⟩), .int .i64 c.a, c2, c3, c4] 76 (0, 0))) (hT : Tab w t v c.m c.a l) (hl : l.length ≤ 64) :
    Calls Tryz.prog 35 #[.pointer (some ⟨X, 0, none⟩), .int .i64 64] w fun e w' => e = .returned (.agg #[.bool false, .int .i64 0, .int .i64 c.a]) ∧ Below w.heap.size w w' := by
  have hb0 : Below w.heap.size w (w.alloc (.cells #[.bool false, .int .i64 0, .int .i64 0] 62)) := (Below.refl _ _).alloc (Nat.le_refl _) _
  have HB0 : Hid _ := hb0
  have HV0 : Hid ((w.alloc (.cells #[.bool false, .int .i64 0, .int .i64 0] 62)).heap[w.heap.size]? = some (.cells #[.bool false, .int .i64 0, .int .i64 0] 62)) := blk_new _ _
  have C0 : Hid (w.cell? ⟨X, 1, none⟩ = some (.int .i64 c.a)) := blk_cell h rfl
  have C1 : Hid ((w.alloc (.cells #[.bool false, .int .i64 0, .int .i64 0] 62)).cell? ⟨X, 1, none⟩ = some (.int .i64 c.a)) := cell_on1 hb0 C0.out
  have x0 : (w.alloc (.cells #[.bool false, .int .i64 0, .int .i64 0] 62)).cell? ⟨X, 0, none⟩ = some (.pointer (some ⟨t, 0, none⟩)) := cell_on1 hb0 (blk_cell h rfl)
  have hat := at_out t v c.m c.a l 64 _ (hT.on hb0) (Nat.le_trans hl (by decide)) (by omega)
  clear h hT hl hb0
  go_enter Tryz.func35, Tryz.ntmps35
  go_wp2_with (first | (go_at_call 54; refine hat.mono ?_; rintro e w1 ⟨rfl, hb1⟩; have hz1 : Hid ((w1.alloc (.cells #[.int .i64 0, .int .u32 0, .int .i64 0, .int .u32 0, .int .i64 0, .int .u16 0, .int .u16 0, .int .u16 0, .int .u16 0, .int .u8 0, .int .u8 0, .int .i64 0] 52)).heap[w1.heap.size]? = some (.cells #[.int .i64 0, .int .u32 0, .int .i64 0, .int .u32 0, .int .i64 0, .int .u16 0, .int .u16 0, .int .u16 0, .int .u16 0, .int .u8 0, .int .u8 0, .int .i64 0] 52)) := blk_new _ _; have hv1 : Hid (w1.heap[w.heap.size]? = some (.cells #[.bool false, .int .i64 0, .int .i64 0] 62)) := blk_on HV0.out hb1; have HB1 : Hid (Below w.heap.size w w1) := HB0.out.trans (hb1.mono HB0.out.size); have cx1 : w1.cell? ⟨X, 1, none⟩ = some (.int .i64 c.a) := cell_on1 hb1 C1.out; clear hb1) | (refine wpList_store_blk rfl 52 (.tmp 5) (.tmp 14) rfl w1.heap.size 0 #[.int .i64 0, .int .u32 0, .int .i64 0, .int .u32 0, .int .i64 0, .int .u16 0, .int .u16 0, .int .u16 0, .int .u16 0, .int .u8 0, .int .u8 0, .int .i64 0] #[.int .i64 0, .int .u32 0, .int .i64 0, .int .u32 0, .int .i64 0, .int .u16 0, .int .u16 0, .int .u16 0, .int .u16 0, .int .u8 0, .int .u8 0, .int .i64 0] rfl rfl 52 _ hz1.out (Nat.le_of_ble_eq_true rfl) rfl (by kernel_rfl) rfl ?_; intro w2 hw2 ho2; have HO2 : Hid (Below w.heap.size w w2) := (HB1.out.alloc HB1.out.size _).trans (ho2.below HB1.out.size); have hlt1 := blk_lt hv1.out; have HV2 : Hid (w2.heap[w.heap.size]? = some (.cells #[.bool false, .int .i64 0, .int .i64 0] 62)) := (ho2.block _ (by omega)).trans (blk_on hv1.out ((Below.refl _ _).alloc (Nat.le_refl _) _)); have cx2 : w2.cell? ⟨X, 1, none⟩ = some (.int .i64 c.a) := cell_on1 HO2.out C0.out; have p0 := blk_cell (j := 0) hw2 rfl; have p11 := blk_cell (j := 11) hw2 rfl; clear ho2 hw2) | (refine wpList_store_blk rfl 62 (.tmp 4) (.tmp 22) rfl w.heap.size 0 #[.bool false, .int .i64 0, .int .i64 c.a] #[.bool false, .int .i64 0, .int .i64 c.a] rfl rfl 62 _ HV2.out (Nat.le_of_ble_eq_true rfl) rfl (by kernel_rfl) rfl ?_; intro w3 hw3 ho3))
  exact bodyPost_ret (results_blk Tryz.results35 rfl hw3 Tryz.underlying62 rfl (by kernel_rfl)) rfl ⟨rfl, HO2.out.trans (ho3.below (Nat.le_refl _))⟩
end Go.Proofs.YtfpmljgmfapoiaaGreat
