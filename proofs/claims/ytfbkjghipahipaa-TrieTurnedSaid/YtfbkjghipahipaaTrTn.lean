/-
  Puts of unlike keys, in any order: the same list, the same arena. No program is walked here.
-/
import Derived.Test.YtfbkjghipahipaaTrUo
namespace Go.Proofs.Ytfbkjghipahipaa
open Go.RowKit
set_option linter.unusedVariables false
set_option linter.unusedSimpArgs false

structure PlyOk (Wd M : Nat) (ops : List Opx) (s : List En × Nat) : Prop where
  inv : ∃ A r f c, Inv Wd M A r f c s.1 ∧ A.length = s.2
  ar : s.2 = cntL Wd 0 none s.1
  mem : ∀ e, e ∈ s.1 ↔ ∃ o ∈ ops, ∃ m : Nat, o.n = (m : Int) ∧ May Wd o.a m ∧ e = ⟨o.a, m, o.v⟩
  few : s.2 ≤ 33 * ops.length
theorem ply_snoc (Wd M : Nat) (ops : List Opx) (o : Opx) : ply Wd M (ops ++ [o]) = stp Wd M (ply Wd M ops) o := by unfold ply; rw [List.foldl_append]; rfl
theorem rev_indO {P : List Opx → Prop} (h0 : P []) (hs : ∀ u s, P u → P (u ++ [s])) (u : List Opx) : P u := by
  have : ∀ v : List Opx, P v.reverse := fun v => by
    induction v with
    | nil => exact h0
    | cons a v ih => rw [List.reverse_cons]; exact hs _ _ ih
  have := this u.reverse
  rwa [List.reverse_reverse] at this
theorem ply_ok {Wd M : Nat} (hW : Wd ≤ 32) (ops : List Opx) : (∀ o ∈ ops, o.k ≠ 1) → ops.Pairwise (fun x y => ¬ (x.a = y.a ∧ x.n = y.n)) → 33 * ops.length ≤ M → PlyOk Wd M ops (ply Wd M ops) := by
  refine rev_indO (P := fun ops => (∀ o ∈ ops, o.k ≠ 1) → ops.Pairwise (fun x y => ¬ (x.a = y.a ∧ x.n = y.n)) → 33 * ops.length ≤ M → PlyOk Wd M ops (ply Wd M ops)) ?_ ?_ ops
  · intro _ _ _
    exact ⟨⟨[], 0, 0, 0, inv_new Wd M, rfl⟩, rfl, fun e => by show e ∈ ([] : List En) ↔ _; simp, Nat.zero_le _⟩
  · intro u o ih hk hp hl
    rw [List.pairwise_append] at hp
    rw [List.length_append] at hl
    have hl1 : 33 * u.length + 33 ≤ M := by simp at hl; omega
    have H := ih (fun x hx => hk x (List.mem_append_left _ hx)) hp.1 (by omega)
    have hk1 : o.k ≠ 1 := hk o (List.mem_append_right _ (List.mem_singleton.2 rfl))
    rw [ply_snoc]
    generalize ply Wd M u = s at *
    unfold stp
    rw [if_neg hk1]
    obtain ⟨A, r, f, c, hi, hA⟩ := H.inv
    cases hm : mayB Wd o.a o.n with
    | false =>
      have hE : putE Wd M s.1 o.a o.n o.v ≠ 0 := by unfold putE; rw [hm, if_neg (by decide)]; decide
      have e1 : putM Wd M s.1 o.a o.n o.v = s.1 := if_neg hE
      have e2 : putA Wd M s.1 s.2 o.a o.n o.v = s.2 := if_neg hE
      rw [e1, e2]
      refine ⟨⟨A, r, f, c, hi, hA⟩, H.ar, fun e => ?_, by rw [List.length_append]; have := H.few; simp; omega⟩
      show e ∈ s.1 ↔ _
      rw [H.mem e]
      constructor
      · rintro ⟨x, hx, m, a, b, d⟩; exact ⟨x, List.mem_append_left _ hx, m, a, b, d⟩
      · rintro ⟨x, hx, m, a, b, d⟩
        rcases List.mem_append.1 hx with hx | hx
        · exact ⟨x, hx, m, a, b, d⟩
        · obtain rfl := List.mem_singleton.1 hx
          have := mayB_iff.2 ⟨m, a, b⟩
          rw [hm] at this; cases this
    | true =>
      obtain ⟨m, hn, hMay⟩ := mayB_iff.1 hm
      have htn : o.n.toNat = m := by rw [hn]; rfl
      obtain ⟨g1, g2, g3, g4⟩ := hi.grow (x := ⟨o.a, m, o.v⟩) hMay
      have hpl := pth_le A m Wd r o.a 0
      have hcn := hi.cnt
      have har := H.ar
      have hfew := H.few
      have hm32 : m ≤ 32 := Nat.le_trans hMay.1 hW
      have g1' : (grw m Wd ⟨A, f, c⟩ r ⟨o.a, m, o.v⟩).1.c + (pth A m Wd r o.a 0).length = c + m + 1 := g1
      have g2' : (grw m Wd ⟨A, f, c⟩ r ⟨o.a, m, o.v⟩).1.c = cntL Wd 0 none (putL s.1 ⟨o.a, m, o.v⟩) := g2
      have hcle : cntL Wd 0 none (putL s.1 ⟨o.a, m, o.v⟩) ≤ M := by rw [← g2']; omega
      have hge : cntL Wd 0 none s.1 ≤ cntL Wd 0 none (putL s.1 ⟨o.a, m, o.v⟩) := by rw [← g2', ← hcn]; omega
      have hle2 : cntL Wd 0 none (putL s.1 ⟨o.a, m, o.v⟩) ≤ s.2 + 33 := by rw [← g2', har, ← hcn]; omega
      have hE : putE Wd M s.1 o.a o.n o.v = 0 := by
        unfold putE
        rw [hm, htn, if_pos rfl, if_pos hcle]
      have e1 : putM Wd M s.1 o.a o.n o.v = putL s.1 ⟨o.a, m, o.v⟩ := by unfold putM; rw [if_pos hE, htn]
      have e2 : putA Wd M s.1 s.2 o.a o.n o.v = cntL Wd 0 none (putL s.1 ⟨o.a, m, o.v⟩) := by
        unfold putA; rw [if_pos hE, htn, har]
        exact Nat.max_eq_right hge
      rw [e1, e2]
      have hput := put_ok hi.srt ⟨o.a, m, o.v⟩
      refine ⟨⟨_, _, _, _, g3 (by rw [g2]; exact hcle), ?_⟩, rfl, fun e => ?_, ?_⟩
      · rw [g4, g2, hA, har]
        exact Nat.max_eq_right hge
      · show e ∈ putL s.1 ⟨o.a, m, o.v⟩ ↔ _
        rw [hput.2 e]
        constructor
        · rintro (rfl | ⟨he, _⟩)
          · exact ⟨o, List.mem_append_right _ (List.mem_singleton.2 rfl), m, hn, hMay, rfl⟩
          · obtain ⟨x, hx, m', a, b, d⟩ := (H.mem e).1 he
            exact ⟨x, List.mem_append_left _ hx, m', a, b, d⟩
        · rintro ⟨x, hx, m', a, b, d⟩
          rcases List.mem_append.1 hx with hx | hx
          · refine .inr ⟨(H.mem e).2 ⟨x, hx, m', a, b, d⟩, ?_⟩
            rw [d]
            rintro ⟨q1, q2⟩
            have q1 : x.a = o.a := q1
            have q2 : m' = m := q2
            exact hp.2.2 x hx o (List.mem_singleton.2 rfl) ⟨q1, by rw [a, hn, q2]⟩
          · obtain rfl := List.mem_singleton.1 hx
            have : m' = m := by rw [hn] at a; omega
            subst this
            exact .inl d
      · show cntL Wd 0 none (putL s.1 ⟨o.a, m, o.v⟩) ≤ _
        rw [List.length_append]; simp; omega
/-- The order does not matter. -/
theorem ply_turn {Wd M : Nat} (hW : Wd ≤ 32) {ops : List Opx} (hk : ∀ o ∈ ops, o.k ≠ 1) (hp : ops.Pairwise (fun x y => ¬ (x.a = y.a ∧ x.n = y.n))) (hl : 33 * ops.length ≤ M) : ply Wd M ops.reverse = ply Wd M ops := by
  have h1 := ply_ok (M := M) hW ops hk hp hl
  have h2 := ply_ok (M := M) hW ops.reverse (fun o ho => hk o (List.mem_reverse.1 ho)) (List.pairwise_reverse.2 (hp.imp fun {a b} h e => h ⟨e.1.symm, e.2.symm⟩)) (by rw [List.length_reverse]; exact hl)
  obtain ⟨_, _, _, _, i1, _⟩ := h1.inv
  obtain ⟨_, _, _, _, i2, _⟩ := h2.inv
  have e1 : (ply Wd M ops.reverse).1 = (ply Wd M ops).1 := srt_ext i2.srt i1.srt fun e => by
    rw [h1.mem, h2.mem]
    simp only [List.mem_reverse]
  refine Prod.ext e1 ?_
  rw [h1.ar, h2.ar, e1]
end Go.Proofs.Ytfbkjghipahipaa
