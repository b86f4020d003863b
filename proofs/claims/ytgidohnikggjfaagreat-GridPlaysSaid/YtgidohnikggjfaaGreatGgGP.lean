/-
  GgGP: GvP, one behind the other (tools/merge.py).
-/
import Derived.Test.YtgidohnikggjfaaGreatGgGZ
/-
  GridPlays as a contract.
-/
namespace Go.Proofs.YtgidohnikggjfaaGreat
open Go.RowKit
set_option linter.unusedVariables false
set_option linter.unusedSimpArgs false

set_option maxHeartbeats 8000000 in
set_option maxRecDepth 20000 in
theorem playsC (c : Cf) (bc : BdC c) (sv hv : Value) (ops : List Opp) (hds : List Hd) (w : World) (hS : SrcO w sv ops) (hO : ∀ o ∈ ops, BdO w o) (hH : SrcH w hv hds) (hHo : ∀ h ∈ hds, OkH h) :
    Calls Tryz.prog 4 #[.agg #[.int .i64 c.m, .int .i64 c.a, .int .i64 c.p, .int .i64 c.g, .int .i64 c.t, .int .i64 c.b, .int .i64 c.d], sv, hv] w fun e w' => e = .returned (.bool true) ∧ Below w.heap.size w w' := by
  have HB0 : Hid (Below w.heap.size w (w.alloc (.cells #[.int .i64 c.m, .int .i64 c.a, .int .i64 c.p, .int .i64 c.g, .int .i64 c.t, .int .i64 c.b, .int .i64 c.d] 24))) := (Below.refl _ _).alloc (Nat.le_refl _) _
  have Kc0 : Hid ((w.alloc (.cells #[.int .i64 c.m, .int .i64 c.a, .int .i64 c.p, .int .i64 c.g, .int .i64 c.t, .int .i64 c.b, .int .i64 c.d] 24)).heap[w.heap.size]? = some (.cells #[.int .i64 c.m, .int .i64 c.a, .int .i64 c.p, .int .i64 c.g, .int .i64 c.t, .int .i64 c.b, .int .i64 c.d] 24 (0, 0))) := blk_new w _
  have hLa := largeC sv hv ops hds (w.alloc (.cells #[.int .i64 c.m, .int .i64 c.a, .int .i64 c.p, .int .i64 c.g, .int .i64 c.t, .int .i64 c.b, .int .i64 c.d] 24)) (hS.keep HB0.out) (fun o ho => (hO o ho).keep HB0.out) (hH.keep HB0.out)
  have HS : Hid (SrcO w sv ops) := hS
  have HO : Hid (∀ o ∈ ops, BdO w o) := hO
  have HH : Hid (SrcH w hv hds) := hH
  have HHo : Hid (∀ h ∈ hds, OkH h) := hHo
  obtain ⟨ads, caps, hsv, hat⟩ := hS
  obtain ⟨adh, caph, hhv, hat2⟩ := hH
  clear hat hat2 hO hHo
  obtain ⟨n, hn⟩ : ∃ n, n = ops.length := ⟨_, rfl⟩
  obtain ⟨nh, hnh⟩ : ∃ n, n = hds.length := ⟨_, rfl⟩
  rw [← hn] at hsv
  rw [← hnh] at hhv
  subst hsv hhv
  clear hn hnh
  go_enter Tryz.func4, Tryz.ntmps4
  go_upto_region 1 with (fail)
  generalize w.alloc (.cells #[.int .i64 c.m, .int .i64 c.a, .int .i64 c.p, .int .i64 c.g, .int .i64 c.t, .int .i64 c.b, .int .i64 c.d] 24) = U0 at *
  go_wp2_with (go_at_call 12; fail)
  refine hLa.mono ?_
  rintro e U1 ⟨⟨b, rfl, hbl⟩, hb⟩
  have HB1 : Hid (Below w.heap.size w U1) := HB0.out.trans (hb.mono HB0.out.size)
  have Kc1 : Hid _ := blk_on Kc0.out hb
  have HLg : Hid (b = true ↔ Lrg ops hds) := hbl
  clear hLa hb hbl HB0 Kc0
  clear U0
  cases b with
  | true =>
    go_wp2_with (go_at_call 8; refine (awake17 _).mono ?_; rintro e U2 ⟨rfl, hb2⟩)
    go_ret
    exact ⟨rfl, HB1.out.trans (Below.mono (by assumption) HB1.out.size)⟩
  | false =>
    have HNl : Hid (¬ Lrg ops hds) := fun e => by have := HLg.out.2 e; cases this
    clear HLg
    obtain ⟨q0, q1, q2, q3, q4, q5, q6⟩ := blk7 Kc1.out
    go_wp2_with (go_at_call 6; fail)
    refine (rcheckCC c _).mono ?_
    rintro e U2 ⟨rfl, hb⟩
    have HB2 : Hid (Below w.heap.size w U2) := HB1.out.trans (hb.mono HB1.out.size)
    have Kc2 : Hid _ := blk_on Kc1.out hb
    clear hb HB1 Kc1 q0 q1 q2 q3 q4 q5 q6
    cases hok : okC c with
    | false =>
      rw [show errC c = 110 by unfold errC; rw [hok]; rfl]
      go_wp2_with (go_at_call 8; refine (awake17 _).mono ?_; rintro e U3 ⟨rfl, hb2⟩)
      go_ret
      exact ⟨rfl, HB2.out.trans (Below.mono (by assumption) HB2.out.size)⟩
    | true =>
      rw [show errC c = 0 by unfold errC; rw [hok]; rfl]
      obtain ⟨q0, q1, q2, q3, q4, q5, q6⟩ := blk7 Kc2.out
      go_wp2_with (go_at_call 7; fail)
      refine (newE c bc hok _).mono ?_
      rintro e U3 ⟨X, rfl, hE, hX, hb⟩
      have HB3 : Hid (Below w.heap.size w U3) := HB2.out.trans (hb.mono HB2.out.size)
      have Kc3 : Hid _ := blk_on Kc2.out hb
      have HE3 : Hid (Eng U3 X c [] [] [] _) := hE
      have HX : Hid (w.heap.size ≤ X) := Nat.le_trans HB2.out.size hX
      have HXc : Hid (w.heap.size ≠ X) := by have := blk_lt Kc2.out; show _ ≠ _; omega
      have HM : Hid (c.m ≤ 64) := okC_m hok
      clear hb hE hX HB2 Kc2 q0 q1 q2 q3 q4 q5 q6
      go_upto_region 6 with (fail)
      have HB4 : Hid (Below w.heap.size w U3.drew) := HB3.out.drew
      refine wp_region_held_drew (S := fun w' => w'.heap[w.heap.size]? = some (.cells #[.int .i64 c.m, .int .i64 c.a, .int .i64 c.p, .int .i64 c.g, .int .i64 c.t, .int .i64 c.b, .int .i64 c.d] 24 (0, 0))) (by kernel_rfl) Kc3.out (fun hS0 => ?_)
      show wpAnyH _ _ _ _ _ 11 _ _ _
      refine wpAnyH_take (i := 1) (v := .pointer (some ⟨X, 0, none⟩)) rfl (by kernel_rfl) (by kernel_rfl) (by kernel_rfl) (fun _ _ _ h => h) (.inl ⟨rfl, fun _ _ => by simp [execOp, go_sem]⟩) hS0 ?_
      simp only [List.getElem_toArray, List.getElem_cons_succ, List.getElem_cons_zero, Act.put, List.setIfInBounds_toArray, List.set_cons_zero, List.set_cons_succ]
      refine wpAnyH_take (i := 2) (v := .iface 31 (.pointer (some ⟨X, 0, none⟩))) rfl (by kernel_rfl) (by kernel_rfl) (by kernel_rfl) (fun _ _ _ h => h) (.inl ⟨rfl, fun _ _ => by simp [execOp, go_sem]⟩) hS0 ?_
      simp only [List.getElem_toArray, List.getElem_cons_succ, List.getElem_cons_zero, Act.put, List.setIfInBounds_toArray, List.set_cons_zero, List.set_cons_succ]
      refine wpAnyH_take (i := 3) (v := .agg #[.int .i64 c.m, .int .i64 c.a, .int .i64 c.p, .int .i64 c.g, .int .i64 c.t, .int .i64 c.b, .int .i64 c.d]) rfl (by kernel_rfl) (by kernel_rfl) (by kernel_rfl) (fun _ _ _ h => h) (.inl ⟨rfl, fun w' hw' => by obtain ⟨k0, k1, k2, k3, k4, k5, k6⟩ := blk7 hw'; simp [execOp, go_sem, k0, k1, k2, k3, k4, k5, k6]⟩) hS0 ?_
      simp only [List.getElem_toArray, List.getElem_cons_succ, List.getElem_cons_zero, Act.put, List.setIfInBounds_toArray, List.set_cons_zero, List.set_cons_succ]
      refine wpAnyH_take (i := 4) (v := .slice ads n caps) rfl (by kernel_rfl) (by kernel_rfl) (by kernel_rfl) (fun _ _ _ h => h) (.inl ⟨rfl, fun _ _ => by simp [execOp, go_sem]⟩) hS0 ?_
      simp only [List.getElem_toArray, List.getElem_cons_succ, List.getElem_cons_zero, Act.put, List.setIfInBounds_toArray, List.set_cons_zero, List.set_cons_succ]
      refine wpAnyH_take (i := 5) (v := .slice adh nh caph) rfl (by kernel_rfl) (by kernel_rfl) (by kernel_rfl) (fun _ _ _ h => h) (.inl ⟨rfl, fun _ _ => by simp [execOp, go_sem]⟩) hS0 ?_
      simp only [List.getElem_toArray, List.getElem_cons_succ, List.getElem_cons_zero, Act.put, List.setIfInBounds_toArray, List.set_cons_zero, List.set_cons_succ]
      refine wpAnyH_all (rs := [0]) (by kernel_rfl) (by simp) ?_
      intro i0 hi0
      simp only [List.mem_cons, List.not_mem_nil, or_false] at hi0
      subst hi0
      refine wpOp_of_wp rfl rfl (fun K' hK' => ?_)
      go_wp2_with (go_at_call 13; refine (kindC _).mono ?_; rintro e U4 ⟨rfl, hb4⟩)
      have HB5 : Hid (Below w.heap.size w U4) := HB4.out.trans (hb4.mono HB4.out.size)
      have Kc4 := blk_on (show U3.drew.heap[w.heap.size]? = _ from Kc3.out) hb4
      have HE4 : Hid (Eng U4 X c [] [] [] _) := (HE3.out.on (Below.refl _ _).drew).on hb4
      refine ⟨Kc4, ?_⟩
      try simp only [List.getElem_toArray, List.getElem_cons_succ, List.getElem_cons_zero, Act.put, List.setIfInBounds_toArray, List.set_cons_zero, List.set_cons_succ]
      refine wpAnyH_all (rs := [6]) (by kernel_rfl) (by simp) ?_
      intro i0 hi0
      simp only [List.mem_cons, List.not_mem_nil, or_false] at hi0
      subst hi0
      refine wpOp_of_wp rfl rfl (fun K' hK' => ?_)
      have hPl := playC X c _ _ _ ops hds w U4 HE4.out bc HM.out HS.out (fun o ho => ⟨HO.out o ho, Nat.le_of_not_lt (fun e => HNl.out (.inr (.inr ⟨o, ho, e⟩)))⟩) HH.out HHo.out (Nat.le_of_not_lt (fun e => HNl.out (.inl e))) (Nat.le_of_not_lt (fun e => HNl.out (.inr (.inl e)))) HB5.out HX.out
      go_wp2_with (go_at_call 14; refine hPl.mono ?_; rintro e U5 ⟨rfl, hg5⟩)
      have HB6 : Hid (Below w.heap.size w U5) := HB5.out.grown hg5 HB5.out.size (fun k e => by injection e with e; have := HX.out; omega)
      have Kc5 : U5.heap[w.heap.size]? = some (.cells #[.int .i64 c.m, .int .i64 c.a, .int .i64 c.p, .int .i64 c.g, .int .i64 c.t, .int .i64 c.b, .int .i64 c.d] 24 (0, 0)) := (hg5.block _ (blk_lt Kc4) (fun e => HXc.out (by injection e))).trans Kc4
      refine ⟨Kc5, ?_⟩
      try simp only [List.getElem_toArray, List.getElem_cons_succ, List.getElem_cons_zero, Act.put, List.setIfInBounds_toArray, List.set_cons_zero, List.set_cons_succ]
      refine wpAnyH_take (i := 7) (v := .bool true) rfl (by kernel_rfl) (by kernel_rfl) (by kernel_rfl) (fun _ _ _ h => h) (.inl ⟨rfl, fun _ _ => by simp [execOp, go_sem]⟩) Kc5 ?_
      simp only [List.getElem_toArray, List.getElem_cons_succ, List.getElem_cons_zero, Act.put, List.setIfInBounds_toArray, List.set_cons_zero, List.set_cons_succ]
      refine wpAnyH_all (rs := [8]) (by kernel_rfl) (by simp) ?_
      intro i0 hi0
      simp only [List.mem_cons, List.not_mem_nil, or_false] at hi0
      subst hi0
      refine wpOp_of_wp rfl rfl (fun K' hK' => ?_)
      go_wp2_with (go_at_call 8; refine (awake17 _).mono ?_; rintro e U6 ⟨rfl, hb6⟩)
      have HB7 : Hid (Below w.heap.size w U6) := HB6.out.trans (hb6.mono HB6.out.size)
      have Kc6 := blk_on Kc5 hb6
      refine ⟨Kc6, ?_⟩
      try simp only [List.getElem_toArray, List.getElem_cons_succ, List.getElem_cons_zero, Act.put, List.setIfInBounds_toArray, List.set_cons_zero, List.set_cons_succ]
      refine wpAnyH_take (i := 9) (v := .bool true) rfl (by kernel_rfl) (by kernel_rfl) (by kernel_rfl) (fun _ _ _ h => h) (.inl ⟨rfl, fun _ _ => by simp [execOp, go_sem]⟩) Kc6 ?_
      simp only [List.getElem_toArray, List.getElem_cons_succ, List.getElem_cons_zero, Act.put, List.setIfInBounds_toArray, List.set_cons_zero, List.set_cons_succ]
      refine wpAnyH_take (i := 10) (v := .bool true) rfl (by kernel_rfl) (by kernel_rfl) (by kernel_rfl) (fun _ _ _ h => h) (.inl ⟨rfl, fun _ _ => by simp [execOp, go_sem]⟩) Kc6 ?_
      simp only [List.getElem_toArray, List.getElem_cons_succ, List.getElem_cons_zero, Act.put, List.setIfInBounds_toArray, List.set_cons_zero, List.set_cons_succ]
      refine wpAnyH_done (by kernel_rfl) ?_ _
      try simp only [List.getElem_toArray, List.getElem_cons_succ, List.getElem_cons_zero, Act.put, List.setIfInBounds_toArray, List.set_cons_zero, List.set_cons_succ]
      go_wp2_with (fail)
      go_ret
      exact ⟨rfl, HB7.out⟩
end Go.Proofs.YtgidohnikggjfaaGreat
