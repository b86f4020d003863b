/-
  same, where the number is below 0. Written out of TrZ by tools/mkTrZn.py.
-/
import Derived.Test.YtfbkjghipahipaaTrZ
namespace Go.Proofs.Ytfbkjghipahipaa
open Go.RowKit Go.Shelf
set_option linter.unusedVariables false
set_option linter.unusedSimpArgs false
attribute [local go_sem] Oper.semAt_some

set_option maxRecDepth 100000 in
set_option maxHeartbeats 8000000 in
theorem sameN (g : Nat) (lb : Array Value) (P : Nat → Prop) (D : List En) (v : Value) (ee : Int) (w : World) (hI : Itr g lb P D w) (hS : SrcE w v D) (h1 : -9223372036854775808 ≤ ee) (h2 : ee < 0) :
    Calls Try.prog 18 #[.func (.func g) #[] lb, v, .int .i64 ee] w fun e w' => e = .returned (.bool true) ∧ Below w.heap.size w w' := by
  have hD : D.length ≤ 1048577 := by obtain ⟨_, _, N, a, b, _⟩ := hI; omega
  have HI : Hid (Itr g lb P D w) := hI
  have HS : Hid (SrcE w v D) := hS
  have hPl : ∀ q, P q → q < w.heap.size := hI.2.1
  obtain ⟨ad, cap, rfl, ⟨hcap, _⟩, _⟩ := hS
  have hnf := fun V => eq_nilF g lb V
  have hn1 : ¬ (D.length : Int) + 1 = 0 := by omega
  have hE1 : 0 ≤ (-(ee + 1)) % ((D.length : Int) + 1) := Int.emod_nonneg _ hn1
  have hE2 : (-(ee + 1)) % ((D.length : Int) + 1) < (D.length : Int) + 1 := Int.emod_lt_of_pos _ (by omega)
  obtain ⟨E, hE⟩ : ∃ E : Nat, (E : Int) = (-(ee + 1)) % ((D.length : Int) + 1) := ⟨((-(ee + 1)) % ((D.length : Int) + 1)).toNat, by omega⟩
  have hEn : E ≤ D.length := by omega
  have hn0 : ee < 0 := by omega
  have hwa : IntKind.i64.wrap (ee + 1) = ee + 1 := by rw [IntKind.wrap_i64]; omega
  have hwb : IntKind.i64.wrap (-(ee + 1)) = -(ee + 1) := by rw [IntKind.wrap_i64]; omega
  have HE' : Hid (-((ee + 1).tmod ((D.length : Int) + 1)) = (E : Int)) := by show _ = _; rw [← Int.neg_tmod, Int.tmod_eq_emod_of_nonneg (by omega)]; exact hE.symm
  clear hI hE1 hE2
  refine callsIn_wide.1 (callsIn_of_wp_marks (n := 9) Try.func18 rfl trivial ?_ rfl)
  simp only [Try.ntmps18, List.size_toArray, List.length_cons, List.length_nil, Nat.reduceAdd, Nat.reduceSub, Array.replicate_succ, Array.replicate_zero, List.push_toArray, List.append_toArray, List.nil_append, List.cons_append]
  refine wpIn_wide.2 ?_
  go_wp2_with (fail)
  rw [HE'.out]
  obtain ⟨F, hF⟩ : ∃ F, F = Value.func (.func g) #[] lb := ⟨_, rfl⟩
  obtain ⟨v, hv⟩ : ∃ v, v = Value.slice ad D.length cap := ⟨_, rfl⟩
  have b1 : Below w.heap.size w (((((w.alloc (.cells #[.func (.func g) #[] lb] 41)).alloc (.cells #[.slice ad D.length cap] 30)).alloc (.cells #[.int .i64 (E : Int)] 3)).alloc (.cells #[.bool false] 4)).alloc (.cells #[.int .i64 0] 3)) :=
    (((((Below.refl _ _).alloc (Nat.le_refl _) _).alloc (by simp) _).alloc (by simp; omega) _).alloc (by simp; omega) _).alloc (by simp; omega) _
  have hSS : SS w (.func (.func g) #[] lb) (.slice ad D.length cap) E 0 (((((w.alloc (.cells #[.func (.func g) #[] lb] 41)).alloc (.cells #[.slice ad D.length cap] 30)).alloc (.cells #[.int .i64 (E : Int)] 3)).alloc (.cells #[.bool false] 4)).alloc (.cells #[.int .i64 0] 3)) := by
    refine ⟨blk_alloc (blk_alloc (blk_alloc (blk_alloc (blk_new w _) _) _) _) _, blk_alloc (blk_alloc (blk_alloc ?_ _) _) _, blk_alloc (blk_alloc ?_ _) _, blk_alloc ?_ _, ?_, b1⟩
    · simpa using blk_new (w.alloc (.cells #[.func (.func g) #[] lb] 41)) (.cells #[.slice ad D.length cap] 30)
    · simpa using blk_new ((w.alloc (.cells #[.func (.func g) #[] lb] 41)).alloc (.cells #[.slice ad D.length cap] 30)) (.cells #[.int .i64 (E : Int)] 3)
    · simpa using blk_new (((w.alloc (.cells #[.func (.func g) #[] lb] 41)).alloc (.cells #[.slice ad D.length cap] 30)).alloc (.cells #[.int .i64 (E : Int)] 3)) (.cells #[.bool false] 4)
    · simpa using blk_new ((((w.alloc (.cells #[.func (.func g) #[] lb] 41)).alloc (.cells #[.slice ad D.length cap] 30)).alloc (.cells #[.int .i64 (E : Int)] 3)).alloc (.cells #[.bool false] 4)) (.cells #[.int .i64 0] 3)
  have HSS : Hid (SS w (.func (.func g) #[] lb) (.slice ad D.length cap) E 0 (((((w.alloc (.cells #[.func (.func g) #[] lb] 41)).alloc (.cells #[.slice ad D.length cap] 30)).alloc (.cells #[.int .i64 (E : Int)] 3)).alloc (.cells #[.bool false] 4)).alloc (.cells #[.int .i64 0] 3))) := hSS
  have hz0 : (((((w.alloc (.cells #[.func (.func g) #[] lb] 41)).alloc (.cells #[.slice ad D.length cap] 30)).alloc (.cells #[.int .i64 (E : Int)] 3)).alloc (.cells #[.bool false] 4)).alloc (.cells #[.int .i64 0] 3)).heap.size = w.heap.size + 1 + 1 + 1 + 1 + 1 := by simp
  clear b1 hSS hE hF hv hwa hwb HE' hn0
  generalize ((((w.alloc (.cells #[.func (.func g) #[] lb] 41)).alloc (.cells #[.slice ad D.length cap] 30)).alloc (.cells #[.int .i64 (E : Int)] 3)).alloc (.cells #[.bool false] 4)).alloc (.cells #[.int .i64 0] 3) = W0 at *
  refine (wpIn_wide (n := 9)).1 ?_
  refine itr_brk 25 8 0 rfl (HI.out.later HSS.out.bb) (I1 w (.func (.func g) #[] lb) (.slice ad D.length cap) D E) (B1 w (.func (.func g) #[] lb) (.slice ad D.length cap) E) ?hI ?hIb ?h0 ?assign ?body ?after
  case hI =>
    rintro s X Y row ⟨a1, a2, a3⟩ hg hr
    exact ⟨a1, a2, a3.kept hg (fun r e => ⟨by have := (hr r e).1; omega, (hr r e).2⟩)⟩
  case hIb =>
    rintro s X Y row ⟨a1, a2, a3⟩ hg hr
    exact ⟨a1, a2, a3.kept hg (fun r e => ⟨by have := (hr r e).1; omega, (hr r e).2⟩)⟩
  case h0 => exact ⟨List.nil_prefix, fun h => h, HSS.out⟩
  case assign =>
    intro l x V K hK
    simp only [List.setIfInBounds_toArray, List.set_cons_succ, List.set_cons_zero] at hK ⊢
    gi_wp2
    exact hK
  case body =>
    rintro l pre x b V hl hr hz hb hbk ⟨hp, hpE, hSS⟩ hN
    simp only [List.setIfInBounds_toArray, List.set_cons_succ, List.set_cons_zero]
    have hGoN : ∀ a V', RK W0.heap.size noU V V' → Kpt P V V' → I1 w (.func (.func g) #[] lb) (.slice ad D.length cap) D E (pre ++ [x]) V' → ownPostU W0.heap.size noU (Kpt P) (I1 w (.func (.func g) #[] lb) (.slice ad D.length cap) D E) (fun c pre V => (c = .ret ∧ ¬ pre <+: D) ∨ (c = .exit 0 ∧ B1 w (.func (.func g) #[] lb) (.slice ad D.length cap) E pre V)) (pre ++ [x]) V .normal a V' := fun a V' q1 q2 q3 => ⟨q1, q2, q3⟩
    have hGoR : ∀ a V', RK W0.heap.size noU V V' → ¬ (pre ++ [x] <+: D) → ownPostU W0.heap.size noU (Kpt P) (I1 w (.func (.func g) #[] lb) (.slice ad D.length cap) D E) (fun c pre V => (c = .ret ∧ ¬ pre <+: D) ∨ (c = .exit 0 ∧ B1 w (.func (.func g) #[] lb) (.slice ad D.length cap) E pre V)) (pre ++ [x]) V .ret a V' := fun a V' q1 q3 => ⟨q1, .inl ⟨rfl, q3⟩⟩
    have hGoB : ∀ a V', RK W0.heap.size noU V V' → B1 w (.func (.func g) #[] lb) (.slice ad D.length cap) E (pre ++ [x]) V' → ownPostU W0.heap.size noU (Kpt P) (I1 w (.func (.func g) #[] lb) (.slice ad D.length cap) D E) (fun c pre V => (c = .ret ∧ ¬ pre <+: D) ∨ (c = .exit 0 ∧ B1 w (.func (.func g) #[] lb) (.slice ad D.length cap) E pre V)) (pre ++ [x]) V (.exit 0) a V' := fun a V' q1 q3 => ⟨q1, .inr ⟨rfl, q3⟩⟩
    generalize hQ2 : ownPostU _ _ _ _ _ _ _ = Q2 at hGoN hGoR hGoB ⊢
    clear hQ2 hr hl
    obtain ⟨k, hk⟩ : ∃ k, k = pre.length := ⟨_, rfl⟩
    rw [← hk] at hSS hpE hN
    have HSV : Hid (SS w (.func (.func g) #[] lb) (.slice ad D.length cap) E k V) := hSS
    have HSv : Hid (SrcE V (.slice ad D.length cap) D) := HS.out.keep hSS.bb
    have xk := blk_cell hSS.bk (j := 0) rfl
    have xv := blk_cell hSS.bv (j := 0) rfl
    have lk := blk_lt hSS.bk
    have lv := blk_lt hSS.bv
    have lb' := blk_lt hbk
    obtain ⟨z0, z1, z2⟩ := blk3 hbk
    have hkD : k ≤ D.length := by rw [hk]; exact hp.length_le
    have Hk : Hid (k = pre.length) := hk
    clear hk
    clear hSS hbk HI HSS
    by_cases hkl : k = D.length
    · have hd : decide ((D.length : Int) ≤ (k : Int)) = true := decide_eq_true (by omega)
      have hd' : decide (D.length ≤ k) = true := decide_eq_true (by omega)
      have hge : (D.length : Int) ≤ (k : Int) := by omega
      have hnp : ¬ (pre ++ [x] <+: D) := fun h => by have h3 := h.length_le; have h4 := Hk.out; rw [List.length_append, List.length_singleton] at h3; omega
      have kne : Nonempty (Kin V) := ⟨⟨_, Below.refl _ _⟩⟩
      have kc0 : ∀ y : Kin V, y.val.cell? ⟨w.heap.size + 1 + 1 + 1 + 1, 0, none⟩ = some (.int .i64 (k : Int)) := fun y => by rw [kin_cell lk]; exact xk
      have kc1 : ∀ y : Kin V, y.val.cell? ⟨w.heap.size + 1, 0, none⟩ = some (.slice ad D.length cap) := fun y => by rw [kin_cell lv]; exact xv
      gi_wp2_with (fail)
      refine wpIn_region_kinR V (Below.refl _ _) (by kernel_rfl) (by kernel_rfl) (by kernel_rfl) ?_
      repeat (go_big_quiet_step (fail))
      refine wpQuiet_nil ?_
      rintro wq ⟨⟨xq, hxq⟩, hyq⟩
      have hq : Below V.heap.size V wq := by rw [hyq]; exact hxq
      clear hyq hxq xq kne kc0 kc1
      have xr := blk_cell (HSV.out.on hq).br (j := 0) rfl
      have fr := blk_free (HSV.out.on hq).br 0
      have hG := fun a => hGoR a (wq.setCell ⟨w.heap.size + 1 + 1 + 1, 0, none⟩ (.bool false)) ((RK.below (noU_stab 0) (Nat.zero_le _) hq).trans (rk_set _ _ (by omega))) hnp
      clear hGoR hGoN hGoB
      gi_wp2
      exact hG _
    · have hkl' : k < D.length := by omega
      have hd : decide ((D.length : Int) ≤ (k : Int)) = false := decide_eq_false (by omega)
      have hd' : decide (D.length ≤ k) = false := decide_eq_false (by omega)
      have hge : ¬ (D.length : Int) ≤ (k : Int) := by omega
      have hlt : (k : Int) < (D.length : Int) := by omega
      obtain ⟨ad', cap', e1, _, hat⟩ := HSv.out
      cases e1
      obtain ⟨gg, off, rfl, hcs⟩ := hat (by omega)
      have hy1 := hcs k hkl'
      obtain ⟨y0, hy0⟩ : ∃ y0, y0 = D[k]'hkl' := ⟨_, rfl⟩
      rw [← hy0] at hy1
      have d0 : V.cell? ⟨gg, off + k * 3, none⟩ = some (.int .u32 (y0.k : Int)) := hy1 0 (by decide)
      have d1 : V.cell? ⟨gg, off + k * 3 + 1, none⟩ = some (.int .i64 (y0.n : Int)) := hy1 1 (by decide)
      have d2 : V.cell? ⟨gg, off + k * 3 + 2, none⟩ = some (.int .i64 y0.v) := hy1 2 (by decide)
      have lg : gg < V.heap.size := World.block_lt_of_cell? _ _ d0
      have hne := fun V => neE x y0 V
      have HPS : Hid (pre ++ [x] <+: D ↔ x = y0) := by show _ ↔ _; rw [hy0]; exact pre_snoc hp Hk.out hkl'
      clear hcs hat hy1 hy0 HSv
      cases hb2 : eqE x y0
      · rw [hb2] at hne
        simp only [Bool.not_false] at hne
        have hnp : ¬ (pre ++ [x] <+: D) := fun h => by have := eqE_iff.2 (HPS.out.1 h); rw [hb2] at this; cases this
        have kne : Nonempty (Kin V) := ⟨⟨_, Below.refl _ _⟩⟩
        have kc0 : ∀ y : Kin V, y.val.cell? ⟨w.heap.size + 1 + 1 + 1 + 1, 0, none⟩ = some (.int .i64 (k : Int)) := fun y => by rw [kin_cell lk]; exact xk
        have kc1 : ∀ y : Kin V, y.val.cell? ⟨w.heap.size + 1, 0, none⟩ = some (.slice (some ⟨gg, off, none⟩) D.length cap) := fun y => by rw [kin_cell lv]; exact xv
        have kc2 : ∀ y : Kin V, y.val.cell? ⟨b, 0, none⟩ = some (.int .u32 (x.k : Int)) := fun y => by rw [kin_cell lb']; exact z0
        have kc3 : ∀ y : Kin V, y.val.cell? ⟨b, 1, none⟩ = some (.int .i64 (x.n : Int)) := fun y => by rw [kin_cell lb']; exact z1
        have kc4 : ∀ y : Kin V, y.val.cell? ⟨b, 2, none⟩ = some (.int .i64 x.v) := fun y => by rw [kin_cell lb']; exact z2
        have kc5 : ∀ y : Kin V, y.val.cell? ⟨gg, off + k * 3, none⟩ = some (.int .u32 (y0.k : Int)) := fun y => by rw [kin_cell lg]; exact d0
        have kc6 : ∀ y : Kin V, y.val.cell? ⟨gg, off + k * 3 + 1, none⟩ = some (.int .i64 (y0.n : Int)) := fun y => by rw [kin_cell lg]; exact d1
        have kc7 : ∀ y : Kin V, y.val.cell? ⟨gg, off + k * 3 + 2, none⟩ = some (.int .i64 y0.v) := fun y => by rw [kin_cell lg]; exact d2
        gi_wp2_with (fail)
        refine wpIn_region_kinR V (Below.refl _ _) (by kernel_rfl) (by kernel_rfl) (by kernel_rfl) ?_
        repeat (go_big_quiet_step (fail))
        refine wpQuiet_nil ?_
        rintro wq ⟨⟨xq, hxq⟩, hyq⟩
        have hq : Below V.heap.size V wq := by rw [hyq]; exact hxq
        clear hyq hxq xq kne kc0 kc1
        clear kc2 kc3 kc4 kc5 kc6 kc7 hne
        clear d0 d1 d2
        have xr := blk_cell (HSV.out.on hq).br (j := 0) rfl
        have fr := blk_free (HSV.out.on hq).br 0
        have hG := fun a => hGoR a (wq.setCell ⟨w.heap.size + 1 + 1 + 1, 0, none⟩ (.bool false)) ((RK.below (noU_stab 0) (Nat.zero_le _) hq).trans (rk_set _ _ (by omega))) hnp
        clear hGoR hGoN hGoB
        gi_wp2
        exact hG _
      · rw [hb2] at hne
        simp only [Bool.not_true] at hne
        have HPY : Hid (pre ++ [x] <+: D) := HPS.out.2 (eqE_iff.1 hb2)
        have kne : Nonempty (Kin V) := ⟨⟨_, Below.refl _ _⟩⟩
        have kc0 : ∀ y : Kin V, y.val.cell? ⟨w.heap.size + 1 + 1 + 1 + 1, 0, none⟩ = some (.int .i64 (k : Int)) := fun y => by rw [kin_cell lk]; exact xk
        have kc1 : ∀ y : Kin V, y.val.cell? ⟨w.heap.size + 1, 0, none⟩ = some (.slice (some ⟨gg, off, none⟩) D.length cap) := fun y => by rw [kin_cell lv]; exact xv
        have kc2 : ∀ y : Kin V, y.val.cell? ⟨b, 0, none⟩ = some (.int .u32 (x.k : Int)) := fun y => by rw [kin_cell lb']; exact z0
        have kc3 : ∀ y : Kin V, y.val.cell? ⟨b, 1, none⟩ = some (.int .i64 (x.n : Int)) := fun y => by rw [kin_cell lb']; exact z1
        have kc4 : ∀ y : Kin V, y.val.cell? ⟨b, 2, none⟩ = some (.int .i64 x.v) := fun y => by rw [kin_cell lb']; exact z2
        have kc5 : ∀ y : Kin V, y.val.cell? ⟨gg, off + k * 3, none⟩ = some (.int .u32 (y0.k : Int)) := fun y => by rw [kin_cell lg]; exact d0
        have kc6 : ∀ y : Kin V, y.val.cell? ⟨gg, off + k * 3 + 1, none⟩ = some (.int .i64 (y0.n : Int)) := fun y => by rw [kin_cell lg]; exact d1
        have kc7 : ∀ y : Kin V, y.val.cell? ⟨gg, off + k * 3 + 2, none⟩ = some (.int .i64 y0.v) := fun y => by rw [kin_cell lg]; exact d2
        gi_wp2_with (fail)
        refine wpIn_region_kinR V (Below.refl _ _) (by kernel_rfl) (by kernel_rfl) (by kernel_rfl) ?_
        repeat (go_big_quiet_step (fail))
        refine wpQuiet_nil ?_
        rintro wq ⟨⟨xq, hxq⟩, hyq⟩
        have hq : Below V.heap.size V wq := by rw [hyq]; exact hxq
        clear hyq hxq xq kne kc0 kc1
        clear kc2 kc3 kc4 kc5 kc6 kc7 hne
        clear d0 d1 d2
        have hw1 : IntKind.i64.wrap ((k : Int) + 1) = (k : Int) + 1 := by rw [IntKind.wrap_i64]; omega
        have HN : Hid (SS w (.func (.func g) #[] lb) (.slice (some ⟨gg, off, none⟩) D.length cap) E ((k : Int) + 1) (wq.setCell ⟨w.heap.size + 1 + 1 + 1 + 1, 0, none⟩ (.int .i64 ((k : Int) + 1)))) := (HSV.out.on hq).set _
        have HR : Hid (RK W0.heap.size noU V (wq.setCell ⟨w.heap.size + 1 + 1 + 1 + 1, 0, none⟩ (.int .i64 ((k : Int) + 1)))) := (RK.below (noU_stab 0) (Nat.zero_le _) hq).trans (rk_set _ _ (by omega))
        have HK : Hid (Kpt P V (wq.setCell ⟨w.heap.size + 1 + 1 + 1 + 1, 0, none⟩ (.int .i64 ((k : Int) + 1)))) := kpt_below hPl ((show Below w.heap.size V wq from hq.mono (by omega)).setCell (p := ⟨w.heap.size + 1 + 1 + 1 + 1, 0, none⟩) (by simp; omega) _)
        have c9 := blk_cell (HSV.out.on hq).bk (j := 0) rfl
        have f9 := blk_free (HSV.out.on hq).bk 0
        have c8 := blk_cell (HSV.out.on hq).be (j := 0) rfl
        have hlen : ((pre ++ [x]).length : Int) = (k : Int) + 1 := by have := Hk.out; simp; omega
        by_cases hkE : k + 1 = E
        · have he1 : decide ((k : Int) + 1 = (E : Int)) = true := decide_eq_true (by omega)
          have he2 : (k : Int) + 1 = (E : Int) := by omega
          rw [he2] at HN HR hlen
          have hG := fun a => hGoB a _ HR.out ⟨by have := Hk.out; simp; omega, by omega, by rw [hlen]; exact HN.out⟩
          clear hGoR hGoN hGoB hlen
          gi_wp2
          exact hG _
        · have he1 : decide ((k : Int) + 1 = (E : Int)) = false := decide_eq_false (by omega)
          have he2 : ¬ (k : Int) + 1 = (E : Int) := by omega
          have hG := fun a => hGoN a _ HR.out HK.out ⟨HPY.out, fun h => by have := Hk.out; simp; have := hpE h; omega, by rw [hlen]; exact HN.out⟩
          clear hGoR hGoN hGoB hlen
          gi_wp2
          exact hG _
  case after =>
    intro C V hC hR hK
    have hR2 : ∃ kk : Nat, (0 < E → kk = E) ∧ SS w (.func (.func g) #[] lb) (.slice ad D.length cap) E kk V := by
      rcases hR with ⟨_, q2, q3⟩ | ⟨pre, _, q1, q2, q3⟩
      · exact ⟨D.length, fun h => by have := q2 h; omega, q3⟩
      · exact ⟨pre.length, fun _ => q1, q3⟩
    clear hR
    obtain ⟨kk, hkk, hSS⟩ := hR2
    have HSV : Hid (SS w (.func (.func g) #[] lb) (.slice ad D.length cap) E kk V) := hSS
    have HDV : Hid (V.heap[C]? = some (.deferred (some []))) := hK
    have x0 := blk_cell hSS.bf (j := 0) rfl
    have x1 := blk_cell hSS.bv (j := 0) rfl
    have x2 := blk_cell hSS.be (j := 0) rfl
    have x4 := blk_cell hSS.bk (j := 0) rfl
    have f4 := blk_free hSS.bk 0
    clear hSS hK
    by_cases hE0 : E = 0
    · have he1 : decide ((0 : Int) < (E : Int)) = false := decide_eq_false (by omega)
      have he2 : ¬ (0 : Int) < (E : Int) := by omega
      have he3 : ¬ 0 < E := by omega
      have HS2 : Hid (SS w (.func (.func g) #[] lb) (.slice ad D.length cap) E 0 (V.setCell ⟨w.heap.size + 1 + 1 + 1 + 1, 0, none⟩ (.int .i64 0))) := HSV.out.set 0
      have HD2 : Hid ((V.setCell ⟨w.heap.size + 1 + 1 + 1 + 1, 0, none⟩ (.int .i64 0)).heap[C]? = some (.deferred (some []))) := blk_far HDV.out (by omega) _
      go_wp2_with (fail)
      generalize V.setCell ⟨w.heap.size + 1 + 1 + 1 + 1, 0, none⟩ (.int .i64 0) = W2 at *
      have hCl := blk_lt HD2.out
      clear HSV HDV x0 x1 x2 x4 f4
      refine (wpIn_wide (n := 9)).1 ?_
      refine itr_top 51 9 noU (noU_stab _) (fun k h => h.elim) rfl (HI.out.later HS2.out.bb) (I2 w (.func (.func g) #[] lb) (.slice ad D.length cap) D E C) (fun cc pre V => cc = .ret ∧ ¬ pre <+: D) ?hI ?hIx ?h0 ?assign ?body ?done ?stop
      case hI =>
        rintro s A B row ⟨a1, a2, a3⟩ hg hr
        exact ⟨a1, a2.kept hg (fun r e => ⟨by have := (hr r e).1; omega, (hr r e).2⟩), by rw [hg.block C (blk_lt a3) (fun e => by have := (hr C e.symm).1; omega)]; exact a3⟩
      case hIx => rintro c s A B row h hg hr; exact h
      case h0 => exact ⟨List.nil_prefix, HS2.out, HD2.out⟩
      case assign =>
        intro l x V K hK
        simp only [List.setIfInBounds_toArray, List.set_cons_succ, List.set_cons_zero] at hK ⊢
        gi_wp2
        exact hK
      case body =>
        rintro l pre x b V2 hl hr hz2 hb hbk ⟨hp, hSS, hDV⟩ hN
        simp only [List.setIfInBounds_toArray, List.set_cons_succ, List.set_cons_zero]
        have hGoN : ∀ a V', RK W2.heap.size noU V2 V' → Kpt P V2 V' → I2 w (.func (.func g) #[] lb) (.slice ad D.length cap) D E C (pre ++ [x]) V' → ownPostU W2.heap.size noU (Kpt P) (I2 w (.func (.func g) #[] lb) (.slice ad D.length cap) D E C) (fun cc pre V => cc = .ret ∧ ¬ pre <+: D) (pre ++ [x]) V2 .normal a V' := fun a V' q1 q2 q3 => ⟨q1, q2, q3⟩
        have hGoR : ∀ a V', RK W2.heap.size noU V2 V' → ¬ (pre ++ [x] <+: D) → ownPostU W2.heap.size noU (Kpt P) (I2 w (.func (.func g) #[] lb) (.slice ad D.length cap) D E C) (fun cc pre V => cc = .ret ∧ ¬ pre <+: D) (pre ++ [x]) V2 .ret a V' := fun a V' q1 q3 => ⟨q1, rfl, q3⟩
        generalize hQ2 : ownPostU _ _ _ _ _ _ _ = Q2 at hGoN hGoR ⊢
        obtain ⟨k, hk⟩ : ∃ k, k = pre.length := ⟨_, rfl⟩
        rw [← hk] at hSS hN
        have HSV : Hid (SS w (.func (.func g) #[] lb) (.slice ad D.length cap) E k V2) := hSS
        have HDV : Hid (V2.heap[C]? = some (.deferred (some []))) := hDV
        have HSv : Hid (SrcE V2 (.slice ad D.length cap) D) := HS.out.keep hSS.bb
        have HLr : Hid (∃ r, V2.heap[l]? = some (.loop r)) := hr
        have xk := blk_cell hSS.bk (j := 0) rfl
        have xv := blk_cell hSS.bv (j := 0) rfl
        have lk := blk_lt hSS.bk
        have lv := blk_lt hSS.bv
        have lb' := blk_lt hbk
        obtain ⟨z0, z1, z2⟩ := blk3 hbk
        have hkD : k ≤ D.length := by rw [hk]; exact hp.length_le
        have Hk : Hid (k = pre.length) := hk
        clear hk hSS hbk hQ2 hr hDV
        by_cases hkl : k = D.length
        · have hd : decide ((D.length : Int) ≤ (k : Int)) = true := decide_eq_true (by omega)
          have hd' : decide (D.length ≤ k) = true := decide_eq_true (by omega)
          have hge : (D.length : Int) ≤ (k : Int) := by omega
          have hnp : ¬ (pre ++ [x] <+: D) := fun h => by have h3 := h.length_le; have h4 := Hk.out; rw [List.length_append, List.length_singleton] at h3; omega
          have kne : Nonempty (Kin V2) := ⟨⟨_, Below.refl _ _⟩⟩
          have kc0 : ∀ y : Kin V2, y.val.cell? ⟨w.heap.size + 1 + 1 + 1 + 1, 0, none⟩ = some (.int .i64 (k : Int)) := fun y => by rw [kin_cell lk]; exact xk
          have kc1 : ∀ y : Kin V2, y.val.cell? ⟨w.heap.size + 1, 0, none⟩ = some (.slice ad D.length cap) := fun y => by rw [kin_cell lv]; exact xv
          gi_wp2_with (fail)
          refine wpIn_region_kinR V2 (Below.refl _ _) (by kernel_rfl) (by kernel_rfl) (by kernel_rfl) ?_
          repeat (go_big_quiet_step (fail))
          refine wpQuiet_nil ?_
          rintro wq ⟨⟨xq, hxq⟩, hyq⟩
          have hq : Below V2.heap.size V2 wq := by rw [hyq]; exact hxq
          clear hyq hxq xq kne kc0 kc1
          have xr := blk_cell (HSV.out.on hq).br (j := 0) rfl
          have fr := blk_free (HSV.out.on hq).br 0
          have hG := fun a => hGoR a (wq.setCell ⟨w.heap.size + 1 + 1 + 1, 0, none⟩ (.bool false)) ((RK.below (noU_stab 0) (Nat.zero_le _) hq).trans (rk_set _ _ (by omega))) hnp
          clear hGoR hGoN
          gi_wp2
          exact hG _
        · have hkl' : k < D.length := by omega
          have hd : decide ((D.length : Int) ≤ (k : Int)) = false := decide_eq_false (by omega)
          have hd' : decide (D.length ≤ k) = false := decide_eq_false (by omega)
          have hge : ¬ (D.length : Int) ≤ (k : Int) := by omega
          have hlt : (k : Int) < (D.length : Int) := by omega
          obtain ⟨ad', cap', e1, _, hat⟩ := HSv.out
          cases e1
          obtain ⟨gg, off, rfl, hcs⟩ := hat (by omega)
          have hy1 := hcs k hkl'
          obtain ⟨y0, hy0⟩ : ∃ y0, y0 = D[k]'hkl' := ⟨_, rfl⟩
          rw [← hy0] at hy1
          have d0 : V2.cell? ⟨gg, off + k * 3, none⟩ = some (.int .u32 (y0.k : Int)) := hy1 0 (by decide)
          have d1 : V2.cell? ⟨gg, off + k * 3 + 1, none⟩ = some (.int .i64 (y0.n : Int)) := hy1 1 (by decide)
          have d2 : V2.cell? ⟨gg, off + k * 3 + 2, none⟩ = some (.int .i64 y0.v) := hy1 2 (by decide)
          have lg : gg < V2.heap.size := World.block_lt_of_cell? _ _ d0
          have hne := fun V => neE x y0 V
          have HPS : Hid (pre ++ [x] <+: D ↔ x = y0) := by show _ ↔ _; rw [hy0]; exact pre_snoc hp Hk.out hkl'
          clear hcs hat hy1 hy0 HSv
          cases hb2 : eqE x y0
          · rw [hb2] at hne
            simp only [Bool.not_false] at hne
            have hnp : ¬ (pre ++ [x] <+: D) := fun h => by have := eqE_iff.2 (HPS.out.1 h); rw [hb2] at this; cases this
            have kne : Nonempty (Kin V2) := ⟨⟨_, Below.refl _ _⟩⟩
            have kc0 : ∀ y : Kin V2, y.val.cell? ⟨w.heap.size + 1 + 1 + 1 + 1, 0, none⟩ = some (.int .i64 (k : Int)) := fun y => by rw [kin_cell lk]; exact xk
            have kc1 : ∀ y : Kin V2, y.val.cell? ⟨w.heap.size + 1, 0, none⟩ = some (.slice (some ⟨gg, off, none⟩) D.length cap) := fun y => by rw [kin_cell lv]; exact xv
            have kc2 : ∀ y : Kin V2, y.val.cell? ⟨b, 0, none⟩ = some (.int .u32 (x.k : Int)) := fun y => by rw [kin_cell lb']; exact z0
            have kc3 : ∀ y : Kin V2, y.val.cell? ⟨b, 1, none⟩ = some (.int .i64 (x.n : Int)) := fun y => by rw [kin_cell lb']; exact z1
            have kc4 : ∀ y : Kin V2, y.val.cell? ⟨b, 2, none⟩ = some (.int .i64 x.v) := fun y => by rw [kin_cell lb']; exact z2
            have kc5 : ∀ y : Kin V2, y.val.cell? ⟨gg, off + k * 3, none⟩ = some (.int .u32 (y0.k : Int)) := fun y => by rw [kin_cell lg]; exact d0
            have kc6 : ∀ y : Kin V2, y.val.cell? ⟨gg, off + k * 3 + 1, none⟩ = some (.int .i64 (y0.n : Int)) := fun y => by rw [kin_cell lg]; exact d1
            have kc7 : ∀ y : Kin V2, y.val.cell? ⟨gg, off + k * 3 + 2, none⟩ = some (.int .i64 y0.v) := fun y => by rw [kin_cell lg]; exact d2
            gi_wp2_with (fail)
            refine wpIn_region_kinR V2 (Below.refl _ _) (by kernel_rfl) (by kernel_rfl) (by kernel_rfl) ?_
            repeat (go_big_quiet_step (fail))
            refine wpQuiet_nil ?_
            rintro wq ⟨⟨xq, hxq⟩, hyq⟩
            have hq : Below V2.heap.size V2 wq := by rw [hyq]; exact hxq
            clear hyq hxq xq kne kc0 kc1
            clear kc2 kc3 kc4 kc5 kc6 kc7 hne
            clear d0 d1 d2
            have xr := blk_cell (HSV.out.on hq).br (j := 0) rfl
            have fr := blk_free (HSV.out.on hq).br 0
            have hG := fun a => hGoR a (wq.setCell ⟨w.heap.size + 1 + 1 + 1, 0, none⟩ (.bool false)) ((RK.below (noU_stab 0) (Nat.zero_le _) hq).trans (rk_set _ _ (by omega))) hnp
            clear hGoR hGoN
            gi_wp2
            exact hG _
          · rw [hb2] at hne
            simp only [Bool.not_true] at hne
            have HPY : Hid (pre ++ [x] <+: D) := HPS.out.2 (eqE_iff.1 hb2)
            have kne : Nonempty (Kin V2) := ⟨⟨_, Below.refl _ _⟩⟩
            have kc0 : ∀ y : Kin V2, y.val.cell? ⟨w.heap.size + 1 + 1 + 1 + 1, 0, none⟩ = some (.int .i64 (k : Int)) := fun y => by rw [kin_cell lk]; exact xk
            have kc1 : ∀ y : Kin V2, y.val.cell? ⟨w.heap.size + 1, 0, none⟩ = some (.slice (some ⟨gg, off, none⟩) D.length cap) := fun y => by rw [kin_cell lv]; exact xv
            have kc2 : ∀ y : Kin V2, y.val.cell? ⟨b, 0, none⟩ = some (.int .u32 (x.k : Int)) := fun y => by rw [kin_cell lb']; exact z0
            have kc3 : ∀ y : Kin V2, y.val.cell? ⟨b, 1, none⟩ = some (.int .i64 (x.n : Int)) := fun y => by rw [kin_cell lb']; exact z1
            have kc4 : ∀ y : Kin V2, y.val.cell? ⟨b, 2, none⟩ = some (.int .i64 x.v) := fun y => by rw [kin_cell lb']; exact z2
            have kc5 : ∀ y : Kin V2, y.val.cell? ⟨gg, off + k * 3, none⟩ = some (.int .u32 (y0.k : Int)) := fun y => by rw [kin_cell lg]; exact d0
            have kc6 : ∀ y : Kin V2, y.val.cell? ⟨gg, off + k * 3 + 1, none⟩ = some (.int .i64 (y0.n : Int)) := fun y => by rw [kin_cell lg]; exact d1
            have kc7 : ∀ y : Kin V2, y.val.cell? ⟨gg, off + k * 3 + 2, none⟩ = some (.int .i64 y0.v) := fun y => by rw [kin_cell lg]; exact d2
            gi_wp2_with (fail)
            refine wpIn_region_kinR V2 (Below.refl _ _) (by kernel_rfl) (by kernel_rfl) (by kernel_rfl) ?_
            repeat (go_big_quiet_step (fail))
            refine wpQuiet_nil ?_
            rintro wq ⟨⟨xq, hxq⟩, hyq⟩
            have hq : Below V2.heap.size V2 wq := by rw [hyq]; exact hxq
            clear hyq hxq xq kne kc0 kc1
            clear kc2 kc3 kc4 kc5 kc6 kc7 hne
            clear d0 d1 d2
            have hw1 : IntKind.i64.wrap ((k : Int) + 1) = (k : Int) + 1 := by rw [IntKind.wrap_i64]; omega
            have HN : Hid (SS w (.func (.func g) #[] lb) (.slice (some ⟨gg, off, none⟩) D.length cap) E ((k : Int) + 1) (wq.setCell ⟨w.heap.size + 1 + 1 + 1 + 1, 0, none⟩ (.int .i64 ((k : Int) + 1)))) := (HSV.out.on hq).set _
            have HR : Hid (RK W2.heap.size noU V2 (wq.setCell ⟨w.heap.size + 1 + 1 + 1 + 1, 0, none⟩ (.int .i64 ((k : Int) + 1)))) := (RK.below (noU_stab 0) (Nat.zero_le _) hq).trans (rk_set _ _ (by omega))
            have HK : Hid (Kpt P V2 (wq.setCell ⟨w.heap.size + 1 + 1 + 1 + 1, 0, none⟩ (.int .i64 ((k : Int) + 1)))) := kpt_below hPl ((show Below w.heap.size V2 wq from hq.mono (by omega)).setCell (p := ⟨w.heap.size + 1 + 1 + 1 + 1, 0, none⟩) (by simp; omega) _)
            have HDX : Hid ((wq.setCell ⟨w.heap.size + 1 + 1 + 1 + 1, 0, none⟩ (.int .i64 ((k : Int) + 1))).heap[C]? = some (.deferred (some []))) := blk_far (blk_on HDV.out hq) (by omega) _
            have HLX : Hid (∃ r, (wq.setCell ⟨w.heap.size + 1 + 1 + 1 + 1, 0, none⟩ (.int .i64 ((k : Int) + 1))).heap[l]? = some (.loop r)) := by
              obtain ⟨r, hr⟩ := HLr.out
              exact ⟨r, blk_far (blk_on hr hq) (by omega) _⟩
            have c9 := blk_cell (HSV.out.on hq).bk (j := 0) rfl
            have f9 := blk_free (HSV.out.on hq).bk 0
            have c8 := blk_cell (HSV.out.on hq).bf (j := 0) rfl
            have Hlen : Hid (((pre ++ [x]).length : Int) = (k : Int) + 1) := by show _ = _; have := Hk.out; simp; omega
            by_cases hk2 : 1 < k
            · have he1 : decide ((2 : Int) < (k : Int) + 1) = true := decide_eq_true (by omega)
              have he2 : (2 : Int) < (k : Int) + 1 := by omega
              have he3 : 2 < k + 1 := by omega
              have hG := fun a => hGoN a _ HR.out HK.out ⟨HPY.out, by rw [Hlen.out]; exact HN.out, HDX.out⟩
              clear hGoR hGoN
              gi_wp2
              exact hG _
            · have he1 : decide ((2 : Int) < (k : Int) + 1) = false := decide_eq_false (by omega)
              have he2 : ¬ (2 : Int) < (k : Int) + 1 := by omega
              have he3 : ¬ 2 < k + 1 := by omega
              have hwq : w.heap.size + 1 + 1 + 1 + 1 + 1 ≤ wq.heap.size := by have := hq.size; omega
              have hnq : ¬ w.heap.size = wq.heap.size := by omega
              have hnq2 : ¬ w.heap.size = (wq.setCell ⟨w.heap.size + 1 + 1 + 1 + 1, 0, none⟩ (.int .i64 ((k : Int) + 1))).heap.size := by simp; omega
              have tst : ((wq.setCell ⟨w.heap.size + 1 + 1 + 1 + 1, 0, none⟩ (.int .i64 ((k : Int) + 1))).alloc (.cells #[.int .i64 0] 3)).cell? ⟨w.heap.size, 0, none⟩ = some (.func (.func g) #[] lb) := blk_cell (blk_alloc HN.out.bf _) rfl
              gi_wp2_with (fail)
              have hJn := blk_new (wq.setCell ⟨w.heap.size + 1 + 1 + 1 + 1, 0, none⟩ (.int .i64 ((k : Int) + 1))) (.cells #[.int .i64 0] 3)
              have hYb : Below (wq.setCell ⟨w.heap.size + 1 + 1 + 1 + 1, 0, none⟩ (.int .i64 ((k : Int) + 1))).heap.size (wq.setCell ⟨w.heap.size + 1 + 1 + 1 + 1, 0, none⟩ (.int .i64 ((k : Int) + 1))) ((wq.setCell ⟨w.heap.size + 1 + 1 + 1 + 1, 0, none⟩ (.int .i64 ((k : Int) + 1))).alloc (.cells #[.int .i64 0] 3)) := (Below.refl _ _).alloc (Nat.le_refl _) _
              have hYz : ((wq.setCell ⟨w.heap.size + 1 + 1 + 1 + 1, 0, none⟩ (.int .i64 ((k : Int) + 1))).alloc (.cells #[.int .i64 0] 3)).heap.size = (wq.setCell ⟨w.heap.size + 1 + 1 + 1 + 1, 0, none⟩ (.int .i64 ((k : Int) + 1))).heap.size + 1 := by simp
              have hXz : (wq.setCell ⟨w.heap.size + 1 + 1 + 1 + 1, 0, none⟩ (.int .i64 ((k : Int) + 1))).heap.size = wq.heap.size := by simp
              clear hnq hnq2 tst
              generalize hYe : (wq.setCell ⟨w.heap.size + 1 + 1 + 1 + 1, 0, none⟩ (.int .i64 ((k : Int) + 1))).alloc (.cells #[.int .i64 0] 3) = Y at *
              generalize hXe : (wq.setCell ⟨w.heap.size + 1 + 1 + 1 + 1, 0, none⟩ (.int .i64 ((k : Int) + 1))) = X at *
              rw [hXz] at hYz hJn
              generalize wq.heap.size = JB at *
              clear hYe hXe c9 f9 c8 he1 he2 he3
              refine itr_in (l₀ := l) 69 11 noU (noU_stab _) (fun k h => h.elim) ?jhl ?jg (HI.out.later (HN.out.bb.trans (hYb.mono (by omega)))) (I3 X D JB) (fun cc pre V => cc = .ret ∧ ¬ pre <+: D) ?jhI ?jhIx ?jh0 ?jassign ?jbody ?jdone ?jstop
              case jg => rfl
              case jhl =>
                obtain ⟨r, hr⟩ := HLX.out
                exact ⟨r, blk_on hr hYb⟩
              case jhI =>
                rintro s A B row ⟨a1, a2, a3⟩ hg hr
                exact ⟨a1, blk_kept a2 hg (fun r e => (hr r e).2), a3.grown hg (by have := a3.size; omega) (fun k e => by have := (hr k e).1; omega)⟩
              case jhIx => rintro c s A B row h hg hr; exact h
              case jh0 => exact ⟨List.nil_prefix, hJn, hYb⟩
              case jassign =>
                intro l x V K hK
                simp only [List.setIfInBounds_toArray, List.set_cons_succ, List.set_cons_zero] at hK ⊢
                gi_wp2
                exact hK
              case jbody =>
                rintro l3 pre x b V3 hl3 hr3 hz3 hb hbk ⟨hp, hJ, hbX⟩ hN
                simp only [List.setIfInBounds_toArray, List.set_cons_succ, List.set_cons_zero]
                have hGoN : ∀ a V', RK Y.heap.size noU V3 V' → Kpt P V3 V' → I3 X D JB (pre ++ [x]) V' → ownPostU Y.heap.size noU (Kpt P) (I3 X D JB) (fun cc pre V => cc = .ret ∧ ¬ pre <+: D) (pre ++ [x]) V3 .normal a V' := fun a V' q1 q2 q3 => ⟨q1, q2, q3⟩
                have hGoR : ∀ a V', RK Y.heap.size noU V3 V' → ¬ (pre ++ [x] <+: D) → ownPostU Y.heap.size noU (Kpt P) (I3 X D JB) (fun cc pre V => cc = .ret ∧ ¬ pre <+: D) (pre ++ [x]) V3 .ret a V' := fun a V' q1 q3 => ⟨q1, rfl, q3⟩
                generalize hQ2 : ownPostU _ _ _ _ _ _ _ = Q3 at hGoN hGoR ⊢
                have HSV := hidMk (HN.out.on hbX)
                have HSv : Hid (SrcE V3 (.slice (some ⟨gg, off, none⟩) D.length cap) D) := HS.out.keep HSV.out.bb
                obtain ⟨k, hk⟩ : ∃ k, k = pre.length := ⟨_, rfl⟩
                rw [← hk] at hJ hN
                have HJB : Hid (V3.heap[JB]? = some (.cells #[.int .i64 (k : Int)] 3)) := hJ
                have HBX : Hid (Below X.heap.size X V3) := hbX
                have xk := blk_cell hJ (j := 0) rfl
                have xv := blk_cell HSV.out.bv (j := 0) rfl
                have lk := blk_lt hJ
                have lv := blk_lt HSV.out.bv
                have lb' := blk_lt hbk
                have hw3 := hbX.size
                obtain ⟨z0, z1, z2⟩ := blk3 hbk
                have hkD : k ≤ D.length := by rw [hk]; exact hp.length_le
                have Hk : Hid (k = pre.length) := hk
                clear hk hJ hbk hQ2 hr3 hbX HLr
                by_cases hkl : k = D.length
                · have hd : decide ((D.length : Int) ≤ (k : Int)) = true := decide_eq_true (by omega)
                  have hd' : decide (D.length ≤ k) = true := decide_eq_true (by omega)
                  have hge : (D.length : Int) ≤ (k : Int) := by omega
                  have hnp : ¬ (pre ++ [x] <+: D) := fun h => by have h3 := h.length_le; have h4 := Hk.out; rw [List.length_append, List.length_singleton] at h3; omega
                  have kne : Nonempty (Kin V3) := ⟨⟨_, Below.refl _ _⟩⟩
                  have kc0 : ∀ y : Kin V3, y.val.cell? ⟨JB, 0, none⟩ = some (.int .i64 (k : Int)) := fun y => by rw [kin_cell lk]; exact xk
                  have kc1 : ∀ y : Kin V3, y.val.cell? ⟨w.heap.size + 1, 0, none⟩ = some (.slice (some ⟨gg, off, none⟩) D.length cap) := fun y => by rw [kin_cell lv]; exact xv
                  gi_wp2_with (fail)
                  refine wpIn_region_kinR V3 (Below.refl _ _) (by kernel_rfl) (by kernel_rfl) (by kernel_rfl) ?_
                  repeat (go_big_quiet_step (fail))
                  refine wpQuiet_nil ?_
                  rintro wq ⟨⟨xq, hxq⟩, hyq⟩
                  have hq : Below V3.heap.size V3 wq := by rw [hyq]; exact hxq
                  clear hyq hxq xq kne kc0 kc1
                  have xr := blk_cell (HSV.out.on hq).br (j := 0) rfl
                  have fr := blk_free (HSV.out.on hq).br 0
                  have hG := fun a => hGoR a (wq.setCell ⟨w.heap.size + 1 + 1 + 1, 0, none⟩ (.bool false)) ((RK.below (noU_stab 0) (Nat.zero_le _) hq).trans (rk_set _ _ (by omega))) hnp
                  clear hGoR hGoN
                  gi_wp2
                  exact hG _
                · have hkl' : k < D.length := by omega
                  have hd : decide ((D.length : Int) ≤ (k : Int)) = false := decide_eq_false (by omega)
                  have hd' : decide (D.length ≤ k) = false := decide_eq_false (by omega)
                  have hge : ¬ (D.length : Int) ≤ (k : Int) := by omega
                  have hlt : (k : Int) < (D.length : Int) := by omega
                  obtain ⟨ad', cap', e1, _, hat⟩ := HSv.out
                  cases e1
                  obtain ⟨gg2, off2, e2, hcs⟩ := hat (by omega)
                  cases e2
                  have hy1 := hcs k hkl'
                  obtain ⟨y0, hy0⟩ : ∃ y0, y0 = D[k]'hkl' := ⟨_, rfl⟩
                  rw [← hy0] at hy1
                  have d0 : V3.cell? ⟨gg, off + k * 3, none⟩ = some (.int .u32 (y0.k : Int)) := hy1 0 (by decide)
                  have d1 : V3.cell? ⟨gg, off + k * 3 + 1, none⟩ = some (.int .i64 (y0.n : Int)) := hy1 1 (by decide)
                  have d2 : V3.cell? ⟨gg, off + k * 3 + 2, none⟩ = some (.int .i64 y0.v) := hy1 2 (by decide)
                  have lg : gg < V3.heap.size := World.block_lt_of_cell? _ _ d0
                  have hne := fun V => neE x y0 V
                  have HPS : Hid (pre ++ [x] <+: D ↔ x = y0) := by show _ ↔ _; rw [hy0]; exact pre_snoc hp Hk.out hkl'
                  clear hcs hat hy1 hy0 HSv
                  cases hb2 : eqE x y0
                  · rw [hb2] at hne
                    simp only [Bool.not_false] at hne
                    have hnp : ¬ (pre ++ [x] <+: D) := fun h => by have := eqE_iff.2 (HPS.out.1 h); rw [hb2] at this; cases this
                    have kne : Nonempty (Kin V3) := ⟨⟨_, Below.refl _ _⟩⟩
                    have kc0 : ∀ y : Kin V3, y.val.cell? ⟨JB, 0, none⟩ = some (.int .i64 (k : Int)) := fun y => by rw [kin_cell lk]; exact xk
                    have kc1 : ∀ y : Kin V3, y.val.cell? ⟨w.heap.size + 1, 0, none⟩ = some (.slice (some ⟨gg, off, none⟩) D.length cap) := fun y => by rw [kin_cell lv]; exact xv
                    have kc2 : ∀ y : Kin V3, y.val.cell? ⟨b, 0, none⟩ = some (.int .u32 (x.k : Int)) := fun y => by rw [kin_cell lb']; exact z0
                    have kc3 : ∀ y : Kin V3, y.val.cell? ⟨b, 1, none⟩ = some (.int .i64 (x.n : Int)) := fun y => by rw [kin_cell lb']; exact z1
                    have kc4 : ∀ y : Kin V3, y.val.cell? ⟨b, 2, none⟩ = some (.int .i64 x.v) := fun y => by rw [kin_cell lb']; exact z2
                    have kc5 : ∀ y : Kin V3, y.val.cell? ⟨gg, off + k * 3, none⟩ = some (.int .u32 (y0.k : Int)) := fun y => by rw [kin_cell lg]; exact d0
                    have kc6 : ∀ y : Kin V3, y.val.cell? ⟨gg, off + k * 3 + 1, none⟩ = some (.int .i64 (y0.n : Int)) := fun y => by rw [kin_cell lg]; exact d1
                    have kc7 : ∀ y : Kin V3, y.val.cell? ⟨gg, off + k * 3 + 2, none⟩ = some (.int .i64 y0.v) := fun y => by rw [kin_cell lg]; exact d2
                    gi_wp2_with (fail)
                    refine wpIn_region_kinR V3 (Below.refl _ _) (by kernel_rfl) (by kernel_rfl) (by kernel_rfl) ?_
                    repeat (go_big_quiet_step (fail))
                    refine wpQuiet_nil ?_
                    rintro wq ⟨⟨xq, hxq⟩, hyq⟩
                    have hq : Below V3.heap.size V3 wq := by rw [hyq]; exact hxq
                    clear hyq hxq xq kne kc0 kc1
                    clear kc2 kc3 kc4 kc5 kc6 kc7 hne
                    clear d0 d1 d2
                    have xr := blk_cell (HSV.out.on hq).br (j := 0) rfl
                    have fr := blk_free (HSV.out.on hq).br 0
                    have hG := fun a => hGoR a (wq.setCell ⟨w.heap.size + 1 + 1 + 1, 0, none⟩ (.bool false)) ((RK.below (noU_stab 0) (Nat.zero_le _) hq).trans (rk_set _ _ (by omega))) hnp
                    clear hGoR hGoN
                    gi_wp2
                    exact hG _
                  · rw [hb2] at hne
                    simp only [Bool.not_true] at hne
                    have HPY : Hid (pre ++ [x] <+: D) := HPS.out.2 (eqE_iff.1 hb2)
                    have kne : Nonempty (Kin V3) := ⟨⟨_, Below.refl _ _⟩⟩
                    have kc0 : ∀ y : Kin V3, y.val.cell? ⟨JB, 0, none⟩ = some (.int .i64 (k : Int)) := fun y => by rw [kin_cell lk]; exact xk
                    have kc1 : ∀ y : Kin V3, y.val.cell? ⟨w.heap.size + 1, 0, none⟩ = some (.slice (some ⟨gg, off, none⟩) D.length cap) := fun y => by rw [kin_cell lv]; exact xv
                    have kc2 : ∀ y : Kin V3, y.val.cell? ⟨b, 0, none⟩ = some (.int .u32 (x.k : Int)) := fun y => by rw [kin_cell lb']; exact z0
                    have kc3 : ∀ y : Kin V3, y.val.cell? ⟨b, 1, none⟩ = some (.int .i64 (x.n : Int)) := fun y => by rw [kin_cell lb']; exact z1
                    have kc4 : ∀ y : Kin V3, y.val.cell? ⟨b, 2, none⟩ = some (.int .i64 x.v) := fun y => by rw [kin_cell lb']; exact z2
                    have kc5 : ∀ y : Kin V3, y.val.cell? ⟨gg, off + k * 3, none⟩ = some (.int .u32 (y0.k : Int)) := fun y => by rw [kin_cell lg]; exact d0
                    have kc6 : ∀ y : Kin V3, y.val.cell? ⟨gg, off + k * 3 + 1, none⟩ = some (.int .i64 (y0.n : Int)) := fun y => by rw [kin_cell lg]; exact d1
                    have kc7 : ∀ y : Kin V3, y.val.cell? ⟨gg, off + k * 3 + 2, none⟩ = some (.int .i64 y0.v) := fun y => by rw [kin_cell lg]; exact d2
                    gi_wp2_with (fail)
                    refine wpIn_region_kinR V3 (Below.refl _ _) (by kernel_rfl) (by kernel_rfl) (by kernel_rfl) ?_
                    repeat (go_big_quiet_step (fail))
                    refine wpQuiet_nil ?_
                    rintro wq ⟨⟨xq, hxq⟩, hyq⟩
                    have hq : Below V3.heap.size V3 wq := by rw [hyq]; exact hxq
                    clear hyq hxq xq kne kc0 kc1
                    clear kc2 kc3 kc4 kc5 kc6 kc7 hne
                    clear d0 d1 d2
                    have hw1 : IntKind.i64.wrap ((k : Int) + 1) = (k : Int) + 1 := by rw [IntKind.wrap_i64]; omega
                    have HR3 : Hid (RK Y.heap.size noU V3 (wq.setCell ⟨JB, 0, none⟩ (.int .i64 ((k : Int) + 1)))) := (RK.below (noU_stab 0) (Nat.zero_le _) hq).trans (rk_set _ _ (by omega))
                    have HK3 : Hid (Kpt P V3 (wq.setCell ⟨JB, 0, none⟩ (.int .i64 ((k : Int) + 1)))) := kpt_below hPl ((show Below w.heap.size V3 wq from hq.mono (by omega)).setCell (p := ⟨JB, 0, none⟩) (by show w.heap.size ≤ JB; omega) _)
                    have HI3 : Hid (I3 X D JB (pre ++ [x]) (wq.setCell ⟨JB, 0, none⟩ (.int .i64 ((k : Int) + 1)))) := by
                      refine ⟨HPY.out, ?_, (HBX.out.trans (hq.mono (by omega))).setCell (p := ⟨JB, 0, none⟩) (by show X.heap.size ≤ JB; omega) _⟩
                      have hlen : ((pre ++ [x]).length : Int) = (k : Int) + 1 := by have := Hk.out; simp; omega
                      rw [hlen]
                      simpa using blk_set (blk_on HJB.out hq) (j := 0) (.int .i64 ((k : Int) + 1))
                    have c9 := blk_cell (blk_on HJB.out hq) (j := 0) rfl
                    have f9 := blk_free (blk_on HJB.out hq) 0
                    have hG := fun a => hGoN a _ HR3.out HK3.out HI3.out
                    clear hGoR hGoN
                    gi_wp2
                    exact hG _
              case jdone =>
                rintro V3 ⟨hp3, hJ3, hb3⟩
                have c5 := blk_cell hJ3 (j := 0) rfl
                have c6 := blk_cell (HN.out.on hb3).bv (j := 0) rfl
                have hG := fun a => hGoN a V3 (HR.out.trans (RK.below (noU_stab 0) (Nat.zero_le _) hb3)) (kpt_t HK.out (kpt_below hPl (hb3.mono (by omega)))) ⟨HPY.out, by rw [Hlen.out]; exact HN.out.on hb3, blk_on HDX.out hb3⟩
                clear hGoR hGoN hp3 hJ3 hb3
                gi_wp2
                exact hG _
              case jstop =>
                rintro c pre3 V3 hp3 ⟨rfl, h⟩
                exact absurd hp3 h
      case done =>
        rintro C2 V2 hC2 ⟨hp, hSS, hDV⟩ hK
        have HSV : Hid (SS w (.func (.func g) #[] lb) (.slice ad D.length cap) E D.length V2) := hSS
        have HDV : Hid (V2.heap[C]? = some (.deferred (some []))) := hDV
        have HKV : Hid (V2.heap[C2]? = some (.deferred (some []))) := hK
        have xk := blk_cell hSS.bk (j := 0) rfl
        have xv := blk_cell hSS.bv (j := 0) rfl
        have xr := blk_cell hSS.br (j := 0) rfl
        have fr := blk_free hSS.br 0
        clear hSS hDV hK hp
        go_wp2_with (fail)
        have hK' := blk_far HKV.out (show C2 ≠ w.heap.size + 1 + 1 + 1 by omega) (j := 0) (.bool true)
        have hK'' := blk_far HDV.out (show C ≠ w.heap.size + 1 + 1 + 1 by omega) (j := 0) (.bool true)
        have hg8 := grownBy_putObj' (V2.setCell ⟨w.heap.size + 1 + 1 + 1, 0, none⟩ (.bool true)) C2 (.deferred none)
        have hK8 := (hg8.block C (Array.getElem?_eq_some_iff.1 hK'').1 (by intro e; have := Option.some.inj e; omega)).trans hK''
        refine ⟨by simp, .inl ⟨_, _, rfl, run_takeDeferred hK', ⟨by simp, .inl ⟨_, _, rfl, run_takeDeferred hK8, ?_⟩⟩⟩⟩
        have q1 := blk_set HSV.out.br (j := 0) (.bool true)
        have q2 := blk_kept q1 hg8 (fun r e => by cases e; exact ⟨_, hK', rfl⟩)
        have q3 := blk_kept q2 (grownBy_putObj' _ C (.deferred none)) (fun r e => by cases e; exact ⟨_, hK8, rfl⟩)
        have q4 := blk_cell q3 (j := 0) (v := .bool true) (by simp)
        refine ⟨.bool true, ?_, rfl, ((HSV.out.bb.setCell (p := ⟨w.heap.size + 1 + 1 + 1, 0, none⟩) (by simp; omega) _).trans (belowK_b (w := w) (Nat.le_refl _) _ C2 _ _ (by omega) hK' rfl rfl)).trans (belowK_b (w := w) (Nat.le_refl _) _ C _ _ (by omega) hK8 rfl rfl)⟩
        simp [results, Try.results18, go_sem, q4]
      case stop =>
        rintro C2 c pre V2 hC2 hp ⟨rfl, h⟩
        exact absurd hp h
    · have he1 : decide ((0 : Int) < (E : Int)) = true := decide_eq_true (by omega)
      have he2 : (0 : Int) < (E : Int) := by omega
      have he3 : 0 < E := by omega
      have he4 := hkk he3
      rw [he4] at HSV x4
      clear hkk he4
      have HS2 : Hid (SS w (.func (.func g) #[] lb) (.slice ad D.length cap) E 0 (V.setCell ⟨w.heap.size + 1 + 1 + 1 + 1, 0, none⟩ (.int .i64 0))) := HSV.out.set 0
      have HD2 : Hid ((V.setCell ⟨w.heap.size + 1 + 1 + 1 + 1, 0, none⟩ (.int .i64 0)).heap[C]? = some (.deferred (some []))) := blk_far HDV.out (by omega) _
      go_wp2_with (fail)
      generalize V.setCell ⟨w.heap.size + 1 + 1 + 1 + 1, 0, none⟩ (.int .i64 0) = W2 at *
      have hCl := blk_lt HD2.out
      clear HSV HDV x0 x1 x2 x4 f4
      refine (wpIn_wide (n := 9)).1 ?_
      refine itr_top 51 9 noU (noU_stab _) (fun k h => h.elim) rfl (HI.out.later HS2.out.bb) (I2 w (.func (.func g) #[] lb) (.slice ad D.length cap) D E C) (fun cc pre V => cc = .ret ∧ ¬ pre <+: D) ?hI ?hIx ?h0 ?assign ?body ?done ?stop
      case hI =>
        rintro s A B row ⟨a1, a2, a3⟩ hg hr
        exact ⟨a1, a2.kept hg (fun r e => ⟨by have := (hr r e).1; omega, (hr r e).2⟩), by rw [hg.block C (blk_lt a3) (fun e => by have := (hr C e.symm).1; omega)]; exact a3⟩
      case hIx => rintro c s A B row h hg hr; exact h
      case h0 => exact ⟨List.nil_prefix, HS2.out, HD2.out⟩
      case assign =>
        intro l x V K hK
        simp only [List.setIfInBounds_toArray, List.set_cons_succ, List.set_cons_zero] at hK ⊢
        gi_wp2
        exact hK
      case body =>
        rintro l pre x b V2 hl hr hz2 hb hbk ⟨hp, hSS, hDV⟩ hN
        simp only [List.setIfInBounds_toArray, List.set_cons_succ, List.set_cons_zero]
        have hGoN : ∀ a V', RK W2.heap.size noU V2 V' → Kpt P V2 V' → I2 w (.func (.func g) #[] lb) (.slice ad D.length cap) D E C (pre ++ [x]) V' → ownPostU W2.heap.size noU (Kpt P) (I2 w (.func (.func g) #[] lb) (.slice ad D.length cap) D E C) (fun cc pre V => cc = .ret ∧ ¬ pre <+: D) (pre ++ [x]) V2 .normal a V' := fun a V' q1 q2 q3 => ⟨q1, q2, q3⟩
        have hGoR : ∀ a V', RK W2.heap.size noU V2 V' → ¬ (pre ++ [x] <+: D) → ownPostU W2.heap.size noU (Kpt P) (I2 w (.func (.func g) #[] lb) (.slice ad D.length cap) D E C) (fun cc pre V => cc = .ret ∧ ¬ pre <+: D) (pre ++ [x]) V2 .ret a V' := fun a V' q1 q3 => ⟨q1, rfl, q3⟩
        generalize hQ2 : ownPostU _ _ _ _ _ _ _ = Q2 at hGoN hGoR ⊢
        obtain ⟨k, hk⟩ : ∃ k, k = pre.length := ⟨_, rfl⟩
        rw [← hk] at hSS hN
        have HSV : Hid (SS w (.func (.func g) #[] lb) (.slice ad D.length cap) E k V2) := hSS
        have HDV : Hid (V2.heap[C]? = some (.deferred (some []))) := hDV
        have HSv : Hid (SrcE V2 (.slice ad D.length cap) D) := HS.out.keep hSS.bb
        have HLr : Hid (∃ r, V2.heap[l]? = some (.loop r)) := hr
        have xk := blk_cell hSS.bk (j := 0) rfl
        have xv := blk_cell hSS.bv (j := 0) rfl
        have lk := blk_lt hSS.bk
        have lv := blk_lt hSS.bv
        have lb' := blk_lt hbk
        obtain ⟨z0, z1, z2⟩ := blk3 hbk
        have hkD : k ≤ D.length := by rw [hk]; exact hp.length_le
        have Hk : Hid (k = pre.length) := hk
        clear hk hSS hbk hQ2 hr hDV
        by_cases hkl : k = D.length
        · have hd : decide ((D.length : Int) ≤ (k : Int)) = true := decide_eq_true (by omega)
          have hd' : decide (D.length ≤ k) = true := decide_eq_true (by omega)
          have hge : (D.length : Int) ≤ (k : Int) := by omega
          have hnp : ¬ (pre ++ [x] <+: D) := fun h => by have h3 := h.length_le; have h4 := Hk.out; rw [List.length_append, List.length_singleton] at h3; omega
          have kne : Nonempty (Kin V2) := ⟨⟨_, Below.refl _ _⟩⟩
          have kc0 : ∀ y : Kin V2, y.val.cell? ⟨w.heap.size + 1 + 1 + 1 + 1, 0, none⟩ = some (.int .i64 (k : Int)) := fun y => by rw [kin_cell lk]; exact xk
          have kc1 : ∀ y : Kin V2, y.val.cell? ⟨w.heap.size + 1, 0, none⟩ = some (.slice ad D.length cap) := fun y => by rw [kin_cell lv]; exact xv
          gi_wp2_with (fail)
          refine wpIn_region_kinR V2 (Below.refl _ _) (by kernel_rfl) (by kernel_rfl) (by kernel_rfl) ?_
          repeat (go_big_quiet_step (fail))
          refine wpQuiet_nil ?_
          rintro wq ⟨⟨xq, hxq⟩, hyq⟩
          have hq : Below V2.heap.size V2 wq := by rw [hyq]; exact hxq
          clear hyq hxq xq kne kc0 kc1
          have xr := blk_cell (HSV.out.on hq).br (j := 0) rfl
          have fr := blk_free (HSV.out.on hq).br 0
          have hG := fun a => hGoR a (wq.setCell ⟨w.heap.size + 1 + 1 + 1, 0, none⟩ (.bool false)) ((RK.below (noU_stab 0) (Nat.zero_le _) hq).trans (rk_set _ _ (by omega))) hnp
          clear hGoR hGoN
          gi_wp2
          exact hG _
        · have hkl' : k < D.length := by omega
          have hd : decide ((D.length : Int) ≤ (k : Int)) = false := decide_eq_false (by omega)
          have hd' : decide (D.length ≤ k) = false := decide_eq_false (by omega)
          have hge : ¬ (D.length : Int) ≤ (k : Int) := by omega
          have hlt : (k : Int) < (D.length : Int) := by omega
          obtain ⟨ad', cap', e1, _, hat⟩ := HSv.out
          cases e1
          obtain ⟨gg, off, rfl, hcs⟩ := hat (by omega)
          have hy1 := hcs k hkl'
          obtain ⟨y0, hy0⟩ : ∃ y0, y0 = D[k]'hkl' := ⟨_, rfl⟩
          rw [← hy0] at hy1
          have d0 : V2.cell? ⟨gg, off + k * 3, none⟩ = some (.int .u32 (y0.k : Int)) := hy1 0 (by decide)
          have d1 : V2.cell? ⟨gg, off + k * 3 + 1, none⟩ = some (.int .i64 (y0.n : Int)) := hy1 1 (by decide)
          have d2 : V2.cell? ⟨gg, off + k * 3 + 2, none⟩ = some (.int .i64 y0.v) := hy1 2 (by decide)
          have lg : gg < V2.heap.size := World.block_lt_of_cell? _ _ d0
          have hne := fun V => neE x y0 V
          have HPS : Hid (pre ++ [x] <+: D ↔ x = y0) := by show _ ↔ _; rw [hy0]; exact pre_snoc hp Hk.out hkl'
          clear hcs hat hy1 hy0 HSv
          cases hb2 : eqE x y0
          · rw [hb2] at hne
            simp only [Bool.not_false] at hne
            have hnp : ¬ (pre ++ [x] <+: D) := fun h => by have := eqE_iff.2 (HPS.out.1 h); rw [hb2] at this; cases this
            have kne : Nonempty (Kin V2) := ⟨⟨_, Below.refl _ _⟩⟩
            have kc0 : ∀ y : Kin V2, y.val.cell? ⟨w.heap.size + 1 + 1 + 1 + 1, 0, none⟩ = some (.int .i64 (k : Int)) := fun y => by rw [kin_cell lk]; exact xk
            have kc1 : ∀ y : Kin V2, y.val.cell? ⟨w.heap.size + 1, 0, none⟩ = some (.slice (some ⟨gg, off, none⟩) D.length cap) := fun y => by rw [kin_cell lv]; exact xv
            have kc2 : ∀ y : Kin V2, y.val.cell? ⟨b, 0, none⟩ = some (.int .u32 (x.k : Int)) := fun y => by rw [kin_cell lb']; exact z0
            have kc3 : ∀ y : Kin V2, y.val.cell? ⟨b, 1, none⟩ = some (.int .i64 (x.n : Int)) := fun y => by rw [kin_cell lb']; exact z1
            have kc4 : ∀ y : Kin V2, y.val.cell? ⟨b, 2, none⟩ = some (.int .i64 x.v) := fun y => by rw [kin_cell lb']; exact z2
            have kc5 : ∀ y : Kin V2, y.val.cell? ⟨gg, off + k * 3, none⟩ = some (.int .u32 (y0.k : Int)) := fun y => by rw [kin_cell lg]; exact d0
            have kc6 : ∀ y : Kin V2, y.val.cell? ⟨gg, off + k * 3 + 1, none⟩ = some (.int .i64 (y0.n : Int)) := fun y => by rw [kin_cell lg]; exact d1
            have kc7 : ∀ y : Kin V2, y.val.cell? ⟨gg, off + k * 3 + 2, none⟩ = some (.int .i64 y0.v) := fun y => by rw [kin_cell lg]; exact d2
            gi_wp2_with (fail)
            refine wpIn_region_kinR V2 (Below.refl _ _) (by kernel_rfl) (by kernel_rfl) (by kernel_rfl) ?_
            repeat (go_big_quiet_step (fail))
            refine wpQuiet_nil ?_
            rintro wq ⟨⟨xq, hxq⟩, hyq⟩
            have hq : Below V2.heap.size V2 wq := by rw [hyq]; exact hxq
            clear hyq hxq xq kne kc0 kc1
            clear kc2 kc3 kc4 kc5 kc6 kc7 hne
            clear d0 d1 d2
            have xr := blk_cell (HSV.out.on hq).br (j := 0) rfl
            have fr := blk_free (HSV.out.on hq).br 0
            have hG := fun a => hGoR a (wq.setCell ⟨w.heap.size + 1 + 1 + 1, 0, none⟩ (.bool false)) ((RK.below (noU_stab 0) (Nat.zero_le _) hq).trans (rk_set _ _ (by omega))) hnp
            clear hGoR hGoN
            gi_wp2
            exact hG _
          · rw [hb2] at hne
            simp only [Bool.not_true] at hne
            have HPY : Hid (pre ++ [x] <+: D) := HPS.out.2 (eqE_iff.1 hb2)
            have kne : Nonempty (Kin V2) := ⟨⟨_, Below.refl _ _⟩⟩
            have kc0 : ∀ y : Kin V2, y.val.cell? ⟨w.heap.size + 1 + 1 + 1 + 1, 0, none⟩ = some (.int .i64 (k : Int)) := fun y => by rw [kin_cell lk]; exact xk
            have kc1 : ∀ y : Kin V2, y.val.cell? ⟨w.heap.size + 1, 0, none⟩ = some (.slice (some ⟨gg, off, none⟩) D.length cap) := fun y => by rw [kin_cell lv]; exact xv
            have kc2 : ∀ y : Kin V2, y.val.cell? ⟨b, 0, none⟩ = some (.int .u32 (x.k : Int)) := fun y => by rw [kin_cell lb']; exact z0
            have kc3 : ∀ y : Kin V2, y.val.cell? ⟨b, 1, none⟩ = some (.int .i64 (x.n : Int)) := fun y => by rw [kin_cell lb']; exact z1
            have kc4 : ∀ y : Kin V2, y.val.cell? ⟨b, 2, none⟩ = some (.int .i64 x.v) := fun y => by rw [kin_cell lb']; exact z2
            have kc5 : ∀ y : Kin V2, y.val.cell? ⟨gg, off + k * 3, none⟩ = some (.int .u32 (y0.k : Int)) := fun y => by rw [kin_cell lg]; exact d0
            have kc6 : ∀ y : Kin V2, y.val.cell? ⟨gg, off + k * 3 + 1, none⟩ = some (.int .i64 (y0.n : Int)) := fun y => by rw [kin_cell lg]; exact d1
            have kc7 : ∀ y : Kin V2, y.val.cell? ⟨gg, off + k * 3 + 2, none⟩ = some (.int .i64 y0.v) := fun y => by rw [kin_cell lg]; exact d2
            gi_wp2_with (fail)
            refine wpIn_region_kinR V2 (Below.refl _ _) (by kernel_rfl) (by kernel_rfl) (by kernel_rfl) ?_
            repeat (go_big_quiet_step (fail))
            refine wpQuiet_nil ?_
            rintro wq ⟨⟨xq, hxq⟩, hyq⟩
            have hq : Below V2.heap.size V2 wq := by rw [hyq]; exact hxq
            clear hyq hxq xq kne kc0 kc1
            clear kc2 kc3 kc4 kc5 kc6 kc7 hne
            clear d0 d1 d2
            have hw1 : IntKind.i64.wrap ((k : Int) + 1) = (k : Int) + 1 := by rw [IntKind.wrap_i64]; omega
            have HN : Hid (SS w (.func (.func g) #[] lb) (.slice (some ⟨gg, off, none⟩) D.length cap) E ((k : Int) + 1) (wq.setCell ⟨w.heap.size + 1 + 1 + 1 + 1, 0, none⟩ (.int .i64 ((k : Int) + 1)))) := (HSV.out.on hq).set _
            have HR : Hid (RK W2.heap.size noU V2 (wq.setCell ⟨w.heap.size + 1 + 1 + 1 + 1, 0, none⟩ (.int .i64 ((k : Int) + 1)))) := (RK.below (noU_stab 0) (Nat.zero_le _) hq).trans (rk_set _ _ (by omega))
            have HK : Hid (Kpt P V2 (wq.setCell ⟨w.heap.size + 1 + 1 + 1 + 1, 0, none⟩ (.int .i64 ((k : Int) + 1)))) := kpt_below hPl ((show Below w.heap.size V2 wq from hq.mono (by omega)).setCell (p := ⟨w.heap.size + 1 + 1 + 1 + 1, 0, none⟩) (by simp; omega) _)
            have HDX : Hid ((wq.setCell ⟨w.heap.size + 1 + 1 + 1 + 1, 0, none⟩ (.int .i64 ((k : Int) + 1))).heap[C]? = some (.deferred (some []))) := blk_far (blk_on HDV.out hq) (by omega) _
            have HLX : Hid (∃ r, (wq.setCell ⟨w.heap.size + 1 + 1 + 1 + 1, 0, none⟩ (.int .i64 ((k : Int) + 1))).heap[l]? = some (.loop r)) := by
              obtain ⟨r, hr⟩ := HLr.out
              exact ⟨r, blk_far (blk_on hr hq) (by omega) _⟩
            have c9 := blk_cell (HSV.out.on hq).bk (j := 0) rfl
            have f9 := blk_free (HSV.out.on hq).bk 0
            have c8 := blk_cell (HSV.out.on hq).bf (j := 0) rfl
            have Hlen : Hid (((pre ++ [x]).length : Int) = (k : Int) + 1) := by show _ = _; have := Hk.out; simp; omega
            by_cases hk2 : 1 < k
            · have he1 : decide ((2 : Int) < (k : Int) + 1) = true := decide_eq_true (by omega)
              have he2 : (2 : Int) < (k : Int) + 1 := by omega
              have he3 : 2 < k + 1 := by omega
              have hG := fun a => hGoN a _ HR.out HK.out ⟨HPY.out, by rw [Hlen.out]; exact HN.out, HDX.out⟩
              clear hGoR hGoN
              gi_wp2
              exact hG _
            · have he1 : decide ((2 : Int) < (k : Int) + 1) = false := decide_eq_false (by omega)
              have he2 : ¬ (2 : Int) < (k : Int) + 1 := by omega
              have he3 : ¬ 2 < k + 1 := by omega
              have hwq : w.heap.size + 1 + 1 + 1 + 1 + 1 ≤ wq.heap.size := by have := hq.size; omega
              have hnq : ¬ w.heap.size = wq.heap.size := by omega
              have hnq2 : ¬ w.heap.size = (wq.setCell ⟨w.heap.size + 1 + 1 + 1 + 1, 0, none⟩ (.int .i64 ((k : Int) + 1))).heap.size := by simp; omega
              have tst : ((wq.setCell ⟨w.heap.size + 1 + 1 + 1 + 1, 0, none⟩ (.int .i64 ((k : Int) + 1))).alloc (.cells #[.int .i64 0] 3)).cell? ⟨w.heap.size, 0, none⟩ = some (.func (.func g) #[] lb) := blk_cell (blk_alloc HN.out.bf _) rfl
              gi_wp2_with (fail)
              have hJn := blk_new (wq.setCell ⟨w.heap.size + 1 + 1 + 1 + 1, 0, none⟩ (.int .i64 ((k : Int) + 1))) (.cells #[.int .i64 0] 3)
              have hYb : Below (wq.setCell ⟨w.heap.size + 1 + 1 + 1 + 1, 0, none⟩ (.int .i64 ((k : Int) + 1))).heap.size (wq.setCell ⟨w.heap.size + 1 + 1 + 1 + 1, 0, none⟩ (.int .i64 ((k : Int) + 1))) ((wq.setCell ⟨w.heap.size + 1 + 1 + 1 + 1, 0, none⟩ (.int .i64 ((k : Int) + 1))).alloc (.cells #[.int .i64 0] 3)) := (Below.refl _ _).alloc (Nat.le_refl _) _
              have hYz : ((wq.setCell ⟨w.heap.size + 1 + 1 + 1 + 1, 0, none⟩ (.int .i64 ((k : Int) + 1))).alloc (.cells #[.int .i64 0] 3)).heap.size = (wq.setCell ⟨w.heap.size + 1 + 1 + 1 + 1, 0, none⟩ (.int .i64 ((k : Int) + 1))).heap.size + 1 := by simp
              have hXz : (wq.setCell ⟨w.heap.size + 1 + 1 + 1 + 1, 0, none⟩ (.int .i64 ((k : Int) + 1))).heap.size = wq.heap.size := by simp
              clear hnq hnq2 tst
              generalize hYe : (wq.setCell ⟨w.heap.size + 1 + 1 + 1 + 1, 0, none⟩ (.int .i64 ((k : Int) + 1))).alloc (.cells #[.int .i64 0] 3) = Y at *
              generalize hXe : (wq.setCell ⟨w.heap.size + 1 + 1 + 1 + 1, 0, none⟩ (.int .i64 ((k : Int) + 1))) = X at *
              rw [hXz] at hYz hJn
              generalize wq.heap.size = JB at *
              clear hYe hXe c9 f9 c8 he1 he2 he3
              refine itr_in (l₀ := l) 69 11 noU (noU_stab _) (fun k h => h.elim) ?jhl ?jg (HI.out.later (HN.out.bb.trans (hYb.mono (by omega)))) (I3 X D JB) (fun cc pre V => cc = .ret ∧ ¬ pre <+: D) ?jhI ?jhIx ?jh0 ?jassign ?jbody ?jdone ?jstop
              case jg => rfl
              case jhl =>
                obtain ⟨r, hr⟩ := HLX.out
                exact ⟨r, blk_on hr hYb⟩
              case jhI =>
                rintro s A B row ⟨a1, a2, a3⟩ hg hr
                exact ⟨a1, blk_kept a2 hg (fun r e => (hr r e).2), a3.grown hg (by have := a3.size; omega) (fun k e => by have := (hr k e).1; omega)⟩
              case jhIx => rintro c s A B row h hg hr; exact h
              case jh0 => exact ⟨List.nil_prefix, hJn, hYb⟩
              case jassign =>
                intro l x V K hK
                simp only [List.setIfInBounds_toArray, List.set_cons_succ, List.set_cons_zero] at hK ⊢
                gi_wp2
                exact hK
              case jbody =>
                rintro l3 pre x b V3 hl3 hr3 hz3 hb hbk ⟨hp, hJ, hbX⟩ hN
                simp only [List.setIfInBounds_toArray, List.set_cons_succ, List.set_cons_zero]
                have hGoN : ∀ a V', RK Y.heap.size noU V3 V' → Kpt P V3 V' → I3 X D JB (pre ++ [x]) V' → ownPostU Y.heap.size noU (Kpt P) (I3 X D JB) (fun cc pre V => cc = .ret ∧ ¬ pre <+: D) (pre ++ [x]) V3 .normal a V' := fun a V' q1 q2 q3 => ⟨q1, q2, q3⟩
                have hGoR : ∀ a V', RK Y.heap.size noU V3 V' → ¬ (pre ++ [x] <+: D) → ownPostU Y.heap.size noU (Kpt P) (I3 X D JB) (fun cc pre V => cc = .ret ∧ ¬ pre <+: D) (pre ++ [x]) V3 .ret a V' := fun a V' q1 q3 => ⟨q1, rfl, q3⟩
                generalize hQ2 : ownPostU _ _ _ _ _ _ _ = Q3 at hGoN hGoR ⊢
                have HSV := hidMk (HN.out.on hbX)
                have HSv : Hid (SrcE V3 (.slice (some ⟨gg, off, none⟩) D.length cap) D) := HS.out.keep HSV.out.bb
                obtain ⟨k, hk⟩ : ∃ k, k = pre.length := ⟨_, rfl⟩
                rw [← hk] at hJ hN
                have HJB : Hid (V3.heap[JB]? = some (.cells #[.int .i64 (k : Int)] 3)) := hJ
                have HBX : Hid (Below X.heap.size X V3) := hbX
                have xk := blk_cell hJ (j := 0) rfl
                have xv := blk_cell HSV.out.bv (j := 0) rfl
                have lk := blk_lt hJ
                have lv := blk_lt HSV.out.bv
                have lb' := blk_lt hbk
                have hw3 := hbX.size
                obtain ⟨z0, z1, z2⟩ := blk3 hbk
                have hkD : k ≤ D.length := by rw [hk]; exact hp.length_le
                have Hk : Hid (k = pre.length) := hk
                clear hk hJ hbk hQ2 hr3 hbX HLr
                by_cases hkl : k = D.length
                · have hd : decide ((D.length : Int) ≤ (k : Int)) = true := decide_eq_true (by omega)
                  have hd' : decide (D.length ≤ k) = true := decide_eq_true (by omega)
                  have hge : (D.length : Int) ≤ (k : Int) := by omega
                  have hnp : ¬ (pre ++ [x] <+: D) := fun h => by have h3 := h.length_le; have h4 := Hk.out; rw [List.length_append, List.length_singleton] at h3; omega
                  have kne : Nonempty (Kin V3) := ⟨⟨_, Below.refl _ _⟩⟩
                  have kc0 : ∀ y : Kin V3, y.val.cell? ⟨JB, 0, none⟩ = some (.int .i64 (k : Int)) := fun y => by rw [kin_cell lk]; exact xk
                  have kc1 : ∀ y : Kin V3, y.val.cell? ⟨w.heap.size + 1, 0, none⟩ = some (.slice (some ⟨gg, off, none⟩) D.length cap) := fun y => by rw [kin_cell lv]; exact xv
                  gi_wp2_with (fail)
                  refine wpIn_region_kinR V3 (Below.refl _ _) (by kernel_rfl) (by kernel_rfl) (by kernel_rfl) ?_
                  repeat (go_big_quiet_step (fail))
                  refine wpQuiet_nil ?_
                  rintro wq ⟨⟨xq, hxq⟩, hyq⟩
                  have hq : Below V3.heap.size V3 wq := by rw [hyq]; exact hxq
                  clear hyq hxq xq kne kc0 kc1
                  have xr := blk_cell (HSV.out.on hq).br (j := 0) rfl
                  have fr := blk_free (HSV.out.on hq).br 0
                  have hG := fun a => hGoR a (wq.setCell ⟨w.heap.size + 1 + 1 + 1, 0, none⟩ (.bool false)) ((RK.below (noU_stab 0) (Nat.zero_le _) hq).trans (rk_set _ _ (by omega))) hnp
                  clear hGoR hGoN
                  gi_wp2
                  exact hG _
                · have hkl' : k < D.length := by omega
                  have hd : decide ((D.length : Int) ≤ (k : Int)) = false := decide_eq_false (by omega)
                  have hd' : decide (D.length ≤ k) = false := decide_eq_false (by omega)
                  have hge : ¬ (D.length : Int) ≤ (k : Int) := by omega
                  have hlt : (k : Int) < (D.length : Int) := by omega
                  obtain ⟨ad', cap', e1, _, hat⟩ := HSv.out
                  cases e1
                  obtain ⟨gg2, off2, e2, hcs⟩ := hat (by omega)
                  cases e2
                  have hy1 := hcs k hkl'
                  obtain ⟨y0, hy0⟩ : ∃ y0, y0 = D[k]'hkl' := ⟨_, rfl⟩
                  rw [← hy0] at hy1
                  have d0 : V3.cell? ⟨gg, off + k * 3, none⟩ = some (.int .u32 (y0.k : Int)) := hy1 0 (by decide)
                  have d1 : V3.cell? ⟨gg, off + k * 3 + 1, none⟩ = some (.int .i64 (y0.n : Int)) := hy1 1 (by decide)
                  have d2 : V3.cell? ⟨gg, off + k * 3 + 2, none⟩ = some (.int .i64 y0.v) := hy1 2 (by decide)
                  have lg : gg < V3.heap.size := World.block_lt_of_cell? _ _ d0
                  have hne := fun V => neE x y0 V
                  have HPS : Hid (pre ++ [x] <+: D ↔ x = y0) := by show _ ↔ _; rw [hy0]; exact pre_snoc hp Hk.out hkl'
                  clear hcs hat hy1 hy0 HSv
                  cases hb2 : eqE x y0
                  · rw [hb2] at hne
                    simp only [Bool.not_false] at hne
                    have hnp : ¬ (pre ++ [x] <+: D) := fun h => by have := eqE_iff.2 (HPS.out.1 h); rw [hb2] at this; cases this
                    have kne : Nonempty (Kin V3) := ⟨⟨_, Below.refl _ _⟩⟩
                    have kc0 : ∀ y : Kin V3, y.val.cell? ⟨JB, 0, none⟩ = some (.int .i64 (k : Int)) := fun y => by rw [kin_cell lk]; exact xk
                    have kc1 : ∀ y : Kin V3, y.val.cell? ⟨w.heap.size + 1, 0, none⟩ = some (.slice (some ⟨gg, off, none⟩) D.length cap) := fun y => by rw [kin_cell lv]; exact xv
                    have kc2 : ∀ y : Kin V3, y.val.cell? ⟨b, 0, none⟩ = some (.int .u32 (x.k : Int)) := fun y => by rw [kin_cell lb']; exact z0
                    have kc3 : ∀ y : Kin V3, y.val.cell? ⟨b, 1, none⟩ = some (.int .i64 (x.n : Int)) := fun y => by rw [kin_cell lb']; exact z1
                    have kc4 : ∀ y : Kin V3, y.val.cell? ⟨b, 2, none⟩ = some (.int .i64 x.v) := fun y => by rw [kin_cell lb']; exact z2
                    have kc5 : ∀ y : Kin V3, y.val.cell? ⟨gg, off + k * 3, none⟩ = some (.int .u32 (y0.k : Int)) := fun y => by rw [kin_cell lg]; exact d0
                    have kc6 : ∀ y : Kin V3, y.val.cell? ⟨gg, off + k * 3 + 1, none⟩ = some (.int .i64 (y0.n : Int)) := fun y => by rw [kin_cell lg]; exact d1
                    have kc7 : ∀ y : Kin V3, y.val.cell? ⟨gg, off + k * 3 + 2, none⟩ = some (.int .i64 y0.v) := fun y => by rw [kin_cell lg]; exact d2
                    gi_wp2_with (fail)
                    refine wpIn_region_kinR V3 (Below.refl _ _) (by kernel_rfl) (by kernel_rfl) (by kernel_rfl) ?_
                    repeat (go_big_quiet_step (fail))
                    refine wpQuiet_nil ?_
                    rintro wq ⟨⟨xq, hxq⟩, hyq⟩
                    have hq : Below V3.heap.size V3 wq := by rw [hyq]; exact hxq
                    clear hyq hxq xq kne kc0 kc1
                    clear kc2 kc3 kc4 kc5 kc6 kc7 hne
                    clear d0 d1 d2
                    have xr := blk_cell (HSV.out.on hq).br (j := 0) rfl
                    have fr := blk_free (HSV.out.on hq).br 0
                    have hG := fun a => hGoR a (wq.setCell ⟨w.heap.size + 1 + 1 + 1, 0, none⟩ (.bool false)) ((RK.below (noU_stab 0) (Nat.zero_le _) hq).trans (rk_set _ _ (by omega))) hnp
                    clear hGoR hGoN
                    gi_wp2
                    exact hG _
                  · rw [hb2] at hne
                    simp only [Bool.not_true] at hne
                    have HPY : Hid (pre ++ [x] <+: D) := HPS.out.2 (eqE_iff.1 hb2)
                    have kne : Nonempty (Kin V3) := ⟨⟨_, Below.refl _ _⟩⟩
                    have kc0 : ∀ y : Kin V3, y.val.cell? ⟨JB, 0, none⟩ = some (.int .i64 (k : Int)) := fun y => by rw [kin_cell lk]; exact xk
                    have kc1 : ∀ y : Kin V3, y.val.cell? ⟨w.heap.size + 1, 0, none⟩ = some (.slice (some ⟨gg, off, none⟩) D.length cap) := fun y => by rw [kin_cell lv]; exact xv
                    have kc2 : ∀ y : Kin V3, y.val.cell? ⟨b, 0, none⟩ = some (.int .u32 (x.k : Int)) := fun y => by rw [kin_cell lb']; exact z0
                    have kc3 : ∀ y : Kin V3, y.val.cell? ⟨b, 1, none⟩ = some (.int .i64 (x.n : Int)) := fun y => by rw [kin_cell lb']; exact z1
                    have kc4 : ∀ y : Kin V3, y.val.cell? ⟨b, 2, none⟩ = some (.int .i64 x.v) := fun y => by rw [kin_cell lb']; exact z2
                    have kc5 : ∀ y : Kin V3, y.val.cell? ⟨gg, off + k * 3, none⟩ = some (.int .u32 (y0.k : Int)) := fun y => by rw [kin_cell lg]; exact d0
                    have kc6 : ∀ y : Kin V3, y.val.cell? ⟨gg, off + k * 3 + 1, none⟩ = some (.int .i64 (y0.n : Int)) := fun y => by rw [kin_cell lg]; exact d1
                    have kc7 : ∀ y : Kin V3, y.val.cell? ⟨gg, off + k * 3 + 2, none⟩ = some (.int .i64 y0.v) := fun y => by rw [kin_cell lg]; exact d2
                    gi_wp2_with (fail)
                    refine wpIn_region_kinR V3 (Below.refl _ _) (by kernel_rfl) (by kernel_rfl) (by kernel_rfl) ?_
                    repeat (go_big_quiet_step (fail))
                    refine wpQuiet_nil ?_
                    rintro wq ⟨⟨xq, hxq⟩, hyq⟩
                    have hq : Below V3.heap.size V3 wq := by rw [hyq]; exact hxq
                    clear hyq hxq xq kne kc0 kc1
                    clear kc2 kc3 kc4 kc5 kc6 kc7 hne
                    clear d0 d1 d2
                    have hw1 : IntKind.i64.wrap ((k : Int) + 1) = (k : Int) + 1 := by rw [IntKind.wrap_i64]; omega
                    have HR3 : Hid (RK Y.heap.size noU V3 (wq.setCell ⟨JB, 0, none⟩ (.int .i64 ((k : Int) + 1)))) := (RK.below (noU_stab 0) (Nat.zero_le _) hq).trans (rk_set _ _ (by omega))
                    have HK3 : Hid (Kpt P V3 (wq.setCell ⟨JB, 0, none⟩ (.int .i64 ((k : Int) + 1)))) := kpt_below hPl ((show Below w.heap.size V3 wq from hq.mono (by omega)).setCell (p := ⟨JB, 0, none⟩) (by show w.heap.size ≤ JB; omega) _)
                    have HI3 : Hid (I3 X D JB (pre ++ [x]) (wq.setCell ⟨JB, 0, none⟩ (.int .i64 ((k : Int) + 1)))) := by
                      refine ⟨HPY.out, ?_, (HBX.out.trans (hq.mono (by omega))).setCell (p := ⟨JB, 0, none⟩) (by show X.heap.size ≤ JB; omega) _⟩
                      have hlen : ((pre ++ [x]).length : Int) = (k : Int) + 1 := by have := Hk.out; simp; omega
                      rw [hlen]
                      simpa using blk_set (blk_on HJB.out hq) (j := 0) (.int .i64 ((k : Int) + 1))
                    have c9 := blk_cell (blk_on HJB.out hq) (j := 0) rfl
                    have f9 := blk_free (blk_on HJB.out hq) 0
                    have hG := fun a => hGoN a _ HR3.out HK3.out HI3.out
                    clear hGoR hGoN
                    gi_wp2
                    exact hG _
              case jdone =>
                rintro V3 ⟨hp3, hJ3, hb3⟩
                have c5 := blk_cell hJ3 (j := 0) rfl
                have c6 := blk_cell (HN.out.on hb3).bv (j := 0) rfl
                have hG := fun a => hGoN a V3 (HR.out.trans (RK.below (noU_stab 0) (Nat.zero_le _) hb3)) (kpt_t HK.out (kpt_below hPl (hb3.mono (by omega)))) ⟨HPY.out, by rw [Hlen.out]; exact HN.out.on hb3, blk_on HDX.out hb3⟩
                clear hGoR hGoN hp3 hJ3 hb3
                gi_wp2
                exact hG _
              case jstop =>
                rintro c pre3 V3 hp3 ⟨rfl, h⟩
                exact absurd hp3 h
      case done =>
        rintro C2 V2 hC2 ⟨hp, hSS, hDV⟩ hK
        have HSV : Hid (SS w (.func (.func g) #[] lb) (.slice ad D.length cap) E D.length V2) := hSS
        have HDV : Hid (V2.heap[C]? = some (.deferred (some []))) := hDV
        have HKV : Hid (V2.heap[C2]? = some (.deferred (some []))) := hK
        have xk := blk_cell hSS.bk (j := 0) rfl
        have xv := blk_cell hSS.bv (j := 0) rfl
        have xr := blk_cell hSS.br (j := 0) rfl
        have fr := blk_free hSS.br 0
        clear hSS hDV hK hp
        go_wp2_with (fail)
        have hK' := blk_far HKV.out (show C2 ≠ w.heap.size + 1 + 1 + 1 by omega) (j := 0) (.bool true)
        have hK'' := blk_far HDV.out (show C ≠ w.heap.size + 1 + 1 + 1 by omega) (j := 0) (.bool true)
        have hg8 := grownBy_putObj' (V2.setCell ⟨w.heap.size + 1 + 1 + 1, 0, none⟩ (.bool true)) C2 (.deferred none)
        have hK8 := (hg8.block C (Array.getElem?_eq_some_iff.1 hK'').1 (by intro e; have := Option.some.inj e; omega)).trans hK''
        refine ⟨by simp, .inl ⟨_, _, rfl, run_takeDeferred hK', ⟨by simp, .inl ⟨_, _, rfl, run_takeDeferred hK8, ?_⟩⟩⟩⟩
        have q1 := blk_set HSV.out.br (j := 0) (.bool true)
        have q2 := blk_kept q1 hg8 (fun r e => by cases e; exact ⟨_, hK', rfl⟩)
        have q3 := blk_kept q2 (grownBy_putObj' _ C (.deferred none)) (fun r e => by cases e; exact ⟨_, hK8, rfl⟩)
        have q4 := blk_cell q3 (j := 0) (v := .bool true) (by simp)
        refine ⟨.bool true, ?_, rfl, ((HSV.out.bb.setCell (p := ⟨w.heap.size + 1 + 1 + 1, 0, none⟩) (by simp; omega) _).trans (belowK_b (w := w) (Nat.le_refl _) _ C2 _ _ (by omega) hK' rfl rfl)).trans (belowK_b (w := w) (Nat.le_refl _) _ C _ _ (by omega) hK8 rfl rfl)⟩
        simp [results, Try.results18, go_sem, q4]
      case stop =>
        rintro C2 c pre V2 hC2 hp ⟨rfl, h⟩
        exact absurd hp h
/-- same, with any number. -/
theorem sameA (g : Nat) (lb : Array Value) (P : Nat → Prop) (D : List En) (v : Value) (ee : Int) (w : World) (hI : Itr g lb P D w) (hS : SrcE w v D) (h1 : -9223372036854775808 ≤ ee) (h2 : ee ≤ 9223372036854775807) :
    Calls Try.prog 18 #[.func (.func g) #[] lb, v, .int .i64 ee] w fun e w' => e = .returned (.bool true) ∧ Below w.heap.size w w' := by
  by_cases h : ee < 0
  · exact sameN g lb P D v ee w hI hS h1 h
  · exact sameC g lb P D v ee w hI hS (by omega) h2
end Go.Proofs.Ytfbkjghipahipaa
