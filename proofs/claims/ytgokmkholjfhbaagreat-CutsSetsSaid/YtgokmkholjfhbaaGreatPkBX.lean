/-
  PkBX: CtZq CtZp, one behind the other (tools/pack.py).
-/
import Derived.Test.YtgokmkholjfhbaaGreatPkBW
import Derived.Test.YtgokmkholjfhbaaGreatPkBO
import Derived.Test.YtgokmkholjfhbaaGreatPkAE
set_option linter.unusedVariables false
set_option linter.unusedSimpArgs false
namespace Go.Proofs.YtgokmkholjfhbaaGreat
open Go.RowKit
theorem BdO.keep {w W : World} {o : Opp} (h : BdO w o) (hb : Below w.heap.size w W) : BdO W o := ⟨h.1, h.2.1, h.2.2.1, h.2.2.2.1, h.2.2.2.2.1, h.2.2.2.2.2.1.keep hb, h.2.2.2.2.2.2⟩
theorem SrcO.keep {w W : World} {v : Value} {l : List Opp} (h : SrcO w v l) (hb : Below w.heap.size w W) : SrcO W v l := by
 obtain ⟨ad, cap, rfl, hc, h2⟩ := h
 refine ⟨ad, cap, rfl, hc, fun h0 => ?_⟩
 obtain ⟨g, off, rfl, h3⟩ := h2 h0
 refine ⟨g, off, rfl, fun k hk j hj => ?_⟩
 have h4 := h3 k hk j hj
 have hl : j < (encO (l[k]'hk)).length := hj
 rw [List.getElem?_eq_getElem hl] at h4 ⊢
 exact cell_on1 hb h4
theorem SrcH.keep {w W : World} {v : Value} {l : List Hd} (h : SrcH w v l) (hb : Below w.heap.size w W) : SrcH W v l := by
 obtain ⟨ad, cap, rfl, hc, h2⟩ := h
 refine ⟨ad, cap, rfl, hc, fun h0 => ?_⟩
 obtain ⟨g, off, rfl, h3⟩ := h2 h0
 refine ⟨g, off, rfl, fun k hk j hj => ?_⟩
 have h4 := h3 k hk j hj
 have hl : j < (encHd (l[k]'hk)).length := hj
 rw [List.getElem?_eq_getElem hl] at h4 ⊢
 exact cell_on1 hb h4
theorem okC_m {c : Cf} (h : okC c = true) : c.m ≤ 64 := by
 unfold okC at h
 simp only [Bool.and_eq_true] at h
 exact (amg_iff.1 h.1.1.1).2
def Lgs (e : Ending) (P : Prop) : Prop := ∃ b : Bool, e = .returned (.bool b) ∧ (b = true ↔ P)
def Lrg (ops : List Opp) (hds : List Hd) : Prop := 2000 < ops.length ∨ 2000 < hds.length ∨ ∃ o ∈ ops, 2000 < o.l.length
set_option maxHeartbeats 4000000 in
set_option maxRecDepth 20000 in
theorem largeC (sv hv : Value) (ops : List Opp) (hds : List Hd) (w : World) (hS : SrcO w sv ops) (hO : ∀ o ∈ ops, BdO w o) (hH : SrcH w hv hds) :
  Calls Tryz.prog 12 #[sv, hv] w fun e w' => Lgs e (Lrg ops hds) ∧ Below w.heap.size w w' := by
 have HS : Hid (SrcO w sv ops) := hS
 have HO : Hid (∀ o ∈ ops, BdO w o) := hO
 obtain ⟨ads, caps, hsv, hat⟩ := hS
 obtain ⟨adh, caph, hhv, hat2⟩ := hH
 clear hat hat2
 obtain ⟨n, hn⟩ : ∃ n, n = ops.length := ⟨_, rfl⟩
 obtain ⟨nh, hnh⟩ : ∃ n, n = hds.length := ⟨_, rfl⟩
 rw [← hn] at hsv
 rw [← hnh] at hhv
 have Hn : Hid (n = ops.length) := hn
 have HL : Hid (Lrg ops hds ↔ (2000 < n ∨ 2000 < nh ∨ ∃ o ∈ ops, 2000 < o.l.length)) := by show _ ↔ _; unfold Lrg; rw [← hn, ← hnh]
 subst hsv hhv
 clear hn hnh hO
 by_cases h1 : 2000 < n
 ·have h1i : (2000 : Int) < (n : Int) := by omega
  have HT : Hid (Lrg ops hds) := HL.out.2 (.inl h1)
  clear h1
  go_enter Tryz.func12, Tryz.ntmps12
  go_wp2_with (fail)
  go_ret
  exact ⟨⟨true, rfl, fun _ => HT.out, fun _ => rfl⟩, Below.refl _ _⟩
 ·have h1i : ¬ (2000 : Int) < (n : Int) := by omega
  by_cases h2 : 2000 < nh
  ·have h2i : (2000 : Int) < (nh : Int) := by omega
   have HT : Hid (Lrg ops hds) := HL.out.2 (.inr (.inl h2))
   clear h1 h2
   go_enter Tryz.func12, Tryz.ntmps12
   go_wp2_with (fail)
   go_ret
   exact ⟨⟨true, rfl, fun _ => HT.out, fun _ => rfl⟩, Below.refl _ _⟩
  ·have h2i : ¬ (2000 : Int) < (nh : Int) := by omega
   have HF : Hid ((∀ o ∈ ops, ¬ 2000 < o.l.length) → ¬ Lrg ops hds) := fun hh e => by
    rcases HL.out.1 e with e | e | ⟨o, ho, e⟩
    ·exact h1 e
    ·exact h2 e
    ·exact hh o ho e
   have HT : Hid ((∃ o ∈ ops, 2000 < o.l.length) → Lrg ops hds) := fun e => HL.out.2 (.inr (.inr e))
   have hn2 : n ≤ 2000 := by omega
   clear h1 h2
   go_enter Tryz.func12, Tryz.ntmps12
   go_wp2_with (fail)
   go_loopw [5] (fun vi wr => ∃ k : Nat, k ≤ n ∧ vi = .int .i64 k ∧ Hid (Below w.heap.size w wr) ∧ Hid (∀ (j : Nat) (hj : j < ops.length), j < k → ¬ 2000 < (ops[j]'hj).l.length)) (fun vi _ => n - (intOf vi).toNat)
   case atStart => exact ⟨0, Nat.zero_le _, rfl, Below.refl _ _, fun j _ hj => by omega⟩
   case round =>
    obtain ⟨k, hk, rfl, HB, HN⟩ := hrel
    by_cases hlt : k < n
    ·have hlt' : k < ops.length := by rw [← Hn.out]; exact hlt
     have hlti : (k : Int) < (n : Int) := by omega
     obtain ⟨g, off, rfl, hrg⟩ := HS.out.rng wr HB.out k hlt'
     have hbo := HO.out _ (List.getElem_mem hlt')
     have Hmem : Hid (2000 < (ops[k]'hlt').l.length → Lrg ops hds) := fun e => HT.out ⟨_, List.getElem_mem hlt', e⟩
     have Hnx : Hid (¬ 2000 < (ops[k]'hlt').l.length → ∀ (j : Nat) (hj : j < ops.length), j < k + 1 → ¬ 2000 < (ops[j]'hj).l.length) := fun e j hj hjk => by
      by_cases ej : j = k
      ·subst ej; exact e
      ·exact HN.out j hj (by omega)
     generalize ops[k]'hlt' = o at hrg hbo Hmem Hnx
     obtain ⟨oa, oc, hou, _, _⟩ := id hbo.2.2.2.2.2.1
     obtain ⟨on, hon⟩ : ∃ n, n = o.l.length := ⟨_, rfl⟩
     rw [← hon] at hou Hmem Hnx
     have x20 : wr.cell? ⟨g, off + k * 21 + 20, none⟩ = some (.slice oa on oc) := by rw [← hou]; exact hrg 20 _ rfl
     clear hrg hbo hou hon
     by_cases h3 : 2000 < on
     ·have h3i : (2000 : Int) < (on : Int) := by omega
      have HT3 : Hid (Lrg ops hds) := Hmem.out h3
      clear h3
      go_wp2_with (fail)
      go_ret
      exact ⟨⟨true, rfl, fun _ => HT3.out, fun _ => rfl⟩, HB.out⟩
     ·have h3i : ¬ (2000 : Int) < (on : Int) := by omega
      have HN3 : Hid _ := Hnx.out h3
      clear h3
      go_wp2_with (fail)
      go_roundw
      case rel => exact ⟨k + 1, by omega, by go_num, HB.out, HN3.out⟩
      case measure => simp [intOf]; omega
    ·obtain rfl : k = n := by omega
     have hni : ¬ (k : Int) < (k : Int) := by omega
     have HFF : Hid (¬ Lrg ops hds) := HF.out fun o ho => by
      obtain ⟨j, hj, e⟩ := List.mem_iff_getElem.1 ho
      rw [← e]; exact HN.out j hj (by rw [Hn.out]; exact hj)
     go_wp2_with (fail)
     go_ret
     exact ⟨⟨false, rfl, fun e => (by cases e), fun e => absurd e HFF.out⟩, HB.out⟩
theorem kindC (w : World) : Calls Tryz.prog 13 #[] w fun e w' => e = .returned (.agg #[.func (.func 23) #[] #[], .func (.func 24) #[] #[], .int .i64 0, .func (.func 10) #[] #[]]) ∧ Below w.heap.size w w' := by
 have h0 : (w.alloc (.cells #[.nilFunc, .nilFunc, .int .i64 0, .nilFunc] 52)).heap[w.heap.size]? = some (.cells #[.nilFunc, .nilFunc, .int .i64 0, .nilFunc] 52 (0, 0)) := blk_new w _
 have HB : Hid (Below w.heap.size w (w.alloc (.cells #[.nilFunc, .nilFunc, .int .i64 0, .nilFunc] 52))) := (Below.refl _ _).alloc (Nat.le_refl _) _
 go_enter Tryz.func13, Tryz.ntmps13
 go_wp2_with (refine wpList_store_blk rfl 52 (.tmp 0) (.tmp 1) rfl w.heap.size 0 #[.func (.func 23) #[] #[], .func (.func 24) #[] #[], .int .i64 0, .func (.func 10) #[] #[]] #[.func (.func 23) #[] #[], .func (.func 24) #[] #[], .int .i64 0, .func (.func 10) #[] #[]] rfl rfl 52 _ h0 (Nat.le_of_ble_eq_true rfl) rfl (by kernel_rfl) rfl ?_; intro w8 hw8 how8)
 exact bodyPost_ret (results_blk Tryz.results13 rfl hw8 Tryz.underlying52 rfl (by kernel_rfl)) rfl ⟨rfl, HB.out.trans (how8.below (Nat.le_refl _))⟩
set_option maxHeartbeats 8000000 in
set_option maxRecDepth 20000 in
theorem playsC (c : Cf) (bc : BdC c) (sv hv : Value) (ops : List Opp) (hds : List Hd) (w : World) (hS : SrcO w sv ops) (hO : ∀ o ∈ ops, BdO w o) (hH : SrcH w hv hds) (hHo : ∀ h ∈ hds, OkH h) :
  Calls Tryz.prog 4 #[.agg #[.int .i64 c.m, .int .i64 c.a, .int .i64 c.p, .int .i64 c.g, .int .i64 c.t, .int .i64 c.b, .int .i64 c.d], sv, hv] w fun e w' => e = .returned (.bool true) ∧ Below w.heap.size w w' := by
 have HB0 : Hid (Below w.heap.size w (w.alloc (.cells #[.int .i64 c.m, .int .i64 c.a, .int .i64 c.p, .int .i64 c.g, .int .i64 c.t, .int .i64 c.b, .int .i64 c.d] 24))) := (Below.refl _ _).alloc (Nat.le_refl _) _
 have Kc0 : Hid ((w.alloc (.cells #[.int .i64 c.m, .int .i64 c.a, .int .i64 c.p, .int .i64 c.g, .int .i64 c.t, .int .i64 c.b, .int .i64 c.d] 24)).heap[w.heap.size]? = some (.cells #[.int .i64 c.m, .int .i64 c.a, .int .i64 c.p, .int .i64 c.g, .int .i64 c.t, .int .i64 c.b, .int .i64 c.d] 24 (0, 0))) := blk_new w _
 have hLa := largeC sv hv ops hds (w.alloc (.cells #[.int .i64 c.m, .int .i64 c.a, .int .i64 c.p, .int .i64 c.g, .int .i64 c.t, .int .i64 c.b, .int .i64 c.d] 24)) (hS.keep HB0.out) (fun o ho => (hO o ho).keep HB0.out) (hH.keep HB0.out)
 have HS : Hid (SrcO w sv ops) := hS
 have HO : Hid (∀ o ∈ ops, BdO w o) := hO
 have HH : Hid (SrcH w hv hds) := hH
 have HHo : Hid (∀ h ∈ hds, OkH h) := hHo
 obtain ⟨ads, caps, hsv, hat⟩ := hS
 obtain ⟨adh, caph, hhv, hat2⟩ := hH
 clear hat hat2 hO hHo
 obtain ⟨n, hn⟩ : ∃ n, n = ops.length := ⟨_, rfl⟩
 obtain ⟨nh, hnh⟩ : ∃ n, n = hds.length := ⟨_, rfl⟩
 rw [← hn] at hsv
 rw [← hnh] at hhv
 subst hsv hhv
 clear hn hnh
 go_enter Tryz.func4, Tryz.ntmps4
 go_upto_region 1 with (fail)
 generalize w.alloc (.cells #[.int .i64 c.m, .int .i64 c.a, .int .i64 c.p, .int .i64 c.g, .int .i64 c.t, .int .i64 c.b, .int .i64 c.d] 24) = U0 at *
 go_wp2_with (go_at_call 12; fail)
 refine hLa.mono ?_
 rintro e U1 ⟨⟨b, rfl, hbl⟩, hb⟩
 have HB1 : Hid (Below w.heap.size w U1) := HB0.out.trans (hb.mono HB0.out.size)
 have Kc1 : Hid _ := blk_on Kc0.out hb
 have HLg : Hid (b = true ↔ Lrg ops hds) := hbl
 clear hLa hb hbl HB0 Kc0
 clear U0
 cases b with
 | true =>
  go_wp2_with (go_at_call 8; refine (awake18 _).mono ?_; rintro e U2 ⟨rfl, hb2⟩)
  go_ret
  exact ⟨rfl, HB1.out.trans (Below.mono (by assumption) HB1.out.size)⟩
 | false =>
  have HNl : Hid (¬ Lrg ops hds) := fun e => by have := HLg.out.2 e; cases this
  clear HLg
  obtain ⟨q0, q1, q2, q3, q4, q5, q6⟩ := blk7 Kc1.out
  go_wp2_with (go_at_call 6; fail)
  refine (rcheckCC c _).mono ?_
  rintro e U2 ⟨rfl, hb⟩
  have HB2 : Hid (Below w.heap.size w U2) := HB1.out.trans (hb.mono HB1.out.size)
  have Kc2 : Hid _ := blk_on Kc1.out hb
  clear hb HB1 Kc1 q0 q1 q2 q3 q4 q5 q6
  cases hok : okC c with
  | false =>
   rw [show errC c = 110 by unfold errC; rw [hok]; rfl]
   go_wp2_with (go_at_call 8; refine (awake18 _).mono ?_; rintro e U3 ⟨rfl, hb2⟩)
   go_ret
   exact ⟨rfl, HB2.out.trans (Below.mono (by assumption) HB2.out.size)⟩
  | true =>
   rw [show errC c = 0 by unfold errC; rw [hok]; rfl]
   obtain ⟨q0, q1, q2, q3, q4, q5, q6⟩ := blk7 Kc2.out
   go_wp2_with (go_at_call 7; fail)
   refine (newE c bc hok _).mono ?_
   rintro e U3 ⟨X, rfl, hE, hX, hb⟩
   have HB3 : Hid (Below w.heap.size w U3) := HB2.out.trans (hb.mono HB2.out.size)
   have Kc3 : Hid _ := blk_on Kc2.out hb
   have HE3 : Hid (Eng U3 X c [] (fun k => U2.heap.size ≤ k ∧ k < X)) := hE
   have HX : Hid (w.heap.size ≤ X) := Nat.le_trans HB2.out.size hX
   have HXc : Hid (w.heap.size ≠ X) := by have := blk_lt Kc2.out; show _ ≠ _; omega
   have HM : Hid (c.m ≤ 64) := okC_m hok
   have HU2 : Hid (w.heap.size < U2.heap.size) := blk_lt Kc2.out
   clear hb hE hX HB2 Kc2 q0 q1 q2 q3 q4 q5 q6
   go_upto_region 6 with (fail)
   have HB4 : Hid (Below w.heap.size w U3.drew) := HB3.out.drew
   refine wp_region_held_drew (S := fun w' => w'.heap[w.heap.size]? = some (.cells #[.int .i64 c.m, .int .i64 c.a, .int .i64 c.p, .int .i64 c.g, .int .i64 c.t, .int .i64 c.b, .int .i64 c.d] 24 (0, 0))) (by kernel_rfl) Kc3.out (fun hS0 => ?_)
   show wpAnyH _ _ _ _ _ 11 _ _ _
   refine wpTk (i := 1) (v := .pointer (some ⟨X, 0, none⟩)) hS0 ?_
   simp only [nrm]
   refine wpTk (i := 2) (v := .iface 31 (.pointer (some ⟨X, 0, none⟩))) hS0 ?_
   simp only [nrm]
   refine wpAnyH_take (i := 3) (v := .agg #[.int .i64 c.m, .int .i64 c.a, .int .i64 c.p, .int .i64 c.g, .int .i64 c.t, .int .i64 c.b, .int .i64 c.d]) rfl (by kernel_rfl) (by kernel_rfl) (by kernel_rfl) (fun _ _ _ h => h) (.inl ⟨rfl, fun w' hw' => by obtain ⟨k0, k1, k2, k3, k4, k5, k6⟩ := blk7 hw'; simp [execOp, go_sem, k0, k1, k2, k3, k4, k5, k6]⟩) hS0 ?_
   simp only [nrm]
   refine wpTk (i := 4) (v := .slice ads n caps) hS0 ?_
   simp only [nrm]
   refine wpTk (i := 5) (v := .slice adh nh caph) hS0 ?_
   simp only [nrm]
   refine wpAnyH_all (rs := [0]) (by kernel_rfl) (by simp) ?_
   intro i0 hi0
   simp only [mmL] at hi0
   subst hi0
   refine wpOp_of_wp rfl rfl (fun K' hK' => ?_)
   go_wp2_with (go_at_call 13; refine (kindC _).mono ?_; rintro e U4 ⟨rfl, hb4⟩)
   have HB5 : Hid (Below w.heap.size w U4) := HB4.out.trans (hb4.mono HB4.out.size)
   have Kc4 := blk_on (show U3.drew.heap[w.heap.size]? = _ from Kc3.out) hb4
   have HE4 : Hid (Eng U4 X c [] (fun k => U2.heap.size ≤ k ∧ k < X)) := (HE3.out.on (Below.refl _ _).drew).on hb4
   refine ⟨Kc4, ?_⟩
   try simp only [nrm]
   refine wpAnyH_all (rs := [6]) (by kernel_rfl) (by simp) ?_
   intro i0 hi0
   simp only [mmL] at hi0
   subst hi0
   refine wpOp_of_wp rfl rfl (fun K' hK' => ?_)
   have hPl := playC X c _ _ _ ops hds w U4 HE4.out (fun k e => by have := HU2.out; have := HE4.out.lt; have := e.1; have := e.2; omega) bc HM.out HS.out (fun o ho => ⟨HO.out o ho, Nat.le_of_not_lt (fun e => HNl.out (.inr (.inr ⟨o, ho, e⟩)))⟩) HH.out HHo.out (Nat.le_of_not_lt (fun e => HNl.out (.inl e))) (Nat.le_of_not_lt (fun e => HNl.out (.inr (.inl e)))) HB5.out HX.out
   go_wp2_with (go_at_call 14; refine hPl.mono ?_; rintro e U5 ⟨rfl, hg5⟩)
   have HB6 : Hid (Below w.heap.size w U5) := hg5.below HB5.out HB5.out.size HX.out (fun k e => by have := HU2.out; have := e.1; omega)
   have Kc5 : U5.heap[w.heap.size]? = some (.cells #[.int .i64 c.m, .int .i64 c.a, .int .i64 c.p, .int .i64 c.g, .int .i64 c.t, .int .i64 c.b, .int .i64 c.d] 24 (0, 0)) := (hg5.block _ (blk_lt Kc4) HXc.out (fun e => by have := HU2.out; have := e.1; omega)).trans Kc4
   refine ⟨Kc5, ?_⟩
   try simp only [nrm]
   refine wpTk (i := 7) (v := .bool true) Kc5 ?_
   simp only [nrm]
   refine wpAnyH_all (rs := [8]) (by kernel_rfl) (by simp) ?_
   intro i0 hi0
   simp only [mmL] at hi0
   subst hi0
   refine wpOp_of_wp rfl rfl (fun K' hK' => ?_)
   go_wp2_with (go_at_call 8; refine (awake18 _).mono ?_; rintro e U6 ⟨rfl, hb6⟩)
   have HB7 : Hid (Below w.heap.size w U6) := HB6.out.trans (hb6.mono HB6.out.size)
   have Kc6 := blk_on Kc5 hb6
   refine ⟨Kc6, ?_⟩
   try simp only [nrm]
   refine wpTk (i := 9) (v := .bool true) Kc6 ?_
   simp only [nrm]
   refine wpTk (i := 10) (v := .bool true) Kc6 ?_
   simp only [nrm]
   refine wpAnyH_done (by kernel_rfl) ?_ _
   try simp only [nrm]
   go_wp2_with (fail)
   go_ret
   exact ⟨rfl, HB7.out⟩
end Go.Proofs.YtgokmkholjfhbaaGreat

