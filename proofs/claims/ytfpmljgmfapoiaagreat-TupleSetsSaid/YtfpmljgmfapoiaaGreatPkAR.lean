/-
  PkAR: HvP HvN TpG, one behind the other (tools/pack.py).
-/
import Derived.Test.YtfpmljgmfapoiaaGreatPkAQ
import Derived.Test.YtfpmljgmfapoiaaGreatPkAD
import Derived.Test.YtfpmljgmfapoiaaGreatPkAM
/-
  Put. Written by tools/mkHhP.py.
-/
namespace Go.Proofs.YtfpmljgmfapoiaaGreat.Hx
open Go.RowKit
set_option linter.unusedVariables false
set_option linter.unusedSimpArgs false

theorem flatL_val : ∀ (l : List SlI) (x : Nat) (s : SlI) (y : Sv), l[x]? = some s → (flatL l).set (x * 7 + 6) (.slice y.ad y.n y.cap) = flatL (l.set x ⟨s.st, s.k, y⟩)
  | [], x, s, y, h => by simp at h
  | a :: l, 0, s, y, h => by
    simp only [List.getElem?_cons_zero, Option.some.injEq] at h
    subst h
    simp [flatL, encL]
  | a :: l, x + 1, s, y, h => by
    have := flatL_val l x s y (by simpa using h)
    simp only [flatL, List.set_cons_succ]
    rw [List.set_append_right _ _ (by simp [encL]; omega), show (x + 1) * 7 + 6 - (encL a).length = x * 7 + 6 by simp [encL]; omega, this]
theorem rowL_val {w : World} {b g n cap : Nat} {l : List SlI} (h : RowL w b (.slice (some ⟨g, 0, none⟩) n cap) l) {x : Nat} {s : SlI} (hs : l[x]? = some s) (y : Sv) : RowL (w.setCell ⟨g, x * 7 + 6, none⟩ (.slice y.ad y.n y.cap)) b (.slice (some ⟨g, 0, none⟩) n cap) (l.set x ⟨s.st, s.k, y⟩) ∧ w.grownBy (w.setCell ⟨g, x * 7 + 6, none⟩ (.slice y.ad y.n y.cap)) (some g) := by
  have hn : n = l.length := by obtain ⟨ad, c, e, _⟩ := h.form; injection e
  subst hn
  obtain ⟨a, b⟩ := World.ownsRow.stored h (x * 7 + 6) (.slice y.ad y.n y.cap)
  rw [flatL_val l x s y hs] at a
  exact ⟨by unfold RowL; simpa using a, b⟩
theorem only_trans {B : Nat} {w w1 w2 : World} (h : Only B w w1) (g : Only B w1 w2) : Only B w w2 := ⟨g.os.trans h.os, g.tape.trans h.tape, g.output.trans h.output, g.size.trans h.size, fun k hk => (g.block k hk).trans (h.block k hk)⟩
theorem Tab.only {w w' : World} {t B : Nat} {v : Value} {M c sp : Nat} {l : List SlI} (h : Tab w t v M c sp l) (ho : Only B w w') (hB : B ≠ t) (hv : v.ownBlock ≠ some B) : Tab w' t v M c sp l := by
  refine ⟨by rw [ho.block t (fun e => hB e.symm)]; exact h.1, ⟨h.2.1.1, ?_⟩, h.2.2⟩
  rcases h.2.1.2 with h2 | ⟨g, cap, cur, hv', hg, hh, q⟩
  · exact .inl h2
  · exact .inr ⟨g, cap, cur, hv', hg, by rw [ho.block g (fun e => hv (by rw [hv', e]; rfl))]; exact hh, q⟩
theorem Moved.only {w w1 w2 : World} {t B : Nat} {v v' : Value} (m : Moved w w1 t v v') (ho : Only B w1 w2) (hB : w.heap.size ≤ B) : Moved w w2 t v v' :=
  ⟨ho.os.trans m.os, ho.tape.trans m.tape, ho.output.trans m.output, by rw [ho.size]; exact m.size, fun k hk h1 h2 => by rw [ho.block k (by omega)]; exact m.block k hk h1 h2, m.own⟩
theorem Kb.only {w w' : World} {t B C : Nat} {v : Value} {o : Obj} (h : Kb w t v C o) (ho : Only B w w') (hB : C ≠ B) : Kb w' t v C o := ⟨by rw [ho.block C hB]; exact h.1, h.2⟩
def putE (m : Hd → Option Sv) (M c : Nat) (k : Hd) : Int := if (m k).isSome then 0 else if M ≤ c then 150 else 0
def putN (m : Hd → Option Sv) (M c : Nat) (k : Hd) : Nat := if (m k).isSome then c else if M ≤ c then c else c + 1
def putM (m : Hd → Option Sv) (M c : Nat) (k : Hd) (y : Sv) : Hd → Option Sv := if (m k).isSome then upd m k (some y) else if M ≤ c then m else upd m k (some y)
theorem upd_ok {m : Hd → Option Sv} {k : Hd} {y : Sv} (hok : ∀ k v, m k = some v → OkH k) (o : OkH k) : ∀ k' v, upd m k (some y) k' = some v → OkH k' := fun k' v e => by
  unfold upd at e
  split at e
  · rename_i h; rw [h]; exact o
  · exact hok k' v e
set_option maxHeartbeats 8000000 in
set_option maxRecDepth 20000 in
theorem putC (t : Nat) (v : Value) (M c P : Nat) (m : Hd → Option Sv) (k : Hd) (y : Sv) (w : World) (ht : Tb w t v M c P m) (o : OkH k) :
    Calls Tryz.prog 90 #[.pointer (some ⟨t, 0, none⟩), .agg #[.int .u32 k.s, .int .u32 k.d, .int .u16 k.p, .int .u16 k.q, .int .u8 k.r], .slice y.ad y.n y.cap] w fun e w' => e = .returned (.int .i64 (putE m M c k)) ∧ ∃ v', Tb w' t v' M (putN m M c k) (max P (putN m M c k)) (putM m M c k y) ∧ Moved w w' t v v' := by
  obtain ⟨sp, l, h, hi, hh, hok, hl, hcP, hPM, hM⟩ := ht
  have HOk : Hid (∀ k' v, upd m k (some y) k' = some v → OkH k') := upd_ok hok o
  have HO : Hid (OkH k) := o
  have hsc : sp ≤ 4294967296 := by have := hi.ro; omega
  have h1 := h.on ((Below.refl _ _).alloc (Nat.le_refl _) (.cells #[.int .u32 k.s, .int .u32 k.d, .int .u16 k.p, .int .u16 k.q, .int .u8 k.r] 54))
  have hlt := h.lt
  have hs := seekC t v M c sp l k _ h1 hi (by omega) o
  have HK1 : Hid (Kb (w.alloc (.cells #[.int .u32 k.s, .int .u32 k.d, .int .u16 k.p, .int .u16 k.q, .int .u8 k.r] 54)) t v w.heap.size (.cells #[.int .u32 k.s, .int .u32 k.d, .int .u16 k.p, .int .u16 k.q, .int .u8 k.r] 54)) := ⟨blk_new w _, by omega, fun e => by have := h.own e; omega⟩
  have HT1 : Hid (Tab (w.alloc (.cells #[.int .u32 k.s, .int .u32 k.d, .int .u16 k.p, .int .u16 k.q, .int .u8 k.r] 54)) t v M c sp l) := h1
  have HM1 : Hid (Moved w (w.alloc (.cells #[.int .u32 k.s, .int .u32 k.d, .int .u16 k.p, .int .u16 k.q, .int .u8 k.r] 54)) t v v) := Moved.of_below ((Below.refl _ _).alloc (Nat.le_refl _) _)
  have HB1 : Hid (Below w.heap.size w (w.alloc (.cells #[.int .u32 k.s, .int .u32 k.d, .int .u16 k.p, .int .u16 k.q, .int .u8 k.r] 54))) := (Below.refl _ _).alloc (Nat.le_refl _) _
  have HI : Hid (Inv way l c sp) := hi
  have HH : Hid (Holds l m) := hh
  obtain ⟨k0, k1, k2, k3, k4⟩ := blk5 HK1.out.1
  have hW1 : w.heap.size < (w.alloc (.cells #[.int .u32 k.s, .int .u32 k.d, .int .u16 k.p, .int .u16 k.q, .int .u8 k.r] 54)).heap.size := by simp
  clear h h1 hi hh
  go_enter Tryz.func90, Tryz.ntmps90
  go_upto_region 3 with (fail)
  generalize w.alloc (.cells #[.int .u32 k.s, .int .u32 k.d, .int .u16 k.p, .int .u16 k.q, .int .u8 k.r] 54) = W1 at *
  go_wp2_with (fail)
  refine hs.mono ?_
  rintro e w2 ⟨x, b, p, rfl, hf, hb2⟩
  have hz2 := hb2.size
  have HMAP : Hid _ := found_map HI.out HH.out hf
  have hxl := hf.1
  clear k0 k1 k2 k3 k4 hs
  go_upto_region 4 with (fail)
  have hw3 := blk_new w2 (.cells #[.int .i64 x, .bool b, .int .i64 p] 153)
  have b3 : Below W1.heap.size W1 (w2.alloc (.cells #[.int .i64 x, .bool b, .int .i64 p] 153)) := hb2.trans ((Below.refl _ _).alloc hz2 _)
  generalize w2.alloc (.cells #[.int .i64 x, .bool b, .int .i64 p] 153) = w3 at *
  have HT3 : Hid (Tab w3 t v M c sp l) := HT1.out.on b3
  have HK3 : Hid (Kb w3 t v w.heap.size (.cells #[.int .u32 k.s, .int .u32 k.d, .int .u16 k.p, .int .u16 k.q, .int .u8 k.r] 54)) := HK1.out.on b3
  have HM3 : Hid (Moved w w3 t v v) := HM1.out.trans (Moved.of_below b3)
  have HB3 : Hid (Below w.heap.size w w3) := HB1.out.trans (b3.mono (by omega))
  have HS3 : Hid (Kb w3 t v w2.heap.size (.cells #[.int .i64 x, .bool b, .int .i64 p] 153)) := ⟨hw3, by have := HT1.out.lt; omega, fun e => by have := HT1.out.own e; omega⟩
  obtain ⟨s0, s1, s2⟩ := blk3 HS3.out.1
  clear hw3 hb2 b3 HT1 HK1 HM1 HB1 hf
  obtain ⟨hb, hm1, hm2⟩ := HMAP.out
  clear HMAP hb
  have hlt3 := HT3.out.lt
  obtain ⟨c0, c1, c2, c3⟩ := blk4 HT3.out.1
  cases b with
  | true =>
    obtain ⟨s, hs1, hs2, hs3, hs4⟩ := hm1 rfl
    have Hs4 : Hid (m k = some s.v) := hs4
    have hd1 := HI.out.upd hs1 y
    have hd3 := HH.out.upd HI.out hs1 hs2 y
    rw [hs3] at hd3
    have HD : Hid (Inv way (l.set x ⟨s.st, s.k, y⟩) c sp ∧ Holds (l.set x ⟨s.st, s.k, y⟩) (upd m k (some y))) := ⟨hd1, by rw [hs3]; exact hd3⟩
    have HLb : Hid (l.length ≤ 8 + 4 * P ∧ c ≤ P ∧ P ≤ M ∧ M ≤ 65536) := ⟨hl, hcP, hPM, hM⟩
    obtain ⟨g, cap, hv, hcap, hg⟩ := HT3.out.filled (by omega)
    subst hv
    have hrv := rowL_val HT3.out.2.1 hs1 y
    obtain ⟨_, _, _, _, _, _, d6⟩ := rowL_at HT3.out.2.1 hs1
    have fz := HT3.out.2.1.frozen (x * 7 + 6)
    obtain ⟨n, hn⟩ : ∃ n, n = l.length := ⟨_, rfl⟩
    have Hn : Hid (n = l.length) := hn
    simp only [← hn] at hxl hcap hl HT3 HM3 HK3 HS3 hrv c3
    have HRV : Hid (RowL (w3.setCell ⟨g, x * 7 + 6, none⟩ (.slice y.ad y.n y.cap)) 0 (.slice (some ⟨g, 0, none⟩) n cap) (l.set x ⟨s.st, s.k, y⟩) ∧ w3.grownBy (w3.setCell ⟨g, x * 7 + 6, none⟩ (.slice y.ad y.n y.cap)) (some g)) := hrv
    have hn0 : (n : Int) ≤ 300000 := by omega
    have hix : (x : Int) < (n : Int) := by omega
    have hix2 : ¬ n ≤ x := by omega
    clear hm1 hm2 hn hs1 hs2 hs3 hs4 hok hd1 hd3 hrv c0 c1 c2 c3
    go_upto_region 5 with (fail)
    refine wp_region_held_drew (S := fun w' => w'.cell? ⟨t, 3, none⟩ = some (.slice (some ⟨g, 0, none⟩) n cap) ∧ w'.heap[w2.heap.size]? = some (.cells #[.int .i64 x, .bool true, .int .i64 p] 153)) (by kernel_rfl) ⟨(blk4 HT3.out.1).2.2.2, HS3.out.1⟩ (fun hS1 => ?_)
    show wpAnyH _ _ _ _ _ 10 _ _ _
    refine wpTk (i := 0) (v := .pointer (some ⟨t, 0, none⟩)) hS1 ?_
    simp only [nrm]
    refine wpTk (i := 1) (v := .pointer (some ⟨t, 0, none⟩)) hS1 ?_
    simp only [nrm]
    refine wpTk (i := 2) (v := .pointer (some ⟨t, 3, none⟩)) hS1 ?_
    simp only [nrm]
    refine wpAnyH_take (i := 3) (v := .slice (some ⟨g, 0, none⟩) n cap) rfl (by kernel_rfl) (by kernel_rfl) (by kernel_rfl) (fun _ _ _ h => h) (.inl ⟨rfl, fun w' hw' => by have hcc := hw'.1; simp [execOp, go_sem, hcc]⟩) hS1 ?_
    simp only [nrm]
    refine wpTk (i := 4) (v := .pointer (some ⟨w2.heap.size, 0, none⟩)) hS1 ?_
    simp only [nrm]
    refine wpAnyH_take (i := 5) (v := .int .i64 x) rfl (by kernel_rfl) (by kernel_rfl) (by kernel_rfl) (fun _ _ _ h => h) (.inl ⟨rfl, fun w' hw' => by have hcc := blk_cell (j := 0) hw'.2 rfl; simp [execOp, go_sem, hcc]⟩) hS1 ?_
    simp only [nrm]
    refine wpTk (i := 6) (v := .slice y.ad y.n y.cap) hS1 ?_
    simp only [nrm]
    refine wpAnyH_take (i := 7) (v := .pointer (some ⟨g, x * 7, none⟩)) rfl (by kernel_rfl) (by kernel_rfl) (by kernel_rfl) (fun _ _ _ h => h) (yieldsIf_index rfl 158 (.tmp 18) (.tmp 20) rfl _ (fun w => by simp [Instr.indexAt, go_sem, hix, hix2])) hS1 ?_
    simp only [nrm]
    refine wpTk (i := 8) (v := .pointer (some ⟨g, x * 7 + 6, none⟩)) hS1 ?_
    simp only [nrm]
    refine wpO 9 (fun K' hK' => ?_)
    go_wp2_with (fail)
    obtain ⟨q1, q2⟩ := Tab.over rfl HT3.out HRV.out.1 HRV.out.2
    refine ⟨⟨(blk4 q1.1).2.2.2, (HS3.out.moved q2).1⟩, ?_⟩
    refine wpAnyH_done (by kernel_rfl) ?_ _
    have HT6 : Hid (Tab _ t (.slice (some ⟨g, 0, none⟩) n cap) M c sp (l.set x ⟨s.st, s.k, y⟩)) := q1.drew
    have HM6 : Hid (Moved w _ t (.slice (some ⟨g, 0, none⟩) n cap) (.slice (some ⟨g, 0, none⟩) n cap)) := (HM3.out.trans q2).trans (Moved.of_below (Below.drew (Below.refl _ _)))
    clear q1 q2 HT3 HM3 HK3 HS3 HRV d6 fz s0 s1 s2
    generalize (w3.setCell ⟨g, x * 7 + 6, none⟩ (.slice y.ad y.n y.cap)).drew = w6 at *
    try simp only [nrm]
    go_wp2_with (fail)
    go_ret
    unfold putE putN putM
    rw [Hs4.out, ← Hn.out]
    refine ⟨rfl, _, ?_, HM6.out⟩
    show Tb w6 t _ M c (max P c) (upd m k (some y))
    rw [Nat.max_eq_left hcP]
    exact ⟨sp, _, HT6.out, HD.out.1, HD.out.2, HOk.out, by rw [List.length_set]; exact HLb.out.1, HLb.out.2⟩
  | false =>
    obtain ⟨hno, hmay⟩ := hm2 rfl
    have Hno : Hid (m k = none) := hno
    by_cases hfull : M ≤ c
    · have HX : Hid (Tb w3 t v M c P m) := ⟨sp, l, HT3.out, HI.out, HH.out, hok, hl, hcP, hPM, hM⟩
      have HE : Hid (putE m M c k = 150 ∧ putN m M c k = c ∧ putM m M c k y = m) := by
        show _ ∧ _ ∧ _
        unfold putE putN putM
        rw [hno]
        exact ⟨if_pos hfull, if_pos hfull, if_pos hfull⟩
      have hfI : (M : Int) ≤ (c : Int) := by omega
      clear hm1 hm2 hno hmay hok
      go_upto_region 7 with (fail)
      go_quiet (fail)
      go_wp2
      go_ret
      rw [HE.out.1, HE.out.2.1, HE.out.2.2, Nat.max_eq_left hcP]
      exact ⟨rfl, _, HX.out.on (bel_drewN (Below.refl _ _) _), HM3.out.trans (Moved.of_below (bel_drewN (Below.refl _ _) _))⟩
    · have HE : Hid (putE m M c k = 0 ∧ putN m M c k = c + 1 ∧ putM m M c k y = upd m k (some y)) := by
        show _ ∧ _ ∧ _
        unfold putE putN putM
        rw [hno]
        exact ⟨if_neg hfull, if_neg hfull, if_neg hfull⟩
      have hfI : ¬ (M : Int) ≤ (c : Int) := by omega
      have hc1 : c + 1 ≤ 65536 := by omega
      obtain ⟨a, ha⟩ : ∃ a, l[x]? = some a := ⟨_, List.getElem?_eq_getElem hxl⟩
      have hst : a.st ≠ 1 := by obtain ⟨_, q, a2, _, h2, h3, _⟩ := hmay; rw [ha] at h2; cases h2; exact h3
      have Ha : Hid (l[x]? = some a) := ha
      have HMy : Hid (May way l k x) := hmay
      obtain ⟨g, cap, hv, hcap, hg⟩ := HT3.out.filled (by omega)
      have HV : Hid (v = .slice (some ⟨g, 0, none⟩) l.length cap) := hv
      obtain ⟨d0, _, _, _, _, _, _⟩ := rowL_at (by have := HT3.out.2.1; rw [hv] at this; exact this) ha
      rw [hv] at c3
      have hcr := fun (W : World) (hb : Below w3.heap.size w3 W) => crowdC t v M c sp l W (HT3.out.on hb) (by omega) (by omega)
      obtain ⟨st, hste⟩ : ∃ st, st = a.st := ⟨_, rfl⟩
      have Hst : Hid (st = a.st ∧ st ≤ 2) := ⟨hste, by rw [hste]; exact HI.out.s3 _ _ ha⟩
      rw [← hste] at d0 hst
      have HLb : Hid (l.length ≤ 8 + 4 * P ∧ c ≤ P ∧ P ≤ M ∧ M ≤ 65536) := ⟨hl, hcP, hPM, hM⟩
      have HOk0 : Hid (∀ k v, m k = some v → OkH k) := hok
      obtain ⟨n, hn⟩ : ∃ n, n = l.length := ⟨_, rfl⟩
      have Hn : Hid (n = l.length) := hn
      simp only [← hn] at hxl hcap hl c3 hcr
      have hn0 : (n : Int) ≤ 300000 := by omega
      have hix : (x : Int) < (n : Int) := by omega
      have hix2 : ¬ n ≤ x := by omega
      have lg : g < w3.heap.size := World.block_lt_of_cell? _ _ d0
      have l2 : w2.heap.size < w3.heap.size := World.block_lt_of_cell? _ _ s0
      have lk : w.heap.size < w3.heap.size := blk_lt HK3.out.1
      clear hm1 hm2 hno hmay hok hn hv ha hste
      go_upto_region 7 with (fail)
      go_quiet (fail)
      go_upto_region 9 with (fail)
      by_cases h0 : st = 0
      · subst h0
        by_cases hcd : 3 * n < 4 * (sp + 1)
        · rw [decide_eq_true hcd] at hcr
          have kne : Nonempty (Kin w3) := ⟨⟨_, Below.refl _ _⟩⟩
          have y0 : ∀ y : Kin w3, y.val.cell? ⟨t, 3, none⟩ = some (.slice (some ⟨g, 0, none⟩) n cap) := fun y => by rw [kin_cell (by first | omega | (simp <;> omega))]; exact c3
          have y1 : ∀ y : Kin w3, y.val.cell? ⟨w2.heap.size, 0, none⟩ = some (.int .i64 x) := fun y => by rw [kin_cell (by first | omega | (simp <;> omega))]; exact s0
          have y2 : ∀ y : Kin w3, y.val.cell? ⟨g, x * 7, none⟩ = some (.int .i64 0) := fun y => by rw [kin_cell (by first | omega | (simp <;> omega))]; exact d0
          refine wp_region_kin w3 (bel_drewN (Below.refl _ _) _) (by kernel_rfl) (by kernel_rfl) ?_
          repeat (go_big_quiet_step (first | (go_at_call 104; exact kin_call (hcr _ (Kin.is _)))))
          refine wpQuiet_nil ?_
          rintro wq ⟨⟨xq, hxq⟩, hyq⟩
          have hq : Below w3.heap.size w3 wq := by rw [hyq]; exact hxq
          clear hyq hxq xq kne y0 y1 y2
          have HTq : Hid (Tab wq t v M c sp l) := HT3.out.on hq
          have HKq : Hid (Kb wq t v w.heap.size (.cells #[.int .u32 k.s, .int .u32 k.d, .int .u16 k.p, .int .u16 k.q, .int .u8 k.r] 54)) := HK3.out.on hq
          have HSq : Hid (Kb wq t v w2.heap.size (.cells #[.int .i64 x, .bool false, .int .i64 p] 153)) := HS3.out.on hq
          have HMq : Hid (Moved w wq t v v) := HM3.out.trans (Moved.of_below hq)
          clear HT3 HK3 HS3 HM3 HB3 c0 c1 c2 c3 d0 s0 s1 s2 hcr hq
          have hlay := layC t v M c sp l m wq HTq.out HI.out HH.out HOk0.out (by rw [← Hn.out]; omega) hc1
          obtain ⟨k0, k1, k2, k3, k4⟩ := blk5 HKq.out.1
          go_wp2_with (fail)
          refine hlay.mono ?_
          rintro e w4 ⟨rfl, v4, l4, hT4, hI4, hH4, hl4, hl5, hM4⟩
          have HK4 : Hid (Kb w4 t v4 w.heap.size (.cells #[.int .u32 k.s, .int .u32 k.d, .int .u16 k.p, .int .u16 k.q, .int .u8 k.r] 54)) := HKq.out.moved hM4
          have HS4 : Hid (Kb w4 t v4 w2.heap.size (.cells #[.int .i64 x, .bool false, .int .i64 p] 153)) := HSq.out.moved hM4
          have HM4 : Hid (Moved w w4 t v v4) := HMq.out.trans hM4
          have HT4 : Hid (Tab w4 t v4 M c c l4) := hT4
          have HI4 : Hid (Inv way l4 c c) := hI4
          have HH4 : Hid (Holds l4 m) := hH4
          have HL4 : Hid (2 * (c + 1) ≤ l4.length ∧ l4.length ≤ 8 + 4 * (c + 1)) := ⟨hl4, hl5⟩
          have hs4 := seekC t v4 M c c l4 k w4 hT4 hI4 (by omega) HO.out
          clear k0 k1 k2 k3 k4 hT4 hI4 hH4 hl4 hl5 hM4 hlay HTq HKq HSq HMq
          obtain ⟨k0, k1, k2, k3, k4⟩ := blk5 HK4.out.1
          go_wp2_with (fail)
          refine hs4.mono ?_
          rintro e w5 ⟨x5, b5, p5, rfl, hf5, hb5⟩
          have hm5 := (found_map HI4.out HH4.out hf5).2.2
          have hb5f : b5 = false := by
            cases b5 with
            | false => rfl
            | true => obtain ⟨s5, _, _, _, e5⟩ := (found_map HI4.out HH4.out hf5).2.1 rfl; rw [Hno.out] at e5; cases e5
          subst hb5f
          obtain ⟨_, hmay5⟩ := hm5 rfl
          obtain ⟨a5, ha5⟩ : ∃ a5, l4[x5]? = some a5 := ⟨_, List.getElem?_eq_getElem hf5.1⟩
          have hst5 : a5.st ≠ 1 := by obtain ⟨_, q, a2, _, h2, h3, _⟩ := hmay5; rw [ha5] at h2; cases h2; exact h3
          have hz5 : a5.st = 0 := HI4.out.noleft ha5 hst5
          have HF : Hid (Inv way (l4.set x5 ⟨1, k, y⟩) (c + 1) (if a5.st = 0 then c + 1 else c) ∧ Holds (l4.set x5 ⟨1, k, y⟩) (upd m k (some y))) := ⟨HI4.out.fil hmay5 ha5 y (fun _ => by have := HL4.out; omega), HH4.out.fil hmay5.1 ha5 hst5 y⟩
          have HA5 : Hid (l4[x5]? = some a5) := ha5
          have HT5 : Hid (Tab w5 t v4 M c c l4) := HT4.out.on hb5
          have HK5 : Hid (Kb w5 t v4 w.heap.size (.cells #[.int .u32 k.s, .int .u32 k.d, .int .u16 k.p, .int .u16 k.q, .int .u8 k.r] 54)) := HK4.out.on hb5
          have HS5 : Hid (Kb w5 t v4 w2.heap.size (.cells #[.int .i64 x, .bool false, .int .i64 p] 153)) := HS4.out.on hb5
          have HM5 : Hid (Moved w w5 t v v4) := HM4.out.trans (Moved.of_below hb5)
          clear k0 k1 k2 k3 k4 hs4 hf5 hm5 hmay5 ha5 hst5 hz5 hb5 HT4 HK4 HS4 HM4
          obtain ⟨s0, s1, s2⟩ := blk3 HS5.out.1
          have f0 := blk_free HS5.out.1 0
          have f1 := blk_free HS5.out.1 1
          have f2 := blk_free HS5.out.1 2
          go_upto_region 12 with (fail)
          have ho6 : Only w2.heap.size w5 (((w5.setCell ⟨w2.heap.size, 0, none⟩ (.int .i64 x5)).setCell ⟨w2.heap.size, 1, none⟩ (.bool false)).setCell ⟨w2.heap.size, 2, none⟩ (.int .i64 p5)) := only_trans (only_trans (only_setCell _ _ _ _) (only_setCell _ _ _ _)) (only_setCell _ _ _ _)
          have hb6 := blk_set (j := 2) (blk_set (j := 1) (blk_set (j := 0) HS5.out.1 (.int .i64 x5)) (.bool false)) (.int .i64 p5)
          have z0 : (((w5.setCell ⟨w2.heap.size, 0, none⟩ (.int .i64 x5)).setCell ⟨w2.heap.size, 1, none⟩ (.bool false)).setCell ⟨w2.heap.size, 2, none⟩ (.int .i64 p5)).cell? ⟨w2.heap.size, 0, none⟩ = some (.int .i64 x5) := blk_cell hb6 rfl
          clear hb6 s0 s1 s2 f0 f1 f2
          generalize ((w5.setCell ⟨w2.heap.size, 0, none⟩ (.int .i64 x5)).setCell ⟨w2.heap.size, 1, none⟩ (.bool false)).setCell ⟨w2.heap.size, 2, none⟩ (.int .i64 p5) = w6 at *
          have HT6 : Hid (Tab w6 t v4 M c c l4) := HT5.out.only ho6 HS5.out.2.1 HS5.out.2.2
          have HK6 : Hid (Kb w6 t v4 w.heap.size (.cells #[.int .u32 k.s, .int .u32 k.d, .int .u16 k.p, .int .u16 k.q, .int .u8 k.r] 54)) := HK5.out.only ho6 (by omega)
          have HM6 : Hid (Moved w w6 t v v4) := HM5.out.only ho6 (by omega)
          clear ho6 HT5 HK5 HS5 HM5
          obtain ⟨k0, k1, k2, k3, k4⟩ := blk5 HK6.out.1
          go_wp2_with (fail)
          refine (fillC t v4 M c c x5 l4 k y a5 w6 HT6.out (by have := HL4.out; omega) (by omega) (by omega) HA5.out).mono ?_
          rintro e w7 ⟨rfl, hT7, hM7⟩
          have HX : Hid (Tb w7 t v4 M (c + 1) (max P (c + 1)) (upd m k (some y))) := ⟨_, _, hT7, HF.out.1, HF.out.2, HOk.out, by rw [List.length_set]; have := HL4.out.2; omega, by omega, by omega, HLb.out.2.2.2⟩
          have HM7 : Hid (Moved w w7 t v v4) := HM6.out.trans hM7
          clear hT7 hM7 z0 k0 k1 k2 k3 k4 HT6 HK6 HM6
          go_wp2_with (fail)
          go_ret
          rw [HE.out.1, HE.out.2.1, HE.out.2.2]
          exact ⟨rfl, _, HX.out, HM7.out⟩
        · rw [decide_eq_false hcd] at hcr
          have kne : Nonempty (Kin w3) := ⟨⟨_, Below.refl _ _⟩⟩
          have y0 : ∀ y : Kin w3, y.val.cell? ⟨t, 3, none⟩ = some (.slice (some ⟨g, 0, none⟩) n cap) := fun y => by rw [kin_cell (by first | omega | (simp <;> omega))]; exact c3
          have y1 : ∀ y : Kin w3, y.val.cell? ⟨w2.heap.size, 0, none⟩ = some (.int .i64 x) := fun y => by rw [kin_cell (by first | omega | (simp <;> omega))]; exact s0
          have y2 : ∀ y : Kin w3, y.val.cell? ⟨g, x * 7, none⟩ = some (.int .i64 0) := fun y => by rw [kin_cell (by first | omega | (simp <;> omega))]; exact d0
          refine wp_region_kin w3 (bel_drewN (Below.refl _ _) _) (by kernel_rfl) (by kernel_rfl) ?_
          repeat (go_big_quiet_step (first | (go_at_call 104; exact kin_call (hcr _ (Kin.is _)))))
          refine wpQuiet_nil ?_
          rintro wq ⟨⟨xq, hxq⟩, hyq⟩
          have hq : Below w3.heap.size w3 wq := by rw [hyq]; exact hxq
          clear hyq hxq xq kne y0 y1 y2
          have HTq : Hid (Tab wq t v M c sp l) := HT3.out.on hq
          have HKq : Hid (Kb wq t v w.heap.size (.cells #[.int .u32 k.s, .int .u32 k.d, .int .u16 k.p, .int .u16 k.q, .int .u8 k.r] 54)) := HK3.out.on hq
          have HSq : Hid (Kb wq t v w2.heap.size (.cells #[.int .i64 x, .bool false, .int .i64 p] 153)) := HS3.out.on hq
          have HMq : Hid (Moved w wq t v v) := HM3.out.trans (Moved.of_below hq)
          clear HT3 HK3 HS3 HM3 HB3 c0 c1 c2 c3 d0 s0 s1 s2 hcr hq
          have hfl := HI.out.fil HMy.out Ha.out y (fun _ => by rw [← Hn.out]; omega)
          have hfh := HH.out.fil HMy.out.1 Ha.out (by rw [← Hst.out.1]; exact hst) y
          have HF : Hid (Inv way (l.set x ⟨1, k, y⟩) (c + 1) (if a.st = 0 then sp + 1 else sp) ∧ Holds (l.set x ⟨1, k, y⟩) (upd m k (some y))) := ⟨hfl, hfh⟩
          clear hfl hfh
          obtain ⟨s0, s1, s2⟩ := blk3 HSq.out.1
          obtain ⟨k0, k1, k2, k3, k4⟩ := blk5 HKq.out.1
          go_wp2_with (fail)
          refine (fillC t v M c sp x l k y a wq HTq.out (by rw [← Hn.out]; omega) (by omega) (by omega) Ha.out).mono ?_
          rintro e w5 ⟨rfl, hT5, hM5⟩
          have HX : Hid (Tb w5 t v M (c + 1) (max P (c + 1)) (upd m k (some y))) := ⟨_, _, hT5, HF.out.1, HF.out.2, HOk.out, by rw [List.length_set]; have := HLb.out.1; omega, by omega, by omega, HLb.out.2.2.2⟩
          have HM5 : Hid (Moved w w5 t v v) := HMq.out.trans hM5
          clear hT5 hM5 s0 s1 s2 k0 k1 k2 k3 k4 HTq HKq HSq HMq
          go_wp2_with (fail)
          go_ret
          rw [HE.out.1, HE.out.2.1, HE.out.2.2]
          exact ⟨rfl, _, HX.out, HM5.out⟩
      · have h0' : ¬ (st : Int) = 0 := by omega
        have hd0 : decide ((st : Int) = 0) = false := decide_eq_false h0'
        have hd1 : ((st : Int) == 0) = false := by simpa using h0'
        have kne : Nonempty (Kin w3) := ⟨⟨_, Below.refl _ _⟩⟩
        have y0 : ∀ y : Kin w3, y.val.cell? ⟨t, 3, none⟩ = some (.slice (some ⟨g, 0, none⟩) n cap) := fun y => by rw [kin_cell (by first | omega | (simp <;> omega))]; exact c3
        have y1 : ∀ y : Kin w3, y.val.cell? ⟨w2.heap.size, 0, none⟩ = some (.int .i64 x) := fun y => by rw [kin_cell (by first | omega | (simp <;> omega))]; exact s0
        have y2 : ∀ y : Kin w3, y.val.cell? ⟨g, x * 7, none⟩ = some (.int .i64 st) := fun y => by rw [kin_cell (by first | omega | (simp <;> omega))]; exact d0
        refine wp_region_kin w3 (bel_drewN (Below.refl _ _) _) (by kernel_rfl) (by kernel_rfl) ?_
        repeat (go_big_quiet_step (fail))
        refine wpQuiet_nil ?_
        rintro wq ⟨⟨xq, hxq⟩, hyq⟩
        have hq : Below w3.heap.size w3 wq := by rw [hyq]; exact hxq
        clear hyq hxq xq kne y0 y1 y2
        have HTq : Hid (Tab wq t v M c sp l) := HT3.out.on hq
        have HKq : Hid (Kb wq t v w.heap.size (.cells #[.int .u32 k.s, .int .u32 k.d, .int .u16 k.p, .int .u16 k.q, .int .u8 k.r] 54)) := HK3.out.on hq
        have HSq : Hid (Kb wq t v w2.heap.size (.cells #[.int .i64 x, .bool false, .int .i64 p] 153)) := HS3.out.on hq
        have HMq : Hid (Moved w wq t v v) := HM3.out.trans (Moved.of_below hq)
        clear HT3 HK3 HS3 HM3 HB3 c0 c1 c2 c3 d0 s0 s1 s2 hcr hq
        have hfl := HI.out.fil HMy.out Ha.out y (fun e => absurd (Hst.out.1.trans e) h0)
        have hfh := HH.out.fil HMy.out.1 Ha.out (by rw [← Hst.out.1]; exact hst) y
        have HF : Hid (Inv way (l.set x ⟨1, k, y⟩) (c + 1) (if a.st = 0 then sp + 1 else sp) ∧ Holds (l.set x ⟨1, k, y⟩) (upd m k (some y))) := ⟨hfl, hfh⟩
        clear hfl hfh
        obtain ⟨s0, s1, s2⟩ := blk3 HSq.out.1
        obtain ⟨k0, k1, k2, k3, k4⟩ := blk5 HKq.out.1
        go_wp2_with (fail)
        refine (fillC t v M c sp x l k y a wq HTq.out (by rw [← Hn.out]; omega) (by omega) (by omega) Ha.out).mono ?_
        rintro e w5 ⟨rfl, hT5, hM5⟩
        have HX : Hid (Tb w5 t v M (c + 1) (max P (c + 1)) (upd m k (some y))) := ⟨_, _, hT5, HF.out.1, HF.out.2, HOk.out, by rw [List.length_set]; have := HLb.out.1; omega, by omega, by omega, HLb.out.2.2.2⟩
        have HM5 : Hid (Moved w w5 t v v) := HMq.out.trans hM5
        clear hT5 hM5 s0 s1 s2 k0 k1 k2 k3 k4 HTq HKq HSq HMq
        go_wp2_with (fail)
        go_ret
        rw [HE.out.1, HE.out.2.1, HE.out.2.2]
        exact ⟨rfl, _, HX.out, HM5.out⟩
end Go.Proofs.YtfpmljgmfapoiaaGreat.Hx
/-
  A table made; a table that was made since; the document's examples.
-/
namespace Go.Proofs.YtfpmljgmfapoiaaGreat.Hx
open Go.RowKit
set_option linter.unusedVariables false
set_option linter.unusedSimpArgs false

def m0 : Hd → Option Sv := fun _ => none
/-- A table made since w. -/
def Ow (w w' : World) (t M c P : Nat) (m : Hd → Option Sv) : Prop := ∃ v, Tb w' t v M c P m ∧ w.heap.size ≤ t ∧ (∀ k, v.ownBlock = some k → w.heap.size ≤ k) ∧ Below w.heap.size w w'
theorem Ow.on {w w1 w2 : World} {t M c P : Nat} {m : Hd → Option Sv} (h : Ow w w1 t M c P m) (hb : Below w1.heap.size w1 w2) : Ow w w2 t M c P m := by
  obtain ⟨v, h1, h2, h3, h4⟩ := h
  exact ⟨v, h1.on hb, h2, h3, h4.trans (hb.mono h4.size)⟩
theorem Ow.moved {w w1 w2 : World} {t M c P M' c' P' : Nat} {v v' : Value} {m m' : Hd → Option Sv} (h2 : w.heap.size ≤ t) (h3 : ∀ k, v.ownBlock = some k → w.heap.size ≤ k) (h4 : Below w.heap.size w w1) (hT : Tb w2 t v' M' c' P' m') (hm : Moved w1 w2 t v v') : Ow w w2 t M' c' P' m' :=
  ⟨v', hT, h2, hm.ge h4.size h3, h4.trans (hm.below h4.size h2 h3)⟩
set_option maxHeartbeats 2000000 in
theorem newC (n : Nat) (w : World) (h1 : 1 ≤ n) (h2 : n ≤ 65536) :
    Calls Tryz.prog 88 #[.int .i64 n] w fun e w' => ∃ t, e = .returned (.tuple #[.pointer (some ⟨t, 0, none⟩), .int .i64 0]) ∧ Ow w w' t n 0 0 m0 := by
  obtain ⟨i0, hi, hz0, hz1, hz2⟩ := info_parts infoL
  have hmk := fun W => run_make (P := Tryz.prog) W 158 157 i0 _ Tryz.underlying158 hi hz0 .i64 .i64 (8 : Int) (8 : Int) (by omega) (Int.le_refl _) (by rw [hz2]; omega) (by omega)
  simp only [hz1, show ((8 : Int)).toNat = 8 from rfl] at hmk
  clear hi hz0 hz1 hz2
  have hr := made_rowL w 8 (by omega)
  have HR : Hid (RowL ((w.alloc (.cells (madeCells #[.int .i64 0, .int .u32 0, .int .u32 0, .int .u16 0, .int .u16 0, .int .u8 0, .slice none 0 0] (8 * 7)) 157)).alloc (.cells #[.int .i64 n, .int .i64 0, .int .i64 0, .slice (some ⟨w.heap.size, 0, none⟩) 8 8] 160)) 0 (.slice (some ⟨w.heap.size, 0, none⟩) 8 8) (newL 8 slZ)) := (hr.base (Nat.zero_le _)).alloc _
  have HI : Hid (Inv way (newL 8 slZ) 0 0) := inv_new (m := 3) rfl (by omega) rfl
  have HH : Hid (Holds (newL 8 slZ) m0) := fun k v => ⟨fun h => absurd h (has_new rfl k v), fun h => by cases h⟩
  clear hr
  have h1' : ¬ (n : Int) < 1 := by omega
  have h2' : ¬ (65536 : Int) < (n : Int) := by omega
  go_enter Tryz.func88, Tryz.ntmps88
  go_wp2
  go_ret2
  refine ⟨w.heap.size + 1, rfl, .slice (some ⟨w.heap.size, 0, none⟩) 8 8, ⟨0, newL 8 slZ, ⟨?_, HR.out, ?_⟩, HI.out, HH.out, fun k v e => (by cases e), ?_, Nat.le_refl _, Nat.zero_le _, h2⟩, Nat.le_succ _, fun k e => ?_, ?_⟩
  · have := blk_new (w.alloc (.cells (madeCells #[.int .i64 0, .int .u32 0, .int .u32 0, .int .u16 0, .int .u16 0, .int .u8 0, .slice none 0 0] (8 * 7)) 157)) (.cells #[.int .i64 n, .int .i64 0, .int .i64 0, .slice (some ⟨w.heap.size, 0, none⟩) 8 8] 160)
    rw [show (w.alloc (.cells (madeCells #[.int .i64 0, .int .u32 0, .int .u32 0, .int .u16 0, .int .u16 0, .int .u8 0, .slice none 0 0] (8 * 7)) 157)).heap.size = w.heap.size + 1 by simp] at this
    exact this
  · simp [Value.ownBlock]
  · unfold newL; rw [List.length_replicate]; omega
  · simp [Value.ownBlock] at e; omega
  · (repeat (first | assumption | exact Below.refl _ _ | refine Below.drew ?_ | refine bel_drewN ?_ _ | refine Below.setCell ?_ (by first | omega | (simp; done) | (simp; omega)) _ | refine Below.alloc ?_ (by first | omega | (simp; done) | (simp; omega)) _ | refine bel_of ?_ (by assumption)))
end Go.Proofs.YtfpmljgmfapoiaaGreat.Hx
/-
  The table of a tuple in memory.
-/
namespace Go.Proofs.YtfpmljgmfapoiaaGreat
open Go.RowKit
set_option linter.unusedVariables false
set_option linter.unusedSimpArgs false

/-- A slice as a table holds it. -/
def svV (s : Hx.Sv) : Value := .slice s.ad s.n s.cap
/-- The table in block G: of the tuple t; under a header k the numbers C k; E are its entries, l its slots. -/
structure GrpF (w : World) (G : Nat) (t : Tp) (C : Hx.Hd → List Int) (E : Nat) (l : List Hx.SlI) (h : Nat) (v : Value) (c P sp : Nat) (m : Hx.Hd → Option Hx.Sv) : Prop where
  blk : w.heap[G]? = some (.cells #[.func (.func 99) #[.agg #[.int .i64 t.a, .int .i64 t.b, .int .i64 t.c, .int .i64 t.d, .int .u8 t.m]] #[], .func (.func 100) #[.agg #[.int .i64 t.a, .int .i64 t.b, .int .i64 t.c, .int .i64 t.d, .int .u8 t.m]] #[], .func (.func 101) #[.agg #[.int .i64 t.a, .int .i64 t.b, .int .i64 t.c, .int .i64 t.d, .int .u8 t.m]] #[], .func (.func 102) #[.agg #[.int .i64 t.a, .int .i64 t.b, .int .i64 t.c, .int .i64 t.d, .int .u8 t.m]] #[], .func (.func 103) #[.agg #[.int .i64 t.a, .int .i64 t.b, .int .i64 t.c, .int .i64 t.d, .int .u8 t.m]] #[], .pointer (some ⟨h, 0, none⟩), .int .i64 E] 127 (0, 0))
  tab : Hx.Tab w h v 65536 c sp l
  inv : Hx.Inv Hx.way l c sp
  holds : Hx.Holds l m
  okm : ∀ k s, m k = some s → Hx.OkH k
  len : l.length ≤ 8 + 4 * P
  cP : c ≤ P
  PE : P ≤ E
  no : ∀ k, m k = none → C k = []
  row : ∀ k s, m k = some s → C k ≠ [] ∧ RowI w 0 (svV s) (C k) ∧ (C k).length ≤ E
  apart : ∀ k k' s s', m k = some s → m k' = some s' → k ≠ k' → ∀ b, (svV s).ownBlock = some b → (svV s').ownBlock ≠ some b
  off : ∀ k s, m k = some s → ∀ b, (svV s).ownBlock = some b → b ≠ G ∧ b ≠ h ∧ v.ownBlock ≠ some b
  hG : h ≠ G
  vG : v.ownBlock ≠ some G
/-- The blocks of a table. -/
def FootG (G h : Nat) (v : Value) (m : Hx.Hd → Option Hx.Sv) (b : Nat) : Prop := b = G ∨ b = h ∨ v.ownBlock = some b ∨ ∃ k s, m k = some s ∧ (svV s).ownBlock = some b
/-- .. that lies within S. -/
def Grp (w : World) (G : Nat) (t : Tp) (C : Hx.Hd → List Int) (E : Nat) (l : List Hx.SlI) (S : Nat → Prop) : Prop :=
  ∃ h v c P sp m, GrpF w G t C E l h v c P sp m ∧ ∀ b, FootG G h v m b → S b
theorem rowI_stay {w w' : World} {b : Nat} {v : Value} {l : List Int} (h : RowI w b v l) (hb : ∀ k, v.ownBlock = some k → w'.heap[k]? = w.heap[k]?) : RowI w' b v l := by
  refine ⟨h.1, ?_⟩
  rcases h.2 with h2 | ⟨g, cap, cur, hvv, hg, hh, r⟩
  · exact .inl h2
  · exact .inr ⟨g, cap, cur, hvv, hg, by rw [hb g (by rw [hvv]; rfl)]; exact hh, r⟩
theorem rowL_stay {w w' : World} {b : Nat} {v : Value} {l : List Hx.SlI} (h : Hx.RowL w b v l) (hb : ∀ k, v.ownBlock = some k → w'.heap[k]? = w.heap[k]?) : Hx.RowL w' b v l := by
  refine ⟨h.1, ?_⟩
  rcases h.2 with h2 | ⟨g, cap, cur, hvv, hg, hh, r⟩
  · exact .inl h2
  · exact .inr ⟨g, cap, cur, hvv, hg, by rw [hb g (by rw [hvv]; rfl)]; exact hh, r⟩
theorem tabH_stay {w w' : World} {t : Nat} {v : Value} {M c sp : Nat} {l : List Hx.SlI} (h : Hx.Tab w t v M c sp l) (ht : w'.heap[t]? = w.heap[t]?) (hb : ∀ k, v.ownBlock = some k → w'.heap[k]? = w.heap[k]?) : Hx.Tab w' t v M c sp l :=
  ⟨ht.trans h.1, rowL_stay h.2.1 hb, h.2.2⟩
section
variable {w w' : World} {G : Nat} {t : Tp} {C : Hx.Hd → List Int} {E : Nat} {l : List Hx.SlI} {h : Nat} {v : Value} {c P sp : Nat} {m : Hx.Hd → Option Hx.Sv} {S S' : Nat → Prop}
theorem GrpF.stay (f : GrpF w G t C E l h v c P sp m) (hs : ∀ b, FootG G h v m b → w'.heap[b]? = w.heap[b]?) : GrpF w' G t C E l h v c P sp m :=
  { f with
    blk := (hs G (.inl rfl)).trans f.blk
    tab := tabH_stay f.tab (hs h (.inr (.inl rfl))) fun k e => hs k (.inr (.inr (.inl e)))
    row := fun k s e => ⟨(f.row k s e).1, rowI_stay (f.row k s e).2.1 fun b hb => hs b (.inr (.inr (.inr ⟨k, s, e, hb⟩))), (f.row k s e).2.2⟩ }
theorem GrpF.lt (f : GrpF w G t C E l h v c P sp m) : ∀ b, FootG G h v m b → b < w.heap.size := fun b hb => by
  rcases hb with rfl | rfl | e | ⟨k, s, e, hb⟩
  · exact blk_lt f.blk
  · exact f.tab.lt
  · exact f.tab.own e
  · exact ((f.row k s e).2.1.lt b hb).2
theorem GrpF.on (f : GrpF w G t C E l h v c P sp m) (hb : Below w.heap.size w w') : GrpF w' G t C E l h v c P sp m := f.stay fun b hF => hb.block b (f.lt b hF)
theorem Grp.stay (g : Grp w G t C E l S) (hs : ∀ b, S b → w'.heap[b]? = w.heap[b]?) : Grp w' G t C E l S := by
  obtain ⟨h, v, c, P, sp, m, f, hf⟩ := g
  exact ⟨h, v, c, P, sp, m, f.stay fun b hb => hs b (hf b hb), hf⟩
theorem Grp.on (g : Grp w G t C E l S) (hb : Below w.heap.size w w') : Grp w' G t C E l S := by
  obtain ⟨h, v, c, P, sp, m, f, hf⟩ := g
  exact ⟨h, v, c, P, sp, m, f.on hb, hf⟩
theorem Grp.mono (g : Grp w G t C E l S) (hS : ∀ b, S b → S' b) : Grp w G t C E l S' := by
  obtain ⟨h, v, c, P, sp, m, f, hf⟩ := g
  exact ⟨h, v, c, P, sp, m, f, fun b hb => hS b (hf b hb)⟩
theorem Grp.inS (g : Grp w G t C E l S) : S G := by
  obtain ⟨h, v, c, P, sp, m, f, hf⟩ := g
  exact hf G (.inl rfl)
theorem Grp.lt (g : Grp w G t C E l S) : G < w.heap.size := by
  obtain ⟨h, v, c, P, sp, m, f, hf⟩ := g
  exact blk_lt f.blk
/-- Within S, and among the blocks that there are. -/
theorem Grp.cut (g : Grp w G t C E l S) : Grp w G t C E l fun b => S b ∧ b < w.heap.size := by
  obtain ⟨h, v, c, P, sp, m, f, hf⟩ := g
  exact ⟨h, v, c, P, sp, m, f, fun b hb => ⟨hf b hb, f.lt b hb⟩⟩
theorem GrpF.tb (f : GrpF w G t C E l h v c P sp m) (hE : E ≤ 65536) : Hx.Tb w h v 65536 c P m := ⟨sp, l, f.tab, f.inv, f.holds, f.okm, f.len, f.cP, Nat.le_trans f.PE hE, Nat.le_refl _⟩
end
/-- What a call leaves as it was: all blocks that there were, but those of S. -/
structure Chg (w w' : World) (S : Nat → Prop) : Prop where
  os : w'.os = w.os
  tape : w'.tape = w.tape
  output : w'.output = w.output
  size : w.heap.size ≤ w'.heap.size
  block : ∀ k, k < w.heap.size → ¬ S k → w'.heap[k]? = w.heap[k]?
theorem Chg.of_below {w w' : World} (h : Below w.heap.size w w') (S : Nat → Prop) : Chg w w' S := ⟨h.os, h.tape, h.output, h.size, fun k hk _ => h.block k hk⟩
theorem Chg.below {w w' : World} {S : Nat → Prop} (h : Chg w w' S) {B : Nat} (hB : B ≤ w.heap.size) (hS : ∀ k, S k → B ≤ k) : Below B w w' := ⟨h.os, h.tape, h.output, h.size, fun k hk => h.block k (by omega) fun e => by have := hS k e; omega⟩
theorem Chg.trans {w w1 w2 : World} {S S1 : Nat → Prop} (h : Chg w w1 S) (g : Chg w1 w2 S1) (hS : ∀ k, S1 k → S k ∨ w.heap.size ≤ k) : Chg w w2 S :=
  ⟨g.os.trans h.os, g.tape.trans h.tape, g.output.trans h.output, Nat.le_trans h.size g.size, fun k hk hn => by
    rw [g.block k (Nat.lt_of_lt_of_le hk h.size) (fun e => by
      rcases hS k e with e | e
      · exact hn e
      · omega), h.block k hk hn]⟩
theorem Chg.mono {w w1 : World} {S S1 : Nat → Prop} (h : Chg w w1 S) (hS : ∀ k, S k → S1 k) : Chg w w1 S1 := ⟨h.os, h.tape, h.output, h.size, fun k hk hn => h.block k hk fun e => hn (hS k e)⟩
set_option maxHeartbeats 2000000 in
theorem newGroupC (t : Tp) (w : World) :
    Calls Tryz.prog 66 #[.agg #[.int .i64 t.a, .int .i64 t.b, .int .i64 t.c, .int .i64 t.d, .int .u8 t.m]] w fun e w' => ∃ (G : Nat) (l : List Hx.SlI), e = .returned (.pointer (some ⟨G, 0, none⟩)) ∧ Grp w' G t (fun _ => []) 0 l (fun b => w.heap.size ≤ b) ∧ Below w.heap.size w w' := by
  have hN := fun W => Hx.newC 65536 W (by omega) (by omega)
  have hC := fun W => cutsC t W
  obtain ⟨T, hT⟩ : ∃ T : Value, T = .agg #[.int .i64 t.a, .int .i64 t.b, .int .i64 t.c, .int .i64 t.d, .int .u8 t.m] := ⟨_, rfl⟩
  obtain ⟨a, b, c, d, m⟩ := t
  go_enter Tryz.func66, Tryz.ntmps66
  go_wp2_with (fail)
  refine (hN _).mono ?_
  rintro e w1 ⟨h, rfl, v, hTb, hh, hv, hb⟩
  have HT : Hid (Hx.Tb w1 h v 65536 0 0 Hx.m0) := hTb
  have HH : Hid (w.heap.size + 1 ≤ h ∧ ∀ k, v.ownBlock = some k → w.heap.size + 1 ≤ k) := ⟨by simpa using hh, fun k e => by simpa using hv k e⟩
  have hz1 := hb.size
  have HB1 : Hid (Below w.heap.size w w1) := ((Below.refl _ _).alloc (Nat.le_refl _) _).trans (hb.mono (by simp))
  have ht := blk_on (blk_new w (.cells #[.int .i64 ((⟨a, b, c, d, m⟩ : Tp)).a, .int .i64 ((⟨a, b, c, d, m⟩ : Tp)).b, .int .i64 (((⟨a, b, c, d, m⟩ : Tp)).c : Int), .int .i64 (((⟨a, b, c, d, m⟩ : Tp)).d : Int), .int .u8 (((⟨a, b, c, d, m⟩ : Tp)).m : Int)] 144)) hb
  obtain ⟨t0, t1, t2, t3, t4⟩ := blk5 ht
  clear hTb hh hv hb hN ht
  go_wp2_with (go_at_call 89; refine (hC _).mono ?_; rintro e w2 ⟨rfl, hb2⟩)
  have HB2 : Hid (Below w.heap.size w w2) := HB1.out.trans (hb2.mono HB1.out.size)
  have HT2 : Hid (Hx.Tb w2 h v 65536 0 0 Hx.m0) := HT.out.on hb2
  have Hlt : Hid (h < w2.heap.size ∧ ∀ k, v.ownBlock = some k → k < w2.heap.size) := ⟨HT2.out.lt, HT2.out.own⟩
  clear HT HB1 hb2 hC
  go_ret
  obtain ⟨sp, l, q1, q2, q3, q4, q5, q6, q7, q8⟩ := HT2.out
  obtain ⟨hh, hv⟩ := HH.out
  obtain ⟨l1, l2⟩ := Hlt.out
  have hb3 := (Below.refl w2.heap.size w2).alloc (Nat.le_refl _) (.cells #[.func (.func 99) #[.agg #[.int .i64 (((⟨a, b, c, d, m⟩ : Tp))).a, .int .i64 (((⟨a, b, c, d, m⟩ : Tp))).b, .int .i64 ((((⟨a, b, c, d, m⟩ : Tp))).c : Int), .int .i64 ((((⟨a, b, c, d, m⟩ : Tp))).d : Int), .int .u8 ((((⟨a, b, c, d, m⟩ : Tp))).m : Int)]] #[], .func (.func 100) #[.agg #[.int .i64 (((⟨a, b, c, d, m⟩ : Tp))).a, .int .i64 (((⟨a, b, c, d, m⟩ : Tp))).b, .int .i64 ((((⟨a, b, c, d, m⟩ : Tp))).c : Int), .int .i64 ((((⟨a, b, c, d, m⟩ : Tp))).d : Int), .int .u8 ((((⟨a, b, c, d, m⟩ : Tp))).m : Int)]] #[], .func (.func 101) #[.agg #[.int .i64 (((⟨a, b, c, d, m⟩ : Tp))).a, .int .i64 (((⟨a, b, c, d, m⟩ : Tp))).b, .int .i64 ((((⟨a, b, c, d, m⟩ : Tp))).c : Int), .int .i64 ((((⟨a, b, c, d, m⟩ : Tp))).d : Int), .int .u8 ((((⟨a, b, c, d, m⟩ : Tp))).m : Int)]] #[], .func (.func 102) #[.agg #[.int .i64 (((⟨a, b, c, d, m⟩ : Tp))).a, .int .i64 (((⟨a, b, c, d, m⟩ : Tp))).b, .int .i64 ((((⟨a, b, c, d, m⟩ : Tp))).c : Int), .int .i64 ((((⟨a, b, c, d, m⟩ : Tp))).d : Int), .int .u8 ((((⟨a, b, c, d, m⟩ : Tp))).m : Int)]] #[], .func (.func 103) #[.agg #[.int .i64 (((⟨a, b, c, d, m⟩ : Tp))).a, .int .i64 (((⟨a, b, c, d, m⟩ : Tp))).b, .int .i64 ((((⟨a, b, c, d, m⟩ : Tp))).c : Int), .int .i64 ((((⟨a, b, c, d, m⟩ : Tp))).d : Int), .int .u8 ((((⟨a, b, c, d, m⟩ : Tp))).m : Int)]] #[], .pointer (some ⟨h, 0, none⟩), .int .i64 0] 127)
  refine ⟨w2.heap.size, l, rfl, ⟨h, v, 0, 0, sp, Hx.m0, ⟨blk_new _ _, q1.on hb3, q2, q3, q4, q5, Nat.le_refl _, Nat.le_refl _, fun _ _ => rfl, fun k s e => (by cases e), fun k k' s s' e => (by cases e), fun k s e => (by cases e), by omega, fun e => by have := l2 _ e; omega⟩, fun b hb => ?_⟩, HB2.out.alloc HB2.out.size _⟩
  rcases hb with rfl | rfl | e | ⟨k, s, e, _⟩
  · exact HB2.out.size
  · omega
  · have := hv _ e; omega
  · cases e
end Go.Proofs.YtfpmljgmfapoiaaGreat
