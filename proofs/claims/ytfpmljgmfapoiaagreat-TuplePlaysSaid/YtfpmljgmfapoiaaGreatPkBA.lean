/-
  PkBA: TpT TpKn TpC TpPm, one behind the other (tools/pack.py).
-/
import Derived.Test.YtfpmljgmfapoiaaGreatPkAY
import Derived.Test.YtfpmljgmfapoiaaGreatPkAS
import Derived.Test.YtfpmljgmfapoiaaGreatPkAZ
import Derived.Test.YtfpmljgmfapoiaaGreatPkAD
import Derived.Test.YtfpmljgmfapoiaaGreatPkAJ
/-
  Stats. Written by tools/mkTpT.py.
-/
namespace Go.Proofs.YtfpmljgmfapoiaaGreat
open Go.RowKit Go.Maps
set_option linter.unusedVariables false
set_option linter.unusedSimpArgs false

def saC (tb en sl : Nat) : Array Value := #[.int .i64 0, .int .i64 en, .int .i64 tb, .int .i64 sl]
set_option maxHeartbeats 8000000 in
set_option maxRecDepth 20000 in
theorem statsE (X : Nat) (c : Cf) (l : List Ru) (L : Tp → List Hx.SlI) (S : Nat → Prop) (w : World) (hE : Eng w X c l L S) :
    Calls Tryz.prog 133 #[.pointer (some ⟨X, 0, none⟩)] w fun e w' => e = .returned (.agg (saC (tpsK l).length (allS l).length (maxS L (tpsK l)))) ∧ Below w.heap.size w w' := by
  have HE : Hid (Eng w X c l L S) := hE
  obtain ⟨t, v, B, ad, n, cap, f, ks, Sg, he, _⟩ := hE.at'
  have HF : Hid (EngF w X c l L t v B ad n cap f ks Sg) := he
  have hb0 : Below w.heap.size w (w.alloc (.cells #[.int .i64 0, .int .i64 0, .int .i64 0, .int .i64 0] 106)) := (Below.refl _ _).alloc (Nat.le_refl _) _
  have HB0 : Hid _ := hb0
  have hmp0 := he.sp.mp.on hb0
  have hlen := hmp0.len 3
  have c3 : (w.alloc (.cells #[.int .i64 0, .int .i64 0, .int .i64 0, .int .i64 0] 106)).cell? ⟨X, 3, none⟩ = some (.map (some B)) := cell_on1 hb0 (blk_cell he.sp.blk rfl)
  have hkl : ks.length = (tpsK l).length := len_same he.sp.mp.nd (tps_nod l) fun t => by rw [tps_mem, ← he.sp.dom, he.sp.mp.mem]
  rw [hkl] at hlen
  obtain ⟨N, hN⟩ : ∃ N, N = (tpsK l).length := ⟨_, rfl⟩
  rw [← hN] at hlen ⊢
  have HN : Hid (N = (tpsK l).length) := hN
  obtain ⟨en, hen⟩ : ∃ x, x = (allS l).length := ⟨_, rfl⟩
  obtain ⟨sl, hsl⟩ : ∃ x, x = maxS L (tpsK l) := ⟨_, rfl⟩
  rw [← hen, ← hsl]
  have HEn : Hid (en = (allS l).length) := hen
  have HSl : Hid (sl = maxS L (tpsK l)) := hsl
  clear hE he hb0 hmp0 hkl hN hen hsl
  go_enter Tryz.func133, Tryz.ntmps133
  go_upto_region 4 with (fail)
  obtain ⟨W4, hW4⟩ : ∃ x, x = (w.alloc (.cells #[.int .i64 0, .int .i64 0, .int .i64 0, .int .i64 0] 106)).alloc (.cells #[.int .i64 0, .int .i64 0, .int .i64 N, .int .i64 0] 106) := ⟨_, rfl⟩
  have hb4 : Below w.heap.size w W4 := by rw [hW4]; exact HB0.out.alloc (by simp) _
  have k0 : W4.heap[w.heap.size]? = some (.cells #[.int .i64 0, .int .i64 0, .int .i64 0, .int .i64 0] 106) := by rw [hW4]; exact blk_on (blk_new w _) ((Below.refl _ _).alloc (Nat.le_refl _) _)
  have k1 : W4.heap[w.heap.size + 1]? = some (.cells (saC N 0 0) 106 (0, 0)) := by
    rw [hW4]
    have := blk_new (w.alloc (.cells #[.int .i64 0, .int .i64 0, .int .i64 0, .int .i64 0] 106)) (.cells #[.int .i64 0, .int .i64 0, .int .i64 N, .int .i64 0] 106)
    simpa [saC] using this
  rw [← hW4]
  clear hW4 hlen c3
  have HB4 : Hid (Below w.heap.size w W4) := hb4
  have Hl1 : Hid (w.heap.size + 1 < W4.heap.size) := blk_lt k1
  have K0 : Hid _ := k0
  have K1 : Hid _ := k1
  have c3 : W4.cell? ⟨X, 3, none⟩ = some (.map (some B)) := cell_on1 hb4 (blk_cell HF.out.sp.blk rfl)
  obtain ⟨DF, hown, hD1, hD2, hD3⟩ := (HF.out.sp.mp.on hb4).ex
  have HD1 : Hid (∀ t kl, keyT t kl → DF.atKey kl (datM none) = datM (f t) ∧ Go.Maps.has DF kl = (f t).isSome) := hD1
  have HD2 : Hid (∀ kl, Go.Maps.has DF kl = true → ∃ t, keyT t kl) := hD2
  clear hD1 hD2 hD3 hb4 k0 k1
  go_wp2_with (first | (at_range; refine wpList_range_own _ rfl _ 70 rfl KT 93 tp_keyed Tryz.underlying70 ptrE B ks.length DF rfl hown ?_; intro w5 hrg0 hgr5 hsz5))
  have HRg : Hid (w5.ranges Tryz.prog KT ptrE B W4.heap.size ks.length DF (Go.Maps.has DF) (Go.Maps.size DF)) := hrg0
  have HG5 : Hid (W4.grownBy w5 none) := hgr5
  clear hrg0 hgr5 hsz5 hown c3
  try go_frame
  try go_wp2_with (fail)
  go_loopw [5] (fun _ wx => ∃ (left : Lit → Bool) (cnt : Nat) (done : List Tp), Hid (wx.ranges Tryz.prog KT ptrE B W4.heap.size ks.length DF left cnt) ∧ Hid (done.Nodup ∧ ∀ t ∈ done, (f t).isSome = true) ∧ Hid ((∀ kl, left kl = true → ∃ t, keyT t kl ∧ (f t).isSome = true ∧ t ∉ done) ∧ ∀ t kl, keyT t kl → (f t).isSome = true → t ∉ done → left kl = true) ∧ Hid (wx.heap[w.heap.size]? = some (.cells #[.int .i64 0, .int .i64 0, .int .i64 0, .int .i64 0] 106)) ∧ Hid (wx.heap[w.heap.size + 1]? = some (.cells (saC N ((done.map (ent (allS l))).sum) (maxS L done)) 106 (0, 0))) ∧ Hid (Below w.heap.size w wx)) (fun _ wx => wx.rangeLeft B W4.heap.size)
  case atStart =>
    have h5 : ∀ b, b < W4.heap.size → w5.heap[b]? = W4.heap[b]? := fun b hb => HG5.out.block b hb (by simp)
    have z4 := HB4.out.size
    have l1 := blk_lt K1.out
    refine ⟨_, _, [], HRg.out, ⟨List.nodup_nil, fun t h => by cases h⟩, ⟨fun kl h => ?_, fun t kl hk hf _ => ?_⟩, (h5 _ (by omega)).trans K0.out, (h5 _ (by omega)).trans K1.out, HB4.out.trans ⟨HG5.out.os, HG5.out.tape, HG5.out.output, HG5.out.size, fun b hb => h5 b (by omega)⟩⟩
    · obtain ⟨t, ht⟩ := HD2.out kl h
      refine ⟨t, ht, ?_, by simp⟩
      rw [← (HD1.out t kl ht).2]; exact h
    · rw [(HD1.out t kl hk).2]; exact hf
  case round =>
    obtain ⟨left, cnt, done, HR, HDn, HLf, H0, H1, HB⟩ := hrel
    clear HRg HG5 K0 K1
    have hrgo := HR.out
    go_wp2_with (at_next; refine wpList_next_ranges _ rfl _ rfl KT tp_keyed ptrE (fun v : Value => v) (fun v : Value => v) (fun key kl _ => ⟨key, rfl⟩) (fun v y _ => ⟨v, rfl⟩) B W4.heap.size ks.length DF left cnt rfl hrgo ?_ ?_)
    · intro hc0 hl0
      clear hrgo
      have HAll : Hid (∀ t, t ∈ done ↔ t ∈ tpsK l) := fun t => by
        rw [tps_mem, ← HF.out.sp.dom]
        refine ⟨HDn.out.2 t, fun hf => ?_⟩
        by_cases e : t ∈ done
        · exact e
        · obtain ⟨kl, hk⟩ := tp_key (HF.out.sp.mp.bd t hf)
          have := HLf.out.2 t kl hk hf e
          rw [hl0 kl] at this; cases this
      clear hl0
      have hA : ∀ y ∈ allS l, y.1.1 ∈ done := fun y hy => (HAll.out _).2 (tps_mem.2 (ent_pos.2 ⟨y, hy, rfl⟩))
      have H1z : Hid (wr.heap[w.heap.size + 1]? = some (.cells (saC N (allS l).length (maxS L (tpsK l))) 106 (0, 0))) := by
        show _ = _
        have h1 := H1.out
        rw [sum_ent HDn.out.1 _ hA, maxS_same HAll.out] at h1
        exact h1
      clear H1 hA HAll
      rw [← HEn.out, ← HSl.out] at H1z
      have z0 := blk_cell (j := 0) H1z.out rfl
      have z1 := blk_cell (j := 1) H1z.out rfl
      have z2 := blk_cell (j := 2) H1z.out rfl
      have z3 := blk_cell (j := 3) H1z.out rfl
      go_wp2_with (refine wpList_store_blk rfl 106 (.tmp 2) (.tmp 43) rfl w.heap.size 0 #[.int .i64 0, .int .i64 en, .int .i64 N, .int .i64 sl] #[.int .i64 0, .int .i64 en, .int .i64 N, .int .i64 sl] rfl rfl 106 _ H0.out (Nat.le_of_ble_eq_true rfl) rfl (by kernel_rfl) rfl ?_; intro w9 h9 ho9)
      exact bodyPost_ret (results_blk Tryz.results133 rfl h9 Tryz.underlying106 rfl (by kernel_rfl)) rfl ⟨rfl, HB.out.trans (ho9.below (Nat.le_refl _))⟩
    · intro x c kl dd pp w6 cnt1 hkx hlx hcy hat hrg1 hlt1 hg1 hs1 hen
      clear hrgo
      obtain ⟨t, ht, hft, htd⟩ := HLf.out.1 kl hlx
      obtain rfl : x = .agg #[.int .i64 t.a, .int .i64 t.b, .int .i64 t.c, .int .i64 t.d, .int .u8 t.m] := tp_keyed.inj hkx ht
      obtain ⟨oo, rfl, e⟩ := ptrE_inv hcy
      have hoo : oo = f t := datM_inj (e.symm.trans ((hat _).symm.trans (HD1.out t kl ht).1))
      obtain ⟨g, hg⟩ : ∃ g, f t = some g := Option.isSome_iff_exists.1 hft
      have hcv : valM oo = .pointer (some ⟨g, 0, none⟩) := by rw [hoo, hg]; rfl
      rw [hcv] at hen ⊢
      obtain ⟨hh, vv, cc, PP, sp, mm, fg, _⟩ := HF.out.sp.gs.grp t g hg
      have hst : ∀ b, b < W4.heap.size → w6.heap[b]? = wr.heap[b]? := fun b b1 => hg1.block b (by have := HR.out.lt; omega) (fun e => by injection e; omega)
      have l4 := HB4.out.size
      have l1 := Hl1.out
      have H06 : Hid _ := (hst _ (by omega)).trans H0.out
      have H16 : Hid _ := (hst _ (by omega)).trans H1.out
      have HB6 : Hid (Below w.heap.size w w6) := ⟨hg1.os.trans HB.out.os, hg1.tape.trans HB.out.tape, hg1.output.trans HB.out.output, Nat.le_trans HB.out.size hg1.size, fun b hb => (hst b (by omega)).trans (HB.out.block b hb)⟩
      have Hfg : Hid (GrpF w g t (con (allS l) t) (ent (allS l) t) (L t) hh vv cc PP sp mm) := fg
      have HR6 : Hid (w6.ranges Tryz.prog KT ptrE B W4.heap.size ks.length DF (fun z => left z && !z.sameKey kl) cnt1) := hrg1
      have HLt : Hid (cnt1 < cnt) := hlt1
      have Hkt : Hid (keyT t kl) := ht
      have Htd : Hid (t ∉ done) := htd
      have Hft : Hid ((f t).isSome = true) := hft
      clear hrg1 hlt1 hg1 hs1 fg hst l4 l1 hcy hat hlx hkx ht htd hft hoo e hcv hg
      have hbd : (done.map (ent (allS l))).sum + ent (allS l) t ≤ 57600 := by
        have h1 := sum_ent_le (D := t :: done) (List.nodup_cons.2 ⟨Htd.out, HDn.out.1⟩) (allS l)
        have h2 := allS_le l
        have h3 := HE.out.ok.few
        rw [List.map_cons, List.sum_cons] at h1
        omega
      obtain ⟨g5, g6⟩ := blkG7 Hfg.out.blk
      have HSl2 := fun W (hb : Below w.heap.size w W) => slotsG (Hfg.out.on hb)
      have HSlo : Hid _ := HSl2
      clear HSl2
      obtain ⟨e1, he1⟩ : ∃ x, x = (done.map (ent (allS l))).sum := ⟨_, rfl⟩
      obtain ⟨EE, hEE⟩ : ∃ x, x = ent (allS l) t := ⟨_, rfl⟩
      obtain ⟨m1, hm1⟩ : ∃ x, x = maxS L done := ⟨_, rfl⟩
      have H17 : Hid (w6.heap[w.heap.size + 1]? = some (.cells (saC N e1 m1) 106 (0, 0))) := by show _ = _; rw [he1, hm1]; exact H16.out
      rw [← he1, ← hEE] at hbd
      rw [← hEE] at g6
      have He1 : Hid (e1 = (done.map (ent (allS l))).sum) := he1
      have HEE : Hid (EE = ent (allS l) t) := hEE
      have Hm1 : Hid (m1 = maxS L done) := hm1
      clear he1 hEE hm1 H16
      have hb1 : (e1 : Int) + (EE : Int) ≤ 57600 := by omega
      have hb2 : (0 : Int) ≤ (e1 : Int) := by omega
      have hb3 : (0 : Int) ≤ (EE : Int) := by omega
      clear hbd
      go_upto_region 7 with (fail)
      refine wp_region_held_drew (S := fun w' => Below w.heap.size w w') (by kernel_rfl) HB6.out.drew (fun hS0 => ?_)
      show wpAnyH _ _ _ _ _ 9 _ _ _
      obtain ⟨wd, hwd⟩ : ∃ x, x = w6.drew := ⟨_, rfl⟩
      have hd1 : wd.heap[w.heap.size + 1]? = some (.cells (saC N e1 m1) 106 (0, 0)) := by rw [hwd]; exact H17.out
      have hd0 : wd.heap[w.heap.size]? = some (.cells #[.int .i64 0, .int .i64 0, .int .i64 0, .int .i64 0] 106) := by rw [hwd]; exact H06.out
      have HRd : Hid (wd.ranges Tryz.prog KT ptrE B W4.heap.size ks.length DF (fun z => left z && !z.sameKey kl) cnt1) := by show World.ranges _ _ _ _ _ _ _ _ _ _; rw [hwd]; exact World.ranges.kept (row := none) HR6.out ⟨rfl, rfl, rfl, Nat.le_refl _, fun b hb _ => rfl⟩ (by simp) (by simp)
      rw [← hwd] at hS0 ⊢
      clear hwd
      refine wpTk (i := 0) (v := .pointer (some ⟨w.heap.size + 1, 1, none⟩)) hS0 ?_
      simp only [nrm]
      refine wpTk (i := 2) (v := .pointer (some ⟨g, 0, none⟩)) hS0 ?_
      simp only [nrm]
      refine wpTk (i := 3) (v := .pointer (some ⟨g, 0, none⟩)) hS0 ?_
      simp only [nrm]
      refine wpTk (i := 4) (v := .pointer (some ⟨g, 6, none⟩)) hS0 ?_
      simp only [nrm]
      refine wpAnyH_take (i := 5) (v := .int .i64 EE) rfl (by kernel_rfl) (by kernel_rfl) (by kernel_rfl) (fun _ _ _ h => h) (.inl ⟨rfl, fun w' hw' => by have hcc := cell_on1 hw' g6; simp [execOp, go_sem, hcc]⟩) hS0 ?_
      simp only [nrm]
      have d1 := blk_cell (j := 1) hd1 rfl
      have df := blk_free hd1 1
      refine wpO 1 (fun K' hK' => ?_)
      go_wp2_with (fail)
      first | refine ⟨hS0, ?_⟩ | refine hK' _ _ ⟨hS0, ?_⟩
      try simp only [nrm]
      refine wpO 6 (fun K' hK' => ?_)
      go_wp2_with (fail)
      first | refine ⟨hS0, ?_⟩ | refine hK' _ _ ⟨hS0, ?_⟩
      try simp only [nrm]
      refine wpTk (i := 7) (v := .pointer (some ⟨w.heap.size + 1, 1, none⟩)) hS0 ?_
      simp only [nrm]
      refine wpO 8 (fun K' hK' => ?_)
      go_wp2_with (fail)
      have hS1 : Below w.heap.size w (wd.setCell ⟨w.heap.size + 1, 1, none⟩ (.int .i64 ((e1 : Int) + (EE : Int)))) := below_set hS0 (by omega) _
      refine ⟨hS1, ?_⟩
      refine wpAnyH_done (by kernel_rfl) ?_ _
      try simp only [nrm]
      obtain ⟨w7, hw7⟩ : ∃ x, x = wd.setCell ⟨w.heap.size + 1, 1, none⟩ (.int .i64 ((e1 : Int) + (EE : Int))) := ⟨_, rfl⟩
      have h71 := blk_set (j := 1) hd1 (.int .i64 ((e1 : Int) + (EE : Int)))
      have h70 : w7.heap[w.heap.size]? = some (.cells #[.int .i64 0, .int .i64 0, .int .i64 0, .int .i64 0] 106) := by rw [hw7, heap_setCell_far _ _ _ _ _ (by omega)]; exact hd0
      rw [← hw7] at h71 hS1 ⊢
      have hBl : B < w.heap.size := HF.out.flt B (.inr (.inr (.inl rfl)))
      have HR7 : Hid (w7.ranges Tryz.prog KT ptrE B W4.heap.size ks.length DF (fun z => left z && !z.sameKey kl) cnt1) := by show World.ranges _ _ _ _ _ _ _ _ _ _; rw [hw7]; exact World.ranges.kept (row := some (w.heap.size + 1)) HRd ⟨rfl, rfl, rfl, by simp, fun b hb hne => heap_setCell_far _ _ _ _ _ (fun e => hne (by rw [e]))⟩ (fun e => by injection e with e; omega) (fun e => by injection e with e; have := Hl1.out; omega)
      have H71 : Hid (w7.heap[w.heap.size + 1]? = some (.cells (saC N (e1 + EE) m1) 106 (0, 0))) := by
        show _ = _
        unfold saC
        rw [show ((e1 + EE : Nat) : Int) = (e1 : Int) + (EE : Int) by omega]
        simpa [saC] using h71
      have H70 : Hid _ := h70
      have HB7 : Hid (Below w.heap.size w w7) := hS1
      clear h71 h70 hS1 hw7 hd0 hd1 HRd d1 df hS0 g6 H17 H06
      go_upto_region 8 with (fail)
      have HLfN : Hid ((∀ kl', (left kl' && !kl'.sameKey kl) = true → ∃ t', keyT t' kl' ∧ (f t').isSome = true ∧ t' ∉ t :: done) ∧ ∀ t' kl', keyT t' kl' → (f t').isSome = true → t' ∉ t :: done → (left kl' && !kl'.sameKey kl) = true) := by
        refine ⟨fun kl' h => ?_, fun t' kl' hk' hf' hd' => ?_⟩
        · rw [Bool.and_eq_true] at h
          obtain ⟨t', h1, h2, h3⟩ := HLf.out.1 kl' h.1
          refine ⟨t', h1, h2, fun e => ?_⟩
          rcases List.mem_cons.1 e with e | e
          · subst e
            have : kl' = kl := keyT_same h1 Hkt.out
            subst this
            have h4 := h.2
            rw [Bool.not_eq_true'] at h4
            exact absurd (WideAt.sameKey_self (keyT_lit Hkt.out)) (by rw [h4]; simp)
          · exact h3 e
        · have e1 : t' ∉ done := fun e => hd' (by simp [e])
          have e2 : t' ≠ t := fun e => hd' (by simp [e])
          rw [Bool.and_eq_true]
          refine ⟨HLf.out.2 t' kl' hk' hf' e1, ?_⟩
          have hne : kl' ≠ kl := fun e => e2 (keyT_inj hk' (by rw [e]; exact Hkt.out))
          rw [Go.Maps.sameKey_ne hne]; rfl
      refine wp_region_held_drew (S := fun w' => Below w.heap.size w w') (by kernel_rfl) HB7.out.drew (fun hS0 => ?_)
      show wpAnyH _ _ _ _ _ 10 _ _ _
      obtain ⟨wd2, hwd⟩ : ∃ x, x = w7.drew := ⟨_, rfl⟩
      have hd1 : wd2.heap[w.heap.size + 1]? = some (.cells (saC N (e1 + EE) m1) 106 (0, 0)) := by rw [hwd]; exact H71.out
      have hd0 : wd2.heap[w.heap.size]? = some (.cells #[.int .i64 0, .int .i64 0, .int .i64 0, .int .i64 0] 106) := by rw [hwd]; exact H70.out
      have hRd : wd2.ranges Tryz.prog KT ptrE B W4.heap.size ks.length DF (fun z => left z && !z.sameKey kl) cnt1 := by rw [hwd]; exact World.ranges.kept (row := none) HR7.out ⟨rfl, rfl, rfl, Nat.le_refl _, fun b hb _ => rfl⟩ (by simp) (by simp)
      rw [← hwd] at hS0 ⊢
      clear hwd
      refine wpTk (i := 0) (v := .pointer (some ⟨w.heap.size + 1, 3, none⟩)) hS0 ?_
      simp only [nrm]
      refine wpTk (i := 2) (v := .pointer (some ⟨g, 0, none⟩)) hS0 ?_
      simp only [nrm]
      refine wpTk (i := 3) (v := .pointer (some ⟨g, 0, none⟩)) hS0 ?_
      simp only [nrm]
      refine wpTk (i := 4) (v := .pointer (some ⟨g, 5, none⟩)) hS0 ?_
      simp only [nrm]
      refine wpAnyH_take (i := 5) (v := .pointer (some ⟨hh, 0, none⟩)) rfl (by kernel_rfl) (by kernel_rfl) (by kernel_rfl) (fun _ _ _ h => h) (.inl ⟨rfl, fun w' hw' => by have hcc := cell_on1 hw' g5; simp [execOp, go_sem, hcc]⟩) hS0 ?_
      simp only [nrm]
      refine wpAnyH_all (rs := [1, 6]) (by kernel_rfl) (by simp) ?_
      intro i hi
      simp only [mmL] at hi
      rcases hi with rfl | rfl
      · refine wpOp_of_wp rfl rfl (fun K' hK' => ?_)
        have dl : wd2.cell? ⟨w.heap.size + 1, 3, none⟩ = some (.int .i64 m1) := blk_cell hd1 rfl
        go_wp2_with (fail)
        first | refine ⟨hS0, ?_⟩ | refine hK' _ _ ⟨hS0, ?_⟩
        try simp only [nrm]
        refine wpO 6 (fun K' hK' => ?_)
        go_wp2_with (go_at_call 137; refine (HSlo.out _ hS0).mono ?_; rintro e wc1 ⟨rfl, hbc⟩)
        have hSc : Below w.heap.size w wc1 := hS0.trans (hbc.mono hS0.size)
        have hc1 := blk_on hd1 hbc
        have hc0 := blk_on hd0 hbc
        have hRc := World.ranges.kept (row := none) hRd ⟨hbc.os, hbc.tape, hbc.output, hbc.size, fun b hb _ => hbc.block b hb⟩ (by simp) (by simp)
        refine ⟨hSc, ?_⟩
        refine wpTk (i := 7) (v := .int .i64 (max (m1 : Int) (((L t).length : Nat) : Int))) hSc ?_
        simp only [nrm]
        refine wpTk (i := 8) (v := .pointer (some ⟨w.heap.size + 1, 3, none⟩)) hSc ?_
        simp only [nrm]
        have ff := blk_free hc1 3
        have dl9 : wc1.cell? ⟨w.heap.size + 1, 3, none⟩ = some (.int .i64 m1) := blk_cell hc1 rfl
        refine wpO 9 (fun K' hK' => ?_)
        go_wp2_with (fail)
        have hS9 : Below w.heap.size w (wc1.setCell ⟨w.heap.size + 1, 3, none⟩ (.int .i64 (max (m1 : Int) (((L t).length : Nat) : Int)))) := below_set hSc (by omega) _
        refine ⟨hS9, ?_⟩
        refine wpAnyH_done (by kernel_rfl) ?_ _
        try simp only [nrm]
        have h91 := blk_set (j := 3) hc1 (.int .i64 (max (m1 : Int) (((L t).length : Nat) : Int)))
        have h90 : (wc1.setCell ⟨w.heap.size + 1, 3, none⟩ (.int .i64 (max (m1 : Int) (((L t).length : Nat) : Int)))).heap[w.heap.size]? = some (.cells #[.int .i64 0, .int .i64 0, .int .i64 0, .int .i64 0] 106) := by rw [heap_setCell_far _ _ _ _ _ (by omega)]; exact hc0
        have HR9 : Hid ((wc1.setCell ⟨w.heap.size + 1, 3, none⟩ (.int .i64 (max (m1 : Int) (((L t).length : Nat) : Int)))).ranges Tryz.prog KT ptrE B W4.heap.size ks.length DF (fun z => left z && !z.sameKey kl) cnt1) := World.ranges.kept (row := some (w.heap.size + 1)) hRc ⟨rfl, rfl, rfl, by simp, fun b hb hne => heap_setCell_far _ _ _ _ _ (fun e => hne (by rw [e]))⟩ (fun e => by injection e with e; omega) (fun e => by injection e with e; have := Hl1.out; omega)
        generalize wc1.setCell ⟨w.heap.size + 1, 3, none⟩ (.int .i64 (max (m1 : Int) (((L t).length : Nat) : Int))) = w9 at *
        have HS9 : Hid _ := hS9
        have H91 : Hid _ := h91
        have H90 : Hid _ := h90
        clear hS9 h91 h90
        go_wp2_with (fail)
        refine ⟨⟨_, _, t :: done, HR9.out, ⟨List.nodup_cons.2 ⟨Htd.out, HDn.out.1⟩, fun s hs => ?_⟩, HLfN.out, H90.out, ?_, HS9.out⟩, ?_⟩
        · rcases List.mem_cons.1 hs with rfl | hs
          · exact Hft.out
          · exact HDn.out.2 s hs
        · show _ = _
          have h1 := H91.out
          have e9 : maxS L (t :: done) = max (L t).length m1 := by rw [Hm1.out]; rfl
          rw [List.map_cons, List.sum_cons, ← HEE.out, ← He1.out, e9]
          unfold saC at h1 ⊢
          rw [show ((EE + e1 : Nat) : Int) = ((e1 + EE : Nat) : Int) by omega, show ((max (L t).length m1 : Nat) : Int) = max (m1 : Int) (((L t).length : Nat) : Int) by omega]
          simpa using h1
        · rw [World.ranges.left_eq HR9.out, World.ranges.left_eq HR.out]; exact HLt.out
      · refine wpOp_of_wp rfl rfl (fun K' hK' => ?_)
        go_wp2_with (go_at_call 137; refine (HSlo.out _ hS0).mono ?_; rintro e wc1 ⟨rfl, hbc⟩)
        have hSc : Below w.heap.size w wc1 := hS0.trans (hbc.mono hS0.size)
        have hc1 := blk_on hd1 hbc
        have hc0 := blk_on hd0 hbc
        have hRc := World.ranges.kept (row := none) hRd ⟨hbc.os, hbc.tape, hbc.output, hbc.size, fun b hb _ => hbc.block b hb⟩ (by simp) (by simp)
        refine ⟨hSc, ?_⟩
        have dl : wc1.cell? ⟨w.heap.size + 1, 3, none⟩ = some (.int .i64 m1) := blk_cell hc1 rfl
        refine wpO 1 (fun K' hK' => ?_)
        go_wp2_with (fail)
        first | refine ⟨hSc, ?_⟩ | refine hK' _ _ ⟨hSc, ?_⟩
        try simp only [nrm]
        refine wpTk (i := 7) (v := .int .i64 (max (m1 : Int) (((L t).length : Nat) : Int))) hSc ?_
        simp only [nrm]
        refine wpTk (i := 8) (v := .pointer (some ⟨w.heap.size + 1, 3, none⟩)) hSc ?_
        simp only [nrm]
        have ff := blk_free hc1 3
        have dl9 : wc1.cell? ⟨w.heap.size + 1, 3, none⟩ = some (.int .i64 m1) := blk_cell hc1 rfl
        refine wpO 9 (fun K' hK' => ?_)
        go_wp2_with (fail)
        have hS9 : Below w.heap.size w (wc1.setCell ⟨w.heap.size + 1, 3, none⟩ (.int .i64 (max (m1 : Int) (((L t).length : Nat) : Int)))) := below_set hSc (by omega) _
        refine ⟨hS9, ?_⟩
        refine wpAnyH_done (by kernel_rfl) ?_ _
        try simp only [nrm]
        have h91 := blk_set (j := 3) hc1 (.int .i64 (max (m1 : Int) (((L t).length : Nat) : Int)))
        have h90 : (wc1.setCell ⟨w.heap.size + 1, 3, none⟩ (.int .i64 (max (m1 : Int) (((L t).length : Nat) : Int)))).heap[w.heap.size]? = some (.cells #[.int .i64 0, .int .i64 0, .int .i64 0, .int .i64 0] 106) := by rw [heap_setCell_far _ _ _ _ _ (by omega)]; exact hc0
        have HR9 : Hid ((wc1.setCell ⟨w.heap.size + 1, 3, none⟩ (.int .i64 (max (m1 : Int) (((L t).length : Nat) : Int)))).ranges Tryz.prog KT ptrE B W4.heap.size ks.length DF (fun z => left z && !z.sameKey kl) cnt1) := World.ranges.kept (row := some (w.heap.size + 1)) hRc ⟨rfl, rfl, rfl, by simp, fun b hb hne => heap_setCell_far _ _ _ _ _ (fun e => hne (by rw [e]))⟩ (fun e => by injection e with e; omega) (fun e => by injection e with e; have := Hl1.out; omega)
        generalize wc1.setCell ⟨w.heap.size + 1, 3, none⟩ (.int .i64 (max (m1 : Int) (((L t).length : Nat) : Int))) = w9 at *
        have HS9 : Hid _ := hS9
        have H91 : Hid _ := h91
        have H90 : Hid _ := h90
        clear hS9 h91 h90
        go_wp2_with (fail)
        refine ⟨⟨_, _, t :: done, HR9.out, ⟨List.nodup_cons.2 ⟨Htd.out, HDn.out.1⟩, fun s hs => ?_⟩, HLfN.out, H90.out, ?_, HS9.out⟩, ?_⟩
        · rcases List.mem_cons.1 hs with rfl | hs
          · exact Hft.out
          · exact HDn.out.2 s hs
        · show _ = _
          have h1 := H91.out
          have e9 : maxS L (t :: done) = max (L t).length m1 := by rw [Hm1.out]; rfl
          rw [List.map_cons, List.sum_cons, ← HEE.out, ← He1.out, e9]
          unfold saC at h1 ⊢
          rw [show ((EE + e1 : Nat) : Int) = ((e1 + EE : Nat) : Int) by omega, show ((max (L t).length m1 : Nat) : Int) = max (m1 : Int) (((L t).length : Nat) : Int) by omega]
          simpa using h1
        · rw [World.ranges.left_eq HR9.out, World.ranges.left_eq HR.out]; exact HLt.out
end Go.Proofs.YtfpmljgmfapoiaaGreat
/-
  New.
-/
namespace Go.Proofs.YtfpmljgmfapoiaaGreat
open Go.RowKit
set_option linter.unusedVariables false
set_option linter.unusedSimpArgs false

theorem makeMapC (w : World) : (Instr.makeMap 70 none).run Tryz.prog w = .ok (.map (some w.heap.size)) (w.alloc (.map #[] 0)) := by
  simp [Instr.makeMap, Tryz.runUnderlying70]
theorem newSpaceC (w : World) : Calls Tryz.prog 16 #[] w fun e w' => e = .returned (.agg #[.map (some (w.heap.size + 1)), .slice none 0 0]) ∧ Mp w' (w.heap.size + 1) 0 (fun _ => none) [] ∧ Below w.heap.size w w' ∧ w'.heap.size = w.heap.size + 2 := by
  have hmm := makeMapC (w.alloc (.cells #[.map none, .slice none 0 0] 73))
  go_enter Tryz.func16, Tryz.ntmps16
  go_wp2_with (fail)
  refine bodyPost_ret (v := .agg #[.map (some (w.heap.size + 1)), .slice none 0 0]) (by simp [results, Tryz.results16, go_sem]) rfl ⟨rfl, ?_, ?_, by simp⟩
  · have := Mp.new (w.alloc (.cells #[.map (some (w.heap.size + 1)), .slice none 0 0] 73))
    simpa using this
  · exact ((Below.refl _ _).alloc (Nat.le_refl _) _).alloc (by simp) _
theorem gs_none (w : World) (A : Tp → Hx.Hd → List Int) (N : Tp → Nat) (L : Tp → List Hx.SlI) (S : Tp → Nat → Prop) : Gs w (fun _ => none) A N L S := by
  constructor <;> simp
theorem spc_new {w : World} {X : Nat} {c0 c1 c2 : Value} (B : Nat) (h : w.heap[X]? = some (.cells #[c0, c1, c2, .map (some B), .slice none 0 0] 76 (0, 0))) (hm : Mp w B 0 (fun _ => none) []) (hX : B ≠ X) : Spc w X B c0 c1 c2 none 0 0 [] (fun _ => none) [] (fun _ => []) (fun _ _ => False) := by
  refine ⟨h, hm, gs_none _ _ _ _ _, fun t => by simp [ent, allS], fun t ht => (by cases ht), hX, ?_, by simp [Value.ownBlock], by simp [Value.ownBlock]⟩
  exact RowV.nil _ _
set_option maxHeartbeats 1000000 in
theorem newE (c : Cf) (o : BdC c) (h : okC c = true) (w : World) : Calls Tryz.prog 8 #[.agg #[.int .i64 c.m, .int .i64 c.a, .int .i64 c.p, .int .i64 c.g, .int .i64 c.t, .int .i64 c.b, .int .i64 c.d]] w fun e w' =>
    ∃ X : Nat, e = .returned (.tuple #[.pointer (some ⟨X, 0, none⟩), .int .i64 0]) ∧ Eng w' X c [] (fun _ => []) (fun k => w.heap.size ≤ k ∧ k < X) ∧ w.heap.size ≤ X ∧ Below w.heap.size w w' := by
  have hC := newOk c o h (w.alloc (.cells #[.int .i64 c.m, .int .i64 c.a, .int .i64 c.p, .int .i64 c.g, .int .i64 c.t, .int .i64 c.b, .int .i64 c.d] 24))
  clear h o
  go_enter Tryz.func8, Tryz.ntmps8
  go_wp2_with (go_at_call 15; fail)
  refine hC.mono ?_
  rintro e w1 ⟨t, rfl, hT1, ht1, hb1⟩
  have HB1 : Hid (Below w.heap.size w w1) := ((Below.refl _ _).alloc (Nat.le_refl _) _).trans (hb1.mono (by simp))
  have HT1 : Hid (Tab w1 t (.slice none 0 0) c.m c.a []) := hT1
  have Ht1 : Hid (w.heap.size < t) := by simp at ht1; show _ < _; omega
  have x1 : w1.cell? ⟨w.heap.size, 1, none⟩ = some (.int .i64 c.a) := cell_on1 hb1 (blk_cell (blk_new w _) rfl)
  have x2 : w1.cell? ⟨w.heap.size, 4, none⟩ = some (.int .i64 c.t) := cell_on1 hb1 (blk_cell (blk_new w _) rfl)
  clear hb1 hC hT1 ht1
  go_wp2_with (fail)
  refine wp_region_held_drew (S := fun w' => Below w1.heap.size w1 w') (by kernel_rfl) (Below.drew (Below.refl _ _)) (fun hS0 => ?_)
  show wpAnyH _ _ _ _ _ 10 _ _ _
  refine wpTk (i := 0) (v := .pointer (some ⟨t, 0, none⟩)) hS0 ?_
  simp only [nrm]
  refine wpTk (i := 1) (v := .pointer (some ⟨w.heap.size, 1, none⟩)) hS0 ?_
  simp only [nrm]
  refine wpAnyH_take (i := 2) (v := .int .i64 c.a) rfl (by kernel_rfl) (by kernel_rfl) (by kernel_rfl) (fun _ _ _ h => h) (.inl ⟨rfl, fun w' hw' => by have hcc := cell_on1 hw' x1; simp [execOp, go_sem, hcc]⟩) hS0 ?_
  simp only [nrm]
  refine wpTk (i := 3) (v := .pointer (some ⟨w.heap.size, 4, none⟩)) hS0 ?_
  simp only [nrm]
  refine wpAnyH_take (i := 4) (v := .int .i64 c.t) rfl (by kernel_rfl) (by kernel_rfl) (by kernel_rfl) (fun _ _ _ h => h) (.inl ⟨rfl, fun w' hw' => by have hcc := cell_on1 hw' x2; simp [execOp, go_sem, hcc]⟩) hS0 ?_
  simp only [nrm]
  clear x1 x2
  refine wpO 5 (fun K' hK' => ?_)
  go_wp2_with (go_at_call 16; refine (newSpaceC _).mono ?_; rintro e w2 ⟨rfl, hm2, hb2, hz2⟩)
  have hS2 : Below w1.heap.size w1 w2 := (Below.drew (Below.refl _ _)).trans hb2
  have HB : Hid (w1.heap.size + 1 < w2.heap.size ∧ Mp w2 (w1.heap.size + 1) 0 (fun _ => none) []) := ⟨by have : w1.drew.heap.size = w1.heap.size := rfl; omega, hm2⟩
  clear hb2 hz2 hm2
  refine ⟨hS2, ?_⟩
  refine wpTk (i := 6) (v := .agg #[.pointer (some ⟨t, 0, none⟩), .int .i64 c.a, .int .i64 c.t, .map (some (w1.heap.size + 1)), .slice none 0 0]) hS2 ?_
  simp only [nrm]
  refine wpO 7 (fun K' hK' => ?_)
  go_wp2_with (fail)
  have hb3 : Below w2.heap.size w2 (w2.alloc (.cells #[.pointer (some ⟨t, 0, none⟩), .int .i64 c.a, .int .i64 c.t, .map (some (w1.heap.size + 1)), .slice none 0 0] 76)) := (Below.refl _ _).alloc (Nat.le_refl _) _
  have hS3 := hS2.trans (hb3.mono hS2.size)
  refine ⟨hS3, ?_⟩
  refine wpTk (i := 8) (v := .pointer (some ⟨w2.heap.size, 0, none⟩)) hS3 ?_
  simp only [nrm]
  refine wpTk (i := 9) (v := .int .i64 0) hS3 ?_
  simp only [nrm]
  refine wpAnyH_done (by kernel_rfl) ?_ _
  try simp only [nrm]
  have HS3 : Hid _ := hS3
  have HS2 : Hid _ := hS2
  have Hb3 : Hid _ := hb3
  clear hS3 hS2 hb3 hS0
  go_wp2_with (fail)
  refine bodyPost_ret (v := .tuple #[.pointer (some ⟨w2.heap.size, 0, none⟩), .int .i64 0]) (by simp [results, Tryz.results8, go_sem]) rfl ?_
  have hz1 := HB1.out.size
  have hl1 := HT1.out.lt
  have hl2 := HS2.out.size
  obtain ⟨hB2, hm⟩ := HB.out
  refine ⟨_, rfl, ⟨⟨t, .slice none 0 0, w1.heap.size + 1, none, 0, 0, fun _ => none, [], fun _ _ => False, ⟨(HT1.out.on HS2.out).on Hb3.out, spc_new (w1.heap.size + 1) (blk_new w2 _) (hm.on Hb3.out) (by omega), ?_⟩, ?_⟩, OkN.nil, by simp, by omega⟩, by omega, HB1.out.trans (HS3.out.mono hz1)⟩
  · rintro k (rfl | e | ⟨s, e, _⟩)
    · exact ⟨by omega, by simp [Value.ownBlock]⟩
    · simp [Value.ownBlock] at e
    · cases e
  · have := Ht1.out
    rintro k (rfl | e | rfl | e | ⟨s, e, _⟩)
    · exact ⟨Nat.le_of_lt this, by omega⟩
    · simp [Value.ownBlock] at e
    · exact ⟨by omega, by omega⟩
    · simp [Value.ownBlock] at e
    · cases e
end Go.Proofs.YtfpmljgmfapoiaaGreat
/-
  change: another table with the same rules is changed, and taken if there is room. Written by tools/mkTpC.py.
-/
namespace Go.Proofs.YtfpmljgmfapoiaaGreat
open Go.RowKit
set_option linter.unusedVariables false
set_option linter.unusedSimpArgs false

def roomE (c : Cf) (l : List Ru) : Int := if c.t < (tupL l : Nat) then 190 else 0
def pinE (c : Cf) (l : List Ru) (p : Int) (R : Ru) : Int := if insE l c.m p R = 0 then roomE c (putL l p.toNat R) else insE l c.m p R
def pinL (c : Cf) (l : List Ru) (p : Int) (R : Ru) : List Ru := if pinE c l p R = 0 then putL l p.toNat R else l
def psetE (c : Cf) (m : List Ru) : Int := if setE m c.m = 0 then roomE c m else setE m c.m
def psetL (c : Cf) (m l : List Ru) : List Ru := if psetE c m = 0 then m else l
set_option maxHeartbeats 1000000 in
theorem set1C (b t : Nat) (v : Value) (M A : Int) (l0 l : List Ru) (ad : Option Addr) (n cap : Nat) (w : World) (hb : w.heap[b]? = some (.cells #[.slice ad n cap] 42 (0, 0))) (hT : Tab w t v M A l0) (hs : SrcU w (.slice ad n cap) l) (hl : l.length ≤ 200000) (hM : I64 M) (hbd : ∀ R ∈ l, BdR R) :
    Calls Tryz.prog 135 #[.pointer (some ⟨t, 0, none⟩), .pointer (some ⟨b, 0, none⟩)] w fun e w' => e = .returned (.int .i64 (setE l M)) ∧ ∃ v', Tab w' t v' M A (if setE l M = 0 then l else l0) ∧ Moved w w' t v v' := by
  have hS := setC t v M A l0 (.slice ad n cap) l w hT hs hl hM (fun k hk => hbd _ (List.getElem_mem hk))
  obtain ⟨E, hE⟩ : ∃ E, E = setE l M := ⟨_, rfl⟩
  rw [← hE] at hS ⊢
  obtain ⟨L, hL⟩ : ∃ L, L = (if E = 0 then l else l0) := ⟨_, rfl⟩
  rw [← hL] at hS ⊢
  clear hE hL
  have c0 := blk_cell hb (j := 0) rfl
  clear hb hT hs hl hM hbd
  go_enter Tryz.func135, Tryz.ntmps135
  go_wp2_with (go_at_call 136; fail)
  refine hS.mono ?_
  rintro e w1 ⟨rfl, q⟩
  have Q : Hid _ := q
  clear q c0 hS
  go_wp2_with (fail)
  go_ret
  exact ⟨rfl, Q.out⟩
set_option maxHeartbeats 1000000 in
theorem insert1C (b1 b2 t : Nat) (v : Value) (M A : Int) (l : List Ru) (p : Int) (R : Ru) (w : World) (h1 : w.heap[b1]? = some (.cells #[.int .i64 p] 3 (0, 0))) (h2 : w.heap[b2]? = some (.cells #[.int .i64 R.i, .int .u32 R.s, .int .i64 R.sl, .int .u32 R.d, .int .i64 R.dl, .int .u16 R.p.1, .int .u16 R.p.2, .int .u16 R.q.1, .int .u16 R.q.2, .int .u8 R.m.1, .int .u8 R.m.2, .int .i64 R.act] 52 (0, 0))) (hT : Tab w t v M A l) (hl : l.length ≤ 200000) (hb : BdR R) (hM : I64 M) :
    Calls Tryz.prog 29 #[.pointer (some ⟨t, 0, none⟩), .pointer (some ⟨b1, 0, none⟩), .pointer (some ⟨b2, 0, none⟩)] w fun e w' => e = .returned (.int .i64 (insE l M p R)) ∧ ∃ v', Tab w' t v' M A (insL l M p R) ∧ Moved w w' t v v' := by
  have hS := insertC t v M A l p R w hT hl hb hM
  obtain ⟨E, hE⟩ : ∃ E, E = insE l M p R := ⟨_, rfl⟩
  obtain ⟨L, hL⟩ : ∃ L, L = insL l M p R := ⟨_, rfl⟩
  rw [← hE, ← hL] at hS ⊢
  clear hE hL
  have c0 := blk_cell h1 (j := 0) rfl
  obtain ⟨y0, y1, y2, y3, y4, y5, y6, y7, y8, y9, y10, y11⟩ := blk12 h2
  clear h1 h2 hT hl hb hM
  go_enter Tryz.func29, Tryz.ntmps29
  go_wp2_with (go_at_call 30; fail)
  refine hS.mono ?_
  rintro e w1 ⟨rfl, q⟩
  have Q : Hid _ := q
  clear q c0 hS y0 y1 y2 y3 y4 y5 y6 y7 y8 y9 y10 y11
  go_wp2_with (fail)
  go_ret
  exact ⟨rfl, Q.out⟩
/-- What change does. -/
structure Took (w w' : World) (X : Nat) (c : Cf) (c1 c2 c3 c4 : Value) (l' : List Ru) : Prop where
  tab : ∃ t1 v1, Tab w' t1 v1 c.m c.a l' ∧ w.heap.size ≤ t1 ∧ (∀ k, v1.ownBlock = some k → w.heap.size ≤ k) ∧ w'.heap[X]? = some (.cells #[.pointer (some ⟨t1, 0, none⟩), c1, c2, c3, c4] 76 (0, 0))
  chg : Chg w w' (fun k => k = X)
set_option maxHeartbeats 4000000 in
set_option maxRecDepth 20000 in
theorem changeS (X t : Nat) (v c1 c3 c4 : Value) (c : Cf) (l l' : List Ru) (E : Int) (b : Nat) (w : World) (hX : w.heap[X]? = some (.cells #[.pointer (some ⟨t, 0, none⟩), c1, .int .i64 c.t, c3, c4] 76 (0, 0))) (hT : Tab w t v c.m c.a l) (hl : l.length ≤ 64)
    (hby : ∀ W t1 v1, Below w.heap.size w W → Tab W t1 v1 c.m c.a l → Calls Tryz.prog 135 #[.pointer (some ⟨t1, 0, none⟩), .pointer (some ⟨b, 0, none⟩)] W fun e w' => e = .returned (.int .i64 E) ∧ ∃ v', (E = 0 → Tab w' t1 v' c.m c.a l') ∧ Moved W w' t1 v1 v') (hok : E = 0 → OkN l' ∧ ∀ R ∈ l', BdR R) :
    Calls Tryz.prog 28 #[.pointer (some ⟨X, 0, none⟩), .func (.func 135) #[] #[.pointer (some ⟨b, 0, none⟩)]] w fun e w' => ∃ E2 : Int, e = .returned (.int .i64 E2) ∧ E2 = (if E = 0 then roomE c l' else E) ∧ (E2 ≠ 0 → Below w.heap.size w w') ∧ (E2 = 0 → Took w w' X c c1 (.int .i64 c.t) c3 c4 l') := by
  have hXl := blk_lt hX
  have HX : Hid _ := hX
  have hC := cloneC t v c.m c.a l w hT (Nat.le_trans hl (by decide))
  have HBy : Hid _ := hby
  have HOk : Hid (E = 0 → OkN l' ∧ ∀ R ∈ l', BdR R) := hok
  have c0 := blk_cell hX (j := 0) rfl
  clear hX hT hl hby hok
  go_enter Tryz.func28, Tryz.ntmps28
  go_wp2_with (go_at_call 43; fail)
  refine hC.mono ?_
  rintro e w1 ⟨t1, v1, rfl, hT1, ht1, hv1, hb1⟩
  have HB1 : Hid (Below w.heap.size w w1) := hb1
  have Ht1 : Hid (w.heap.size ≤ t1) := ht1
  have Hv1 : Hid (∀ k, v1.ownBlock = some k → w.heap.size ≤ k) := hv1
  have hI := HBy.out w1 t1 v1 hb1 hT1
  clear hT1 ht1 hv1 hb1 hC c0 HBy
  go_wp2_with (go_at_call 135; fail)
  refine hI.mono ?_
  rintro e w2 ⟨rfl, v2, hT2, hm2⟩
  have HB2 : Hid (Below w.heap.size w w2) := hm2.below' HB1.out HB1.out.size Ht1.out Hv1.out
  have Hv2 : Hid (∀ k, v2.ownBlock = some k → w.heap.size ≤ k) := hm2.ge HB1.out.size Hv1.out
  have HT2 : Hid (E = 0 → Tab w2 t1 v2 c.m c.a l') := hT2
  clear hT2 hm2 hI
  by_cases h0 : E = 0
  · have hT3 := HT2.out h0
    obtain ⟨hok, hbd⟩ := HOk.out h0
    have HT3 : Hid (Tab w2 t1 v2 c.m c.a l') := hT3
    have hR := rulesC t1 v2 c.m c.a l' w2 hT3 (Nat.le_trans hok.few (by decide))
    have Hok : Hid (OkN l') := hok
    have Hbd : Hid (∀ R ∈ l', BdR R) := hbd
    subst h0
    clear hT3 hok hbd HT2 HOk
    go_wp2_with (go_at_call 32; fail)
    refine hR.mono ?_
    rintro e w3 ⟨u, rfl, hr3, hb3⟩
    have HB3 : Hid (Below w.heap.size w w3) := HB2.out.trans (hb3.mono HB2.out.size)
    have HT4 : Hid (Tab w3 t1 v2 c.m c.a l') := HT3.out.on hb3
    have hP := tupleC l' u w3 hr3.src (Nat.le_trans Hok.out.few (by decide)) Hbd.out
    obtain ⟨au, cu, rfl, _⟩ := hr3.form
    clear hr3 hb3 hR
    go_wp2_with (go_at_call 44; fail)
    refine hP.mono ?_
    rintro e w4 ⟨rfl, hb4⟩
    have HB4 : Hid (Below w.heap.size w w4) := HB3.out.trans (hb4.mono HB3.out.size)
    have HT5 : Hid (Tab w4 t1 v2 c.m c.a l') := HT4.out.on hb4
    have hX4 := blk_on HX.out HB4.out
    have c2 := blk_cell hX4 (j := 2) rfl
    have c0 := blk_cell hX4 (j := 0) rfl
    have fr := blk_free hX4 0
    have HX4 : Hid _ := hX4
    clear hX4 hb4 hP
    obtain ⟨z, hz⟩ : ∃ z : Int, z = ((tupL l' : Nat) : Int) := ⟨_, rfl⟩
    have Hz : Hid (roomE c l' = if c.t < z then 190 else 0) := by rw [hz]; exact rfl
    rw [← hz]
    clear hz
    by_cases hr : c.t < z
    · have Hr : Hid (roomE c l' = 190) := by show _ = _; rw [Hz.out, if_pos hr]
      clear Hz
      go_wp2_with (fail)
      go_ret
      exact ⟨190, rfl, by simp [Hr.out], fun _ => HB4.out, fun e => by simp at e⟩
    · have Hr : Hid (roomE c l' = 0) := by show _ = _; rw [Hz.out, if_neg hr]
      clear Hz
      go_wp2_with (fail)
      go_ret
      have hs := blk_set (j := 0) HX4.out (.pointer (some ⟨t1, 0, none⟩))
      have hz := HB4.out.size
      have hfar : ∀ b, b ≠ X → (w4.setCell ⟨X, 0, none⟩ (.pointer (some ⟨t1, 0, none⟩))).heap[b]? = w4.heap[b]? := fun b e => heap_setCell_far _ _ _ _ _ e
      refine ⟨0, rfl, by simp [Hr.out], fun e => absurd rfl e, fun _ => ⟨⟨t1, v2, tab_stay HT5.out (hfar t1 (by have := Ht1.out; omega)) (fun k e => hfar k (by have := Hv2.out k e; omega)), Ht1.out, Hv2.out, by simpa using hs⟩, ⟨HB4.out.os, HB4.out.tape, HB4.out.output, by simpa using hz, fun k hk e => ?_⟩⟩⟩
      rw [hfar k e, HB4.out.block k hk]
  · clear HT2 HOk
    go_wp2_with (fail)
    go_ret
    exact ⟨E, rfl, rfl, fun _ => HB2.out, fun e => absurd e h0⟩
set_option maxHeartbeats 4000000 in
set_option maxRecDepth 20000 in
theorem changeI (X t : Nat) (v c1 c3 c4 : Value) (c : Cf) (l l' : List Ru) (E : Int) (b1 b2 : Nat) (w : World) (hX : w.heap[X]? = some (.cells #[.pointer (some ⟨t, 0, none⟩), c1, .int .i64 c.t, c3, c4] 76 (0, 0))) (hT : Tab w t v c.m c.a l) (hl : l.length ≤ 64)
    (hby : ∀ W t1 v1, Below w.heap.size w W → Tab W t1 v1 c.m c.a l → Calls Tryz.prog 29 #[.pointer (some ⟨t1, 0, none⟩), .pointer (some ⟨b1, 0, none⟩), .pointer (some ⟨b2, 0, none⟩)] W fun e w' => e = .returned (.int .i64 E) ∧ ∃ v', (E = 0 → Tab w' t1 v' c.m c.a l') ∧ Moved W w' t1 v1 v') (hok : E = 0 → OkN l' ∧ ∀ R ∈ l', BdR R) :
    Calls Tryz.prog 28 #[.pointer (some ⟨X, 0, none⟩), .func (.func 29) #[] #[.pointer (some ⟨b1, 0, none⟩), .pointer (some ⟨b2, 0, none⟩)]] w fun e w' => ∃ E2 : Int, e = .returned (.int .i64 E2) ∧ E2 = (if E = 0 then roomE c l' else E) ∧ (E2 ≠ 0 → Below w.heap.size w w') ∧ (E2 = 0 → Took w w' X c c1 (.int .i64 c.t) c3 c4 l') := by
  have hXl := blk_lt hX
  have HX : Hid _ := hX
  have hC := cloneC t v c.m c.a l w hT (Nat.le_trans hl (by decide))
  have HBy : Hid _ := hby
  have HOk : Hid (E = 0 → OkN l' ∧ ∀ R ∈ l', BdR R) := hok
  have c0 := blk_cell hX (j := 0) rfl
  clear hX hT hl hby hok
  go_enter Tryz.func28, Tryz.ntmps28
  go_wp2_with (go_at_call 43; fail)
  refine hC.mono ?_
  rintro e w1 ⟨t1, v1, rfl, hT1, ht1, hv1, hb1⟩
  have HB1 : Hid (Below w.heap.size w w1) := hb1
  have Ht1 : Hid (w.heap.size ≤ t1) := ht1
  have Hv1 : Hid (∀ k, v1.ownBlock = some k → w.heap.size ≤ k) := hv1
  have hI := HBy.out w1 t1 v1 hb1 hT1
  clear hT1 ht1 hv1 hb1 hC c0 HBy
  go_wp2_with (go_at_call 29; fail)
  refine hI.mono ?_
  rintro e w2 ⟨rfl, v2, hT2, hm2⟩
  have HB2 : Hid (Below w.heap.size w w2) := hm2.below' HB1.out HB1.out.size Ht1.out Hv1.out
  have Hv2 : Hid (∀ k, v2.ownBlock = some k → w.heap.size ≤ k) := hm2.ge HB1.out.size Hv1.out
  have HT2 : Hid (E = 0 → Tab w2 t1 v2 c.m c.a l') := hT2
  clear hT2 hm2 hI
  by_cases h0 : E = 0
  · have hT3 := HT2.out h0
    obtain ⟨hok, hbd⟩ := HOk.out h0
    have HT3 : Hid (Tab w2 t1 v2 c.m c.a l') := hT3
    have hR := rulesC t1 v2 c.m c.a l' w2 hT3 (Nat.le_trans hok.few (by decide))
    have Hok : Hid (OkN l') := hok
    have Hbd : Hid (∀ R ∈ l', BdR R) := hbd
    subst h0
    clear hT3 hok hbd HT2 HOk
    go_wp2_with (go_at_call 32; fail)
    refine hR.mono ?_
    rintro e w3 ⟨u, rfl, hr3, hb3⟩
    have HB3 : Hid (Below w.heap.size w w3) := HB2.out.trans (hb3.mono HB2.out.size)
    have HT4 : Hid (Tab w3 t1 v2 c.m c.a l') := HT3.out.on hb3
    have hP := tupleC l' u w3 hr3.src (Nat.le_trans Hok.out.few (by decide)) Hbd.out
    obtain ⟨au, cu, rfl, _⟩ := hr3.form
    clear hr3 hb3 hR
    go_wp2_with (go_at_call 44; fail)
    refine hP.mono ?_
    rintro e w4 ⟨rfl, hb4⟩
    have HB4 : Hid (Below w.heap.size w w4) := HB3.out.trans (hb4.mono HB3.out.size)
    have HT5 : Hid (Tab w4 t1 v2 c.m c.a l') := HT4.out.on hb4
    have hX4 := blk_on HX.out HB4.out
    have c2 := blk_cell hX4 (j := 2) rfl
    have c0 := blk_cell hX4 (j := 0) rfl
    have fr := blk_free hX4 0
    have HX4 : Hid _ := hX4
    clear hX4 hb4 hP
    obtain ⟨z, hz⟩ : ∃ z : Int, z = ((tupL l' : Nat) : Int) := ⟨_, rfl⟩
    have Hz : Hid (roomE c l' = if c.t < z then 190 else 0) := by rw [hz]; exact rfl
    rw [← hz]
    clear hz
    by_cases hr : c.t < z
    · have Hr : Hid (roomE c l' = 190) := by show _ = _; rw [Hz.out, if_pos hr]
      clear Hz
      go_wp2_with (fail)
      go_ret
      exact ⟨190, rfl, by simp [Hr.out], fun _ => HB4.out, fun e => by simp at e⟩
    · have Hr : Hid (roomE c l' = 0) := by show _ = _; rw [Hz.out, if_neg hr]
      clear Hz
      go_wp2_with (fail)
      go_ret
      have hs := blk_set (j := 0) HX4.out (.pointer (some ⟨t1, 0, none⟩))
      have hz := HB4.out.size
      have hfar : ∀ b, b ≠ X → (w4.setCell ⟨X, 0, none⟩ (.pointer (some ⟨t1, 0, none⟩))).heap[b]? = w4.heap[b]? := fun b e => heap_setCell_far _ _ _ _ _ e
      refine ⟨0, rfl, by simp [Hr.out], fun e => absurd rfl e, fun _ => ⟨⟨t1, v2, tab_stay HT5.out (hfar t1 (by have := Ht1.out; omega)) (fun k e => hfar k (by have := Hv2.out k e; omega)), Ht1.out, Hv2.out, by simpa using hs⟩, ⟨HB4.out.os, HB4.out.tape, HB4.out.output, by simpa using hz, fun k hk e => ?_⟩⟩⟩
      rw [hfar k e, HB4.out.block k hk]
  · clear HT2 HOk
    go_wp2_with (fail)
    go_ret
    exact ⟨E, rfl, rfl, fun _ => HB2.out, fun e => absurd e h0⟩
end Go.Proofs.YtfpmljgmfapoiaaGreat
/-
  What stands in the tables that a change leaves alone.
-/
namespace Go.Proofs.YtfpmljgmfapoiaaGreat
open Go.RowKit
set_option linter.unusedVariables false
set_option linter.unusedSimpArgs false

theorem con_app (A B : List ((Tp × Hx.Hd) × Int)) (t : Tp) (k : Hx.Hd) : con (A ++ B) t k = con A t k ++ con B t k := by
  unfold con; simp
theorem ent_app (A B : List ((Tp × Hx.Hd) × Int)) (t : Tp) : ent (A ++ B) t = ent A t + ent B t := by
  unfold ent; simp
theorem allS_app (l m : List Ru) : allS (l ++ m) = allS l ++ allS m := by
  unfold allS; simp
theorem con_none {l : List Ru} {t : Tp} (h : ¬ ∃ R ∈ l, t ∈ tpR R) : con (allS l) t = fun _ => [] := by
  funext k
  refine con_nil.2 fun R hR hm => h ⟨R, hR, List.mem_map.2 ⟨_, hm, rfl⟩⟩
theorem ent_none {l : List Ru} {t : Tp} (h : ¬ ∃ R ∈ l, t ∈ tpR R) : ent (allS l) t = 0 := by
  rcases Nat.eq_zero_or_pos (ent (allS l) t) with e | e
  · exact e
  · exact absurd (ent_all.1 e) h
theorem set_same {m : List Ru} {t : Tp} (h : ¬ ∃ R ∈ m, t ∈ tpR R) : con (allS []) t = con (allS m) t ∧ ent (allS []) t = ent (allS m) t := by
  rw [con_none h, ent_none h]
  exact ⟨con_none (by simp), ent_none (by simp)⟩
theorem mid_same (l1 l2 : List Ru) (R : Ru) {t : Tp} (h : t ∉ tpR R) : con (allS (l1 ++ R :: l2)) t = con (allS (l1 ++ l2)) t ∧ ent (allS (l1 ++ R :: l2)) t = ent (allS (l1 ++ l2)) t := by
  have hn : ¬ ∃ S ∈ [R], t ∈ tpR S := by simpa using h
  have e : l1 ++ R :: l2 = l1 ++ ([R] ++ l2) := rfl
  constructor
  · funext k
    rw [e, allS_app, allS_app, con_app, con_app, allS_app, con_app, con_none hn]; simp
  · rw [e, allS_app, allS_app, ent_app, ent_app, allS_app, ent_app, ent_none hn]; simp
theorem put_same (l : List Ru) (p : Nat) (R : Ru) {t : Tp} (h : t ∉ tpR R) : con (allS l) t = con (allS (putL l p R)) t ∧ ent (allS l) t = ent (allS (putL l p R)) t := by
  have := mid_same (l.take p) (l.drop p) R h
  rw [List.take_append_drop] at this
  exact ⟨this.1.symm, this.2.symm⟩
theorem out_same (l : List Ru) (k : Nat) (hk : k < l.length) {t : Tp} (h : t ∉ tpR (l[k]'hk)) : con (allS l) t = con (allS (outL l k)) t ∧ ent (allS l) t = ent (allS (outL l k)) t := by
  have := mid_same (l.take k) (l.drop (k + 1)) (l[k]'hk) h
  rw [List.getElem_cons_drop, List.take_append_drop] at this
  exact this
end Go.Proofs.YtfpmljgmfapoiaaGreat
