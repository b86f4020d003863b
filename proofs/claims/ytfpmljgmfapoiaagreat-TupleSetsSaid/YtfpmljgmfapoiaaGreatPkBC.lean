/-
  PkBC: TpOd, one behind the other (tools/pack.py).
-/
import Derived.Test.YtfpmljgmfapoiaaGreatPkBB
import Derived.Test.YtfpmljgmfapoiaaGreatPkAD
/-
  Delete. Written by tools/mkTpO.py.
-/
namespace Go.Proofs.YtfpmljgmfapoiaaGreat
open Go.RowKit
set_option linter.unusedVariables false
set_option linter.unusedSimpArgs false

/-- At behind Find: the rule, or none. -/
theorem atF (t : Nat) (v : Value) (M A : Int) (l : List Ru) (x : Int) (w : World) (h : Tab w t v M A l) (hl : l.length ≤ 200000) : ∃ (R : Ru) (E : Int), (∀ W, Below w.heap.size w W → Calls Tryz.prog 54 #[.pointer (some ⟨t, 0, none⟩), .int .i64 (fnd l x)] W fun e w' => e = .returned (.tuple #[.agg #[.int .i64 R.i, .int .u32 R.s, .int .i64 R.sl, .int .u32 R.d, .int .i64 R.dl, .int .u16 R.p.1, .int .u16 R.p.2, .int .u16 R.q.1, .int .u16 R.q.2, .int .u8 R.m.1, .int .u8 R.m.2, .int .i64 R.act], .int .i64 E]) ∧ Below W.heap.size W w') ∧ (0 ≤ fnd l x → ∃ hk : (fnd l x).toNat < l.length, R = l[(fnd l x).toNat]'hk) := by
  rcases fnd_range l x with e | e
  · refine ⟨⟨0, 0, 0, 0, 0, (0, 0), (0, 0), (0, 0), 0⟩, 112, fun W hb => ?_, fun h0 => by omega⟩
    exact at_out t v M A l (fnd l x) W (h.on hb) hl (by omega)
  · have hk : (fnd l x).toNat < l.length := by omega
    refine ⟨l[(fnd l x).toNat]'hk, 0, fun W hb => ?_, fun _ => ⟨hk, rfl⟩⟩
    have h1 := at_in t v M A l (fnd l x).toNat W (h.on hb) hl hk _ rfl
    rw [Int.toNat_of_nonneg (by omega)] at h1
    exact h1
set_option maxHeartbeats 8000000 in
set_option maxRecDepth 20000 in
theorem deleteE (X : Nat) (c : Cf) (l : List Ru) (L : Tp → List Hx.SlI) (S : Nat → Prop) (x : Int) (w : World) (h : Eng w X c l L S) :
    Calls Tryz.prog 131 #[.pointer (some ⟨X, 0, none⟩), .int .i64 x] w fun e w' => e = .returned (.int .i64 (delE l x)) ∧ Did w w' X c (delL l x) S := by
  have HE : Hid (Eng w X c l L S) := h
  obtain ⟨t, v, B, ad, n, cap, f, ks, Sg, he, hf⟩ := h.at'
  have HF : Hid (EngF w X c l L t v B ad n cap f ks Sg) := he
  have Hf : Hid (∀ k, Foot t v B (.slice ad n cap) f Sg k → S k) := hf
  have hl : l.length ≤ 200000 := Nat.le_trans h.ok.few (by decide)
  have HFi : Hid (∀ W, Below w.heap.size w W → Calls Tryz.prog 34 #[.pointer (some ⟨t, 0, none⟩), .int .i64 x] W fun e w' => e = .returned (.int .i64 (fnd l x)) ∧ Below W.heap.size W w') := fun W hb => findC t v c.m c.a l x W (he.tab.on hb) hl
  obtain ⟨R, EA, hat, hR⟩ := atF t v c.m c.a l x w he.tab hl
  have HAt : Hid _ := hat
  have HRr : Hid (0 ≤ fnd l x → ∃ hk : (fnd l x).toNat < l.length, R = l[(fnd l x).toNat]'hk) := hR
  have HDl : Hid (∀ W, Below w.heap.size w W → Calls Tryz.prog 134 #[.pointer (some ⟨t, 0, none⟩), .int .i64 x] W fun e w' => e = .returned (.int .i64 (delE l x)) ∧ ∃ v', Tab w' t v' c.m c.a (delL l x) ∧ Moved W w' t v v') := fun W hb => deleteC t v c.m c.a l x W (he.tab.on hb) hl
  have HDn : Hid (fnd l x = -1 → ∀ W, Below w.heap.size w W → Calls Tryz.prog 134 #[.pointer (some ⟨t, 0, none⟩), .int .i64 x] W fun e w' => e = .returned (.int .i64 114) ∧ Below W.heap.size W w') := fun e W hb => deleteNo t v c.m c.a l x W (he.tab.on hb) hl e
  have c0 : w.cell? ⟨X, 0, none⟩ = some (.pointer (some ⟨t, 0, none⟩)) := blk_cell he.sp.blk rfl
  clear h he hf hat hR
  obtain ⟨F, hF⟩ : ∃ F, F = fnd l x := ⟨_, rfl⟩
  rw [← hF] at HFi HAt HRr
  have HFe : Hid (F = fnd l x) := hF
  clear hF
  go_enter Tryz.func131, Tryz.ntmps131
  go_upto_region 3 with (fail)
  refine wp_region_held_drew (S := fun w' => Below w.heap.size w w') (by kernel_rfl) (Below.drew (Below.refl _ _)) (fun hS0 => ?_)
  show wpAnyH _ _ _ _ _ 17 _ _ _
  obtain ⟨wd, hwd⟩ : ∃ x, x = w.drew := ⟨_, rfl⟩
  rw [← hwd] at hS0 ⊢
  clear hwd
  refine wpTk (i := 0) (v := .pointer (some ⟨X, 0, none⟩)) hS0 ?_
  simp only [nrm]
  refine wpTk (i := 1) (v := .pointer (some ⟨X, 0, none⟩)) hS0 ?_
  simp only [nrm]
  refine wpTk (i := 2) (v := .pointer (some ⟨X, 0, none⟩)) hS0 ?_
  simp only [nrm]
  refine wpAnyH_take (i := 3) (v := .pointer (some ⟨t, 0, none⟩)) rfl (by kernel_rfl) (by kernel_rfl) (by kernel_rfl) (fun _ _ _ h => h) (.inl ⟨rfl, fun w' hw' => by have hcc := cell_on1 hw' c0; simp [execOp, go_sem, hcc]⟩) hS0 ?_
  simp only [nrm]
  refine wpTk (i := 4) (v := .pointer (some ⟨X, 0, none⟩)) hS0 ?_
  simp only [nrm]
  refine wpTk (i := 5) (v := .pointer (some ⟨X, 0, none⟩)) hS0 ?_
  simp only [nrm]
  refine wpTk (i := 6) (v := .pointer (some ⟨X, 0, none⟩)) hS0 ?_
  simp only [nrm]
  refine wpAnyH_take (i := 7) (v := .pointer (some ⟨t, 0, none⟩)) rfl (by kernel_rfl) (by kernel_rfl) (by kernel_rfl) (fun _ _ _ h => h) (.inl ⟨rfl, fun w' hw' => by have hcc := cell_on1 hw' c0; simp [execOp, go_sem, hcc]⟩) hS0 ?_
  simp only [nrm]
  refine wpTk (i := 8) (v := .int .i64 x) hS0 ?_
  simp only [nrm]
  refine wpAnyH_all (rs := [9, 14]) (by kernel_rfl) (by simp) ?_
  intro i hi
  simp only [mmL] at hi
  rcases hi with rfl | rfl
  · refine wpOp_of_wp rfl rfl (fun K' hK' => ?_)
    go_wp2_with (go_at_call 34; refine (HFi.out _ hS0).mono ?_; rintro e wa2 ⟨rfl, hb2⟩)
    have hS2 := hS0.trans (hb2.mono hS0.size)
    refine ⟨hS2, ?_⟩
    refine wpAnyH_all (rs := [10, 14]) (by kernel_rfl) (by simp) ?_
    intro i hi
    simp only [mmL] at hi
    rcases hi with rfl | rfl
    · refine wpOp_of_wp rfl rfl (fun K' hK' => ?_)
      go_wp2_with (go_at_call 54; refine (HAt.out _ hS2).mono ?_; rintro e wa4 ⟨rfl, hb4⟩)
      have hS4 := hS2.trans (hb4.mono hS2.size)
      refine ⟨hS4, ?_⟩
      refine wpTk (i := 11) (v := .tuple #[.agg #[.int .i64 R.i, .int .u32 R.s, .int .i64 R.sl, .int .u32 R.d, .int .i64 R.dl, .int .u16 R.p.1, .int .u16 R.p.2, .int .u16 R.q.1, .int .u16 R.q.2, .int .u8 R.m.1, .int .u8 R.m.2, .int .i64 R.act], .int .i64 EA]) hS4 ?_
      simp only [nrm]
      refine wpTk (i := 12) (v := .agg #[.int .i64 R.i, .int .u32 R.s, .int .i64 R.sl, .int .u32 R.d, .int .i64 R.dl, .int .u16 R.p.1, .int .u16 R.p.2, .int .u16 R.q.1, .int .u16 R.q.2, .int .u8 R.m.1, .int .u8 R.m.2, .int .i64 R.act]) hS4 ?_
      simp only [nrm]
      refine wpTk (i := 13) (v := .int .i64 EA) hS4 ?_
      simp only [nrm]
      refine wpO 14 (fun K' hK' => ?_)
      go_wp2_with (fail)
      have hb7 : Below wa4.heap.size wa4 (wa4.alloc (.cells #[.int .i64 0, .int .u32 0, .int .i64 0, .int .u32 0, .int .i64 0, .int .u16 0, .int .u16 0, .int .u16 0, .int .u16 0, .int .u8 0, .int .u8 0, .int .i64 0] 52)) := (Below.refl _ _).alloc (Nat.le_refl _) _
      have hn7 : (wa4.alloc (.cells #[.int .i64 0, .int .u32 0, .int .i64 0, .int .u32 0, .int .i64 0, .int .u16 0, .int .u16 0, .int .u16 0, .int .u16 0, .int .u8 0, .int .u8 0, .int .i64 0] 52)).heap[wa4.heap.size]? = some (.cells #[.int .i64 0, .int .u32 0, .int .i64 0, .int .u32 0, .int .i64 0, .int .u16 0, .int .u16 0, .int .u16 0, .int .u16 0, .int .u8 0, .int .u8 0, .int .i64 0] 52 (0, 0)) := blk_new wa4 (.cells #[.int .i64 0, .int .u32 0, .int .i64 0, .int .u32 0, .int .i64 0, .int .u16 0, .int .u16 0, .int .u16 0, .int .u16 0, .int .u8 0, .int .u8 0, .int .i64 0] 52)
      have hS7 := hS4.trans (hb7.mono hS4.size)
      have hSB := hS4
      refine ⟨hS7, ?_⟩
      obtain ⟨wa7, hwa7⟩ : ∃ x, x = wa4.alloc (.cells #[.int .i64 0, .int .u32 0, .int .i64 0, .int .u32 0, .int .i64 0, .int .u16 0, .int .u16 0, .int .u16 0, .int .u16 0, .int .u8 0, .int .u8 0, .int .i64 0] 52) := ⟨_, rfl⟩
      rw [← hwa7] at hb7 hn7 hS7 ⊢
      clear hwa7
      refine wpO 15 (fun K' hK' => ?_)
      refine wpSt 52 (.tmp 5) (.tmp 22) rfl wa4.heap.size 0 #[.int .i64 R.i, .int .u32 R.s, .int .i64 R.sl, .int .u32 R.d, .int .i64 R.dl, .int .u16 R.p.1, .int .u16 R.p.2, .int .u16 R.q.1, .int .u16 R.q.2, .int .u8 R.m.1, .int .u8 R.m.2, .int .i64 R.act] #[.int .i64 R.i, .int .u32 R.s, .int .i64 R.sl, .int .u32 R.d, .int .i64 R.dl, .int .u16 R.p.1, .int .u16 R.p.2, .int .u16 R.q.1, .int .u16 R.q.2, .int .u8 R.m.1, .int .u8 R.m.2, .int .i64 R.act] rfl rfl 52 _ hn7 (fun w4 h4 ho4 => hK' _ _ ⟨hS7.trans (ho4.below hSB.size), ?_⟩)
      have hS4 : Below w.heap.size w w4 := hS7.trans (ho4.below hSB.size)
      refine wpTk (i := 16) (v := .int .i64 EA) hS4 ?_
      simp only [nrm]
      refine wpAnyH_done (by kernel_rfl) ?_ _
      try simp only [nrm]
      have HS4 : Hid (Below w.heap.size w w4) := hS4
      have Hz2 : Hid (w.heap.size ≤ wa4.heap.size) := hSB.size
      have H4 : Hid (w4.heap[wa4.heap.size]? = some (.cells #[.int .i64 R.i, .int .u32 R.s, .int .i64 R.sl, .int .u32 R.d, .int .i64 R.dl, .int .u16 R.p.1, .int .u16 R.p.2, .int .u16 R.q.1, .int .u16 R.q.2, .int .u8 R.m.1, .int .u8 R.m.2, .int .i64 R.act] 52 (0, 0))) := h4
      have hDl := HDl.out _ hS4
      have c4 := cell_on1 hS4 c0
      generalize wa4.heap.size = b5 at *
      by_cases h0 : 0 ≤ fnd l x
      · go_wp2_with (go_at_call 134; fail)
        refine hDl.mono ?_
        rintro e w5 ⟨rfl, v5, hT5, hm5⟩
        have HT5 : Hid (Tab w5 t v5 c.m c.a (delL l x)) := hT5
        have HM5 : Hid (Moved w4 w5 t v v5) := hm5
        clear hT5 hm5 hDl c4
        have hft := HF.out.flt
        have hnX : ∀ k, Foot t v B (.slice ad n cap) f Sg k → k ≠ X := fun k hF e => HE.out.nX (e ▸ Hf.out k hF)
        have lB : B < w.heap.size := hft B (.inr (.inr (.inl rfl)))
        have lt0 : t < w.heap.size := hft t (.inl rfl)
        have lv0 : ∀ k, v.ownBlock = some k → k < w.heap.size := fun k e => hft k (.inr (.inl e))
        have hXl := HE.out.lt
        have nXt : X ≠ t := fun e => hnX t (.inl rfl) e.symm
        have nXv : v.ownBlock ≠ some X := fun e => hnX X (.inr (.inl e)) rfl
        have hz4 := HS4.out.size
        have hX5 : w5.heap[X]? = some (.cells #[.pointer (some ⟨t, 0, none⟩), .int .i64 c.a, .int .i64 c.t, .map (some B), .slice ad n cap] 76 (0, 0)) := (HM5.out.block X (by omega) nXt nXv).trans (blk_on HF.out.sp.blk HS4.out)
        have hr5 : w5.heap[b5]? = some (.cells #[.int .i64 R.i, .int .u32 R.s, .int .i64 R.sl, .int .u32 R.d, .int .i64 R.dl, .int .u16 R.p.1, .int .u16 R.p.2, .int .u16 R.q.1, .int .u16 R.q.2, .int .u8 R.m.1, .int .u8 R.m.2, .int .i64 R.act] 52 (0, 0)) := (HM5.out.block b5 (blk_lt H4.out) (by have := Hz2.out; omega) (fun e => by have := Hz2.out; have := lv0 b5 e; omega)).trans H4.out
        have hst5 : ∀ k, k < w.heap.size → k ≠ t → v.ownBlock ≠ some k → w5.heap[k]? = w.heap[k]? := fun k hk e1 e2 => by rw [HM5.out.block k (by omega) e1 e2, HS4.out.block k hk]
        have HG5 : Hid (Chg w w5 (fun k => k = X ∨ k = t ∨ v.ownBlock = some k ∨ k = B)) := ⟨HM5.out.os.trans HS4.out.os, HM5.out.tape.trans HS4.out.tape, HM5.out.output.trans HS4.out.output, Nat.le_trans hz4 HM5.out.size, fun k hk e => hst5 k hk (fun e2 => e (.inr (.inl e2))) (fun e2 => e (.inr (.inr (.inl e2))))⟩
        have HX5 : Hid _ := hX5
        have hl2 : (delL l x).length ≤ 200000 := Nat.le_trans (okN_sub HE.out.ok (delL_sub l x)).few (by decide)
        have HR : Hid (∀ W, Below w5.heap.size w5 W → Calls Tryz.prog 32 #[.pointer (some ⟨t, 0, none⟩)] W fun e w' => ∃ v' : Value, e = .returned v' ∧ RowU w' W.heap.size v' (delL l x) ∧ Below W.heap.size W w') := fun W hb => rulesC t v5 c.m c.a _ W (HT5.out.on hb) hl2
        obtain ⟨hk0, hRl⟩ := HRr.out (by rw [HFe.out]; exact h0)
        have hRm : R ∈ l := by rw [hRl]; exact List.getElem_mem hk0
        have HED : Hid (delE l x = 0) := if_pos h0
        have hX5l : X < w5.heap.size := blk_lt hX5
        have HSt : Hid (∀ W (u q : Value), Below w5.heap.size w5 W → SrcU W u (delL l x) → (∀ k, u.ownBlock = some k → w5.heap.size ≤ k) → SrcU W q [R] → Calls Tryz.prog 31 #[.pointer (some ⟨X, 3, none⟩), u, q] W fun e w' => e = .returned (.tuple #[]) ∧ Did w w' X c (delL l x) S ∧ w'.cell? ⟨X, 0, none⟩ = some (.pointer (some ⟨t, 0, none⟩)) ∧ Chg W w' (fun b => b = B ∨ b = X)) := fun W u q hb hu hk hq => by
          have hap := HF.out.ap
          have hst : ∀ k, (k = B ∨ (Value.slice ad n cap).ownBlock = some k ∨ ∃ s, (f s).isSome = true ∧ Sg s k) → k < w.heap.size → W.heap[k]? = w.heap[k]? := fun k hF hk => by rw [hb.block k (Nat.lt_of_lt_of_le hk HG5.out.size), hst5 k hk (hap k hF).1 (hap k hF).2]
          have hz : w.heap.size ≤ W.heap.size := Nat.le_trans HG5.out.size hb.size
          refine HE.out.settle HF.out Hf.out ((HG5.out.trans (Chg.of_below hb (fun _ => False)) fun k e => e.elim)) (HT5.out.on hb) (.inl rfl) (fun k e => (HM5.out.own k e).imp id fun e2 => Nat.le_trans hz4 e2) (blk_on HX5.out hb) (HF.out.sp.mp.stay (hst B (.inl rfl) lB)) (HF.out.sp.gs.stay hz fun s e b hb => hst b (.inr (.inr ⟨s, e, hb⟩)) (hft b (.inr (.inr (.inr (.inr ⟨s, e, hb⟩)))))) HF.out.sp.dom (fun s e b hb => ⟨e, hb⟩) HE.out.ok.few hu (fun g off n cap e e2 => ?_) hq (by simp) (fun Q hQ => by simp at hQ; subst hQ; exact ⟨HE.out.bd _ hRm, HE.out.ok.may _ hRm⟩) (fun s hs => ?_) (okN_sub HE.out.ok (delL_sub l x)) (fun Q hQ => HE.out.bd Q ((delL_sub l x).subset hQ))
          · have := hk g (by rw [e]; rfl)
            omega
          · have hsm := out_same l F.toNat hk0 (t := s) (fun e => hs ⟨R, by simp, by rw [hRl]; exact e⟩)
            have e9 : delL l x = outL l F.toNat := by rw [HFe.out]; exact if_pos h0
            rw [e9]; exact hsm
        have c5 : w5.cell? ⟨X, 0, none⟩ = some (.pointer (some ⟨t, 0, none⟩)) := blk_cell hX5 rfl
        have hb5 : b5 ≠ B ∧ b5 ≠ X := by have := Hz2.out; omega
        rw [show delE l x = 0 from HED.out]
        clear hft hnX lt0 lv0 nXt nXv hst5 hl2 hk0 hRl hRm hX5 hz4
        go_upto_region 6 with (fail)
        refine wp_region_held_drew (S := fun w' => w'.cell? ⟨X, 0, none⟩ = some (.pointer (some ⟨t, 0, none⟩)) ∧ w'.heap[b5]? = some (.cells #[.int .i64 R.i, .int .u32 R.s, .int .i64 R.sl, .int .u32 R.d, .int .i64 R.dl, .int .u16 R.p.1, .int .u16 R.p.2, .int .u16 R.q.1, .int .u16 R.q.2, .int .u8 R.m.1, .int .u8 R.m.2, .int .i64 R.act] 52 (0, 0))) (by kernel_rfl) ⟨c5, hr5⟩ (fun hS0 => ?_)
        show wpAnyH _ _ _ _ _ 11 _ _ _
        clear c5 hr5
        obtain ⟨wd, hwd⟩ : ∃ x, x = w5.drew := ⟨_, rfl⟩
        have HBd1 : Hid (Below w5.heap.size w5 wd) := by show Below _ _ _; rw [hwd]; exact Below.drew (Below.refl _ _)
        rw [← hwd] at hS0 ⊢
        clear hwd
        refine wpTk (i := 0) (v := .pointer (some ⟨X, 0, none⟩)) hS0 ?_
        simp only [nrm]
        refine wpTk (i := 1) (v := .pointer (some ⟨X, 0, none⟩)) hS0 ?_
        simp only [nrm]
        refine wpTk (i := 2) (v := .pointer (some ⟨X, 3, none⟩)) hS0 ?_
        simp only [nrm]
        refine wpTk (i := 3) (v := .pointer (some ⟨X, 0, none⟩)) hS0 ?_
        simp only [nrm]
        refine wpTk (i := 4) (v := .pointer (some ⟨X, 0, none⟩)) hS0 ?_
        simp only [nrm]
        refine wpTk (i := 5) (v := .pointer (some ⟨X, 0, none⟩)) hS0 ?_
        simp only [nrm]
        refine wpAnyH_take (i := 6) (v := .pointer (some ⟨t, 0, none⟩)) rfl (by kernel_rfl) (by kernel_rfl) (by kernel_rfl) (fun _ _ _ h => h) (.inl ⟨rfl, fun w' hw' => by have hcc := hw'.1; simp [execOp, go_sem, hcc]⟩) hS0 ?_
        simp only [nrm]
        refine wpLd (i := 8) rfl (yieldsIf_load_mid rfl 52 (.tmp 5) rfl b5 0 rfl [.int .i64 R.i, .int .u32 R.s, .int .i64 R.sl, .int .u32 R.d, .int .i64 R.dl, .int .u16 R.p.1, .int .u16 R.p.2, .int .u16 R.q.1, .int .u16 R.q.2, .int .u8 R.m.1, .int .u8 R.m.2, .int .i64 R.act] _ (fun w' hw' => rngAll hw'.2) Tryz.underlying52 rfl (by kernel_rfl)) hS0 ?_
        try simp only [nrm]
        refine wpAnyH_all (rs := [7, 9]) (by kernel_rfl) (by simp) ?_
        intro i hi
        simp only [mmL] at hi
        rcases hi with rfl | rfl
        · refine wpOp_of_wp rfl rfl (fun K' hK' => ?_)
          go_wp2_with (go_at_call 32; refine (HR.out _ HBd1.out).mono ?_; rintro e w3 ⟨u, rfl, hu, hb3⟩)
          obtain ⟨au, cu, rfl, _⟩ := hu.form
          have hB3 := HBd1.out.trans (hb3.mono HBd1.out.size)
          have hs3 : w3.cell? ⟨X, 0, none⟩ = some (.pointer (some ⟨t, 0, none⟩)) ∧ w3.heap[b5]? = some (.cells #[.int .i64 R.i, .int .u32 R.s, .int .i64 R.sl, .int .u32 R.d, .int .i64 R.dl, .int .u16 R.p.1, .int .u16 R.p.2, .int .u16 R.q.1, .int .u16 R.q.2, .int .u8 R.m.1, .int .u8 R.m.2, .int .i64 R.act] 52 (0, 0)) := ⟨cell_on1 hb3 hS0.1, blk_on hS0.2 hb3⟩
          refine ⟨hs3, ?_⟩
          have hk : ∀ k, (Value.slice au (delL l x).length cu).ownBlock = some k → w5.heap.size ≤ k := fun k e => Nat.le_trans HBd1.out.size (rowU_ge hu e)
          refine wpO 9 (fun K' hK' => ?_)
          go_wp2_with (fail)
          have hb4 : Below w3.heap.size w3 (w3.alloc (.cells #[.int .i64 R.i, .int .u32 R.s, .int .i64 R.sl, .int .u32 R.d, .int .i64 R.dl, .int .u16 R.p.1, .int .u16 R.p.2, .int .u16 R.q.1, .int .u16 R.q.2, .int .u8 R.m.1, .int .u8 R.m.2, .int .i64 R.act] 52)) := (Below.refl _ _).alloc (Nat.le_refl _) _
          have hn : (w3.alloc (.cells #[.int .i64 R.i, .int .u32 R.s, .int .i64 R.sl, .int .u32 R.d, .int .i64 R.dl, .int .u16 R.p.1, .int .u16 R.p.2, .int .u16 R.q.1, .int .u16 R.q.2, .int .u8 R.m.1, .int .u8 R.m.2, .int .i64 R.act] 52)).heap[w3.heap.size]? = some (.cells #[.int .i64 R.i, .int .u32 R.s, .int .i64 R.sl, .int .u32 R.d, .int .i64 R.dl, .int .u16 R.p.1, .int .u16 R.p.2, .int .u16 R.q.1, .int .u16 R.q.2, .int .u8 R.m.1, .int .u8 R.m.2, .int .i64 R.act] 52 (0, 0)) := blk_new w3 _
          have hs4 : (w3.alloc (.cells #[.int .i64 R.i, .int .u32 R.s, .int .i64 R.sl, .int .u32 R.d, .int .i64 R.dl, .int .u16 R.p.1, .int .u16 R.p.2, .int .u16 R.q.1, .int .u16 R.q.2, .int .u8 R.m.1, .int .u8 R.m.2, .int .i64 R.act] 52)).cell? ⟨X, 0, none⟩ = some (.pointer (some ⟨t, 0, none⟩)) ∧ (w3.alloc (.cells #[.int .i64 R.i, .int .u32 R.s, .int .i64 R.sl, .int .u32 R.d, .int .i64 R.dl, .int .u16 R.p.1, .int .u16 R.p.2, .int .u16 R.q.1, .int .u16 R.q.2, .int .u8 R.m.1, .int .u8 R.m.2, .int .i64 R.act] 52)).heap[b5]? = some (.cells #[.int .i64 R.i, .int .u32 R.s, .int .i64 R.sl, .int .u32 R.d, .int .i64 R.dl, .int .u16 R.p.1, .int .u16 R.p.2, .int .u16 R.q.1, .int .u16 R.q.2, .int .u8 R.m.1, .int .u8 R.m.2, .int .i64 R.act] 52 (0, 0)) := ⟨cell_on1 hb4 hs3.1, blk_on hs3.2 hb4⟩
          have hB4 := hB3.trans (hb4.mono hB3.size)
          refine ⟨hs4, ?_⟩
          generalize w3.alloc (.cells #[.int .i64 R.i, .int .u32 R.s, .int .i64 R.sl, .int .u32 R.d, .int .i64 R.dl, .int .u16 R.p.1, .int .u16 R.p.2, .int .u16 R.q.1, .int .u16 R.q.2, .int .u8 R.m.1, .int .u8 R.m.2, .int .i64 R.act] 52) = w7 at *
          have hst := HSt.out _ _ _ hB4 (hu.src.keep hb4) hk (srcU_one hn)
          have hbl := blk_lt hs4.2
          refine wpO 10 (fun K' hK' => ?_)
          go_wp2_with (go_at_call 31; refine hst.mono ?_; rintro e w6 ⟨rfl, hd6, hx6, hg6⟩)
          have hs6 : w6.cell? ⟨X, 0, none⟩ = some (.pointer (some ⟨t, 0, none⟩)) ∧ w6.heap[b5]? = some (.cells #[.int .i64 R.i, .int .u32 R.s, .int .i64 R.sl, .int .u32 R.d, .int .i64 R.dl, .int .u16 R.p.1, .int .u16 R.p.2, .int .u16 R.q.1, .int .u16 R.q.2, .int .u8 R.m.1, .int .u8 R.m.2, .int .i64 R.act] 52 (0, 0)) := ⟨hx6, (hg6.block _ hbl (fun e => e.elim hb5.1 hb5.2)).trans hs4.2⟩
          refine ⟨hs6, ?_⟩
          have HD : Hid (Did w w6 X c (delL l x) S) := hd6
          refine wpAnyH_done (by kernel_rfl) ?_ _
          try simp only [nrm]
          clear hs6 hx6 hg6 hd6 hst
          go_wp2_with (fail)
          go_ret
          exact ⟨by rw [HED.out]; rfl, HD.out⟩
        · refine wpOp_of_wp rfl rfl (fun K' hK' => ?_)
          go_wp2_with (fail)
          have hb3 : Below wd.heap.size wd (wd.alloc (.cells #[.int .i64 R.i, .int .u32 R.s, .int .i64 R.sl, .int .u32 R.d, .int .i64 R.dl, .int .u16 R.p.1, .int .u16 R.p.2, .int .u16 R.q.1, .int .u16 R.q.2, .int .u8 R.m.1, .int .u8 R.m.2, .int .i64 R.act] 52)) := (Below.refl _ _).alloc (Nat.le_refl _) _
          have hn : (wd.alloc (.cells #[.int .i64 R.i, .int .u32 R.s, .int .i64 R.sl, .int .u32 R.d, .int .i64 R.dl, .int .u16 R.p.1, .int .u16 R.p.2, .int .u16 R.q.1, .int .u16 R.q.2, .int .u8 R.m.1, .int .u8 R.m.2, .int .i64 R.act] 52)).heap[wd.heap.size]? = some (.cells #[.int .i64 R.i, .int .u32 R.s, .int .i64 R.sl, .int .u32 R.d, .int .i64 R.dl, .int .u16 R.p.1, .int .u16 R.p.2, .int .u16 R.q.1, .int .u16 R.q.2, .int .u8 R.m.1, .int .u8 R.m.2, .int .i64 R.act] 52 (0, 0)) := blk_new wd _
          have hs3 : (wd.alloc (.cells #[.int .i64 R.i, .int .u32 R.s, .int .i64 R.sl, .int .u32 R.d, .int .i64 R.dl, .int .u16 R.p.1, .int .u16 R.p.2, .int .u16 R.q.1, .int .u16 R.q.2, .int .u8 R.m.1, .int .u8 R.m.2, .int .i64 R.act] 52)).cell? ⟨X, 0, none⟩ = some (.pointer (some ⟨t, 0, none⟩)) ∧ (wd.alloc (.cells #[.int .i64 R.i, .int .u32 R.s, .int .i64 R.sl, .int .u32 R.d, .int .i64 R.dl, .int .u16 R.p.1, .int .u16 R.p.2, .int .u16 R.q.1, .int .u16 R.q.2, .int .u8 R.m.1, .int .u8 R.m.2, .int .i64 R.act] 52)).heap[b5]? = some (.cells #[.int .i64 R.i, .int .u32 R.s, .int .i64 R.sl, .int .u32 R.d, .int .i64 R.dl, .int .u16 R.p.1, .int .u16 R.p.2, .int .u16 R.q.1, .int .u16 R.q.2, .int .u8 R.m.1, .int .u8 R.m.2, .int .i64 R.act] 52 (0, 0)) := ⟨cell_on1 hb3 hS0.1, blk_on hS0.2 hb3⟩
          have hB3 := HBd1.out.trans (hb3.mono HBd1.out.size)
          refine ⟨hs3, ?_⟩
          generalize wd.alloc (.cells #[.int .i64 R.i, .int .u32 R.s, .int .i64 R.sl, .int .u32 R.d, .int .i64 R.dl, .int .u16 R.p.1, .int .u16 R.p.2, .int .u16 R.q.1, .int .u16 R.q.2, .int .u8 R.m.1, .int .u8 R.m.2, .int .i64 R.act] 52) = w3 at *
          refine wpO 7 (fun K' hK' => ?_)
          go_wp2_with (go_at_call 32; refine (HR.out _ hB3).mono ?_; rintro e w7 ⟨u, rfl, hu, hb4⟩)
          obtain ⟨au, cu, rfl, _⟩ := hu.form
          have hB4 := hB3.trans (hb4.mono hB3.size)
          have hs4 : w7.cell? ⟨X, 0, none⟩ = some (.pointer (some ⟨t, 0, none⟩)) ∧ w7.heap[b5]? = some (.cells #[.int .i64 R.i, .int .u32 R.s, .int .i64 R.sl, .int .u32 R.d, .int .i64 R.dl, .int .u16 R.p.1, .int .u16 R.p.2, .int .u16 R.q.1, .int .u16 R.q.2, .int .u8 R.m.1, .int .u8 R.m.2, .int .i64 R.act] 52 (0, 0)) := ⟨cell_on1 hb4 hs3.1, blk_on hs3.2 hb4⟩
          refine ⟨hs4, ?_⟩
          have hk : ∀ k, (Value.slice au (delL l x).length cu).ownBlock = some k → w5.heap.size ≤ k := fun k e => Nat.le_trans hB3.size (rowU_ge hu e)
          have hst := HSt.out _ _ _ hB4 hu.src hk (srcU_one (blk_on hn hb4))
          have hbl := blk_lt hs4.2
          refine wpO 10 (fun K' hK' => ?_)
          go_wp2_with (go_at_call 31; refine hst.mono ?_; rintro e w6 ⟨rfl, hd6, hx6, hg6⟩)
          have hs6 : w6.cell? ⟨X, 0, none⟩ = some (.pointer (some ⟨t, 0, none⟩)) ∧ w6.heap[b5]? = some (.cells #[.int .i64 R.i, .int .u32 R.s, .int .i64 R.sl, .int .u32 R.d, .int .i64 R.dl, .int .u16 R.p.1, .int .u16 R.p.2, .int .u16 R.q.1, .int .u16 R.q.2, .int .u8 R.m.1, .int .u8 R.m.2, .int .i64 R.act] 52 (0, 0)) := ⟨hx6, (hg6.block _ hbl (fun e => e.elim hb5.1 hb5.2)).trans hs4.2⟩
          refine ⟨hs6, ?_⟩
          have HD : Hid (Did w w6 X c (delL l x) S) := hd6
          refine wpAnyH_done (by kernel_rfl) ?_ _
          try simp only [nrm]
          clear hs6 hx6 hg6 hd6 hst
          go_wp2_with (fail)
          go_ret
          exact ⟨by rw [HED.out]; rfl, HD.out⟩
      · have e1 : delE l x = 114 := if_neg h0
        have e2 : delL l x = l := if_neg h0
        have hN := HDn.out (by have := fnd_range l x; omega) _ HS4.out
        clear hDl
        go_wp2_with (go_at_call 134; fail)
        refine hN.mono ?_
        rintro e w5 ⟨rfl, hb5⟩
        have HD : Hid (Did w w5 X c (delL l x) S) := by
          show Did w w5 X c (delL l x) S
          rw [e2]
          exact HE.out.did (HS4.out.trans (hb5.mono HS4.out.size))
        clear hN hb5 e2 c4
        go_wp2_with (fail)
        go_ret
        exact ⟨by rw [e1]; rfl, HD.out⟩
    · refine wpOp_of_wp rfl rfl (fun K' hK' => ?_)
      go_wp2_with (fail)
      have hb9 : Below wa2.heap.size wa2 (wa2.alloc (.cells #[.int .i64 0, .int .u32 0, .int .i64 0, .int .u32 0, .int .i64 0, .int .u16 0, .int .u16 0, .int .u16 0, .int .u16 0, .int .u8 0, .int .u8 0, .int .i64 0] 52)) := (Below.refl _ _).alloc (Nat.le_refl _) _
      have hn9 : (wa2.alloc (.cells #[.int .i64 0, .int .u32 0, .int .i64 0, .int .u32 0, .int .i64 0, .int .u16 0, .int .u16 0, .int .u16 0, .int .u16 0, .int .u8 0, .int .u8 0, .int .i64 0] 52)).heap[wa2.heap.size]? = some (.cells #[.int .i64 0, .int .u32 0, .int .i64 0, .int .u32 0, .int .i64 0, .int .u16 0, .int .u16 0, .int .u16 0, .int .u16 0, .int .u8 0, .int .u8 0, .int .i64 0] 52 (0, 0)) := blk_new wa2 (.cells #[.int .i64 0, .int .u32 0, .int .i64 0, .int .u32 0, .int .i64 0, .int .u16 0, .int .u16 0, .int .u16 0, .int .u16 0, .int .u8 0, .int .u8 0, .int .i64 0] 52)
      have hS9 := hS2.trans (hb9.mono hS2.size)
      have hSB := hS2
      refine ⟨hS9, ?_⟩
      obtain ⟨wa9, hwa9⟩ : ∃ x, x = wa2.alloc (.cells #[.int .i64 0, .int .u32 0, .int .i64 0, .int .u32 0, .int .i64 0, .int .u16 0, .int .u16 0, .int .u16 0, .int .u16 0, .int .u8 0, .int .u8 0, .int .i64 0] 52) := ⟨_, rfl⟩
      rw [← hwa9] at hb9 hn9 hS9 ⊢
      clear hwa9
      refine wpO 10 (fun K' hK' => ?_)
      go_wp2_with (go_at_call 54; refine (HAt.out _ hS9).mono ?_; rintro e wa11 ⟨rfl, hb11⟩)
      have hS11 := hS9.trans (hb11.mono hS9.size)
      have hn11 := blk_on hn9 hb11
      refine ⟨hS11, ?_⟩
      refine wpTk (i := 11) (v := .tuple #[.agg #[.int .i64 R.i, .int .u32 R.s, .int .i64 R.sl, .int .u32 R.d, .int .i64 R.dl, .int .u16 R.p.1, .int .u16 R.p.2, .int .u16 R.q.1, .int .u16 R.q.2, .int .u8 R.m.1, .int .u8 R.m.2, .int .i64 R.act], .int .i64 EA]) hS11 ?_
      simp only [nrm]
      refine wpTk (i := 12) (v := .agg #[.int .i64 R.i, .int .u32 R.s, .int .i64 R.sl, .int .u32 R.d, .int .i64 R.dl, .int .u16 R.p.1, .int .u16 R.p.2, .int .u16 R.q.1, .int .u16 R.q.2, .int .u8 R.m.1, .int .u8 R.m.2, .int .i64 R.act]) hS11 ?_
      simp only [nrm]
      refine wpTk (i := 13) (v := .int .i64 EA) hS11 ?_
      simp only [nrm]
      refine wpO 15 (fun K' hK' => ?_)
      refine wpSt 52 (.tmp 5) (.tmp 22) rfl wa2.heap.size 0 #[.int .i64 R.i, .int .u32 R.s, .int .i64 R.sl, .int .u32 R.d, .int .i64 R.dl, .int .u16 R.p.1, .int .u16 R.p.2, .int .u16 R.q.1, .int .u16 R.q.2, .int .u8 R.m.1, .int .u8 R.m.2, .int .i64 R.act] #[.int .i64 R.i, .int .u32 R.s, .int .i64 R.sl, .int .u32 R.d, .int .i64 R.dl, .int .u16 R.p.1, .int .u16 R.p.2, .int .u16 R.q.1, .int .u16 R.q.2, .int .u8 R.m.1, .int .u8 R.m.2, .int .i64 R.act] rfl rfl 52 _ hn11 (fun w4 h4 ho4 => hK' _ _ ⟨hS11.trans (ho4.below hSB.size), ?_⟩)
      have hS4 : Below w.heap.size w w4 := hS11.trans (ho4.below hSB.size)
      refine wpTk (i := 16) (v := .int .i64 EA) hS4 ?_
      simp only [nrm]
      refine wpAnyH_done (by kernel_rfl) ?_ _
      try simp only [nrm]
      have HS4 : Hid (Below w.heap.size w w4) := hS4
      have Hz2 : Hid (w.heap.size ≤ wa2.heap.size) := hSB.size
      have H4 : Hid (w4.heap[wa2.heap.size]? = some (.cells #[.int .i64 R.i, .int .u32 R.s, .int .i64 R.sl, .int .u32 R.d, .int .i64 R.dl, .int .u16 R.p.1, .int .u16 R.p.2, .int .u16 R.q.1, .int .u16 R.q.2, .int .u8 R.m.1, .int .u8 R.m.2, .int .i64 R.act] 52 (0, 0))) := h4
      have hDl := HDl.out _ hS4
      have c4 := cell_on1 hS4 c0
      generalize wa2.heap.size = b5 at *
      by_cases h0 : 0 ≤ fnd l x
      · go_wp2_with (go_at_call 134; fail)
        refine hDl.mono ?_
        rintro e w5 ⟨rfl, v5, hT5, hm5⟩
        have HT5 : Hid (Tab w5 t v5 c.m c.a (delL l x)) := hT5
        have HM5 : Hid (Moved w4 w5 t v v5) := hm5
        clear hT5 hm5 hDl c4
        have hft := HF.out.flt
        have hnX : ∀ k, Foot t v B (.slice ad n cap) f Sg k → k ≠ X := fun k hF e => HE.out.nX (e ▸ Hf.out k hF)
        have lB : B < w.heap.size := hft B (.inr (.inr (.inl rfl)))
        have lt0 : t < w.heap.size := hft t (.inl rfl)
        have lv0 : ∀ k, v.ownBlock = some k → k < w.heap.size := fun k e => hft k (.inr (.inl e))
        have hXl := HE.out.lt
        have nXt : X ≠ t := fun e => hnX t (.inl rfl) e.symm
        have nXv : v.ownBlock ≠ some X := fun e => hnX X (.inr (.inl e)) rfl
        have hz4 := HS4.out.size
        have hX5 : w5.heap[X]? = some (.cells #[.pointer (some ⟨t, 0, none⟩), .int .i64 c.a, .int .i64 c.t, .map (some B), .slice ad n cap] 76 (0, 0)) := (HM5.out.block X (by omega) nXt nXv).trans (blk_on HF.out.sp.blk HS4.out)
        have hr5 : w5.heap[b5]? = some (.cells #[.int .i64 R.i, .int .u32 R.s, .int .i64 R.sl, .int .u32 R.d, .int .i64 R.dl, .int .u16 R.p.1, .int .u16 R.p.2, .int .u16 R.q.1, .int .u16 R.q.2, .int .u8 R.m.1, .int .u8 R.m.2, .int .i64 R.act] 52 (0, 0)) := (HM5.out.block b5 (blk_lt H4.out) (by have := Hz2.out; omega) (fun e => by have := Hz2.out; have := lv0 b5 e; omega)).trans H4.out
        have hst5 : ∀ k, k < w.heap.size → k ≠ t → v.ownBlock ≠ some k → w5.heap[k]? = w.heap[k]? := fun k hk e1 e2 => by rw [HM5.out.block k (by omega) e1 e2, HS4.out.block k hk]
        have HG5 : Hid (Chg w w5 (fun k => k = X ∨ k = t ∨ v.ownBlock = some k ∨ k = B)) := ⟨HM5.out.os.trans HS4.out.os, HM5.out.tape.trans HS4.out.tape, HM5.out.output.trans HS4.out.output, Nat.le_trans hz4 HM5.out.size, fun k hk e => hst5 k hk (fun e2 => e (.inr (.inl e2))) (fun e2 => e (.inr (.inr (.inl e2))))⟩
        have HX5 : Hid _ := hX5
        have hl2 : (delL l x).length ≤ 200000 := Nat.le_trans (okN_sub HE.out.ok (delL_sub l x)).few (by decide)
        have HR : Hid (∀ W, Below w5.heap.size w5 W → Calls Tryz.prog 32 #[.pointer (some ⟨t, 0, none⟩)] W fun e w' => ∃ v' : Value, e = .returned v' ∧ RowU w' W.heap.size v' (delL l x) ∧ Below W.heap.size W w') := fun W hb => rulesC t v5 c.m c.a _ W (HT5.out.on hb) hl2
        obtain ⟨hk0, hRl⟩ := HRr.out (by rw [HFe.out]; exact h0)
        have hRm : R ∈ l := by rw [hRl]; exact List.getElem_mem hk0
        have HED : Hid (delE l x = 0) := if_pos h0
        have hX5l : X < w5.heap.size := blk_lt hX5
        have HSt : Hid (∀ W (u q : Value), Below w5.heap.size w5 W → SrcU W u (delL l x) → (∀ k, u.ownBlock = some k → w5.heap.size ≤ k) → SrcU W q [R] → Calls Tryz.prog 31 #[.pointer (some ⟨X, 3, none⟩), u, q] W fun e w' => e = .returned (.tuple #[]) ∧ Did w w' X c (delL l x) S ∧ w'.cell? ⟨X, 0, none⟩ = some (.pointer (some ⟨t, 0, none⟩)) ∧ Chg W w' (fun b => b = B ∨ b = X)) := fun W u q hb hu hk hq => by
          have hap := HF.out.ap
          have hst : ∀ k, (k = B ∨ (Value.slice ad n cap).ownBlock = some k ∨ ∃ s, (f s).isSome = true ∧ Sg s k) → k < w.heap.size → W.heap[k]? = w.heap[k]? := fun k hF hk => by rw [hb.block k (Nat.lt_of_lt_of_le hk HG5.out.size), hst5 k hk (hap k hF).1 (hap k hF).2]
          have hz : w.heap.size ≤ W.heap.size := Nat.le_trans HG5.out.size hb.size
          refine HE.out.settle HF.out Hf.out ((HG5.out.trans (Chg.of_below hb (fun _ => False)) fun k e => e.elim)) (HT5.out.on hb) (.inl rfl) (fun k e => (HM5.out.own k e).imp id fun e2 => Nat.le_trans hz4 e2) (blk_on HX5.out hb) (HF.out.sp.mp.stay (hst B (.inl rfl) lB)) (HF.out.sp.gs.stay hz fun s e b hb => hst b (.inr (.inr ⟨s, e, hb⟩)) (hft b (.inr (.inr (.inr (.inr ⟨s, e, hb⟩)))))) HF.out.sp.dom (fun s e b hb => ⟨e, hb⟩) HE.out.ok.few hu (fun g off n cap e e2 => ?_) hq (by simp) (fun Q hQ => by simp at hQ; subst hQ; exact ⟨HE.out.bd _ hRm, HE.out.ok.may _ hRm⟩) (fun s hs => ?_) (okN_sub HE.out.ok (delL_sub l x)) (fun Q hQ => HE.out.bd Q ((delL_sub l x).subset hQ))
          · have := hk g (by rw [e]; rfl)
            omega
          · have hsm := out_same l F.toNat hk0 (t := s) (fun e => hs ⟨R, by simp, by rw [hRl]; exact e⟩)
            have e9 : delL l x = outL l F.toNat := by rw [HFe.out]; exact if_pos h0
            rw [e9]; exact hsm
        have c5 : w5.cell? ⟨X, 0, none⟩ = some (.pointer (some ⟨t, 0, none⟩)) := blk_cell hX5 rfl
        have hb5 : b5 ≠ B ∧ b5 ≠ X := by have := Hz2.out; omega
        rw [show delE l x = 0 from HED.out]
        clear hft hnX lt0 lv0 nXt nXv hst5 hl2 hk0 hRl hRm hX5 hz4
        go_upto_region 6 with (fail)
        refine wp_region_held_drew (S := fun w' => w'.cell? ⟨X, 0, none⟩ = some (.pointer (some ⟨t, 0, none⟩)) ∧ w'.heap[b5]? = some (.cells #[.int .i64 R.i, .int .u32 R.s, .int .i64 R.sl, .int .u32 R.d, .int .i64 R.dl, .int .u16 R.p.1, .int .u16 R.p.2, .int .u16 R.q.1, .int .u16 R.q.2, .int .u8 R.m.1, .int .u8 R.m.2, .int .i64 R.act] 52 (0, 0))) (by kernel_rfl) ⟨c5, hr5⟩ (fun hS0 => ?_)
        show wpAnyH _ _ _ _ _ 11 _ _ _
        clear c5 hr5
        obtain ⟨wd, hwd⟩ : ∃ x, x = w5.drew := ⟨_, rfl⟩
        have HBd1 : Hid (Below w5.heap.size w5 wd) := by show Below _ _ _; rw [hwd]; exact Below.drew (Below.refl _ _)
        rw [← hwd] at hS0 ⊢
        clear hwd
        refine wpTk (i := 0) (v := .pointer (some ⟨X, 0, none⟩)) hS0 ?_
        simp only [nrm]
        refine wpTk (i := 1) (v := .pointer (some ⟨X, 0, none⟩)) hS0 ?_
        simp only [nrm]
        refine wpTk (i := 2) (v := .pointer (some ⟨X, 3, none⟩)) hS0 ?_
        simp only [nrm]
        refine wpTk (i := 3) (v := .pointer (some ⟨X, 0, none⟩)) hS0 ?_
        simp only [nrm]
        refine wpTk (i := 4) (v := .pointer (some ⟨X, 0, none⟩)) hS0 ?_
        simp only [nrm]
        refine wpTk (i := 5) (v := .pointer (some ⟨X, 0, none⟩)) hS0 ?_
        simp only [nrm]
        refine wpAnyH_take (i := 6) (v := .pointer (some ⟨t, 0, none⟩)) rfl (by kernel_rfl) (by kernel_rfl) (by kernel_rfl) (fun _ _ _ h => h) (.inl ⟨rfl, fun w' hw' => by have hcc := hw'.1; simp [execOp, go_sem, hcc]⟩) hS0 ?_
        simp only [nrm]
        refine wpLd (i := 8) rfl (yieldsIf_load_mid rfl 52 (.tmp 5) rfl b5 0 rfl [.int .i64 R.i, .int .u32 R.s, .int .i64 R.sl, .int .u32 R.d, .int .i64 R.dl, .int .u16 R.p.1, .int .u16 R.p.2, .int .u16 R.q.1, .int .u16 R.q.2, .int .u8 R.m.1, .int .u8 R.m.2, .int .i64 R.act] _ (fun w' hw' => rngAll hw'.2) Tryz.underlying52 rfl (by kernel_rfl)) hS0 ?_
        try simp only [nrm]
        refine wpAnyH_all (rs := [7, 9]) (by kernel_rfl) (by simp) ?_
        intro i hi
        simp only [mmL] at hi
        rcases hi with rfl | rfl
        · refine wpOp_of_wp rfl rfl (fun K' hK' => ?_)
          go_wp2_with (go_at_call 32; refine (HR.out _ HBd1.out).mono ?_; rintro e w3 ⟨u, rfl, hu, hb3⟩)
          obtain ⟨au, cu, rfl, _⟩ := hu.form
          have hB3 := HBd1.out.trans (hb3.mono HBd1.out.size)
          have hs3 : w3.cell? ⟨X, 0, none⟩ = some (.pointer (some ⟨t, 0, none⟩)) ∧ w3.heap[b5]? = some (.cells #[.int .i64 R.i, .int .u32 R.s, .int .i64 R.sl, .int .u32 R.d, .int .i64 R.dl, .int .u16 R.p.1, .int .u16 R.p.2, .int .u16 R.q.1, .int .u16 R.q.2, .int .u8 R.m.1, .int .u8 R.m.2, .int .i64 R.act] 52 (0, 0)) := ⟨cell_on1 hb3 hS0.1, blk_on hS0.2 hb3⟩
          refine ⟨hs3, ?_⟩
          have hk : ∀ k, (Value.slice au (delL l x).length cu).ownBlock = some k → w5.heap.size ≤ k := fun k e => Nat.le_trans HBd1.out.size (rowU_ge hu e)
          refine wpO 9 (fun K' hK' => ?_)
          go_wp2_with (fail)
          have hb4 : Below w3.heap.size w3 (w3.alloc (.cells #[.int .i64 R.i, .int .u32 R.s, .int .i64 R.sl, .int .u32 R.d, .int .i64 R.dl, .int .u16 R.p.1, .int .u16 R.p.2, .int .u16 R.q.1, .int .u16 R.q.2, .int .u8 R.m.1, .int .u8 R.m.2, .int .i64 R.act] 52)) := (Below.refl _ _).alloc (Nat.le_refl _) _
          have hn : (w3.alloc (.cells #[.int .i64 R.i, .int .u32 R.s, .int .i64 R.sl, .int .u32 R.d, .int .i64 R.dl, .int .u16 R.p.1, .int .u16 R.p.2, .int .u16 R.q.1, .int .u16 R.q.2, .int .u8 R.m.1, .int .u8 R.m.2, .int .i64 R.act] 52)).heap[w3.heap.size]? = some (.cells #[.int .i64 R.i, .int .u32 R.s, .int .i64 R.sl, .int .u32 R.d, .int .i64 R.dl, .int .u16 R.p.1, .int .u16 R.p.2, .int .u16 R.q.1, .int .u16 R.q.2, .int .u8 R.m.1, .int .u8 R.m.2, .int .i64 R.act] 52 (0, 0)) := blk_new w3 _
          have hs4 : (w3.alloc (.cells #[.int .i64 R.i, .int .u32 R.s, .int .i64 R.sl, .int .u32 R.d, .int .i64 R.dl, .int .u16 R.p.1, .int .u16 R.p.2, .int .u16 R.q.1, .int .u16 R.q.2, .int .u8 R.m.1, .int .u8 R.m.2, .int .i64 R.act] 52)).cell? ⟨X, 0, none⟩ = some (.pointer (some ⟨t, 0, none⟩)) ∧ (w3.alloc (.cells #[.int .i64 R.i, .int .u32 R.s, .int .i64 R.sl, .int .u32 R.d, .int .i64 R.dl, .int .u16 R.p.1, .int .u16 R.p.2, .int .u16 R.q.1, .int .u16 R.q.2, .int .u8 R.m.1, .int .u8 R.m.2, .int .i64 R.act] 52)).heap[b5]? = some (.cells #[.int .i64 R.i, .int .u32 R.s, .int .i64 R.sl, .int .u32 R.d, .int .i64 R.dl, .int .u16 R.p.1, .int .u16 R.p.2, .int .u16 R.q.1, .int .u16 R.q.2, .int .u8 R.m.1, .int .u8 R.m.2, .int .i64 R.act] 52 (0, 0)) := ⟨cell_on1 hb4 hs3.1, blk_on hs3.2 hb4⟩
          have hB4 := hB3.trans (hb4.mono hB3.size)
          refine ⟨hs4, ?_⟩
          generalize w3.alloc (.cells #[.int .i64 R.i, .int .u32 R.s, .int .i64 R.sl, .int .u32 R.d, .int .i64 R.dl, .int .u16 R.p.1, .int .u16 R.p.2, .int .u16 R.q.1, .int .u16 R.q.2, .int .u8 R.m.1, .int .u8 R.m.2, .int .i64 R.act] 52) = w7 at *
          have hst := HSt.out _ _ _ hB4 (hu.src.keep hb4) hk (srcU_one hn)
          have hbl := blk_lt hs4.2
          refine wpO 10 (fun K' hK' => ?_)
          go_wp2_with (go_at_call 31; refine hst.mono ?_; rintro e w6 ⟨rfl, hd6, hx6, hg6⟩)
          have hs6 : w6.cell? ⟨X, 0, none⟩ = some (.pointer (some ⟨t, 0, none⟩)) ∧ w6.heap[b5]? = some (.cells #[.int .i64 R.i, .int .u32 R.s, .int .i64 R.sl, .int .u32 R.d, .int .i64 R.dl, .int .u16 R.p.1, .int .u16 R.p.2, .int .u16 R.q.1, .int .u16 R.q.2, .int .u8 R.m.1, .int .u8 R.m.2, .int .i64 R.act] 52 (0, 0)) := ⟨hx6, (hg6.block _ hbl (fun e => e.elim hb5.1 hb5.2)).trans hs4.2⟩
          refine ⟨hs6, ?_⟩
          have HD : Hid (Did w w6 X c (delL l x) S) := hd6
          refine wpAnyH_done (by kernel_rfl) ?_ _
          try simp only [nrm]
          clear hs6 hx6 hg6 hd6 hst
          go_wp2_with (fail)
          go_ret
          exact ⟨by rw [HED.out]; rfl, HD.out⟩
        · refine wpOp_of_wp rfl rfl (fun K' hK' => ?_)
          go_wp2_with (fail)
          have hb3 : Below wd.heap.size wd (wd.alloc (.cells #[.int .i64 R.i, .int .u32 R.s, .int .i64 R.sl, .int .u32 R.d, .int .i64 R.dl, .int .u16 R.p.1, .int .u16 R.p.2, .int .u16 R.q.1, .int .u16 R.q.2, .int .u8 R.m.1, .int .u8 R.m.2, .int .i64 R.act] 52)) := (Below.refl _ _).alloc (Nat.le_refl _) _
          have hn : (wd.alloc (.cells #[.int .i64 R.i, .int .u32 R.s, .int .i64 R.sl, .int .u32 R.d, .int .i64 R.dl, .int .u16 R.p.1, .int .u16 R.p.2, .int .u16 R.q.1, .int .u16 R.q.2, .int .u8 R.m.1, .int .u8 R.m.2, .int .i64 R.act] 52)).heap[wd.heap.size]? = some (.cells #[.int .i64 R.i, .int .u32 R.s, .int .i64 R.sl, .int .u32 R.d, .int .i64 R.dl, .int .u16 R.p.1, .int .u16 R.p.2, .int .u16 R.q.1, .int .u16 R.q.2, .int .u8 R.m.1, .int .u8 R.m.2, .int .i64 R.act] 52 (0, 0)) := blk_new wd _
          have hs3 : (wd.alloc (.cells #[.int .i64 R.i, .int .u32 R.s, .int .i64 R.sl, .int .u32 R.d, .int .i64 R.dl, .int .u16 R.p.1, .int .u16 R.p.2, .int .u16 R.q.1, .int .u16 R.q.2, .int .u8 R.m.1, .int .u8 R.m.2, .int .i64 R.act] 52)).cell? ⟨X, 0, none⟩ = some (.pointer (some ⟨t, 0, none⟩)) ∧ (wd.alloc (.cells #[.int .i64 R.i, .int .u32 R.s, .int .i64 R.sl, .int .u32 R.d, .int .i64 R.dl, .int .u16 R.p.1, .int .u16 R.p.2, .int .u16 R.q.1, .int .u16 R.q.2, .int .u8 R.m.1, .int .u8 R.m.2, .int .i64 R.act] 52)).heap[b5]? = some (.cells #[.int .i64 R.i, .int .u32 R.s, .int .i64 R.sl, .int .u32 R.d, .int .i64 R.dl, .int .u16 R.p.1, .int .u16 R.p.2, .int .u16 R.q.1, .int .u16 R.q.2, .int .u8 R.m.1, .int .u8 R.m.2, .int .i64 R.act] 52 (0, 0)) := ⟨cell_on1 hb3 hS0.1, blk_on hS0.2 hb3⟩
          have hB3 := HBd1.out.trans (hb3.mono HBd1.out.size)
          refine ⟨hs3, ?_⟩
          generalize wd.alloc (.cells #[.int .i64 R.i, .int .u32 R.s, .int .i64 R.sl, .int .u32 R.d, .int .i64 R.dl, .int .u16 R.p.1, .int .u16 R.p.2, .int .u16 R.q.1, .int .u16 R.q.2, .int .u8 R.m.1, .int .u8 R.m.2, .int .i64 R.act] 52) = w3 at *
          refine wpO 7 (fun K' hK' => ?_)
          go_wp2_with (go_at_call 32; refine (HR.out _ hB3).mono ?_; rintro e w7 ⟨u, rfl, hu, hb4⟩)
          obtain ⟨au, cu, rfl, _⟩ := hu.form
          have hB4 := hB3.trans (hb4.mono hB3.size)
          have hs4 : w7.cell? ⟨X, 0, none⟩ = some (.pointer (some ⟨t, 0, none⟩)) ∧ w7.heap[b5]? = some (.cells #[.int .i64 R.i, .int .u32 R.s, .int .i64 R.sl, .int .u32 R.d, .int .i64 R.dl, .int .u16 R.p.1, .int .u16 R.p.2, .int .u16 R.q.1, .int .u16 R.q.2, .int .u8 R.m.1, .int .u8 R.m.2, .int .i64 R.act] 52 (0, 0)) := ⟨cell_on1 hb4 hs3.1, blk_on hs3.2 hb4⟩
          refine ⟨hs4, ?_⟩
          have hk : ∀ k, (Value.slice au (delL l x).length cu).ownBlock = some k → w5.heap.size ≤ k := fun k e => Nat.le_trans hB3.size (rowU_ge hu e)
          have hst := HSt.out _ _ _ hB4 hu.src hk (srcU_one (blk_on hn hb4))
          have hbl := blk_lt hs4.2
          refine wpO 10 (fun K' hK' => ?_)
          go_wp2_with (go_at_call 31; refine hst.mono ?_; rintro e w6 ⟨rfl, hd6, hx6, hg6⟩)
          have hs6 : w6.cell? ⟨X, 0, none⟩ = some (.pointer (some ⟨t, 0, none⟩)) ∧ w6.heap[b5]? = some (.cells #[.int .i64 R.i, .int .u32 R.s, .int .i64 R.sl, .int .u32 R.d, .int .i64 R.dl, .int .u16 R.p.1, .int .u16 R.p.2, .int .u16 R.q.1, .int .u16 R.q.2, .int .u8 R.m.1, .int .u8 R.m.2, .int .i64 R.act] 52 (0, 0)) := ⟨hx6, (hg6.block _ hbl (fun e => e.elim hb5.1 hb5.2)).trans hs4.2⟩
          refine ⟨hs6, ?_⟩
          have HD : Hid (Did w w6 X c (delL l x) S) := hd6
          refine wpAnyH_done (by kernel_rfl) ?_ _
          try simp only [nrm]
          clear hs6 hx6 hg6 hd6 hst
          go_wp2_with (fail)
          go_ret
          exact ⟨by rw [HED.out]; rfl, HD.out⟩
      · have e1 : delE l x = 114 := if_neg h0
        have e2 : delL l x = l := if_neg h0
        have hN := HDn.out (by have := fnd_range l x; omega) _ HS4.out
        clear hDl
        go_wp2_with (go_at_call 134; fail)
        refine hN.mono ?_
        rintro e w5 ⟨rfl, hb5⟩
        have HD : Hid (Did w w5 X c (delL l x) S) := by
          show Did w w5 X c (delL l x) S
          rw [e2]
          exact HE.out.did (HS4.out.trans (hb5.mono HS4.out.size))
        clear hN hb5 e2 c4
        go_wp2_with (fail)
        go_ret
        exact ⟨by rw [e1]; rfl, HD.out⟩
  · refine wpOp_of_wp rfl rfl (fun K' hK' => ?_)
    go_wp2_with (fail)
    have hb14 : Below wd.heap.size wd (wd.alloc (.cells #[.int .i64 0, .int .u32 0, .int .i64 0, .int .u32 0, .int .i64 0, .int .u16 0, .int .u16 0, .int .u16 0, .int .u16 0, .int .u8 0, .int .u8 0, .int .i64 0] 52)) := (Below.refl _ _).alloc (Nat.le_refl _) _
    have hn14 : (wd.alloc (.cells #[.int .i64 0, .int .u32 0, .int .i64 0, .int .u32 0, .int .i64 0, .int .u16 0, .int .u16 0, .int .u16 0, .int .u16 0, .int .u8 0, .int .u8 0, .int .i64 0] 52)).heap[wd.heap.size]? = some (.cells #[.int .i64 0, .int .u32 0, .int .i64 0, .int .u32 0, .int .i64 0, .int .u16 0, .int .u16 0, .int .u16 0, .int .u16 0, .int .u8 0, .int .u8 0, .int .i64 0] 52 (0, 0)) := blk_new wd (.cells #[.int .i64 0, .int .u32 0, .int .i64 0, .int .u32 0, .int .i64 0, .int .u16 0, .int .u16 0, .int .u16 0, .int .u16 0, .int .u8 0, .int .u8 0, .int .i64 0] 52)
    have hS14 := hS0.trans (hb14.mono hS0.size)
    have hSB := hS0
    refine ⟨hS14, ?_⟩
    obtain ⟨wa14, hwa14⟩ : ∃ x, x = wd.alloc (.cells #[.int .i64 0, .int .u32 0, .int .i64 0, .int .u32 0, .int .i64 0, .int .u16 0, .int .u16 0, .int .u16 0, .int .u16 0, .int .u8 0, .int .u8 0, .int .i64 0] 52) := ⟨_, rfl⟩
    rw [← hwa14] at hb14 hn14 hS14 ⊢
    clear hwa14
    refine wpO 9 (fun K' hK' => ?_)
    go_wp2_with (go_at_call 34; refine (HFi.out _ hS14).mono ?_; rintro e wa16 ⟨rfl, hb16⟩)
    have hS16 := hS14.trans (hb16.mono hS14.size)
    have hn16 := blk_on hn14 hb16
    refine ⟨hS16, ?_⟩
    refine wpO 10 (fun K' hK' => ?_)
    go_wp2_with (go_at_call 54; refine (HAt.out _ hS16).mono ?_; rintro e wa18 ⟨rfl, hb18⟩)
    have hS18 := hS16.trans (hb18.mono hS16.size)
    have hn18 := blk_on hn16 hb18
    refine ⟨hS18, ?_⟩
    refine wpTk (i := 11) (v := .tuple #[.agg #[.int .i64 R.i, .int .u32 R.s, .int .i64 R.sl, .int .u32 R.d, .int .i64 R.dl, .int .u16 R.p.1, .int .u16 R.p.2, .int .u16 R.q.1, .int .u16 R.q.2, .int .u8 R.m.1, .int .u8 R.m.2, .int .i64 R.act], .int .i64 EA]) hS18 ?_
    simp only [nrm]
    refine wpTk (i := 12) (v := .agg #[.int .i64 R.i, .int .u32 R.s, .int .i64 R.sl, .int .u32 R.d, .int .i64 R.dl, .int .u16 R.p.1, .int .u16 R.p.2, .int .u16 R.q.1, .int .u16 R.q.2, .int .u8 R.m.1, .int .u8 R.m.2, .int .i64 R.act]) hS18 ?_
    simp only [nrm]
    refine wpTk (i := 13) (v := .int .i64 EA) hS18 ?_
    simp only [nrm]
    refine wpO 15 (fun K' hK' => ?_)
    refine wpSt 52 (.tmp 5) (.tmp 22) rfl wd.heap.size 0 #[.int .i64 R.i, .int .u32 R.s, .int .i64 R.sl, .int .u32 R.d, .int .i64 R.dl, .int .u16 R.p.1, .int .u16 R.p.2, .int .u16 R.q.1, .int .u16 R.q.2, .int .u8 R.m.1, .int .u8 R.m.2, .int .i64 R.act] #[.int .i64 R.i, .int .u32 R.s, .int .i64 R.sl, .int .u32 R.d, .int .i64 R.dl, .int .u16 R.p.1, .int .u16 R.p.2, .int .u16 R.q.1, .int .u16 R.q.2, .int .u8 R.m.1, .int .u8 R.m.2, .int .i64 R.act] rfl rfl 52 _ hn18 (fun w4 h4 ho4 => hK' _ _ ⟨hS18.trans (ho4.below hSB.size), ?_⟩)
    have hS4 : Below w.heap.size w w4 := hS18.trans (ho4.below hSB.size)
    refine wpTk (i := 16) (v := .int .i64 EA) hS4 ?_
    simp only [nrm]
    refine wpAnyH_done (by kernel_rfl) ?_ _
    try simp only [nrm]
    have HS4 : Hid (Below w.heap.size w w4) := hS4
    have Hz2 : Hid (w.heap.size ≤ wd.heap.size) := hSB.size
    have H4 : Hid (w4.heap[wd.heap.size]? = some (.cells #[.int .i64 R.i, .int .u32 R.s, .int .i64 R.sl, .int .u32 R.d, .int .i64 R.dl, .int .u16 R.p.1, .int .u16 R.p.2, .int .u16 R.q.1, .int .u16 R.q.2, .int .u8 R.m.1, .int .u8 R.m.2, .int .i64 R.act] 52 (0, 0))) := h4
    have hDl := HDl.out _ hS4
    have c4 := cell_on1 hS4 c0
    generalize wd.heap.size = b5 at *
    by_cases h0 : 0 ≤ fnd l x
    · go_wp2_with (go_at_call 134; fail)
      refine hDl.mono ?_
      rintro e w5 ⟨rfl, v5, hT5, hm5⟩
      have HT5 : Hid (Tab w5 t v5 c.m c.a (delL l x)) := hT5
      have HM5 : Hid (Moved w4 w5 t v v5) := hm5
      clear hT5 hm5 hDl c4
      have hft := HF.out.flt
      have hnX : ∀ k, Foot t v B (.slice ad n cap) f Sg k → k ≠ X := fun k hF e => HE.out.nX (e ▸ Hf.out k hF)
      have lB : B < w.heap.size := hft B (.inr (.inr (.inl rfl)))
      have lt0 : t < w.heap.size := hft t (.inl rfl)
      have lv0 : ∀ k, v.ownBlock = some k → k < w.heap.size := fun k e => hft k (.inr (.inl e))
      have hXl := HE.out.lt
      have nXt : X ≠ t := fun e => hnX t (.inl rfl) e.symm
      have nXv : v.ownBlock ≠ some X := fun e => hnX X (.inr (.inl e)) rfl
      have hz4 := HS4.out.size
      have hX5 : w5.heap[X]? = some (.cells #[.pointer (some ⟨t, 0, none⟩), .int .i64 c.a, .int .i64 c.t, .map (some B), .slice ad n cap] 76 (0, 0)) := (HM5.out.block X (by omega) nXt nXv).trans (blk_on HF.out.sp.blk HS4.out)
      have hr5 : w5.heap[b5]? = some (.cells #[.int .i64 R.i, .int .u32 R.s, .int .i64 R.sl, .int .u32 R.d, .int .i64 R.dl, .int .u16 R.p.1, .int .u16 R.p.2, .int .u16 R.q.1, .int .u16 R.q.2, .int .u8 R.m.1, .int .u8 R.m.2, .int .i64 R.act] 52 (0, 0)) := (HM5.out.block b5 (blk_lt H4.out) (by have := Hz2.out; omega) (fun e => by have := Hz2.out; have := lv0 b5 e; omega)).trans H4.out
      have hst5 : ∀ k, k < w.heap.size → k ≠ t → v.ownBlock ≠ some k → w5.heap[k]? = w.heap[k]? := fun k hk e1 e2 => by rw [HM5.out.block k (by omega) e1 e2, HS4.out.block k hk]
      have HG5 : Hid (Chg w w5 (fun k => k = X ∨ k = t ∨ v.ownBlock = some k ∨ k = B)) := ⟨HM5.out.os.trans HS4.out.os, HM5.out.tape.trans HS4.out.tape, HM5.out.output.trans HS4.out.output, Nat.le_trans hz4 HM5.out.size, fun k hk e => hst5 k hk (fun e2 => e (.inr (.inl e2))) (fun e2 => e (.inr (.inr (.inl e2))))⟩
      have HX5 : Hid _ := hX5
      have hl2 : (delL l x).length ≤ 200000 := Nat.le_trans (okN_sub HE.out.ok (delL_sub l x)).few (by decide)
      have HR : Hid (∀ W, Below w5.heap.size w5 W → Calls Tryz.prog 32 #[.pointer (some ⟨t, 0, none⟩)] W fun e w' => ∃ v' : Value, e = .returned v' ∧ RowU w' W.heap.size v' (delL l x) ∧ Below W.heap.size W w') := fun W hb => rulesC t v5 c.m c.a _ W (HT5.out.on hb) hl2
      obtain ⟨hk0, hRl⟩ := HRr.out (by rw [HFe.out]; exact h0)
      have hRm : R ∈ l := by rw [hRl]; exact List.getElem_mem hk0
      have HED : Hid (delE l x = 0) := if_pos h0
      have hX5l : X < w5.heap.size := blk_lt hX5
      have HSt : Hid (∀ W (u q : Value), Below w5.heap.size w5 W → SrcU W u (delL l x) → (∀ k, u.ownBlock = some k → w5.heap.size ≤ k) → SrcU W q [R] → Calls Tryz.prog 31 #[.pointer (some ⟨X, 3, none⟩), u, q] W fun e w' => e = .returned (.tuple #[]) ∧ Did w w' X c (delL l x) S ∧ w'.cell? ⟨X, 0, none⟩ = some (.pointer (some ⟨t, 0, none⟩)) ∧ Chg W w' (fun b => b = B ∨ b = X)) := fun W u q hb hu hk hq => by
        have hap := HF.out.ap
        have hst : ∀ k, (k = B ∨ (Value.slice ad n cap).ownBlock = some k ∨ ∃ s, (f s).isSome = true ∧ Sg s k) → k < w.heap.size → W.heap[k]? = w.heap[k]? := fun k hF hk => by rw [hb.block k (Nat.lt_of_lt_of_le hk HG5.out.size), hst5 k hk (hap k hF).1 (hap k hF).2]
        have hz : w.heap.size ≤ W.heap.size := Nat.le_trans HG5.out.size hb.size
        refine HE.out.settle HF.out Hf.out ((HG5.out.trans (Chg.of_below hb (fun _ => False)) fun k e => e.elim)) (HT5.out.on hb) (.inl rfl) (fun k e => (HM5.out.own k e).imp id fun e2 => Nat.le_trans hz4 e2) (blk_on HX5.out hb) (HF.out.sp.mp.stay (hst B (.inl rfl) lB)) (HF.out.sp.gs.stay hz fun s e b hb => hst b (.inr (.inr ⟨s, e, hb⟩)) (hft b (.inr (.inr (.inr (.inr ⟨s, e, hb⟩)))))) HF.out.sp.dom (fun s e b hb => ⟨e, hb⟩) HE.out.ok.few hu (fun g off n cap e e2 => ?_) hq (by simp) (fun Q hQ => by simp at hQ; subst hQ; exact ⟨HE.out.bd _ hRm, HE.out.ok.may _ hRm⟩) (fun s hs => ?_) (okN_sub HE.out.ok (delL_sub l x)) (fun Q hQ => HE.out.bd Q ((delL_sub l x).subset hQ))
        · have := hk g (by rw [e]; rfl)
          omega
        · have hsm := out_same l F.toNat hk0 (t := s) (fun e => hs ⟨R, by simp, by rw [hRl]; exact e⟩)
          have e9 : delL l x = outL l F.toNat := by rw [HFe.out]; exact if_pos h0
          rw [e9]; exact hsm
      have c5 : w5.cell? ⟨X, 0, none⟩ = some (.pointer (some ⟨t, 0, none⟩)) := blk_cell hX5 rfl
      have hb5 : b5 ≠ B ∧ b5 ≠ X := by have := Hz2.out; omega
      rw [show delE l x = 0 from HED.out]
      clear hft hnX lt0 lv0 nXt nXv hst5 hl2 hk0 hRl hRm hX5 hz4
      go_upto_region 6 with (fail)
      refine wp_region_held_drew (S := fun w' => w'.cell? ⟨X, 0, none⟩ = some (.pointer (some ⟨t, 0, none⟩)) ∧ w'.heap[b5]? = some (.cells #[.int .i64 R.i, .int .u32 R.s, .int .i64 R.sl, .int .u32 R.d, .int .i64 R.dl, .int .u16 R.p.1, .int .u16 R.p.2, .int .u16 R.q.1, .int .u16 R.q.2, .int .u8 R.m.1, .int .u8 R.m.2, .int .i64 R.act] 52 (0, 0))) (by kernel_rfl) ⟨c5, hr5⟩ (fun hS0 => ?_)
      show wpAnyH _ _ _ _ _ 11 _ _ _
      clear c5 hr5
      obtain ⟨wd, hwd⟩ : ∃ x, x = w5.drew := ⟨_, rfl⟩
      have HBd1 : Hid (Below w5.heap.size w5 wd) := by show Below _ _ _; rw [hwd]; exact Below.drew (Below.refl _ _)
      rw [← hwd] at hS0 ⊢
      clear hwd
      refine wpTk (i := 0) (v := .pointer (some ⟨X, 0, none⟩)) hS0 ?_
      simp only [nrm]
      refine wpTk (i := 1) (v := .pointer (some ⟨X, 0, none⟩)) hS0 ?_
      simp only [nrm]
      refine wpTk (i := 2) (v := .pointer (some ⟨X, 3, none⟩)) hS0 ?_
      simp only [nrm]
      refine wpTk (i := 3) (v := .pointer (some ⟨X, 0, none⟩)) hS0 ?_
      simp only [nrm]
      refine wpTk (i := 4) (v := .pointer (some ⟨X, 0, none⟩)) hS0 ?_
      simp only [nrm]
      refine wpTk (i := 5) (v := .pointer (some ⟨X, 0, none⟩)) hS0 ?_
      simp only [nrm]
      refine wpAnyH_take (i := 6) (v := .pointer (some ⟨t, 0, none⟩)) rfl (by kernel_rfl) (by kernel_rfl) (by kernel_rfl) (fun _ _ _ h => h) (.inl ⟨rfl, fun w' hw' => by have hcc := hw'.1; simp [execOp, go_sem, hcc]⟩) hS0 ?_
      simp only [nrm]
      refine wpLd (i := 8) rfl (yieldsIf_load_mid rfl 52 (.tmp 5) rfl b5 0 rfl [.int .i64 R.i, .int .u32 R.s, .int .i64 R.sl, .int .u32 R.d, .int .i64 R.dl, .int .u16 R.p.1, .int .u16 R.p.2, .int .u16 R.q.1, .int .u16 R.q.2, .int .u8 R.m.1, .int .u8 R.m.2, .int .i64 R.act] _ (fun w' hw' => rngAll hw'.2) Tryz.underlying52 rfl (by kernel_rfl)) hS0 ?_
      try simp only [nrm]
      refine wpAnyH_all (rs := [7, 9]) (by kernel_rfl) (by simp) ?_
      intro i hi
      simp only [mmL] at hi
      rcases hi with rfl | rfl
      · refine wpOp_of_wp rfl rfl (fun K' hK' => ?_)
        go_wp2_with (go_at_call 32; refine (HR.out _ HBd1.out).mono ?_; rintro e w3 ⟨u, rfl, hu, hb3⟩)
        obtain ⟨au, cu, rfl, _⟩ := hu.form
        have hB3 := HBd1.out.trans (hb3.mono HBd1.out.size)
        have hs3 : w3.cell? ⟨X, 0, none⟩ = some (.pointer (some ⟨t, 0, none⟩)) ∧ w3.heap[b5]? = some (.cells #[.int .i64 R.i, .int .u32 R.s, .int .i64 R.sl, .int .u32 R.d, .int .i64 R.dl, .int .u16 R.p.1, .int .u16 R.p.2, .int .u16 R.q.1, .int .u16 R.q.2, .int .u8 R.m.1, .int .u8 R.m.2, .int .i64 R.act] 52 (0, 0)) := ⟨cell_on1 hb3 hS0.1, blk_on hS0.2 hb3⟩
        refine ⟨hs3, ?_⟩
        have hk : ∀ k, (Value.slice au (delL l x).length cu).ownBlock = some k → w5.heap.size ≤ k := fun k e => Nat.le_trans HBd1.out.size (rowU_ge hu e)
        refine wpO 9 (fun K' hK' => ?_)
        go_wp2_with (fail)
        have hb4 : Below w3.heap.size w3 (w3.alloc (.cells #[.int .i64 R.i, .int .u32 R.s, .int .i64 R.sl, .int .u32 R.d, .int .i64 R.dl, .int .u16 R.p.1, .int .u16 R.p.2, .int .u16 R.q.1, .int .u16 R.q.2, .int .u8 R.m.1, .int .u8 R.m.2, .int .i64 R.act] 52)) := (Below.refl _ _).alloc (Nat.le_refl _) _
        have hn : (w3.alloc (.cells #[.int .i64 R.i, .int .u32 R.s, .int .i64 R.sl, .int .u32 R.d, .int .i64 R.dl, .int .u16 R.p.1, .int .u16 R.p.2, .int .u16 R.q.1, .int .u16 R.q.2, .int .u8 R.m.1, .int .u8 R.m.2, .int .i64 R.act] 52)).heap[w3.heap.size]? = some (.cells #[.int .i64 R.i, .int .u32 R.s, .int .i64 R.sl, .int .u32 R.d, .int .i64 R.dl, .int .u16 R.p.1, .int .u16 R.p.2, .int .u16 R.q.1, .int .u16 R.q.2, .int .u8 R.m.1, .int .u8 R.m.2, .int .i64 R.act] 52 (0, 0)) := blk_new w3 _
        have hs4 : (w3.alloc (.cells #[.int .i64 R.i, .int .u32 R.s, .int .i64 R.sl, .int .u32 R.d, .int .i64 R.dl, .int .u16 R.p.1, .int .u16 R.p.2, .int .u16 R.q.1, .int .u16 R.q.2, .int .u8 R.m.1, .int .u8 R.m.2, .int .i64 R.act] 52)).cell? ⟨X, 0, none⟩ = some (.pointer (some ⟨t, 0, none⟩)) ∧ (w3.alloc (.cells #[.int .i64 R.i, .int .u32 R.s, .int .i64 R.sl, .int .u32 R.d, .int .i64 R.dl, .int .u16 R.p.1, .int .u16 R.p.2, .int .u16 R.q.1, .int .u16 R.q.2, .int .u8 R.m.1, .int .u8 R.m.2, .int .i64 R.act] 52)).heap[b5]? = some (.cells #[.int .i64 R.i, .int .u32 R.s, .int .i64 R.sl, .int .u32 R.d, .int .i64 R.dl, .int .u16 R.p.1, .int .u16 R.p.2, .int .u16 R.q.1, .int .u16 R.q.2, .int .u8 R.m.1, .int .u8 R.m.2, .int .i64 R.act] 52 (0, 0)) := ⟨cell_on1 hb4 hs3.1, blk_on hs3.2 hb4⟩
        have hB4 := hB3.trans (hb4.mono hB3.size)
        refine ⟨hs4, ?_⟩
        generalize w3.alloc (.cells #[.int .i64 R.i, .int .u32 R.s, .int .i64 R.sl, .int .u32 R.d, .int .i64 R.dl, .int .u16 R.p.1, .int .u16 R.p.2, .int .u16 R.q.1, .int .u16 R.q.2, .int .u8 R.m.1, .int .u8 R.m.2, .int .i64 R.act] 52) = w7 at *
        have hst := HSt.out _ _ _ hB4 (hu.src.keep hb4) hk (srcU_one hn)
        have hbl := blk_lt hs4.2
        refine wpO 10 (fun K' hK' => ?_)
        go_wp2_with (go_at_call 31; refine hst.mono ?_; rintro e w6 ⟨rfl, hd6, hx6, hg6⟩)
        have hs6 : w6.cell? ⟨X, 0, none⟩ = some (.pointer (some ⟨t, 0, none⟩)) ∧ w6.heap[b5]? = some (.cells #[.int .i64 R.i, .int .u32 R.s, .int .i64 R.sl, .int .u32 R.d, .int .i64 R.dl, .int .u16 R.p.1, .int .u16 R.p.2, .int .u16 R.q.1, .int .u16 R.q.2, .int .u8 R.m.1, .int .u8 R.m.2, .int .i64 R.act] 52 (0, 0)) := ⟨hx6, (hg6.block _ hbl (fun e => e.elim hb5.1 hb5.2)).trans hs4.2⟩
        refine ⟨hs6, ?_⟩
        have HD : Hid (Did w w6 X c (delL l x) S) := hd6
        refine wpAnyH_done (by kernel_rfl) ?_ _
        try simp only [nrm]
        clear hs6 hx6 hg6 hd6 hst
        go_wp2_with (fail)
        go_ret
        exact ⟨by rw [HED.out]; rfl, HD.out⟩
      · refine wpOp_of_wp rfl rfl (fun K' hK' => ?_)
        go_wp2_with (fail)
        have hb3 : Below wd.heap.size wd (wd.alloc (.cells #[.int .i64 R.i, .int .u32 R.s, .int .i64 R.sl, .int .u32 R.d, .int .i64 R.dl, .int .u16 R.p.1, .int .u16 R.p.2, .int .u16 R.q.1, .int .u16 R.q.2, .int .u8 R.m.1, .int .u8 R.m.2, .int .i64 R.act] 52)) := (Below.refl _ _).alloc (Nat.le_refl _) _
        have hn : (wd.alloc (.cells #[.int .i64 R.i, .int .u32 R.s, .int .i64 R.sl, .int .u32 R.d, .int .i64 R.dl, .int .u16 R.p.1, .int .u16 R.p.2, .int .u16 R.q.1, .int .u16 R.q.2, .int .u8 R.m.1, .int .u8 R.m.2, .int .i64 R.act] 52)).heap[wd.heap.size]? = some (.cells #[.int .i64 R.i, .int .u32 R.s, .int .i64 R.sl, .int .u32 R.d, .int .i64 R.dl, .int .u16 R.p.1, .int .u16 R.p.2, .int .u16 R.q.1, .int .u16 R.q.2, .int .u8 R.m.1, .int .u8 R.m.2, .int .i64 R.act] 52 (0, 0)) := blk_new wd _
        have hs3 : (wd.alloc (.cells #[.int .i64 R.i, .int .u32 R.s, .int .i64 R.sl, .int .u32 R.d, .int .i64 R.dl, .int .u16 R.p.1, .int .u16 R.p.2, .int .u16 R.q.1, .int .u16 R.q.2, .int .u8 R.m.1, .int .u8 R.m.2, .int .i64 R.act] 52)).cell? ⟨X, 0, none⟩ = some (.pointer (some ⟨t, 0, none⟩)) ∧ (wd.alloc (.cells #[.int .i64 R.i, .int .u32 R.s, .int .i64 R.sl, .int .u32 R.d, .int .i64 R.dl, .int .u16 R.p.1, .int .u16 R.p.2, .int .u16 R.q.1, .int .u16 R.q.2, .int .u8 R.m.1, .int .u8 R.m.2, .int .i64 R.act] 52)).heap[b5]? = some (.cells #[.int .i64 R.i, .int .u32 R.s, .int .i64 R.sl, .int .u32 R.d, .int .i64 R.dl, .int .u16 R.p.1, .int .u16 R.p.2, .int .u16 R.q.1, .int .u16 R.q.2, .int .u8 R.m.1, .int .u8 R.m.2, .int .i64 R.act] 52 (0, 0)) := ⟨cell_on1 hb3 hS0.1, blk_on hS0.2 hb3⟩
        have hB3 := HBd1.out.trans (hb3.mono HBd1.out.size)
        refine ⟨hs3, ?_⟩
        generalize wd.alloc (.cells #[.int .i64 R.i, .int .u32 R.s, .int .i64 R.sl, .int .u32 R.d, .int .i64 R.dl, .int .u16 R.p.1, .int .u16 R.p.2, .int .u16 R.q.1, .int .u16 R.q.2, .int .u8 R.m.1, .int .u8 R.m.2, .int .i64 R.act] 52) = w3 at *
        refine wpO 7 (fun K' hK' => ?_)
        go_wp2_with (go_at_call 32; refine (HR.out _ hB3).mono ?_; rintro e w7 ⟨u, rfl, hu, hb4⟩)
        obtain ⟨au, cu, rfl, _⟩ := hu.form
        have hB4 := hB3.trans (hb4.mono hB3.size)
        have hs4 : w7.cell? ⟨X, 0, none⟩ = some (.pointer (some ⟨t, 0, none⟩)) ∧ w7.heap[b5]? = some (.cells #[.int .i64 R.i, .int .u32 R.s, .int .i64 R.sl, .int .u32 R.d, .int .i64 R.dl, .int .u16 R.p.1, .int .u16 R.p.2, .int .u16 R.q.1, .int .u16 R.q.2, .int .u8 R.m.1, .int .u8 R.m.2, .int .i64 R.act] 52 (0, 0)) := ⟨cell_on1 hb4 hs3.1, blk_on hs3.2 hb4⟩
        refine ⟨hs4, ?_⟩
        have hk : ∀ k, (Value.slice au (delL l x).length cu).ownBlock = some k → w5.heap.size ≤ k := fun k e => Nat.le_trans hB3.size (rowU_ge hu e)
        have hst := HSt.out _ _ _ hB4 hu.src hk (srcU_one (blk_on hn hb4))
        have hbl := blk_lt hs4.2
        refine wpO 10 (fun K' hK' => ?_)
        go_wp2_with (go_at_call 31; refine hst.mono ?_; rintro e w6 ⟨rfl, hd6, hx6, hg6⟩)
        have hs6 : w6.cell? ⟨X, 0, none⟩ = some (.pointer (some ⟨t, 0, none⟩)) ∧ w6.heap[b5]? = some (.cells #[.int .i64 R.i, .int .u32 R.s, .int .i64 R.sl, .int .u32 R.d, .int .i64 R.dl, .int .u16 R.p.1, .int .u16 R.p.2, .int .u16 R.q.1, .int .u16 R.q.2, .int .u8 R.m.1, .int .u8 R.m.2, .int .i64 R.act] 52 (0, 0)) := ⟨hx6, (hg6.block _ hbl (fun e => e.elim hb5.1 hb5.2)).trans hs4.2⟩
        refine ⟨hs6, ?_⟩
        have HD : Hid (Did w w6 X c (delL l x) S) := hd6
        refine wpAnyH_done (by kernel_rfl) ?_ _
        try simp only [nrm]
        clear hs6 hx6 hg6 hd6 hst
        go_wp2_with (fail)
        go_ret
        exact ⟨by rw [HED.out]; rfl, HD.out⟩
    · have e1 : delE l x = 114 := if_neg h0
      have e2 : delL l x = l := if_neg h0
      have hN := HDn.out (by have := fnd_range l x; omega) _ HS4.out
      clear hDl
      go_wp2_with (go_at_call 134; fail)
      refine hN.mono ?_
      rintro e w5 ⟨rfl, hb5⟩
      have HD : Hid (Did w w5 X c (delL l x) S) := by
        show Did w w5 X c (delL l x) S
        rw [e2]
        exact HE.out.did (HS4.out.trans (hb5.mono HS4.out.size))
      clear hN hb5 e2 c4
      go_wp2_with (fail)
      go_ret
      exact ⟨by rw [e1]; rfl, HD.out⟩
end Go.Proofs.YtfpmljgmfapoiaaGreat
