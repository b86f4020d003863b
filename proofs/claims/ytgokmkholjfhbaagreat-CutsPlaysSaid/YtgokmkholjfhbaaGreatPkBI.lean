/-
  PkBI: TbN, one behind the other (tools/pack.py).
-/
import Derived.Test.YtgokmkholjfhbaaGreatPkBH
import Derived.Test.YtgokmkholjfhbaaGreatPkAE
set_option linter.unusedVariables false
set_option linter.unusedSimpArgs false
namespace Go.Proofs.YtgokmkholjfhbaaGreat
open Go.RowKit
theorem Tab.fresh {w w5 w6 : World} {t b : Nat} {v v' : Value} {M A : Int} {l' : List Ru} (hb : Below w.heap.size w w5) (hr : RowU w5 b v' l') (hbz : w.heap.size ≤ b) (ht : t < w.heap.size)
  (hb6 : w6.heap[t]? = some (.cells #[.int .i64 M, .int .i64 A, v'] 104 (0, 0))) (ho : Only t w5 w6) : Tab w6 t v' M A l' ∧ Moved w w6 t v v' := by
 refine ⟨Tab.make (hr.base (Nat.zero_le _)) (fun e => by have := (hr.lt t e).1; omega) hb6 ho, ⟨ho.os.trans hb.os, ho.tape.trans hb.tape, ho.output.trans hb.output, ?_, fun k hk hne _ => ?_, fun k e => .inr (by have := (hr.lt k e).1; omega)⟩⟩
 ·have := hb.size; have := ho.size; omega
 ·rw [ho.block k hne, hb.block k hk]
set_option maxRecDepth 20000 in
set_option maxHeartbeats 8000000 in
theorem setC (t : Nat) (v : Value) (M A : Int) (l0 : List Ru) (u : Value) (l : List Ru) (w : World) (h : Tab w t v M A l0) (hs : SrcU w u l) (hl : l.length ≤ 200000) (hM : I64 M) (hbd : ∀ k (hk : k < l.length), BdR (l[k]'hk)) :
  Calls Tryz.prog 209 #[.pointer (some ⟨t, 0, none⟩), u] w fun e w' => e = .returned (.int .i64 (setE l M)) ∧ ∃ v', Tab w' t v' M A (if setE l M = 0 then l else l0) ∧ Moved w w' t v v' := by
 have HS : Hid (SrcU w u l) := hs
 have HT : Hid (Tab w t v M A l0) := h
 have hlt := h.lt
 obtain ⟨E, hE⟩ : ∃ E, E = setE l M := ⟨_, rfl⟩
 obtain ⟨L, hL⟩ : ∃ L, L = if E = 0 then l else l0 := ⟨_, rfl⟩
 rw [← hE, ← hL]
 have HE : Hid (E = setK M (l.take 0) (l.drop 0)) := hE
 have HL : Hid (L = if E = 0 then l else l0) := hL
 have HG : Hid (∀ W, Below w.heap.size w W → Tab W t v M A l0 ∧ Moved w W t v v) := fun W hb => ⟨h.on hb, Moved.of_below hb⟩
 have HCp : Hid (∀ W, Below w.heap.size w W → Calls Tryz.prog 64 #[u] W fun e w' => ∃ v' : Value, e = .returned v' ∧ RowU w' W.heap.size v' l ∧ Below W.heap.size W w') := fun W hb => copyOfC u l W (hs.keep hb) hl
 clear hE hL h
 obtain ⟨ad, cap, rfl, hcap, hat⟩ := hs
 obtain ⟨n, hn⟩ : ∃ n, n = l.length := ⟨_, rfl⟩
 have Hn : Hid (n = l.length) := hn
 have HAt : Hid (∀ (W : World), Below w.heap.size w W → ∀ k (hk : k < l.length), ∃ g off, ad = some ⟨g, off, none⟩ ∧ g < W.heap.size ∧ ∀ j, j < 12 → W.cell? ⟨g, off + (k * 12 + j), none⟩ = (encU (l[k]'hk))[j]?) := fun W hb k hk => by
  obtain ⟨g, off, e, h3⟩ := hat (by omega)
  have h0 := h3 k hk 0 (by decide)
  have hg : g < w.heap.size := World.block_lt_of_cell? w _ (h0.trans rfl)
  exact ⟨g, off, e, by have := hb.size; omega, fun j hj => by
   have := h3 k hk j hj
   obtain ⟨u, hu⟩ := encU_some (l[k]'hk) hj
   rw [hb.cell (p := ⟨g, off + (k * 12 + j), none⟩) hg]; exact this⟩
 have HJ : Hid (∀ (W : World) (k : Nat) (hk : k < l.length) (g off : Nat), ad = some ⟨g, off, none⟩ → Below w.heap.size w W → ∀ p, p = l[k]'hk → Calls Tryz.prog 48 #[.slice (some ⟨g, off, none⟩) k cap, .agg #[.int .i64 p.i, .int .u32 p.s, .int .i64 p.sl, .int .u32 p.d, .int .i64 p.dl, .int .u16 p.p.1, .int .u16 p.p.2, .int .u16 p.q.1, .int .u16 p.q.2, .int .u8 p.m.1, .int .u8 p.m.2, .int .i64 p.act]] W fun e w' => e = .returned (.int .i64 (joinE (l.take k) (l[k]'hk))) ∧ Below W.heap.size W w') := fun W k hk g off e hb p hp => by
  subst e
  have h1 := (SrcU.cut HS.out 0 k (Nat.zero_le _) (by omega)).keep hb
  rw [cutU_zero, List.drop_zero] at h1
  subst hp
  exact mayJoinC _ _ _ W (hbd k hk) h1 (by rw [List.length_take]; omega)
 rw [← hn] at hl hcap HCp ⊢
 have hn0 : (n : Int) ≤ 200000 := by omega
 clear hn hat HS hbd
 go_enter Tryz.func209, Tryz.ntmps209
 go_wp2_with (fail)
 go_loopw [12] (fun i wr => ∃ k : Nat, k ≤ n ∧ i = .int .i64 k ∧ Hid (Below w.heap.size w wr) ∧ Hid (E = setK M (l.take k) (l.drop k))) (fun i _ => n - (intOf i).toNat)
 case atStart => exact ⟨0, Nat.zero_le _, rfl, Below.refl _ _, HE.out⟩
 case round =>
  obtain ⟨k, hk, rfl, HB, HK⟩ := hrel
  by_cases hlt2 : k < n
  ·have hkl : k < l.length := by rw [← Hn.out]; exact hlt2
   obtain ⟨g, off, e0, hg, hc⟩ := HAt.out wr HB.out k hkl
   obtain ⟨p, hp⟩ : ∃ p, p = l[k]'hkl := ⟨_, rfl⟩
   have hJ := fun W hb => HJ.out W k hkl g off e0 hb p hp
   have HKb : Hid (joinE (l.take k) (l[k]'hkl) ≠ 0 → E = joinE (l.take k) (l[k]'hkl)) := fun h0 => HK.out.trans (setK_bad hkl h0)
   have HKf : Hid (joinE (l.take k) (l[k]'hkl) = 0 → M ≤ (k : Int) → E = 113) := fun h0 hm => HK.out.trans (setK_full hkl h0 hm)
   have HKn : Hid (joinE (l.take k) (l[k]'hkl) = 0 → (k : Int) < M → E = setK M (l.take (k + 1)) (l.drop (k + 1))) := fun h0 hm => HK.out.trans (setK_next hkl h0 hm)
   rw [← hp] at hc
   subst e0
   generalize joinE (l.take k) (l[k]'hkl) = J at *
   have x0 : wr.cell? ⟨g, off + k * 12, none⟩ = some (.int .i64 p.i) := hc 0 (by decide)
   have x1 : wr.cell? ⟨g, off + k * 12 + 1, none⟩ = some (.int .u32 p.s) := hc 1 (by decide)
   have x2 : wr.cell? ⟨g, off + k * 12 + 2, none⟩ = some (.int .i64 p.sl) := hc 2 (by decide)
   have x3 : wr.cell? ⟨g, off + k * 12 + 3, none⟩ = some (.int .u32 p.d) := hc 3 (by decide)
   have x4 : wr.cell? ⟨g, off + k * 12 + 4, none⟩ = some (.int .i64 p.dl) := hc 4 (by decide)
   have x5 : wr.cell? ⟨g, off + k * 12 + 5, none⟩ = some (.int .u16 p.p.1) := hc 5 (by decide)
   have x6 : wr.cell? ⟨g, off + k * 12 + 6, none⟩ = some (.int .u16 p.p.2) := hc 6 (by decide)
   have x7 : wr.cell? ⟨g, off + k * 12 + 7, none⟩ = some (.int .u16 p.q.1) := hc 7 (by decide)
   have x8 : wr.cell? ⟨g, off + k * 12 + 8, none⟩ = some (.int .u16 p.q.2) := hc 8 (by decide)
   have x9 : wr.cell? ⟨g, off + k * 12 + 9, none⟩ = some (.int .u8 p.m.1) := hc 9 (by decide)
   have x10 : wr.cell? ⟨g, off + k * 12 + 10, none⟩ = some (.int .u8 p.m.2) := hc 10 (by decide)
   have x11 : wr.cell? ⟨g, off + k * 12 + 11, none⟩ = some (.int .i64 p.act) := hc 11 (by decide)
   have hlt' : (k : Int) < (n : Int) := by omega
   have hcp1 : (k : Int) ≤ (cap : Int) := by omega
   have hcp2 : ¬ cap = 0 := by omega
   have hTr := HT.out.on HB.out
   obtain ⟨c0, c1, c2⟩ := blk3 hTr.1
   have hltr := hTr.lt
   have hgr : g < wr.heap.size := hg
   clear hc HAt HJ HK HE hp hTr
   have hZZ := blk_new wr (.cells #[.int .i64 0, .int .u32 0, .int .i64 0, .int .u32 0, .int .i64 0, .int .u16 0, .int .u16 0, .int .u16 0, .int .u16 0, .int .u8 0, .int .u8 0, .int .i64 0] 64)
   go_upto_region 6 with (refine wpList_store_blk rfl 64 (.tmp 6) (.tmp 16) rfl wr.heap.size 0 #[.int .i64 p.i, .int .u32 p.s, .int .i64 p.sl, .int .u32 p.d, .int .i64 p.dl, .int .u16 p.p.1, .int .u16 p.p.2, .int .u16 p.q.1, .int .u16 p.q.2, .int .u8 p.m.1, .int .u8 p.m.2, .int .i64 p.act] #[.int .i64 p.i, .int .u32 p.s, .int .i64 p.sl, .int .u32 p.d, .int .i64 p.dl, .int .u16 p.p.1, .int .u16 p.p.2, .int .u16 p.q.1, .int .u16 p.q.2, .int .u8 p.m.1, .int .u8 p.m.2, .int .i64 p.act] rfl rfl 64 _ hZZ (Nat.le_of_ble_eq_true rfl) rfl (by kernel_rfl) rfl ?_; intro W2 hw8 how8)
   have hbl : Below wr.heap.size wr W2 := ((Below.refl _ _).alloc (Nat.le_refl _) _).trans (how8.below (Nat.le_refl _))
   have HB2 : Hid (Below w.heap.size w W2) := HB.out.trans (hbl.mono HB.out.size)
   have e0 : W2.cell? ⟨t, 0, none⟩ = some (.int .i64 M) := cell_on1 hbl c0
   obtain ⟨d0, d1, d2, d3, d4, d5, d6, d7, d8, d9, d10, d11⟩ := blk12 hw8
   have hz2 : wr.heap.size < W2.heap.size := blk_lt hw8
   have ht2 : t < W2.heap.size := by have := hbl.size; omega
   clear hbl how8 hZZ x0 x1 x2 x3 x4 x5 x6 x7 x8 x9 x10 x11 c0 c1 c2 hw8
   simp only [Act.put]
   have kne : Nonempty (Kin (W2)) := ⟨⟨_, Below.refl _ _⟩⟩
   have kc0 : ∀ y : Kin (W2), y.val.cell? ⟨wr.heap.size, 0, none⟩ = some (.int .i64 p.i) := kcL
   have kc1 : ∀ y : Kin (W2), y.val.cell? ⟨wr.heap.size, 1, none⟩ = some (.int .u32 p.s) := kcL
   have kc2 : ∀ y : Kin (W2), y.val.cell? ⟨wr.heap.size, 2, none⟩ = some (.int .i64 p.sl) := kcL
   have kc3 : ∀ y : Kin (W2), y.val.cell? ⟨wr.heap.size, 3, none⟩ = some (.int .u32 p.d) := kcL
   have kc4 : ∀ y : Kin (W2), y.val.cell? ⟨wr.heap.size, 4, none⟩ = some (.int .i64 p.dl) := kcL
   have kc5 : ∀ y : Kin (W2), y.val.cell? ⟨wr.heap.size, 5, none⟩ = some (.int .u16 p.p.1) := kcL
   have kc6 : ∀ y : Kin (W2), y.val.cell? ⟨wr.heap.size, 6, none⟩ = some (.int .u16 p.p.2) := kcL
   have kc7 : ∀ y : Kin (W2), y.val.cell? ⟨wr.heap.size, 7, none⟩ = some (.int .u16 p.q.1) := kcL
   have kc8 : ∀ y : Kin (W2), y.val.cell? ⟨wr.heap.size, 8, none⟩ = some (.int .u16 p.q.2) := kcL
   have kc9 : ∀ y : Kin (W2), y.val.cell? ⟨wr.heap.size, 9, none⟩ = some (.int .u8 p.m.1) := kcL
   have kc10 : ∀ y : Kin (W2), y.val.cell? ⟨wr.heap.size, 10, none⟩ = some (.int .u8 p.m.2) := kcL
   have kc11 : ∀ y : Kin (W2), y.val.cell? ⟨wr.heap.size, 11, none⟩ = some (.int .i64 p.act) := kcL
   refine wp_region_kin (W2) (Below.refl _ _) (by kernel_rfl) (by kernel_rfl) ?_
   repeat (go_big_quiet_step (first | (go_at_call 48; exact kin_call (hJ _ (HB2.out.trans (Below.mono (Kin.is _) HB2.out.size))))))
   refine wpQuiet_nil ?_
   rintro wq ⟨⟨xq, hxq⟩, hyq⟩
   have hq : Below (W2).heap.size (W2) wq := by rw [hyq]; exact hxq
   clear hyq hxq xq
   clear kne kc0 kc1 kc2 kc3 kc4 kc5 kc6 kc7 kc8 kc9 kc10 kc11
   obtain ⟨hcq, hfq⟩ := bcell hq
   have hzq := hq.size
   try simp at hzq
   generalize wq = W3 at *
   have e3 : W3.cell? ⟨t, 0, none⟩ = some (.int .i64 M) := cell_on1 hq e0
   have HB3 : Hid (Below w.heap.size w W3) := HB2.out.trans (hq.mono HB2.out.size)
   clear hq hcq hfq hzq hJ d0 d1 d2 d3 d4 d5 d6 d7 d8 d9 d10 d11 e0 HB2 hz2 ht2
   clear W2
   by_cases hj : J = 0
   ·subst hj
    by_cases hm : M ≤ (k : Int)
    ·have HV : Hid (E = 113) := HKf.out rfl hm
     clear HKb HKf HKn
     go_wp2_with (fail)
     go_ret
     obtain ⟨a1, a2⟩ := HG.out _ HB3.out
     have eL : L = l0 := by rw [HL.out, HV.out]; exact if_neg (by decide)
     rw [eL]
     exact ⟨ret_int HV.out.symm, _, a1, a2⟩
    ·have HV : Hid (E = setK M (l.take (k + 1)) (l.drop (k + 1))) := HKn.out rfl (by omega)
     clear HKb HKf HKn
     go_wp2_with (fail)
     go_roundw
     case rel => exact ⟨k + 1, by omega, by go_num, HB3.out, HV.out⟩
     case measure => simp [intOf]; omega
   ·have HV : Hid (E = J) := HKb.out hj
    have hj' : (J != 0) = true := by simpa using hj
    clear HKb HKf HKn
    go_wp2_with (fail)
    go_ret
    obtain ⟨a1, a2⟩ := HG.out _ HB3.out
    have eL : L = l0 := by rw [HL.out, HV.out]; exact if_neg hj
    rw [eL]
    exact ⟨ret_int HV.out.symm, _, a1, a2⟩
  ·obtain rfl : k = n := by omega
   have HV : Hid (E = 0) := HK.out.trans (setK_end (by rw [← Hn.out]; exact Nat.le_refl _))
   have hC := HCp.out wr HB.out
   have HTr : Hid (Tab wr t v M A l0) := HT.out.on HB.out
   clear HK HE HAt HJ HT
   go_wp2_with (fail)
   refine hC.mono ?_
   rintro e w5 ⟨v5, rfl, hr5, hb5⟩
   have HT5 : Hid (Tab w5 t v M A l0) := HTr.out.on hb5
   have HB5 : Hid (Below w.heap.size w w5) := HB.out.trans (hb5.mono HB.out.size)
   have hne5 : v5.ownBlock ≠ some t := fun e => by have := (hr5.lt t e).1; have := HTr.out.lt; omega
   have HR5 : Hid (RowU w5 wr.heap.size v5 l) := hr5
   obtain ⟨ad5, cap5, rfl, _, _⟩ := hr5.form
   have h5 : w5.heap[t]? = some (.cells #[.int .i64 M, .int .i64 A, v] 104 (0, 0)) := HT5.out.1
   rw [← Hn.out] at *
   go_wp2_with (refine wpList_store_val rfl 56 (.tmp 36) (.tmp 34) rfl t 2 (.slice ad5 k cap5) #[.slice ad5 k cap5] #[.int .i64 M, .int .i64 A, .slice ad5 k cap5] rfl rfl rfl 104 _ h5 (Nat.le_of_ble_eq_true rfl) rfl (by kernel_rfl) rfl ?_; intro w6 hb6 ho6)
   go_ret
   have hT6 := Tab.fresh (v := v) HB5.out HR5.out HB.out.size hlt hb6 ho6
   have eL : L = l := by rw [HL.out, HV.out]; exact if_pos rfl
   rw [eL]
   exact ⟨ret_int HV.out.symm, _, hT6.1, hT6.2⟩
end Go.Proofs.YtgokmkholjfhbaaGreat
