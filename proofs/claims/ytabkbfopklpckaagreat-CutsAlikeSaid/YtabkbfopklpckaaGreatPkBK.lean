/-
  PkBK: CtJ CtK, one behind the other (tools/pack.py).
-/
import Derived.Test.YtabkbfopklpckaaGreatPkBE
import Derived.Test.YtabkbfopklpckaaGreatPkBJ
import Derived.Deep.QuietTactic
import Derived.BigQuiet
import Derived.Test.YtabkbfopklpckaaGreatPkAE
import Derived.Test.YtabkbfopklpckaaGreatPkBF
import Derived.Test.YtabkbfopklpckaaGreatPkBG
import Derived.Test.YtabkbfopklpckaaGreatPkAL
set_option linter.unusedVariables false
set_option linter.unusedSimpArgs false
namespace Go.Proofs.YtabkbfopklpckaaGreat
open Go.RowKit
def LfV (bn : Nat) (h : Hd) (W : World) (b : Nat) : Nat → Part → Nv → Value → Prop
 | 0, P, q, v => v = .slice q.ad q.n q.cap
 | d + 1, P, q, v => if P.2.length ≤ bn then v = .slice q.ad q.n q.cap else
  ∃ (K : Nat) (q1 q2 : Nv), q.k = some ⟨K, 0, none⟩ ∧ W.heap[K]? = some (.cells #[.int .u32 q1.x.a.1, .int .u32 q1.x.a.2, .int .u32 q1.x.b.1, .int .u32 q1.x.b.2, .int .u16 q1.x.c.1, .int .u16 q1.x.c.2, .int .u16 q1.x.d.1, .int .u16 q1.x.d.2, .int .u8 q1.x.m.1, .int .u8 q1.x.m.2, .pointer q1.k, .slice q1.ad q1.n q1.cap, .int .u32 q2.x.a.1, .int .u32 q2.x.a.2, .int .u32 q2.x.b.1, .int .u32 q2.x.b.2, .int .u16 q2.x.c.1, .int .u16 q2.x.c.2, .int .u16 q2.x.d.1, .int .u16 q2.x.d.2, .int .u8 q2.x.m.1, .int .u8 q2.x.m.2, .pointer q2.k, .slice q2.ad q2.n q2.cap] 116) ∧ Nd bn W b d (bestP P).1 q1 ∧ Nd bn W b d (bestP P).2 q2 ∧ (if hasY (bestP P).1.1 h then LfV bn h W b d (bestP P).1 q1 v else LfV bn h W b d (bestP P).2 q2 v)
theorem LfV.on {bn : Nat} {h : Hd} {W W1 : World} {b : Nat} (hb : Below W.heap.size W W1) : ∀ {d : Nat} {P : Part} {q : Nv} {v : Value}, LfV bn h W b d P q v → LfV bn h W1 b d P q v
 | 0, P, q, v, k => k
 | d + 1, P, q, v, k => by
  unfold LfV at k ⊢
  split at k
  ·rename_i e; rw [if_pos e]; exact k
  ·rename_i e
   rw [if_neg e]
   obtain ⟨K, q1, q2, k1, k2, k3, k4, k5⟩ := k
   refine ⟨K, q1, q2, k1, blk_on k2 hb, k3.on hb, k4.on hb, ?_⟩
   split at k5
   ·rename_i e2; rw [if_pos e2]; exact LfV.on hb k5
   ·rename_i e2; rw [if_neg e2]; exact LfV.on hb k5
theorem nd_lf {bn : Nat} {h : Hd} {W : World} {b : Nat} : ∀ {d : Nat} {P : Part} {q : Nv}, Nd bn W b d P q → ∃ v, LfV bn h W b d P q v ∧ RowI W b v (ofN (fndT bn h d P).1)
 | 0, P, q, k => ⟨_, rfl, k.2.2⟩
 | d + 1, P, q, k => by
  unfold Nd at k
  unfold LfV fndT
  split at k
  ·rename_i e
   simp only [if_pos e]
   exact ⟨_, rfl, k.2.2⟩
  ·rename_i e
   simp only [if_neg e]
   obtain ⟨h1, h2, h3, h4, K, q1, q2, h5, h6, h7, h8, h9⟩ := k
   by_cases e2 : hasY (bestP P).1.1 h = true
   ·obtain ⟨v, v1, v2⟩ := nd_lf (h := h) h8
    refine ⟨v, ⟨K, q1, q2, h5, h7, h8, h9, ?_⟩, ?_⟩
    ·rw [if_pos e2]; exact v1
    ·rw [if_pos e2]; exact v2
   ·obtain ⟨v, v1, v2⟩ := nd_lf (h := h) h9
    refine ⟨v, ⟨K, q1, q2, h5, h7, h8, h9, ?_⟩, ?_⟩
    ·rw [if_neg e2]; exact v1
    ·rw [if_neg e2]; exact v2
theorem lf_step {bn : Nat} {h : Hd} {W : World} {b d : Nat} {P : Part} {q : Nv} {v : Value} (k : Nd bn W b d P q) (kv : LfV bn h W b d P q v) : (q.k = none ∧ v = .slice q.ad q.n q.cap ∧ (fndT bn h d P).2 = 0) ∨
  (∃ (d' K : Nat) (q1 q2 : Nv), d = d' + 1 ∧ q.x = (bestP P).1.1 ∧ q.k = some ⟨K, 0, none⟩ ∧ W.heap[K]? = some (.cells #[.int .u32 q1.x.a.1, .int .u32 q1.x.a.2, .int .u32 q1.x.b.1, .int .u32 q1.x.b.2, .int .u16 q1.x.c.1, .int .u16 q1.x.c.2, .int .u16 q1.x.d.1, .int .u16 q1.x.d.2, .int .u8 q1.x.m.1, .int .u8 q1.x.m.2, .pointer q1.k, .slice q1.ad q1.n q1.cap, .int .u32 q2.x.a.1, .int .u32 q2.x.a.2, .int .u32 q2.x.b.1, .int .u32 q2.x.b.2, .int .u16 q2.x.c.1, .int .u16 q2.x.c.2, .int .u16 q2.x.d.1, .int .u16 q2.x.d.2, .int .u8 q2.x.m.1, .int .u8 q2.x.m.2, .pointer q2.k, .slice q2.ad q2.n q2.cap] 116) ∧ ((hasY (bestP P).1.1 h = true ∧ Nd bn W b d' (bestP P).1 q1 ∧ LfV bn h W b d' (bestP P).1 q1 v ∧ (fndT bn h d P).2 = (fndT bn h d' (bestP P).1).2 + 1) ∨ (hasY (bestP P).1.1 h = false ∧ Nd bn W b d' (bestP P).2 q2 ∧ LfV bn h W b d' (bestP P).2 q2 v ∧ (fndT bn h d P).2 = (fndT bn h d' (bestP P).2).2 + 1))) := by
 cases d with
 | zero => exact .inl ⟨k.2.1, kv, rfl⟩
 | succ d =>
  unfold Nd at k
  unfold LfV at kv
  by_cases e : P.2.length ≤ bn
  ·rw [if_pos e] at k kv
   exact .inl ⟨k.2.1, kv, by unfold fndT; rw [if_pos e]⟩
  ·rw [if_neg e] at k kv
   obtain ⟨h1, _⟩ := k
   obtain ⟨K, q1, q2, k1, k2, k3, k4, k5⟩ := kv
   refine .inr ⟨d, K, q1, q2, rfl, h1, k1, k2, ?_⟩
   cases e2 : hasY (bestP P).1.1 h
   ·rw [e2] at k5
    exact .inr ⟨rfl, k4, k5, by conv => lhs; unfold fndT; rw [if_neg e, e2]; simp⟩
   ·rw [e2] at k5
    exact .inl ⟨rfl, k3, k5, by conv => lhs; unfold fndT; rw [if_neg e, e2]; simp⟩
set_option maxRecDepth 20000 in
set_option maxHeartbeats 1000000 in
theorem findNC (bn : Nat) (l : List Ru) (h : Hd) (oh : OkH h) (d : Nat) (P : Part) (q : Nv) (b B o : Nat) (v : Value) (w : World) (hd : d ≤ 32) (hN : Nd bn w b d P q) (hr : w.rangeAt B o (#[.int .u32 q.x.a.1, .int .u32 q.x.a.2, .int .u32 q.x.b.1, .int .u32 q.x.b.2, .int .u16 q.x.c.1, .int .u16 q.x.c.2, .int .u16 q.x.d.1, .int .u16 q.x.d.2, .int .u8 q.x.m.1, .int .u8 q.x.m.2, .pointer q.k, .slice q.ad q.n q.cap] : Array Value).toList) (hv : LfV bn h w b d P q v) (ok : CtOk l d P) (hh : hasY P.1 h = true) :
  Calls Tryz.prog 26 #[.pointer (some ⟨B, o, none⟩), .agg #[.int .u32 h.s, .int .u32 h.d, .int .u16 h.p, .int .u16 h.q, .int .u8 h.r]] w fun e w' => e = .returned (.tuple #[v, .int .i64 ((fndT bn h d P).2 : Nat)]) ∧ Below w.heap.size w w' := by
 have HOh : Hid (OkH h) := oh
 have hb0 : Below w.heap.size w (w.alloc (.cells #[.int .u32 h.s, .int .u32 h.d, .int .u16 h.p, .int .u16 h.q, .int .u8 h.r] 28)) := (Below.refl _ _).alloc (Nat.le_refl _) _
 have HB0 : Hid (Below w.heap.size w (w.alloc (.cells #[.int .u32 h.s, .int .u32 h.d, .int .u16 h.p, .int .u16 h.q, .int .u8 h.r] 28))) := hb0
 have HN0 : Hid (Nd bn (w.alloc (.cells #[.int .u32 h.s, .int .u32 h.d, .int .u16 h.p, .int .u16 h.q, .int .u8 h.r] 28)) b d P q) := hN.on hb0
 have HR0 : Hid ((w.alloc (.cells #[.int .u32 h.s, .int .u32 h.d, .int .u16 h.p, .int .u16 h.q, .int .u8 h.r] 28)).rangeAt B o (#[.int .u32 q.x.a.1, .int .u32 q.x.a.2, .int .u32 q.x.b.1, .int .u32 q.x.b.2, .int .u16 q.x.c.1, .int .u16 q.x.c.2, .int .u16 q.x.d.1, .int .u16 q.x.d.2, .int .u8 q.x.m.1, .int .u8 q.x.m.2, .pointer q.k, .slice q.ad q.n q.cap] : Array Value).toList) := rng_on hb0 hr
 have HV0 : Hid (LfV bn h (w.alloc (.cells #[.int .u32 h.s, .int .u32 h.d, .int .u16 h.p, .int .u16 h.q, .int .u8 h.r] 28)) b d P q v) := hv.on hb0
 have HH0 : Hid ((w.alloc (.cells #[.int .u32 h.s, .int .u32 h.d, .int .u16 h.p, .int .u16 h.q, .int .u8 h.r] 28)).heap[w.heap.size]? = some (.cells #[.int .u32 h.s, .int .u32 h.d, .int .u16 h.p, .int .u16 h.q, .int .u8 h.r] 28)) := blk_new w _
 have HO0 : Hid (CtOk l d P) := ok
 obtain ⟨F, hF⟩ : ∃ F, F = (fndT bn h d P).2 := ⟨_, rfl⟩
 have HF0 : Hid (F = 0 + (fndT bn h d P).2) := by show _ = _; rw [hF, Nat.zero_add]
 rw [← hF]
 clear hF oh hb0 hN hr hv ok hh
 go_enter Tryz.func26, Tryz.ntmps26
 go_wp2_with (fail)
 go_loopw [0, 5] (fun vn vd wr => ∃ (d' k B' o' : Nat) (P' : Part) (q' : Nv), k + d' ≤ d ∧ vn = .pointer (some ⟨B', o', none⟩) ∧ vd = .int .i64 k ∧ Hid (Nd bn wr b d' P' q') ∧ Hid (wr.rangeAt B' o' (#[.int .u32 q'.x.a.1, .int .u32 q'.x.a.2, .int .u32 q'.x.b.1, .int .u32 q'.x.b.2, .int .u16 q'.x.c.1, .int .u16 q'.x.c.2, .int .u16 q'.x.d.1, .int .u16 q'.x.d.2, .int .u8 q'.x.m.1, .int .u8 q'.x.m.2, .pointer q'.k, .slice q'.ad q'.n q'.cap] : Array Value).toList) ∧ Hid (LfV bn h wr b d' P' q' v) ∧ Hid (wr.heap[w.heap.size]? = some (.cells #[.int .u32 h.s, .int .u32 h.d, .int .u16 h.p, .int .u16 h.q, .int .u8 h.r] 28)) ∧ Hid (CtOk l d' P') ∧ Hid (F = k + (fndT bn h d' P').2) ∧ Hid (Below w.heap.size w wr)) (fun _ vd _ => d + 1 - (intOf vd).toNat)
 case atStart => exact ⟨d, 0, B, o, P, q, by omega, rfl, rfl, HN0.out, HR0.out, HV0.out, HH0.out, HO0.out, HF0.out, HB0.out⟩
 case round =>
  clear HN0 HR0 HV0 HH0 HO0 HF0 HB0
  obtain ⟨d', k, B', o', P', q', hkd, rfl, rfl, HN, HR, HV, HH, HO, HF, HB⟩ := hrel
  obtain ⟨c10, c11⟩ := node_cells HR.out
  have hst := lf_step HN.out HV.out
  have hk32 : k ≤ 32 := by omega
  rcases hst with ⟨e1, e2, e3⟩ | ⟨d2, K, q1, q2, rfl, ex, ek, hK, hh⟩
  ·rw [e1] at c10
   have hFk : F = k := by have := HF.out; omega
   subst hFk
   subst e2
   clear HN HV HR HF
   go_wp2
   exact bodyPost_ret (v := .tuple #[.slice q'.ad q'.n q'.cap, .int .i64 F]) (by simp [results, Tryz.results26, go_sem]) rfl ⟨rfl, HB.out⟩
  ·rw [ek] at c10
   have c10' : Hid _ := c10
   obtain ⟨r1, r2⟩ := kids_rng hK
   have hbo := best_ok HO.out
   have hbx : Xb.BdX q'.x := by rw [ex]; exact bdX_F.2 hbo.1.bd
   have hhas := fun W => Xb.hasXC q'.x ⟨h.s, h.d, h.p, h.q, h.r⟩ W hbx HOh.out
   have hre : Xb.hasH q'.x ⟨h.s, h.d, h.p, h.q, h.r⟩ = hasY (bestP P').1.1 h := by rw [ex]; rfl
   rw [hre] at hhas
   have HR1 : Hid _ := r1
   have HR2 : Hid _ := r2
   have HBo : Hid _ := hbo
   have RX : Hid (wr.rangeAt B' o' (#[.int .u32 q'.x.a.1, .int .u32 q'.x.a.2, .int .u32 q'.x.b.1, .int .u32 q'.x.b.2, .int .u16 q'.x.c.1, .int .u16 q'.x.c.2, .int .u16 q'.x.d.1, .int .u16 q'.x.d.2, .int .u8 q'.x.m.1, .int .u8 q'.x.m.2] : Array Value).toList) := by have h9 := rng_sub HR.out 0 10; exact h9
   have RH : Hid (wr.rangeAt w.heap.size 0 (#[.int .u32 h.s, .int .u32 h.d, .int .u16 h.p, .int .u16 h.q, .int .u8 h.r] : Array Value).toList) := rngAll HH.out
   have hFk := HF.out
   clear r1 r2 hbo hbx hre ek hK HN HV HR c11 ex
   rcases hh with ⟨g1, g2, g3, g4⟩ | ⟨g1, g2, g3, g4⟩
   ·have HF2 : Hid (F = (k + 1) + (fndT bn h d2 (bestP P').1).2) := by show _ = _; rw [hFk, g4]; omega
    have HG2 : Hid _ := g2
    have HG3 : Hid _ := g3
    rw [g1] at hhas
    have hhas2 : ∀ W : World, Calls Tryz.prog 45 #[.agg #[.int .u32 q'.x.a.1, .int .u32 q'.x.a.2, .int .u32 q'.x.b.1, .int .u32 q'.x.b.2, .int .u16 q'.x.c.1, .int .u16 q'.x.c.2, .int .u16 q'.x.d.1, .int .u16 q'.x.d.2, .int .u8 q'.x.m.1, .int .u8 q'.x.m.2], .agg #[.int .u32 h.s, .int .u32 h.d, .int .u16 h.p, .int .u16 h.q, .int .u8 h.r]] W fun e w' => e = .returned (.bool true) ∧ Below W.heap.size W w' := hhas
    clear g1 g2 g3 g4 hFk hhas
    go_upto_region 4 with (fail)
    have kne : Nonempty (Kin wr) := ⟨⟨_, Below.refl _ _⟩⟩
    refine wp_region_kin wr (Below.refl _ _) (by kernel_rfl) (by kernel_rfl) ?_
    iterate 3 (go_big_quiet_step (fail))
    refine ct_load (by rfl) 85 (.tmp 16) rfl B' o' #[.int .u32 q'.x.a.1, .int .u32 q'.x.a.2, .int .u32 q'.x.b.1, .int .u32 q'.x.b.2, .int .u16 q'.x.c.1, .int .u16 q'.x.c.2, .int .u16 q'.x.d.1, .int .u16 q'.x.d.2, .int .u8 q'.x.m.1, .int .u8 q'.x.m.2] rfl (rng_kin RX.out) Tryz.underlying85 rfl (by kernel_rfl) ?_
    simp only [nrm]
    refine ct_load (by rfl) 28 (.tmp 3) rfl w.heap.size 0 #[.int .u32 h.s, .int .u32 h.d, .int .u16 h.p, .int .u16 h.q, .int .u8 h.r] rfl (rng_kin RH.out) Tryz.underlying28 rfl (by kernel_rfl) ?_
    simp only [nrm]
    go_big_quiet_step (first | (go_at_call 45; exact kin_call (hhas2 _)))
    refine wpQuiet_nil ?_
    rintro wq ⟨⟨xq, hxq⟩, hyq⟩
    have HQ : Hid (Below wr.heap.size wr wq) := by show Below _ _ _; rw [hyq]; exact hxq
    have c10q := cell_on1 HQ.out c10'.out
    clear hyq hxq xq kne hhas2 RX RH c10
    go_wp2_with (fail)
    go_roundw
    case rel => exact ⟨d2, k + 1, K, 0, (bestP P').1, q1, by omega, by go_num, by go_num, HG2.out.on HQ.out, rng_on HQ.out HR1.out, HG3.out.on HQ.out, blk_on HH.out HQ.out, HBo.out.1, HF2.out, HB.out.trans (HQ.out.mono HB.out.size)⟩
    case measure => simp [intOf]; omega
   ·have HF2 : Hid (F = (k + 1) + (fndT bn h d2 (bestP P').2).2) := by show _ = _; rw [hFk, g4]; omega
    have HG2 : Hid _ := g2
    have HG3 : Hid _ := g3
    rw [g1] at hhas
    have hhas2 : ∀ W : World, Calls Tryz.prog 45 #[.agg #[.int .u32 q'.x.a.1, .int .u32 q'.x.a.2, .int .u32 q'.x.b.1, .int .u32 q'.x.b.2, .int .u16 q'.x.c.1, .int .u16 q'.x.c.2, .int .u16 q'.x.d.1, .int .u16 q'.x.d.2, .int .u8 q'.x.m.1, .int .u8 q'.x.m.2], .agg #[.int .u32 h.s, .int .u32 h.d, .int .u16 h.p, .int .u16 h.q, .int .u8 h.r]] W fun e w' => e = .returned (.bool false) ∧ Below W.heap.size W w' := hhas
    clear g1 g2 g3 g4 hFk hhas
    go_upto_region 4 with (fail)
    have kne : Nonempty (Kin wr) := ⟨⟨_, Below.refl _ _⟩⟩
    refine wp_region_kin wr (Below.refl _ _) (by kernel_rfl) (by kernel_rfl) ?_
    iterate 3 (go_big_quiet_step (fail))
    refine ct_load (by rfl) 85 (.tmp 16) rfl B' o' #[.int .u32 q'.x.a.1, .int .u32 q'.x.a.2, .int .u32 q'.x.b.1, .int .u32 q'.x.b.2, .int .u16 q'.x.c.1, .int .u16 q'.x.c.2, .int .u16 q'.x.d.1, .int .u16 q'.x.d.2, .int .u8 q'.x.m.1, .int .u8 q'.x.m.2] rfl (rng_kin RX.out) Tryz.underlying85 rfl (by kernel_rfl) ?_
    simp only [nrm]
    refine ct_load (by rfl) 28 (.tmp 3) rfl w.heap.size 0 #[.int .u32 h.s, .int .u32 h.d, .int .u16 h.p, .int .u16 h.q, .int .u8 h.r] rfl (rng_kin RH.out) Tryz.underlying28 rfl (by kernel_rfl) ?_
    simp only [nrm]
    go_big_quiet_step (first | (go_at_call 45; exact kin_call (hhas2 _)))
    refine wpQuiet_nil ?_
    rintro wq ⟨⟨xq, hxq⟩, hyq⟩
    have HQ : Hid (Below wr.heap.size wr wq) := by show Below _ _ _; rw [hyq]; exact hxq
    have c10q := cell_on1 HQ.out c10'.out
    clear hyq hxq xq kne hhas2 RX RH c10
    go_wp2_with (fail)
    go_roundw
    case rel => exact ⟨d2, k + 1, K, 12, (bestP P').2, q2, by omega, by go_num, by go_num, HG2.out.on HQ.out, rng_on HQ.out HR2.out, HG3.out.on HQ.out, blk_on HH.out HQ.out, HBo.out.2.1, HF2.out, HB.out.trans (HQ.out.mono HB.out.size)⟩
    case measure => simp [intOf]; omega
theorem fsT_hit {l : List Ru} {h : Hd} {L : List Nat} {k : Nat} (hk : k < L.length) (e : matchR (ruK l L[k]) h = true) : fsT l h (L.drop k) = ((L[k] : Int), 1) := by
 rw [List.drop_eq_getElem_cons hk, fsT, if_pos e]
theorem fsT_miss {l : List Ru} {h : Hd} {L : List Nat} {k : Nat} (hk : k < L.length) (e : matchR (ruK l L[k]) h = false) : fsT l h (L.drop k) = ((fsT l h (L.drop (k + 1))).1, (fsT l h (L.drop (k + 1))).2 + 1) := by
 rw [List.drop_eq_getElem_cons hk, fsT, if_neg (by rw [e]; simp)]
set_option maxRecDepth 20000 in
set_option maxHeartbeats 8000000 in
theorem firstKC (X t : Nat) (tv : Value) (M A0 A : Int) (l : List Ru) (h : Hd) (u : Value) (L : List Nat) (w : World) (c0 : w.cell? ⟨X, 0, none⟩ = some (.pointer (some ⟨t, 0, none⟩))) (c1 : w.cell? ⟨X, 1, none⟩ = some (.int .i64 A)) (hT : Tab w t tv M A0 l) (hu : SrcI w u (ofN L)) (hL : ∀ k ∈ L, k < l.length) (hl : l.length ≤ 64) (hLl : L.length ≤ 64) (hbd : ∀ R ∈ l, BdR R) (oh : OkH h) :
  Calls Tryz.prog 27 #[.pointer (some ⟨X, 0, none⟩), u, .agg #[.int .u32 h.s, .int .u32 h.d, .int .u16 h.p, .int .u16 h.q, .int .u8 h.r]] w fun e w' => e = .returned (.tuple #[.agg #[.bool (vdH (fsT l h L).1), .int .i64 (vdI l (fsT l h L).1), .int .i64 (vdA A l (fsT l h L).1)], .int .i64 ((fsT l h L).2 : Nat)]) ∧ Below w.heap.size w w' := by
 obtain ⟨ad, cap, hue⟩ := hu.len
 rw [ofN_len] at hue
 subst hue
 have HU : Hid (SrcI w (.slice ad L.length cap) (ofN L)) := hu
 obtain ⟨n, hn⟩ : ∃ n, n = L.length := ⟨_, rfl⟩
 have Hn : Hid (n = L.length) := hn
 rw [← hn] at HU hLl ⊢
 have HT : Hid (Tab w t tv M A0 l) := hT
 have HL : Hid (∀ k ∈ L, k < l.length) := hL
 have Hl : Hid (l.length ≤ 64) := hl
 have Hbd : Hid (∀ R ∈ l, BdR R) := hbd
 have Hoh : Hid (OkH h) := oh
 have C0 : Hid (w.cell? ⟨X, 0, none⟩ = some (.pointer (some ⟨t, 0, none⟩))) := c0
 have C1 : Hid (w.cell? ⟨X, 1, none⟩ = some (.int .i64 A)) := c1
 obtain ⟨F, hF⟩ : ∃ F, F = fsT l h L := ⟨_, rfl⟩
 rw [← hF]
 have HF0 : Hid (F.1 = (fsT l h (L.drop 0)).1 ∧ F.2 = 0 + (fsT l h (L.drop 0)).2) := by rw [hF]; exact ⟨rfl, by rw [Nat.zero_add]; rfl⟩
 clear hF hu hT hL hl hbd oh c0 c1 hn
 obtain ⟨hp0, hz0, hb0⟩ := al2 w (.cells #[.int .u32 h.s, .int .u32 h.d, .int .u16 h.p, .int .u16 h.q, .int .u8 h.r] 28) (.cells #[.bool false, .int .i64 0, .int .i64 0] 36)
 obtain ⟨w0, hw0⟩ : ∃ w0, w0 = (w.alloc (.cells #[.int .u32 h.s, .int .u32 h.d, .int .u16 h.p, .int .u16 h.q, .int .u8 h.r] 28)).alloc (.cells #[.bool false, .int .i64 0, .int .i64 0] 36) := ⟨_, rfl⟩
 rw [← hw0] at hp0 hz0 hb0
 have HB0 : Hid (Below w.heap.size w w0) := hb0
 have HH0 : Hid (w0.heap[w.heap.size]? = some (.cells #[.int .u32 h.s, .int .u32 h.d, .int .u16 h.p, .int .u16 h.q, .int .u8 h.r] 28)) := hp0
 have HV0 : Hid (w0.heap[w.heap.size + 1]? = some (.cells #[.bool false, .int .i64 0, .int .i64 0] 36)) := hz0
 have Hw0 : Hid ((w.alloc (.cells #[.int .u32 h.s, .int .u32 h.d, .int .u16 h.p, .int .u16 h.q, .int .u8 h.r] 28)).alloc (.cells #[.bool false, .int .i64 0, .int .i64 0] 36) = w0) := hw0.symm
 clear hp0 hz0 hb0 hw0
 go_enter Tryz.func27, Tryz.ntmps27
 go_upto_region 1 with (fail)
 rw [Hw0.out]
 clear Hw0
 go_wp2_with (fail)
 go_loopw [14] (fun vi wr => ∃ k : Nat, k ≤ n ∧ vi = .int .i64 k ∧ Hid (F.1 = (fsT l h (L.drop k)).1 ∧ F.2 = k + (fsT l h (L.drop k)).2) ∧ Hid (wr.heap[w.heap.size]? = some (.cells #[.int .u32 h.s, .int .u32 h.d, .int .u16 h.p, .int .u16 h.q, .int .u8 h.r] 28)) ∧ Hid (wr.heap[w.heap.size + 1]? = some (.cells #[.bool false, .int .i64 0, .int .i64 0] 36)) ∧ Hid (Below w.heap.size w wr)) (fun vi _ => n - (intOf vi).toNat)
 case atStart => exact ⟨0, Nat.zero_le _, rfl, HF0.out, HH0.out, HV0.out, HB0.out⟩
 case round =>
  clear HF0 HH0 HV0 HB0
  obtain ⟨k, hk, rfl, HF, HH, HV, HB⟩ := hrel
  by_cases hlt : k < n
  ·have hkL : k < L.length := by rw [← Hn.out]; exact hlt
   obtain ⟨g, off, rfl, hc⟩ := (HU.out.keep HB.out).at (k := k) (by rw [ofN_len]; exact hkL)
   rw [ofN_at] at hc
   obtain ⟨x, hx⟩ : ∃ x, x = L[k] := ⟨_, rfl⟩
   rw [← hx] at hc
   have hxl : x < l.length := by rw [hx]; exact HL.out _ (List.getElem_mem _)
   obtain ⟨p, hp⟩ : ∃ p, p = l[x] := ⟨_, rfl⟩
   have hbp : BdR p := by rw [hp]; exact Hbd.out _ (List.getElem_mem _)
   have hat := at_in t tv M A0 l x wr (HT.out.on HB.out) (Nat.le_trans Hl.out (by decide)) hxl p hp
   have Hx : Hid (x = L[k]) := hx
   have Hxl : Hid (x < l.length) := hxl
   have Hp : Hid (ruK l x = p) := by show _ = _; rw [ruK_at hxl, hp]
   have Hi : Hid (vdI l (x : Int) = p.i) := by show _ = _; rw [vdI_at hxl, hp]
   have Ha : Hid (vdA A l (x : Int) = p.act) := by show _ = _; rw [vdA_at hxl, hp]
   have HMt : Hid (∀ W, _) := fun W => matchC p h W hbp Hoh.out
   have c0 := cell_on1 HB.out C0.out
   have hkn : (k : Int) < (n : Int) := by omega
   have hk0 : (0 : Int) ≤ (k : Int) := by omega
   clear hx hxl hp hbp
   go_upto_region 5 with (first | (go_at_call 46; refine hat.mono ?_; rintro e w1 ⟨rfl, hb1⟩; have Hb1 : Hid _ := hb1; clear hb1; have HZ1 : Hid ((w1.alloc (.cells #[.int .i64 0, .int .u32 0, .int .i64 0, .int .u32 0, .int .i64 0, .int .u16 0, .int .u16 0, .int .u16 0, .int .u16 0, .int .u8 0, .int .u8 0, .int .i64 0] 64)).heap[w1.heap.size]? = some (.cells #[.int .i64 0, .int .u32 0, .int .i64 0, .int .u32 0, .int .i64 0, .int .u16 0, .int .u16 0, .int .u16 0, .int .u16 0, .int .u8 0, .int .u8 0, .int .i64 0] 64)) := blk_new _ _) | (refine wpList_store_blk rfl 64 (.tmp 10) (.tmp 26) rfl w1.heap.size 0 #[.int .i64 p.i, .int .u32 p.s, .int .i64 p.sl, .int .u32 p.d, .int .i64 p.dl, .int .u16 p.p.1, .int .u16 p.p.2, .int .u16 p.q.1, .int .u16 p.q.2, .int .u8 p.m.1, .int .u8 p.m.2, .int .i64 p.act] #[.int .i64 p.i, .int .u32 p.s, .int .i64 p.sl, .int .u32 p.d, .int .i64 p.dl, .int .u16 p.p.1, .int .u16 p.p.2, .int .u16 p.q.1, .int .u16 p.q.2, .int .u8 p.m.1, .int .u8 p.m.2, .int .i64 p.act] rfl rfl 64 _ HZ1.out (Nat.le_of_ble_eq_true rfl) rfl (by kernel_rfl) rfl ?_; intro w2 hw2 ho2))
   have hb2 : Below w1.heap.size w1 w2 := ((Below.refl _ _).alloc (Nat.le_refl _) _).trans (ho2.below (Nat.le_refl _))
   have hb02 : Below wr.heap.size wr w2 := Hb1.out.trans (hb2.mono Hb1.out.size)
   have HH2 : Hid (w2.heap[w.heap.size]? = some (.cells #[.int .u32 h.s, .int .u32 h.d, .int .u16 h.p, .int .u16 h.q, .int .u8 h.r] 28)) := blk_on HH.out hb02
   have HV2 : Hid (w2.heap[w.heap.size + 1]? = some (.cells #[.bool false, .int .i64 0, .int .i64 0] 36)) := blk_on HV.out hb02
   have HB2 : Hid (Below w.heap.size w w2) := HB.out.trans (hb02.mono HB.out.size)
   have HRr : Hid (w2.heap[w1.heap.size]? = some (.cells #[.int .i64 p.i, .int .u32 p.s, .int .i64 p.sl, .int .u32 p.d, .int .i64 p.dl, .int .u16 p.p.1, .int .u16 p.p.2, .int .u16 p.q.1, .int .u16 p.q.2, .int .u8 p.m.1, .int .u8 p.m.2, .int .i64 p.act] 64)) := hw2
   obtain ⟨Br, hBr⟩ : ∃ Br, Br = w1.heap.size := ⟨_, rfl⟩
   rw [← hBr] at HRr
   try rw [← hBr]
   clear hBr hb2 hb02 hw2 ho2 HZ1 Hb1 HH HV HB hc c0 hat
   have rR : Hid (w2.rangeAt Br 0 (#[.int .i64 p.i, .int .u32 p.s, .int .i64 p.sl, .int .u32 p.d, .int .i64 p.dl, .int .u16 p.p.1, .int .u16 p.p.2, .int .u16 p.q.1, .int .u16 p.q.2, .int .u8 p.m.1, .int .u8 p.m.2, .int .i64 p.act] : Array Value).toList) := rngAll HRr.out
   have rH : Hid (w2.rangeAt w.heap.size 0 (#[.int .u32 h.s, .int .u32 h.d, .int .u16 h.p, .int .u16 h.q, .int .u8 h.r] : Array Value).toList) := rngAll HH2.out
   cases hm : matchR p h
   ·have hm2 := HMt.out
    rw [hm] at hm2
    have Hm : Hid (matchR p h = false) := hm
    clear hm
    go_wp2_with (first | (refine ct_loadL rfl 64 (.tmp 10) rfl Br 0 #[.int .i64 p.i, .int .u32 p.s, .int .i64 p.sl, .int .u32 p.d, .int .i64 p.dl, .int .u16 p.p.1, .int .u16 p.p.2, .int .u16 p.q.1, .int .u16 p.q.2, .int .u8 p.m.1, .int .u8 p.m.2, .int .i64 p.act] rfl rR.out Tryz.underlying64 rfl (by kernel_rfl) ?_) | (refine ct_loadL rfl 28 (.tmp 5) rfl w.heap.size 0 #[.int .u32 h.s, .int .u32 h.d, .int .u16 h.p, .int .u16 h.q, .int .u8 h.r] rfl rH.out Tryz.underlying28 rfl (by kernel_rfl) ?_) | (go_at_call 47; refine (hm2 _).mono ?_; rintro e w3 ⟨rfl, hb3⟩; have HH3 : Hid (w3.heap[w.heap.size]? = some (.cells #[.int .u32 h.s, .int .u32 h.d, .int .u16 h.p, .int .u16 h.q, .int .u8 h.r] 28)) := blk_on HH2.out hb3; have HV3 : Hid (w3.heap[w.heap.size + 1]? = some (.cells #[.bool false, .int .i64 0, .int .i64 0] 36)) := blk_on HV2.out hb3; have HB3 : Hid (Below w.heap.size w w3) := HB2.out.trans (hb3.mono HB2.out.size); clear hb3))
    go_roundw
    case rel =>
     refine ⟨k + 1, by omega, by go_num, ?_, HH3.out, HV3.out, HB3.out⟩
     have h1 := fsT_miss (l := l) (h := h) hkL (by rw [← Hx.out, Hp.out]; exact Hm.out)
     have h2 := HF.out
     rw [h1] at h2
     exact ⟨h2.1, by rw [h2.2]; simp only; omega⟩
    case measure => simp [intOf]; omega
   ·have hm2 := HMt.out
    rw [hm] at hm2
    have Hm : Hid (matchR p h = true) := hm
    have hk64 : k ≤ 64 := by omega
    clear hm
    go_wp2_with (first | (refine ct_loadL rfl 64 (.tmp 10) rfl Br 0 #[.int .i64 p.i, .int .u32 p.s, .int .i64 p.sl, .int .u32 p.d, .int .i64 p.dl, .int .u16 p.p.1, .int .u16 p.p.2, .int .u16 p.q.1, .int .u16 p.q.2, .int .u8 p.m.1, .int .u8 p.m.2, .int .i64 p.act] rfl rR.out Tryz.underlying64 rfl (by kernel_rfl) ?_) | (refine ct_loadL rfl 28 (.tmp 5) rfl w.heap.size 0 #[.int .u32 h.s, .int .u32 h.d, .int .u16 h.p, .int .u16 h.q, .int .u8 h.r] rfl rH.out Tryz.underlying28 rfl (by kernel_rfl) ?_) | (go_at_call 47; refine (hm2 _).mono ?_; rintro e w3 ⟨rfl, hb3⟩; have HV3 : Hid (w3.heap[w.heap.size + 1]? = some (.cells #[.bool false, .int .i64 0, .int .i64 0] 36)) := blk_on HV2.out hb3; have HB3 : Hid (Below w.heap.size w w3) := HB2.out.trans (hb3.mono HB2.out.size); have p0 := blk_cell (j := 0) (blk_on HRr.out hb3) rfl; have p11 := blk_cell (j := 11) (blk_on HRr.out hb3) rfl; clear hb3) | (refine wpList_store_blk rfl 36 (.tmp 6) (.tmp 35) rfl (w.heap.size + 1) 0 #[.bool true, .int .i64 p.i, .int .i64 p.act] #[.bool true, .int .i64 p.i, .int .i64 p.act] rfl rfl 36 _ HV3.out (Nat.le_of_ble_eq_true rfl) rfl (by kernel_rfl) rfl ?_; intro wz hwz hoz))
    have h1 := fsT_hit (l := l) (h := h) hkL (by rw [← Hx.out, Hp.out]; exact Hm.out)
    have h2 := HF.out
    rw [h1] at h2
    have e1 : F.1 = (x : Int) := by rw [h2.1, Hx.out]
    have e2 : F.2 = k + 1 := h2.2
    have v1 : vdH F.1 = true := by rw [e1]; simp [vdH]
    have v2 : vdI l F.1 = p.i := by rw [e1, Hi.out]
    have v3 : vdA A l F.1 = p.act := by rw [e1, Ha.out]
    refine bodyPost_ret (results_blk2 Tryz.results27 rfl hwz Tryz.underlying36 rfl (by kernel_rfl)) rfl ⟨?_, HB3.out.trans (hoz.below (Nat.le_succ _))⟩
    rw [v1, v2, v3, e2]
    simp
  ·obtain rfl : k = n := by omega
   have c1 := cell_on1 HB.out C1.out
   have h2 := HF.out
   rw [List.drop_eq_nil_of_le (by have := Hn.out; omega)] at h2
   have e1 : F.1 = -1 := h2.1
   have e2 : F.2 = k := h2.2
   have HE1 : Hid (F.1 = -1) := e1
   have HE2 : Hid (F.2 = k) := e2
   clear h2 e1 e2
   go_wp2_with (refine wpList_store_blk rfl 36 (.tmp 6) (.tmp 43) rfl (w.heap.size + 1) 0 #[.bool false, .int .i64 0, .int .i64 A] #[.bool false, .int .i64 0, .int .i64 A] rfl rfl 36 _ HV.out (Nat.le_of_ble_eq_true rfl) rfl (by kernel_rfl) rfl ?_; intro wz hwz hoz)
   refine bodyPost_ret (results_blk2 Tryz.results27 rfl hwz Tryz.underlying36 rfl (by kernel_rfl)) rfl ⟨?_, HB.out.trans (hoz.below (Nat.le_succ _))⟩
   rw [HE1.out, HE2.out]
   rfl
set_option maxHeartbeats 2000000 in
theorem plantC (bn d : Nat) (u : Value) (l : List Ru) (w : World) (hs : SrcU w u l) (hl : l.length ≤ 64) (hok : ∀ R ∈ l, okR R = true) (hbd : ∀ R ∈ l, BdR R) (hd : d ≤ 32) :
  Calls Tryz.prog 53 #[u, .int .i64 bn, .int .i64 d] w fun e w' => ∃ q : Nv, e = .returned (.agg #[.int .u32 q.x.a.1, .int .u32 q.x.a.2, .int .u32 q.x.b.1, .int .u32 q.x.b.2, .int .u16 q.x.c.1, .int .u16 q.x.c.2, .int .u16 q.x.d.1, .int .u16 q.x.d.2, .int .u8 q.x.m.1, .int .u8 q.x.m.2, .pointer q.k, .slice q.ad q.n q.cap]) ∧ Nd bn w' w.heap.size d (rootP l) q ∧ Below w.heap.size w w' := by
 have hb0 : Below w.heap.size w (w.alloc (.cells #[.int .u32 0, .int .u32 0, .int .u32 0, .int .u32 0, .int .u16 0, .int .u16 0, .int .u16 0, .int .u16 0, .int .u8 0, .int .u8 0, .pointer none, .slice none 0 0] 88)) := (Below.refl _ _).alloc (Nat.le_refl _) _
 have hz0 := blk_new w (.cells #[.int .u32 0, .int .u32 0, .int .u32 0, .int .u32 0, .int .u16 0, .int .u16 0, .int .u16 0, .int .u16 0, .int .u8 0, .int .u8 0, .pointer none, .slice none 0 0] 88)
 have HB0 : Hid _ := hb0
 have HZ0 : Hid ((w.alloc (.cells #[.int .u32 0, .int .u32 0, .int .u32 0, .int .u32 0, .int .u16 0, .int .u16 0, .int .u16 0, .int .u16 0, .int .u8 0, .int .u8 0, .pointer none, .slice none 0 0] 88)).heap[w.heap.size]? = some (.cells #[.int .u32 0, .int .u32 0, .int .u32 0, .int .u32 0, .int .u16 0, .int .u16 0, .int .u16 0, .int .u16 0, .int .u8 0, .int .u8 0, .pointer none, .slice none 0 0] 88)) := hz0
 have hall := allPC u l (w.alloc (.cells #[.int .u32 0, .int .u32 0, .int .u32 0, .int .u32 0, .int .u16 0, .int .u16 0, .int .u16 0, .int .u16 0, .int .u8 0, .int .u8 0, .pointer none, .slice none 0 0] 88)) (hs.keep hb0) hl hok hbd
 have HR : Hid (CtOk l d (rootP l)) := root_ok hok hbd hd
 have Hl : Hid (l.length ≤ 64) := hl
 have Hd : Hid (d ≤ 32) := hd
 have HTr : Hid (∀ W, _) := fun W => trialsC W
 have HG : Hid (∀ g p L W, _) := fun g p L W => growC bn l g d p L W
 clear hs hl hok hbd hd hb0 hz0
 go_enter Tryz.func53, Tryz.ntmps53
 go_wp2_with (first | (go_at_call 71; refine hall.mono ?_; rintro e w1 ⟨⟨X, ad, n, cap⟩, rfl, hX, hrow, hb1⟩; have HX : Hid _ := hX; have HRow : Hid _ := hrow; have HB1 : Hid _ := hb1; clear hX hrow hb1) | (go_at_call 72; refine (HTr.out _).mono ?_; rintro e w2 ⟨g, rfl, ht, _, hb2⟩; have HT2 : Hid _ := ht; have HB2 : Hid _ := hb2; clear ht hb2) | (go_at_call 70; refine (HG.out g ⟨X, ad, n, cap⟩ (allK l 0) _ Hd.out HT2.out (RowZ.src (RowZ.on HRow.out HB2.out)) (Nat.le_trans HR.out.len Hl.out) (by rw [show ((⟨X, ad, n, cap⟩ : Pt).x, allK l 0) = rootP l from by rw [show (⟨X, ad, n, cap⟩ : Pt).x = wholeP from HX.out]; rfl]; exact HR.out) Hl.out).mono ?_; rintro e w3 ⟨q, rfl, hN, hb3⟩; have HN3 : Hid _ := hN; have HB3 : Hid (Below w.heap.size w w3) := ((HB0.out.trans (HB1.out.mono HB0.out.size)).trans (HB2.out.mono (HB0.out.trans (HB1.out.mono HB0.out.size)).size)).trans (hb3.mono ((HB0.out.trans (HB1.out.mono HB0.out.size)).trans (HB2.out.mono (HB0.out.trans (HB1.out.mono HB0.out.size)).size)).size); have HZ3 : Hid (w3.heap[w.heap.size]? = some (.cells #[.int .u32 0, .int .u32 0, .int .u32 0, .int .u32 0, .int .u16 0, .int .u16 0, .int .u16 0, .int .u16 0, .int .u8 0, .int .u8 0, .pointer none, .slice none 0 0] 88)) := blk_on (blk_on (blk_on HZ0.out HB1.out) HB2.out) hb3; clear hN hb3) | (refine wpList_store_blk rfl 88 (.tmp 6) (.tmp 12) rfl w.heap.size 0 #[.int .u32 q.x.a.1, .int .u32 q.x.a.2, .int .u32 q.x.b.1, .int .u32 q.x.b.2, .int .u16 q.x.c.1, .int .u16 q.x.c.2, .int .u16 q.x.d.1, .int .u16 q.x.d.2, .int .u8 q.x.m.1, .int .u8 q.x.m.2, .pointer q.k, .slice q.ad q.n q.cap] #[.int .u32 q.x.a.1, .int .u32 q.x.a.2, .int .u32 q.x.b.1, .int .u32 q.x.b.2, .int .u16 q.x.c.1, .int .u16 q.x.c.2, .int .u16 q.x.d.1, .int .u16 q.x.d.2, .int .u8 q.x.m.1, .int .u8 q.x.m.2, .pointer q.k, .slice q.ad q.n q.cap] rfl rfl 88 _ HZ3.out (Nat.le_of_ble_eq_true rfl) rfl (by kernel_rfl) rfl ?_; intro wz hwz hoz))
 refine bodyPost_ret (results_blk Tryz.results53 rfl hwz Tryz.underlying88 rfl (by kernel_rfl)) rfl ⟨q, rfl, ?_, HB3.out.trans (hoz.below (Nat.le_refl _))⟩
 have hN := HN3.out
 rw [show ((⟨X, ad, n, cap⟩ : Pt).x, allK l 0) = rootP l from by rw [show (⟨X, ad, n, cap⟩ : Pt).x = wholeP from HX.out]; rfl] at hN
 exact (hN.put hoz HZ3.out).base (Nat.le_trans HB0.out.size (Nat.le_trans HB1.out.size HB2.out.size))
end Go.Proofs.YtabkbfopklpckaaGreat

