/-
  PkBS: CqRs, one behind the other (tools/pack.py).
-/
import Derived.Test.YtgokmkholjfhbaaGreatPkBO
import Derived.Test.YtgokmkholjfhbaaGreatPkBR
import Derived.Test.YtgokmkholjfhbaaGreatPkAE
set_option linter.unusedVariables false
set_option linter.unusedSimpArgs false
namespace Go.Proofs.YtgokmkholjfhbaaGreat
open Go.RowKit
set_option maxRecDepth 20000 in
set_option maxHeartbeats 8000000 in
theorem rfindC (v : Value) (l : List Ru) (x : Int) (w : World) (hs : SrcU w v l) (hl : l.length ≤ 200000) :
  Calls Tryz.prog 40 #[v, .int .i64 x] w fun e w' => e = .returned (.int .i64 (fnd l x)) ∧ Below w.heap.size w w' := by
 obtain ⟨ad, cap, rfl, hcap, hat⟩ := hs
 obtain ⟨A, hA⟩ : ∃ A, A = fnd l x := ⟨_, rfl⟩
 rw [← hA]
 have HA : Hid (A = fndK x (l.drop 0) 0) := hA
 clear hA
 obtain ⟨n, hn⟩ : ∃ n, n = l.length := ⟨_, rfl⟩
 have Hn : Hid (n = l.length) := hn
 have HAt : Hid (∀ (W : World), Below w.heap.size w W → ∀ k (hk : k < l.length), ∃ g off, ad = some ⟨g, off, none⟩ ∧ g < W.heap.size ∧ ∀ j, j < 12 → W.cell? ⟨g, off + (k * 12 + j), none⟩ = (encU (l[k]'hk))[j]?) := fun W hb k hk => by
  obtain ⟨g, off, e, h3⟩ := hat (by omega)
  have h0 := h3 k hk 0 (by decide)
  have hg : g < w.heap.size := World.block_lt_of_cell? w _ (h0.trans rfl)
  exact ⟨g, off, e, by have := hb.size; omega, fun j hj => by
   have := h3 k hk j hj
   obtain ⟨u, hu⟩ := encU_some (l[k]'hk) hj
   rw [hb.cell (p := ⟨g, off + (k * 12 + j), none⟩) hg]; exact this⟩
 rw [← hn] at hl hcap ⊢
 have hn0 : (n : Int) ≤ 200000 := by omega
 clear hn hat
 go_enter Tryz.func40, Tryz.ntmps40
 go_wp2_with (fail)
 go_loopw [5] (fun i wr => ∃ k : Nat, k ≤ n ∧ i = .int .i64 k ∧ Hid (Below w.heap.size w wr) ∧ Hid (A = fndK x (l.drop k) k)) (fun i _ => n - (intOf i).toNat)
 case atStart => exact ⟨0, Nat.zero_le _, rfl, Below.refl _ _, HA.out⟩
 case round =>
  obtain ⟨k, hk, rfl, HB, HK⟩ := hrel
  by_cases hlt : k < n
  ·have hkl : k < l.length := by rw [← Hn.out]; exact hlt
   obtain ⟨g, off, rfl, hg, hc⟩ := HAt.out wr HB.out k hkl
   obtain ⟨p, hp⟩ : ∃ p, p = l[k]'hkl := ⟨_, rfl⟩
   rw [← hp] at hc
   have x0 : wr.cell? ⟨g, off + k * 12, none⟩ = some (.int .i64 p.i) := hc 0 (by decide)
   have hlt' : (k : Int) < (n : Int) := by omega
   clear hc
   by_cases hx : p.i = x
   ·have HV : Hid (A = (k : Int)) := HK.out.trans (fndK_hit hkl (by rw [← hp]; exact hx))
    rw [hx] at x0
    clear hp hx HK HA HAt
    go_wp2_with (fail)
    go_ret
    exact ⟨ret_int HV.out.symm, HB.out⟩
   ·have HK2 : Hid (A = fndK x (l.drop (k + 1)) (k + 1)) := HK.out.trans (fndK_no hkl (by rw [← hp]; exact hx))
    have hx' : (p.i == x) = false := by simpa using hx
    clear hp HK HA HAt hkl
    go_wp2_with (fail)
    go_roundw
    case rel => exact ⟨k + 1, by omega, by go_num, HB.out, HK2.out⟩
    case measure => simp [intOf]; omega
  ·obtain rfl : k = n := by omega
   have HV : Hid (A = -1) := HK.out.trans (fndK_end (by rw [← Hn.out]; exact Nat.le_refl _))
   clear HK HA HAt
   go_wp2_with (fail)
   go_ret
   exact ⟨ret_int HV.out.symm, HB.out⟩
set_option maxRecDepth 20000 in
set_option maxHeartbeats 8000000 in
theorem rsetC (u : Value) (l : List Ru) (M : Int) (w : World) (hs : SrcU w u l) (hl : l.length ≤ 200000) (hbd : ∀ k (hk : k < l.length), BdR (l[k]'hk)) :
  Calls Tryz.prog 31 #[u, .int .i64 M] w fun e w' => e = .returned (.int .i64 (setE l M)) ∧ Below w.heap.size w w' := by
 have HS : Hid (SrcU w u l) := hs
 obtain ⟨E, hE⟩ : ∃ E, E = setE l M := ⟨_, rfl⟩
 rw [← hE]
 have HE : Hid (E = setK M (l.take 0) (l.drop 0)) := hE
 clear hE
 obtain ⟨ad, cap, rfl, hcap, hat⟩ := hs
 obtain ⟨n, hn⟩ : ∃ n, n = l.length := ⟨_, rfl⟩
 have Hn : Hid (n = l.length) := hn
 have HAt : Hid (∀ (W : World), Below w.heap.size w W → ∀ k (hk : k < l.length), ∃ g off, ad = some ⟨g, off, none⟩ ∧ g < W.heap.size ∧ ∀ j, j < 12 → W.cell? ⟨g, off + (k * 12 + j), none⟩ = (encU (l[k]'hk))[j]?) := fun W hb k hk => by
  obtain ⟨g, off, e, h3⟩ := hat (by omega)
  have h0 := h3 k hk 0 (by decide)
  have hg : g < w.heap.size := World.block_lt_of_cell? w _ (h0.trans rfl)
  exact ⟨g, off, e, by have := hb.size; omega, fun j hj => by
   have := h3 k hk j hj
   obtain ⟨u, hu⟩ := encU_some (l[k]'hk) hj
   rw [hb.cell (p := ⟨g, off + (k * 12 + j), none⟩) hg]; exact this⟩
 have HC : Hid (∀ (W : World) (k : Nat) (hk : k < l.length) (p : Ru), p = l[k]'hk → Calls Tryz.prog 39 #[.agg #[.int .i64 p.i, .int .u32 p.s, .int .i64 p.sl, .int .u32 p.d, .int .i64 p.dl, .int .u16 p.p.1, .int .u16 p.p.2, .int .u16 p.q.1, .int .u16 p.q.2, .int .u8 p.m.1, .int .u8 p.m.2, .int .i64 p.act]] W fun e w' => e = .returned (.tuple #[.int .i64 (errs p).1, .int .i64 (errs p).2]) ∧ Below W.heap.size W w') := fun W k hk p hp => rcheckR p W (by rw [hp]; exact hbd k hk)
 have HJ : Hid (∀ (W : World) (k : Nat) (hk : k < l.length) (g off : Nat), ad = some ⟨g, off, none⟩ → Below w.heap.size w W → ∀ x : Int, Calls Tryz.prog 40 #[.slice (some ⟨g, off, none⟩) k cap, .int .i64 x] W fun e w' => e = .returned (.int .i64 (fnd (l.take k) x)) ∧ Below W.heap.size W w') := fun W k hk g off e hb x => by
  subst e
  have h1 := (SrcU.cut HS.out 0 k (Nat.zero_le _) (by omega)).keep hb
  rw [cutU_zero, List.drop_zero] at h1
  exact rfindC _ _ x W h1 (by rw [List.length_take]; omega)
 rw [← hn] at hl hcap HS ⊢
 have hn0 : (n : Int) ≤ 200000 := by omega
 clear hn hat HS hbd
 go_enter Tryz.func31, Tryz.ntmps31
 go_wp2_with (fail)
 go_loopw [5] (fun i wr => ∃ k : Nat, k ≤ n ∧ i = .int .i64 k ∧ Hid (Below w.heap.size w wr) ∧ Hid (E = setK M (l.take k) (l.drop k))) (fun i _ => n - (intOf i).toNat)
 case atStart => exact ⟨0, Nat.zero_le _, rfl, Below.refl _ _, HE.out⟩
 case round =>
  obtain ⟨k, hk, rfl, HB, HK⟩ := hrel
  by_cases hlt2 : k < n
  ·have hkl : k < l.length := by rw [← Hn.out]; exact hlt2
   obtain ⟨g, off, e0, hg, hc⟩ := HAt.out wr HB.out k hkl
   obtain ⟨p, hp⟩ : ∃ p, p = l[k]'hkl := ⟨_, rfl⟩
   have hCk := HC.out wr k hkl p hp
   have hJ := fun W hb => HJ.out W k hkl g off e0 hb p.i
   have HKb : Hid (joinE (l.take k) p ≠ 0 → E = joinE (l.take k) p) := by rw [hp]; exact fun h0 => HK.out.trans (setK_bad hkl h0)
   have HKf : Hid (joinE (l.take k) p = 0 → M ≤ (k : Int) → E = 113) := by rw [hp]; exact fun h0 hm => HK.out.trans (setK_full hkl h0 hm)
   have HKn : Hid (joinE (l.take k) p = 0 → (k : Int) < M → E = setK M (l.take (k + 1)) (l.drop (k + 1))) := by rw [hp]; exact fun h0 hm => HK.out.trans (setK_next hkl h0 hm)
   have hje : joinE (l.take k) p = if (errs p).1 = 0 then (if 0 ≤ fnd (l.take k) p.i then 111 else 0) else (errs p).1 := rfl
   rw [← hp] at hc
   subst e0
   have x0 : wr.cell? ⟨g, off + k * 12, none⟩ = some (.int .i64 p.i) := hc 0 (by decide)
   have x1 : wr.cell? ⟨g, off + k * 12 + 1, none⟩ = some (.int .u32 p.s) := hc 1 (by decide)
   have x2 : wr.cell? ⟨g, off + k * 12 + 2, none⟩ = some (.int .i64 p.sl) := hc 2 (by decide)
   have x3 : wr.cell? ⟨g, off + k * 12 + 3, none⟩ = some (.int .u32 p.d) := hc 3 (by decide)
   have x4 : wr.cell? ⟨g, off + k * 12 + 4, none⟩ = some (.int .i64 p.dl) := hc 4 (by decide)
   have x5 : wr.cell? ⟨g, off + k * 12 + 5, none⟩ = some (.int .u16 p.p.1) := hc 5 (by decide)
   have x6 : wr.cell? ⟨g, off + k * 12 + 6, none⟩ = some (.int .u16 p.p.2) := hc 6 (by decide)
   have x7 : wr.cell? ⟨g, off + k * 12 + 7, none⟩ = some (.int .u16 p.q.1) := hc 7 (by decide)
   have x8 : wr.cell? ⟨g, off + k * 12 + 8, none⟩ = some (.int .u16 p.q.2) := hc 8 (by decide)
   have x9 : wr.cell? ⟨g, off + k * 12 + 9, none⟩ = some (.int .u8 p.m.1) := hc 9 (by decide)
   have x10 : wr.cell? ⟨g, off + k * 12 + 10, none⟩ = some (.int .u8 p.m.2) := hc 10 (by decide)
   have x11 : wr.cell? ⟨g, off + k * 12 + 11, none⟩ = some (.int .i64 p.act) := hc 11 (by decide)
   have hlt' : (k : Int) < (n : Int) := by omega
   have hcp1 : (k : Int) ≤ (cap : Int) := by omega
   have hcp2 : ¬ cap = 0 := by omega
   clear HAt HJ HK HE hp HC
   generalize (errs p).1 = c at *
   generalize (errs p).2 = d at *
   generalize fnd (l.take k) p.i = fd at *
   rw [hje] at HKb HKf HKn
   clear hje
   go_wp2_with (fail)
   refine hCk.mono ?_
   rintro e W1 ⟨rfl, hb1⟩
   have HB1 : Hid (Below w.heap.size w W1) := HB.out.trans (hb1.mono HB.out.size)
   have z0 : W1.cell? ⟨g, off + k * 12, none⟩ = some (.int .i64 p.i) := cell_on1 hb1 x0
   have hg1 : g < W1.heap.size := by have := hb1.size; omega
   clear hb1 hCk hc HB x0 x1 x2 x3 x4 x5 x6 x7 x8 x9 x10 x11
   by_cases hc0 : c = 0
   ·subst hc0
    go_upto_region 7 with (fail)
    have kne : Nonempty (Kin (W1)) := ⟨⟨_, Below.refl _ _⟩⟩
    have kc0 : ∀ y : Kin (W1), y.val.cell? ⟨g, off + k * 12, none⟩ = some (.int .i64 p.i) := kcL
    refine wp_region_kin (W1) (Below.refl _ _) (by kernel_rfl) (by kernel_rfl) ?_
    repeat (go_big_quiet_step (first | (go_at_call 40; exact kin_call (hJ _ (HB1.out.trans (Below.mono (Kin.is _) HB1.out.size))))))
    refine wpQuiet_nil ?_
    rintro wq ⟨⟨xq, hxq⟩, hyq⟩
    have hq : Below (W1).heap.size (W1) wq := by rw [hyq]; exact hxq
    clear hyq hxq xq
    clear kne kc0
    obtain ⟨hcq, hfq⟩ := bcell hq
    have hzq := hq.size
    try simp at hzq
    generalize wq = W3 at *
    have HB3 : Hid (Below w.heap.size w W3) := HB1.out.trans (hq.mono HB1.out.size)
    clear hq hcq hfq hzq hJ z0 HB1 hg1
    clear W1
    by_cases hf : 0 ≤ fd
    ·have HV : Hid (E = 111) := by
      have := HKb.out
      simp [hf] at this
      exact this
     clear HKb HKf HKn
     go_wp2_with (fail)
     go_ret
     exact ⟨ret_int HV.out.symm, HB3.out⟩
    ·have hf' : ¬ 0 ≤ fd := hf
     by_cases hm : M ≤ (k : Int)
     ·have HV : Hid (E = 113) := by
       have := HKf.out
       simp [hf, hm] at this
       exact this
      clear HKb HKf HKn
      go_wp2_with (fail)
      go_ret
      exact ⟨ret_int HV.out.symm, HB3.out⟩
     ·have HV : Hid (E = setK M (l.take (k + 1)) (l.drop (k + 1))) := by
       have h2 : (k : Int) < M := by omega
       have := HKn.out
       simp only [if_true, if_neg hf] at this
       exact this trivial h2
      clear HKb HKf HKn
      go_wp2_with (fail)
      go_roundw
      case rel => exact ⟨k + 1, by omega, by go_num, HB3.out, HV.out⟩
      case measure => simp [intOf]; omega
   ·have HV : Hid (E = c) := by
     have := HKb.out
     rw [if_neg hc0] at this
     exact this hc0
    have hc' : (c != 0) = true := by simpa using hc0
    clear HKb HKf HKn
    go_wp2_with (fail)
    go_ret
    exact ⟨ret_int HV.out.symm, HB1.out⟩
  ·obtain rfl : k = n := by omega
   have HV : Hid (E = 0) := HK.out.trans (setK_end (by rw [← Hn.out]; exact Nat.le_refl _))
   clear HK HE HAt HJ HC
   go_wp2_with (fail)
   go_ret
   exact ⟨ret_int HV.out.symm, HB.out⟩
theorem put3 (V : World) (B : Nat) {a b c : Value} (a' b' c' : Value) {T : TypeId} (h1 : V.heap[B]? = some (.cells #[a, b, c] T (0, 0))) (W : World)
  (hW : W = ((V.setCell ⟨B, 0, none⟩ a').setCell ⟨B, 1, none⟩ b').setCell ⟨B, 2, none⟩ c') : W.heap[B]? = some (.cells #[a', b', c'] T (0, 0)) ∧ ∀ n, n ≤ B → Below n V W := by
 subst hW
 have q1 := blk_set h1 (j := 0) a'
 have q2 := blk_set q1 (j := 1) b'
 have q3 := blk_set q2 (j := 2) c'
 exact ⟨by simpa using q3, fun n hB => Below.setCell (p := ⟨B, 2, none⟩) (Below.setCell (p := ⟨B, 1, none⟩) (Below.setCell (p := ⟨B, 0, none⟩) (Below.refl n V) hB _) hB _) hB _⟩
set_option maxRecDepth 20000 in
set_option maxHeartbeats 8000000 in
theorem rmatchL (u : Value) (l : List Ru) (A : Int) (h : Hd) (w : World) (hs : SrcU w u l) (hl : l.length ≤ 200000) (hbd : ∀ k (hk : k < l.length), BdR (l[k]'hk)) (oh : OkH h) :
  Calls Tryz.prog 43 #[u, .int .i64 A, .agg #[.int .u32 h.s, .int .u32 h.d, .int .u16 h.p, .int .u16 h.q, .int .u8 h.r]] w fun e w' => e = .returned (.tuple #[.agg #[.bool (vdH (mat l h)), .int .i64 (vdI l (mat l h)), .int .i64 (vdA A l (mat l h))], .int .i64 (mat l h)]) ∧ Below w.heap.size w w' := by
 obtain ⟨E, hE⟩ : ∃ E, E = Ending.returned (.tuple #[.agg #[.bool (vdH (mat l h)), .int .i64 (vdI l (mat l h)), .int .i64 (vdA A l (mat l h))], .int .i64 (mat l h)]) := ⟨_, rfl⟩
 rw [← hE]
 have HE : Hid (E = Ending.returned (.tuple #[.agg #[.bool (vdH (mat l h)), .int .i64 (vdI l (mat l h)), .int .i64 (vdA A l (mat l h))], .int .i64 (mat l h)])) := hE
 have HM0 : Hid (mat l h = matK h (l.drop 0) 0) := rfl
 clear hE
 have hS0 : ((w.alloc (.cells #[.int .u32 h.s, .int .u32 h.d, .int .u16 h.p, .int .u16 h.q, .int .u8 h.r] 28)).alloc (.cells #[.bool false, .int .i64 0, .int .i64 0] 36)).heap[w.heap.size]? = some (.cells #[.int .u32 h.s, .int .u32 h.d, .int .u16 h.p, .int .u16 h.q, .int .u8 h.r] 28) := blk_alloc (blk_new w _) _
 have hS1 : ((w.alloc (.cells #[.int .u32 h.s, .int .u32 h.d, .int .u16 h.p, .int .u16 h.q, .int .u8 h.r] 28)).alloc (.cells #[.bool false, .int .i64 0, .int .i64 0] 36)).heap[w.heap.size + 1]? = some (.cells #[.bool false, .int .i64 0, .int .i64 0] 36) := by simpa using blk_new (w.alloc (.cells #[.int .u32 h.s, .int .u32 h.d, .int .u16 h.p, .int .u16 h.q, .int .u8 h.r] 28)) (.cells #[.bool false, .int .i64 0, .int .i64 0] 36)
 have hB0 : Below w.heap.size w ((w.alloc (.cells #[.int .u32 h.s, .int .u32 h.d, .int .u16 h.p, .int .u16 h.q, .int .u8 h.r] 28)).alloc (.cells #[.bool false, .int .i64 0, .int .i64 0] 36)) := bel_a2 w _ _
 obtain ⟨ad, cap, rfl, hcap, hat⟩ := hs
 obtain ⟨n, hn⟩ : ∃ n, n = l.length := ⟨_, rfl⟩
 have Hn : Hid (n = l.length) := hn
 have HAt : Hid (∀ (W : World), Below w.heap.size w W → ∀ k (hk : k < l.length), ∃ g off, ad = some ⟨g, off, none⟩ ∧ g < W.heap.size ∧ ∀ j, j < 12 → W.cell? ⟨g, off + (k * 12 + j), none⟩ = (encU (l[k]'hk))[j]?) := fun W hb k hk => by
  obtain ⟨g, off, e, h3⟩ := hat (by omega)
  have h0 := h3 k hk 0 (by decide)
  have hg : g < w.heap.size := World.block_lt_of_cell? w _ (h0.trans rfl)
  exact ⟨g, off, e, by have := hb.size; omega, fun j hj => by
   have := h3 k hk j hj
   obtain ⟨u, hu⟩ := encU_some (l[k]'hk) hj
   rw [hb.cell (p := ⟨g, off + (k * 12 + j), none⟩) hg]; exact this⟩
 have HC : Hid (∀ (W : World) (k : Nat) (hk : k < l.length) (p : Ru), p = l[k]'hk → Calls Tryz.prog 58 #[.agg #[.int .i64 p.i, .int .u32 p.s, .int .i64 p.sl, .int .u32 p.d, .int .i64 p.dl, .int .u16 p.p.1, .int .u16 p.p.2, .int .u16 p.q.1, .int .u16 p.q.2, .int .u8 p.m.1, .int .u8 p.m.2, .int .i64 p.act], .agg #[.int .u32 h.s, .int .u32 h.d, .int .u16 h.p, .int .u16 h.q, .int .u8 h.r]] W fun e w' => e = .returned (.bool (matchR p h)) ∧ Below W.heap.size W w') := fun W k hk p hp => rmatchR p h W (by rw [hp]; exact hbd k hk) oh
 rw [← hn] at hl hcap ⊢
 have hn0 : (n : Int) ≤ 200000 := by omega
 clear hn hat hbd
 go_enter Tryz.func43, Tryz.ntmps43
 go_upto_region 1 with (fail)
 generalize (w.alloc (.cells #[.int .u32 h.s, .int .u32 h.d, .int .u16 h.p, .int .u16 h.q, .int .u8 h.r] 28)).alloc (.cells #[.bool false, .int .i64 0, .int .i64 0] 36) = W0 at *
 have HS0 : Hid _ := hS0
 have HS1 : Hid _ := hS1
 have HB0 : Hid _ := hB0
 clear hS0 hS1 hB0
 go_wp2_with (fail)
 go_loopw [8] (fun i wr => ∃ k : Nat, k ≤ n ∧ i = .int .i64 k ∧ Hid (Below w.heap.size w wr) ∧ Hid (wr.heap[w.heap.size]? = some (.cells #[.int .u32 h.s, .int .u32 h.d, .int .u16 h.p, .int .u16 h.q, .int .u8 h.r] 28)) ∧ Hid (wr.heap[w.heap.size + 1]? = some (.cells #[.bool false, .int .i64 0, .int .i64 0] 36)) ∧ Hid (mat l h = matK h (l.drop k) k)) (fun i _ => n - (intOf i).toNat)
 case atStart => exact ⟨0, Nat.zero_le _, rfl, HB0.out, HS0.out, HS1.out, HM0.out⟩
 case round =>
  clear HS0 HS1 HB0 HM0
  obtain ⟨k, hk, rfl, HB, HH, HV, HK⟩ := hrel
  by_cases hlt2 : k < n
  ·have hkl : k < l.length := by rw [← Hn.out]; exact hlt2
   obtain ⟨g, off, e0, hg, hc⟩ := HAt.out wr HB.out k hkl
   obtain ⟨p, hp⟩ : ∃ p, p = l[k]'hkl := ⟨_, rfl⟩
   have hM := fun W => HC.out W k hkl p hp
   rw [← hp] at hc
   subst e0
   have x0 : wr.cell? ⟨g, off + k * 12, none⟩ = some (.int .i64 p.i) := hc 0 (by decide)
   have x1 : wr.cell? ⟨g, off + k * 12 + 1, none⟩ = some (.int .u32 p.s) := hc 1 (by decide)
   have x2 : wr.cell? ⟨g, off + k * 12 + 2, none⟩ = some (.int .i64 p.sl) := hc 2 (by decide)
   have x3 : wr.cell? ⟨g, off + k * 12 + 3, none⟩ = some (.int .u32 p.d) := hc 3 (by decide)
   have x4 : wr.cell? ⟨g, off + k * 12 + 4, none⟩ = some (.int .i64 p.dl) := hc 4 (by decide)
   have x5 : wr.cell? ⟨g, off + k * 12 + 5, none⟩ = some (.int .u16 p.p.1) := hc 5 (by decide)
   have x6 : wr.cell? ⟨g, off + k * 12 + 6, none⟩ = some (.int .u16 p.p.2) := hc 6 (by decide)
   have x7 : wr.cell? ⟨g, off + k * 12 + 7, none⟩ = some (.int .u16 p.q.1) := hc 7 (by decide)
   have x8 : wr.cell? ⟨g, off + k * 12 + 8, none⟩ = some (.int .u16 p.q.2) := hc 8 (by decide)
   have x9 : wr.cell? ⟨g, off + k * 12 + 9, none⟩ = some (.int .u8 p.m.1) := hc 9 (by decide)
   have x10 : wr.cell? ⟨g, off + k * 12 + 10, none⟩ = some (.int .u8 p.m.2) := hc 10 (by decide)
   have x11 : wr.cell? ⟨g, off + k * 12 + 11, none⟩ = some (.int .i64 p.act) := hc 11 (by decide)
   obtain ⟨y0, y1, y2, y3, y4⟩ := blk5 HH.out
   have hlt' : (k : Int) < (n : Int) := by omega
   have hgz : g < wr.heap.size := hg
   have hz1 : w.heap.size < wr.heap.size := blk_lt HH.out
   cases hm : matchR p h
   ·have HK2 : Hid (mat l h = matK h (l.drop (k + 1)) (k + 1)) := HK.out.trans (matK_no hkl (by rw [← hp]; exact hm))
    rw [hm] at hM
    clear hc HAt HK hp HC
    go_upto_region 4 with (fail)
    have kne : Nonempty (Kin (wr)) := ⟨⟨_, Below.refl _ _⟩⟩
    have kc0 : ∀ y : Kin (wr), y.val.cell? ⟨g, off + k * 12, none⟩ = some (.int .i64 p.i) := kcL
    have kc1 : ∀ y : Kin (wr), y.val.cell? ⟨g, off + k * 12 + 1, none⟩ = some (.int .u32 p.s) := kcL
    have kc2 : ∀ y : Kin (wr), y.val.cell? ⟨g, off + k * 12 + 2, none⟩ = some (.int .i64 p.sl) := kcL
    have kc3 : ∀ y : Kin (wr), y.val.cell? ⟨g, off + k * 12 + 3, none⟩ = some (.int .u32 p.d) := kcL
    have kc4 : ∀ y : Kin (wr), y.val.cell? ⟨g, off + k * 12 + 4, none⟩ = some (.int .i64 p.dl) := kcL
    have kc5 : ∀ y : Kin (wr), y.val.cell? ⟨g, off + k * 12 + 5, none⟩ = some (.int .u16 p.p.1) := kcL
    have kc6 : ∀ y : Kin (wr), y.val.cell? ⟨g, off + k * 12 + 6, none⟩ = some (.int .u16 p.p.2) := kcL
    have kc7 : ∀ y : Kin (wr), y.val.cell? ⟨g, off + k * 12 + 7, none⟩ = some (.int .u16 p.q.1) := kcL
    have kc8 : ∀ y : Kin (wr), y.val.cell? ⟨g, off + k * 12 + 8, none⟩ = some (.int .u16 p.q.2) := kcL
    have kc9 : ∀ y : Kin (wr), y.val.cell? ⟨g, off + k * 12 + 9, none⟩ = some (.int .u8 p.m.1) := kcL
    have kc10 : ∀ y : Kin (wr), y.val.cell? ⟨g, off + k * 12 + 10, none⟩ = some (.int .u8 p.m.2) := kcL
    have kc11 : ∀ y : Kin (wr), y.val.cell? ⟨g, off + k * 12 + 11, none⟩ = some (.int .i64 p.act) := kcL
    have kc12 : ∀ y : Kin (wr), y.val.cell? ⟨w.heap.size, 0, none⟩ = some (.int .u32 h.s) := kcL
    have kc13 : ∀ y : Kin (wr), y.val.cell? ⟨w.heap.size, 1, none⟩ = some (.int .u32 h.d) := kcL
    have kc14 : ∀ y : Kin (wr), y.val.cell? ⟨w.heap.size, 2, none⟩ = some (.int .u16 h.p) := kcL
    have kc15 : ∀ y : Kin (wr), y.val.cell? ⟨w.heap.size, 3, none⟩ = some (.int .u16 h.q) := kcL
    have kc16 : ∀ y : Kin (wr), y.val.cell? ⟨w.heap.size, 4, none⟩ = some (.int .u8 h.r) := kcL
    refine wp_region_kin (wr) (Below.refl _ _) (by kernel_rfl) (by kernel_rfl) ?_
    repeat (go_big_quiet_step (first | (go_at_call 58; exact kin_call (hM _))))
    refine wpQuiet_nil ?_
    rintro wq ⟨⟨xq, hxq⟩, hyq⟩
    have hq : Below (wr).heap.size (wr) wq := by rw [hyq]; exact hxq
    clear hyq hxq xq
    clear kne kc0 kc1 kc2 kc3 kc4 kc5 kc6 kc7 kc8 kc9 kc10 kc11 kc12 kc13 kc14 kc15 kc16
    obtain ⟨hcq, hfq⟩ := bcell hq
    have hzq := hq.size
    try simp at hzq
    generalize wq = W3 at *
    have HB3 : Hid (Below w.heap.size w W3) := HB.out.trans (hq.mono HB.out.size)
    have HH3 : Hid (W3.heap[w.heap.size]? = some (.cells #[.int .u32 h.s, .int .u32 h.d, .int .u16 h.p, .int .u16 h.q, .int .u8 h.r] 28)) := blk_on HH.out hq
    have HV3 : Hid (W3.heap[w.heap.size + 1]? = some (.cells #[.bool false, .int .i64 0, .int .i64 0] 36)) := blk_on HV.out hq
    clear hq hcq hfq hzq hM HB HH HV x0 x1 x2 x3 x4 x5 x6 x7 x8 x9 x10 x11 y0 y1 y2 y3 y4 hgz hz1
    go_wp2_with (fail)
    go_roundw
    case rel => exact ⟨k + 1, by omega, by go_num, HB3.out, HH3.out, HV3.out, HK2.out⟩
    case measure => simp [intOf]; omega
   ·have hmk : mat l h = (k : Int) := HK.out.trans (matK_hit hkl (by rw [← hp]; exact hm))
    have HE2 : Hid (E = .returned (.tuple #[.agg #[.bool true, .int .i64 p.i, .int .i64 p.act], .int .i64 k])) := by
     show _ = _
     rw [HE.out, hmk, vdI_at hkl, vdA_at hkl, ← hp]
     have : vdH (k : Int) = true := decide_eq_true (by omega)
     rw [this]
    rw [hm] at hM
    clear hc HAt HK hp HC hmk HE
    go_upto_region 4 with (fail)
    have kne : Nonempty (Kin (wr)) := ⟨⟨_, Below.refl _ _⟩⟩
    have kc0 : ∀ y : Kin (wr), y.val.cell? ⟨g, off + k * 12, none⟩ = some (.int .i64 p.i) := kcL
    have kc1 : ∀ y : Kin (wr), y.val.cell? ⟨g, off + k * 12 + 1, none⟩ = some (.int .u32 p.s) := kcL
    have kc2 : ∀ y : Kin (wr), y.val.cell? ⟨g, off + k * 12 + 2, none⟩ = some (.int .i64 p.sl) := kcL
    have kc3 : ∀ y : Kin (wr), y.val.cell? ⟨g, off + k * 12 + 3, none⟩ = some (.int .u32 p.d) := kcL
    have kc4 : ∀ y : Kin (wr), y.val.cell? ⟨g, off + k * 12 + 4, none⟩ = some (.int .i64 p.dl) := kcL
    have kc5 : ∀ y : Kin (wr), y.val.cell? ⟨g, off + k * 12 + 5, none⟩ = some (.int .u16 p.p.1) := kcL
    have kc6 : ∀ y : Kin (wr), y.val.cell? ⟨g, off + k * 12 + 6, none⟩ = some (.int .u16 p.p.2) := kcL
    have kc7 : ∀ y : Kin (wr), y.val.cell? ⟨g, off + k * 12 + 7, none⟩ = some (.int .u16 p.q.1) := kcL
    have kc8 : ∀ y : Kin (wr), y.val.cell? ⟨g, off + k * 12 + 8, none⟩ = some (.int .u16 p.q.2) := kcL
    have kc9 : ∀ y : Kin (wr), y.val.cell? ⟨g, off + k * 12 + 9, none⟩ = some (.int .u8 p.m.1) := kcL
    have kc10 : ∀ y : Kin (wr), y.val.cell? ⟨g, off + k * 12 + 10, none⟩ = some (.int .u8 p.m.2) := kcL
    have kc11 : ∀ y : Kin (wr), y.val.cell? ⟨g, off + k * 12 + 11, none⟩ = some (.int .i64 p.act) := kcL
    have kc12 : ∀ y : Kin (wr), y.val.cell? ⟨w.heap.size, 0, none⟩ = some (.int .u32 h.s) := kcL
    have kc13 : ∀ y : Kin (wr), y.val.cell? ⟨w.heap.size, 1, none⟩ = some (.int .u32 h.d) := kcL
    have kc14 : ∀ y : Kin (wr), y.val.cell? ⟨w.heap.size, 2, none⟩ = some (.int .u16 h.p) := kcL
    have kc15 : ∀ y : Kin (wr), y.val.cell? ⟨w.heap.size, 3, none⟩ = some (.int .u16 h.q) := kcL
    have kc16 : ∀ y : Kin (wr), y.val.cell? ⟨w.heap.size, 4, none⟩ = some (.int .u8 h.r) := kcL
    refine wp_region_kin (wr) (Below.refl _ _) (by kernel_rfl) (by kernel_rfl) ?_
    repeat (go_big_quiet_step (first | (go_at_call 58; exact kin_call (hM _))))
    refine wpQuiet_nil ?_
    rintro wq ⟨⟨xq, hxq⟩, hyq⟩
    have hq : Below (wr).heap.size (wr) wq := by rw [hyq]; exact hxq
    clear hyq hxq xq
    clear kne kc0 kc1 kc2 kc3 kc4 kc5 kc6 kc7 kc8 kc9 kc10 kc11 kc12 kc13 kc14 kc15 kc16
    obtain ⟨hcq, hfq⟩ := bcell hq
    have hzq := hq.size
    try simp at hzq
    generalize wq = W3 at *
    have HB3 : Hid (Below w.heap.size w W3) := HB.out.trans (hq.mono HB.out.size)
    have s2 : W3.heap[w.heap.size + 1]? = some (.cells #[.bool false, .int .i64 0, .int .i64 0] 36) := blk_on HV.out hq
    have z0 : W3.cell? ⟨g, off + k * 12, none⟩ = some (.int .i64 p.i) := cell_on1 hq x0
    have z11 : W3.cell? ⟨g, off + k * 12 + 11, none⟩ = some (.int .i64 p.act) := cell_on1 hq x11
    clear hq hcq hfq hzq hM HB HH HV x0 x1 x2 x3 x4 x5 x6 x7 x8 x9 x10 x11 y0 y1 y2 y3 y4 hgz hz1
    obtain ⟨v0, v1, v2⟩ := blk3 s2
    have f0 := blk_free s2 0
    have f1 := blk_free s2 1
    have f2 := blk_free s2 2
    have HV3 : Hid (W3.heap[w.heap.size + 1]? = some (.cells #[.bool false, .int .i64 0, .int .i64 0] 36)) := s2
    clear s2
    go_upto_region 5 with (fail)
    go_region
    go_wp2_with (fail)
    have hP := put3 W3.drew (w.heap.size + 1) (.bool true) (.int .i64 p.i) (.int .i64 p.act) (drew_blk HV3.out) _ rfl
    exact bodyPost_ret (results_blk2 Tryz.results43 rfl hP.1 Tryz.underlying36 rfl (by kernel_rfl)) rfl ⟨HE2.out.symm, (HB3.out.drew).trans (hP.2 _ (Nat.le_succ _))⟩
  ·obtain rfl : k = n := by omega
   have hmk : mat l h = -1 := HK.out.trans (matK_end (by rw [← Hn.out]; exact Nat.le_refl _))
   have HE2 : Hid (E = .returned (.tuple #[.agg #[.bool false, .int .i64 0, .int .i64 A], .int .i64 (-1)])) := by
    show _ = _
    rw [HE.out, hmk]; rfl
   have s2 := HV.out
   obtain ⟨v0, v1, v2⟩ := blk3 s2
   have f0 := blk_free s2 0
   have f1 := blk_free s2 1
   have f2 := blk_free s2 2
   clear s2 HK HAt HC hmk HE HH
   go_wp2_with (fail)
   have hP := put3 wr (w.heap.size + 1) (.bool false) (.int .i64 0) (.int .i64 A) HV.out _ rfl
   exact bodyPost_ret (results_blk2 Tryz.results43 rfl hP.1 Tryz.underlying36 rfl (by kernel_rfl)) rfl ⟨HE2.out.symm, HB.out.trans (hP.2 _ (Nat.le_succ _))⟩
end Go.Proofs.YtgokmkholjfhbaaGreat
