/-
  PkBM: CtD, one behind the other (tools/pack.py).
-/
import Derived.Test.YtgokmkholjfhbaaGreatPkBL
import Derived.Test.YtgokmkholjfhbaaGreatPkAE
set_option linter.unusedVariables false
set_option linter.unusedSimpArgs false
namespace Go.Proofs.YtgokmkholjfhbaaGreat
open Go.RowKit
theorem results_rows2 {P : Program} {fn : Func} {tmps : Array Value} {w : World} {t u : Tmp} {ty ty2 T U : TypeId} {d d2 : TypeDesc} {B C : Nat} {cs ds : Array Value} {fr fr2 : Nat × Nat} (h : fn.results = #[.cell t ty, .cell u ty2]) (hp : tmps.getD t undef = .pointer (some ⟨B, 0, none⟩)) (hq : tmps.getD u undef = .pointer (some ⟨C, 0, none⟩))
  (hb : w.heap[B]? = some (.cells cs T fr)) (hu : P.underlying ty = some d) (hd : d.isRow = true) (hi : (P.info? ty).map (·.size) = some cs.size)
  (hc : w.heap[C]? = some (.cells ds U fr2)) (hu2 : P.underlying ty2 = some d2) (hd2 : d2.isRow = true) (hi2 : (P.info? ty2).map (·.size) = some ds.size) : (results fn tmps).run P w = .ok (.tuple #[.agg cs, .agg ds]) w := by
 have hl := run_loadVar_mid (P := P) w B 0 ty cs.toList d (by have := World.rangeAt_of_block hb 0 cs.size; simpa using this) hu hd (by simpa using hi)
 have hl2 := run_loadVar_mid (P := P) w C 0 ty2 ds.toList d2 (by have := World.rangeAt_of_block hc 0 ds.size; simpa using this) hu2 hd2 (by simpa using hi2)
 have hp2 : tmps[t]?.getD undef = .pointer (some ⟨B, 0, none⟩) := by simpa using hp
 have hq2 : tmps[u]?.getD undef = .pointer (some ⟨C, 0, none⟩) := by simpa using hq
 simp [results, h, hp2, hq2, asAddr, hl, hl2]
def dpK (c : Cf) (l : List Ru) (h : Hd) : Nat := (fndT c.b.toNat h c.d.toNat (rootP l)).2
def rlK (c : Cf) (l : List Ru) (h : Hd) : Nat := (fsT l h (fndT c.b.toNat h c.d.toNat (rootP l)).1).2
def vdV (c : Cf) (l : List Ru) (h : Hd) : Value := .agg #[.bool (vdH (mat l h)), .int .i64 (vdI l (mat l h)), .int .i64 (vdA c.a l (mat l h))]
def stV (c : Cf) (l : List Ru) (h : Hd) : Value := .agg #[.int .i64 ((dpK c l h : Nat) + 1), .int .i64 (rlK c l h : Nat), .int .i64 (dpK c l h : Nat), .int .i64 0, .int .i64 0]
def saV (c : Cf) (l : List Ru) : Value := .agg #[.int .i64 ((szT c.b.toNat c.d.toNat (rootP l)).1 : Nat), .int .i64 ((szT c.b.toNat c.d.toNat (rootP l)).2 : Nat), .int .i64 0, .int .i64 0]
theorem lfK {c : Cf} {l : List Ru} {h : Hd} (ok : OkN l) (bd : ∀ R ∈ l, BdR R) (hc : okC c = true) (oh : OkH h) : Leaf l c.b.toNat c.d.toNat h (fndT c.b.toNat h c.d.toNat (rootP l)) :=
 fnd_leaf _ (root_ok ok.may bd (by have := okC_bd hc; omega)) (whole_has oh)
theorem szK {c : Cf} {l : List Ru} (ok : OkN l) (bd : ∀ R ∈ l, BdR R) (hc : okC c = true) : 1 ≤ (szT c.b.toNat c.d.toNat (rootP l)).1 ∧ (szT c.b.toNat c.d.toNat (rootP l)).1 + 1 ≤ 2 ^ (c.d.toNat + 1) ∧ (szT c.b.toNat c.d.toNat (rootP l)).2 ≤ (szT c.b.toNat c.d.toNat (rootP l)).1 * l.length :=
 sz_ok _ (root_ok ok.may bd (by have := okC_bd hc; omega))
theorem szK_lim {c : Cf} {l : List Ru} (ok : OkN l) (bd : ∀ R ∈ l, BdR R) (hc : okC c = true) : (szT c.b.toNat c.d.toNat (rootP l)).1 ≤ 4096 ∧ (szT c.b.toNat c.d.toNat (rootP l)).2 ≤ 4096 * 64 := by
 obtain ⟨_, h1, h2⟩ := szK ok bd hc
 have h3 : 2 ^ (c.d.toNat + 1) ≤ 2 ^ 11 := Nat.pow_le_pow_right (by decide) (by have := okC_bd hc; omega)
 have h4 : (szT c.b.toNat c.d.toNat (rootP l)).1 ≤ 4096 := by omega
 exact ⟨h4, Nat.le_trans h2 (Nat.mul_le_mul h4 ok.few)⟩
set_option maxHeartbeats 8000000 in
set_option maxRecDepth 20000 in
theorem askE (X : Nat) (c : Cf) (l : List Ru) (S : Nat → Prop) (h : Hd) (w : World) (hE : Eng w X c l S) (oh : OkH h) :
  Calls Tryz.prog 9 #[.pointer (some ⟨X, 0, none⟩), .agg #[.int .u32 h.s, .int .u32 h.d, .int .u16 h.p, .int .u16 h.q, .int .u8 h.r]] w fun e w' => e = .returned (.tuple #[vdV c l h, stV c l h]) ∧ Below w.heap.size w w' := by
 have hlf := lfK (h := h) hE.ok hE.bd hE.cf oh
 have hmt := leaf_mat hlf
 have hfew := hE.ok.few
 obtain ⟨t, v, q, b, top, he, _⟩ := hE.at'
 have hN := he.nd w (fun _ _ _ => rfl)
 obtain ⟨u, hlv, hru⟩ := nd_lf (h := h) hN
 have hokr := root_ok (d := c.d.toNat) hE.ok.may hE.bd (by have := okC_bd hE.cf; omega)
 have hrX : w.rangeAt X 4 (#[.int .u32 q.x.a.1, .int .u32 q.x.a.2, .int .u32 q.x.b.1, .int .u32 q.x.b.2, .int .u16 q.x.c.1, .int .u16 q.x.c.2, .int .u16 q.x.d.1, .int .u16 q.x.d.2, .int .u8 q.x.m.1, .int .u8 q.x.m.2, .pointer q.k, .slice q.ad q.n q.cap] : Array Value).toList := by have h9 := rng_sub (rngAll he.blk) 4 12; exact h9
 have hFd : ∀ W, Below w.heap.size w W → Calls Tryz.prog 19 #[.pointer (some ⟨X, 4, none⟩), .agg #[.int .u32 h.s, .int .u32 h.d, .int .u16 h.p, .int .u16 h.q, .int .u8 h.r]] W fun e w' => e = .returned (.tuple #[u, .int .i64 (dpK c l h : Nat)]) ∧ Below W.heap.size W w' := fun W hb =>
  findNC c.b.toNat l h oh c.d.toNat (rootP l) q b X 4 u W (by have := okC_bd hE.cf; omega) (hN.on hb) (rng_on hb hrX) (hlv.on hb) hokr (whole_has oh)
 have hFs : ∀ W, Below w.heap.size w W → Calls Tryz.prog 20 #[.pointer (some ⟨X, 0, none⟩), u, .agg #[.int .u32 h.s, .int .u32 h.d, .int .u16 h.p, .int .u16 h.q, .int .u8 h.r]] W fun e w' => e = .returned (.tuple #[.agg #[.bool (vdH (mat l h)), .int .i64 (vdI l (mat l h)), .int .i64 (vdA c.a l (mat l h))], .int .i64 (rlK c l h : Nat)]) ∧ Below W.heap.size W w' := fun W hb => by
  have h9 := firstKC X t v c.m c.a c.a l h u (fndT c.b.toNat h c.d.toNat (rootP l)).1 W (cell_on1 hb (blk_cell he.blk rfl)) (cell_on1 hb (blk_cell he.blk rfl)) (he.tab.on hb) (hru.on hb).src hlf.lt hfew (Nat.le_trans hlf.len hfew) hE.bd oh
  rw [hmt.1] at h9
  exact h9
 have HFs : Hid (∀ W, Below w.heap.size w W → Calls Tryz.prog 20 #[.pointer (some ⟨X, 0, none⟩), u, .agg #[.int .u32 h.s, .int .u32 h.d, .int .u16 h.p, .int .u16 h.q, .int .u8 h.r]] W fun e w' => e = .returned (.tuple #[.agg #[.bool (vdH (mat l h)), .int .i64 (vdI l (mat l h)), .int .i64 (vdA c.a l (mat l h))], .int .i64 (rlK c l h : Nat)]) ∧ Below W.heap.size W w') := hFs
 obtain ⟨ua, uc, hue⟩ := (hru.src).len
 rw [ofN_len] at hue
 have hD : dpK c l h ≤ 10 := by have := hlf.deep; have := okC_bd hE.cf; show (fndT c.b.toNat h c.d.toNat (rootP l)).2 ≤ 10; omega
 have hXl : X < w.heap.size := blk_lt he.blk
 clear hFs hmt hlf hru hlv hN he hokr hrX hE oh hfew
 unfold vdV stV
 generalize (fndT c.b.toNat h c.d.toNat (rootP l)).1.length = un at hue
 subst hue
 generalize dpK c l h = D at *
 generalize rlK c l h = C at *
 generalize vdH (mat l h) = vb at *
 generalize vdI l (mat l h) = vi at *
 generalize vdA c.a l (mat l h) = va at *
 have hwD : IntKind.wrap .i64 ((D : Int) + 1) = (D : Int) + 1 := by rw [IntKind.wrap_i64]; omega
 obtain ⟨w0, hw0⟩ : ∃ w0, w0 = ((w.alloc (.cells #[.int .u32 h.s, .int .u32 h.d, .int .u16 h.p, .int .u16 h.q, .int .u8 h.r] 28)).alloc (.cells #[.bool false, .int .i64 0, .int .i64 0] 36)).alloc (.cells #[.int .i64 0, .int .i64 0, .int .i64 0, .int .i64 0, .int .i64 0] 38) := ⟨_, rfl⟩
 have HB0 : Hid (Below w.heap.size w w0) := by rw [hw0]; exact (((Below.refl _ _).alloc (Nat.le_refl _) _).alloc (by simp) _).alloc (by simp; omega) _
 have HH0 : Hid (w0.heap[w.heap.size]? = some (.cells #[.int .u32 h.s, .int .u32 h.d, .int .u16 h.p, .int .u16 h.q, .int .u8 h.r] 28 (0, 0))) := by rw [hw0]; exact blk_alloc (blk_alloc (blk_new w _) _) _
 have HV0 : Hid (w0.heap[w.heap.size + 1]? = some (.cells #[.bool false, .int .i64 0, .int .i64 0] 36 (0, 0))) := by
  have := blk_alloc (blk_new (w.alloc (.cells #[.int .u32 h.s, .int .u32 h.d, .int .u16 h.p, .int .u16 h.q, .int .u8 h.r] 28)) (.cells #[.bool false, .int .i64 0, .int .i64 0] 36)) (.cells #[.int .i64 0, .int .i64 0, .int .i64 0, .int .i64 0, .int .i64 0] 38)
  rw [← hw0] at this
  show _ = _
  simpa using this
 have HS0 : Hid (w0.heap[w.heap.size + 1 + 1]? = some (.cells #[.int .i64 0, .int .i64 0, .int .i64 0, .int .i64 0, .int .i64 0] 38 (0, 0))) := by
  have := blk_new ((w.alloc (.cells #[.int .u32 h.s, .int .u32 h.d, .int .u16 h.p, .int .u16 h.q, .int .u8 h.r] 28)).alloc (.cells #[.bool false, .int .i64 0, .int .i64 0] 36)) (.cells #[.int .i64 0, .int .i64 0, .int .i64 0, .int .i64 0, .int .i64 0] 38)
  rw [← hw0] at this
  show _ = _
  simpa using this
 have hw0s : ((w.alloc (.cells #[.int .u32 h.s, .int .u32 h.d, .int .u16 h.p, .int .u16 h.q, .int .u8 h.r] 28)).alloc (.cells #[.bool false, .int .i64 0, .int .i64 0] 36)).alloc (.cells #[.int .i64 0, .int .i64 0, .int .i64 0, .int .i64 0, .int .i64 0] 38) = w0 := hw0.symm
 obtain ⟨Bv, hBv⟩ : ∃ B, B = w.heap.size + 1 := ⟨_, rfl⟩
 obtain ⟨Bs, hBs⟩ : ∃ B, B = w.heap.size + 1 + 1 := ⟨_, rfl⟩
 have HBv : Hid (w.heap.size ≤ Bv) := by show _ ≤ _; omega
 have HBs : Hid (w.heap.size ≤ Bs) := by show _ ≤ _; omega
 have HBn : Hid (Bs ≠ Bv) := by show _ ≠ _; omega
 rw [← hBs] at HS0
 rw [← hBv] at HV0
 have He1 : Hid (w.heap.size + 1 + 1 = Bs) := hBs.symm
 have He2 : Hid (w.heap.size + 1 = Bv) := hBv.symm
 clear hBs hBv hw0
 have HFd : Hid (∀ W, Below w.heap.size w W → Calls Tryz.prog 19 #[.pointer (some ⟨X, 4, none⟩), .agg #[.int .u32 h.s, .int .u32 h.d, .int .u16 h.p, .int .u16 h.q, .int .u8 h.r]] W fun e w' => e = .returned (.tuple #[.slice ua un uc, .int .i64 (D : Nat)]) ∧ Below W.heap.size W w') := hFd
 clear hFd
 go_enter Tryz.func9, Tryz.ntmps9
 go_upto_region 3 with (fail)
 have e1 := He1.out
 have e2 := He2.out
 try simp only [hw0s, World.size_alloc, e1]
 try simp only [e2]
 clear hw0s e1 e2 He1 He2
 have RH : Hid (w0.rangeAt w.heap.size 0 (#[.int .u32 h.s, .int .u32 h.d, .int .u16 h.p, .int .u16 h.q, .int .u8 h.r] : Array Value).toList) := rngAll HH0.out
 have hfd : ∀ W, Below w0.heap.size w0 W → Calls Tryz.prog 19 #[.pointer (some ⟨X, 4, none⟩), .agg #[.int .u32 h.s, .int .u32 h.d, .int .u16 h.p, .int .u16 h.q, .int .u8 h.r]] W fun e w' => e = .returned (.tuple #[.slice ua un uc, .int .i64 D]) ∧ Below W.heap.size W w' := fun W hb => HFd.out W (HB0.out.trans (hb.mono HB0.out.size))
 have kne : Nonempty (Kin w0) := ⟨⟨_, Below.refl _ _⟩⟩
 refine wp_region_kin w0 (Below.refl _ _) (by kernel_rfl) (by kernel_rfl) ?_
 iterate 3 (go_big_quiet_step (fail))
 refine ct_load (by rfl) 28 (.tmp 3) rfl w.heap.size 0 #[.int .u32 h.s, .int .u32 h.d, .int .u16 h.p, .int .u16 h.q, .int .u8 h.r] rfl (rng_kin RH.out) Tryz.underlying28 rfl (by kernel_rfl) ?_
 simp only [nrm]
 go_big_quiet_step (first | (go_at_call 19; exact kin_call (hfd _ (Kin.is _))))
 repeat (go_big_quiet_step (fail))
 refine wpQuiet_nil ?_
 rintro wq ⟨⟨xq, hxq⟩, hyq⟩
 have hq : Below w0.heap.size w0 wq := by rw [hyq]; exact hxq
 have HBq : Hid (Below w.heap.size w wq) := HB0.out.trans (hq.mono HB0.out.size)
 have HHq : Hid (wq.heap[w.heap.size]? = some (.cells #[.int .u32 h.s, .int .u32 h.d, .int .u16 h.p, .int .u16 h.q, .int .u8 h.r] 28 (0, 0))) := blk_on HH0.out hq
 have HVq : Hid (wq.heap[Bv]? = some (.cells #[.bool false, .int .i64 0, .int .i64 0] 36 (0, 0))) := blk_on HV0.out hq
 have HSq : Hid (wq.heap[Bs]? = some (.cells #[.int .i64 0, .int .i64 0, .int .i64 0, .int .i64 0, .int .i64 0] 38 (0, 0))) := blk_on HS0.out hq
 have hFi := HFs.out wq HBq.out
 obtain ⟨z0, z1, z2, z3, z4⟩ := blk5 HHq.out
 clear hyq hxq xq kne hfd RH hq HFd HB0 HH0 HV0 HS0 HFs
 go_wp2_with (go_at_call 20; fail)
 refine hFi.mono ?_
 rintro e w3 ⟨rfl, hb3⟩
 have HB3 : Hid (Below w.heap.size w w3) := HBq.out.trans (hb3.mono HBq.out.size)
 have HV3 : Hid (w3.heap[Bv]? = some (.cells #[.bool false, .int .i64 0, .int .i64 0] 36 (0, 0))) := blk_on HVq.out hb3
 have HS3 : Hid (w3.heap[Bs]? = some (.cells #[.int .i64 0, .int .i64 0, .int .i64 0, .int .i64 0, .int .i64 0] 38 (0, 0))) := blk_on HSq.out hb3
 clear hb3 hFi z0 z1 z2 z3 z4 HHq HVq HSq HBq
 have h4 := blk_new w3 (.cells #[.bool vb, .int .i64 vi, .int .i64 va] 36)
 have hb4 : Below w3.heap.size w3 (w3.alloc (.cells #[.bool vb, .int .i64 vi, .int .i64 va] 36)) := (Below.refl _ _).alloc (Nat.le_refl _) _
 go_upto_region 5 with (fail)
 generalize w3.alloc (.cells #[.bool vb, .int .i64 vi, .int .i64 va] 36) = w4 at *
 have HB7 : Hid (Below w.heap.size w w4) := HB3.out.trans (hb4.mono HB3.out.size)
 have HV7 : Hid (w4.heap[Bv]? = some (.cells #[.bool false, .int .i64 0, .int .i64 0] 36 (0, 0))) := blk_on HV3.out hb4
 have HS7 : Hid (w4.heap[Bs]? = some (.cells #[.int .i64 0, .int .i64 0, .int .i64 0, .int .i64 0, .int .i64 0] 38 (0, 0))) := blk_on HS3.out hb4
 obtain ⟨q0, q1, q2⟩ := blk3 h4
 generalize w3.heap.size = B6 at *
 clear h4 hb4 HB3 HV3 HS3
 go_wp2_with (first | (refine wpList_store_blk rfl 36 (.tmp 4) (.tmp 29) rfl Bv 0 #[.bool vb, .int .i64 vi, .int .i64 va] #[.bool vb, .int .i64 vi, .int .i64 va] rfl rfl 36 _ HV7.out (Nat.le_of_ble_eq_true rfl) rfl (by kernel_rfl) rfl ?_; intro w8 hw8 how8; have HS8 : Hid (w8.heap[Bs]? = some (.cells #[.int .i64 0, .int .i64 0, .int .i64 0, .int .i64 0, .int .i64 0] 38 (0, 0))) := (how8.block Bs HBn.out).trans HS7.out) | (refine wpList_store_blk rfl 38 (.tmp 5) (.tmp 34) rfl Bs 0 #[.int .i64 ((D : Int) + 1), .int .i64 C, .int .i64 D, .int .i64 0, .int .i64 0] #[.int .i64 ((D : Int) + 1), .int .i64 C, .int .i64 D, .int .i64 0, .int .i64 0] rfl rfl 38 _ HS8.out (Nat.le_of_ble_eq_true rfl) rfl (by kernel_rfl) rfl ?_; intro w9 hw9 how9))
 refine bodyPost_ret (results_rows2 Tryz.results9 rfl rfl ((how9.block Bv (fun e => HBn.out e.symm)).trans hw8) Tryz.underlying36 rfl (by kernel_rfl) hw9 Tryz.underlying38 rfl (by kernel_rfl)) rfl ?_
 exact ⟨rfl, (HB7.out.trans (how8.below HBv.out)).trans (how9.below HBs.out)⟩
set_option maxHeartbeats 8000000 in
set_option maxRecDepth 20000 in
theorem statsE (X : Nat) (c : Cf) (l : List Ru) (S : Nat → Prop) (w : World) (hE : Eng w X c l S) :
  Calls Tryz.prog 11 #[.pointer (some ⟨X, 0, none⟩)] w fun e w' => e = .returned (saV c l) ∧ Below w.heap.size w w' := by
 have hlim := szK_lim hE.ok hE.bd hE.cf
 obtain ⟨t, v, q, b, top, he, _⟩ := hE.at'
 have hN := he.nd w (fun _ _ _ => rfl)
 have hrX : w.rangeAt X 4 (#[.int .u32 q.x.a.1, .int .u32 q.x.a.2, .int .u32 q.x.b.1, .int .u32 q.x.b.2, .int .u16 q.x.c.1, .int .u16 q.x.c.2, .int .u16 q.x.d.1, .int .u16 q.x.d.2, .int .u8 q.x.m.1, .int .u8 q.x.m.2, .pointer q.k, .slice q.ad q.n q.cap] : Array Value).toList := by have h9 := rng_sub (rngAll he.blk) 4 12; exact h9
 have hSz : ∀ W, Below w.heap.size w W → Calls Tryz.prog 22 #[.pointer (some ⟨X, 4, none⟩)] W fun e w' => e = .returned (.tuple #[.int .i64 ((szT c.b.toNat c.d.toNat (rootP l)).1 : Nat), .int .i64 ((szT c.b.toNat c.d.toNat (rootP l)).2 : Nat)]) ∧ Below W.heap.size W w' := fun W hb =>
  sizeC c.b.toNat c.d.toNat (rootP l) q b X 4 W (hN.on hb) (rng_on hb hrX) (by omega) (by omega)
 have hXl : X < w.heap.size := blk_lt he.blk
 have hb0 : Below w.heap.size w (w.alloc (.cells #[.int .i64 0, .int .i64 0, .int .i64 0, .int .i64 0] 43)) := (Below.refl _ _).alloc (Nat.le_refl _) _
 have HB0 : Hid (Below w.heap.size w (w.alloc (.cells #[.int .i64 0, .int .i64 0, .int .i64 0, .int .i64 0] 43))) := hb0
 have HS0 : Hid ((w.alloc (.cells #[.int .i64 0, .int .i64 0, .int .i64 0, .int .i64 0] 43)).heap[w.heap.size]? = some (.cells #[.int .i64 0, .int .i64 0, .int .i64 0, .int .i64 0] 43 (0, 0))) := blk_new w _
 have hS := hSz _ hb0
 unfold saV
 generalize (szT c.b.toNat c.d.toNat (rootP l)).1 = A at *
 generalize (szT c.b.toNat c.d.toNat (rootP l)).2 = E at *
 clear hSz hlim he hN hrX hb0 hE
 go_enter Tryz.func11, Tryz.ntmps11
 go_wp2_with (go_at_call 22; fail)
 refine hS.mono ?_
 rintro e w1 ⟨rfl, hb1⟩
 have HB1 : Hid (Below w.heap.size w w1) := HB0.out.trans (hb1.mono HB0.out.size)
 have HS1 : Hid (w1.heap[w.heap.size]? = some (.cells #[.int .i64 0, .int .i64 0, .int .i64 0, .int .i64 0] 43 (0, 0))) := blk_on HS0.out hb1
 clear hS hb1 HB0 HS0
 go_wp2_with (refine wpList_store_blk rfl 43 (.tmp 2) (.tmp 17) rfl w.heap.size 0 #[.int .i64 A, .int .i64 E, .int .i64 0, .int .i64 0] #[.int .i64 A, .int .i64 E, .int .i64 0, .int .i64 0] rfl rfl 43 _ HS1.out (Nat.le_of_ble_eq_true rfl) rfl (by kernel_rfl) rfl ?_; intro w9 hw9 how9)
 exact bodyPost_ret (results_blk Tryz.results11 rfl hw9 Tryz.underlying43 rfl (by kernel_rfl)) rfl ⟨rfl, HB1.out.trans (how9.below (Nat.le_refl _))⟩
end Go.Proofs.YtgokmkholjfhbaaGreat
