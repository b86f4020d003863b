/-
  PkAU: TpN, one behind the other (tools/pack.py).
-/
import Derived.Test.YtfpmljgmfapoiaaGreatPkAT
import Derived.Test.YtfpmljgmfapoiaaGreatPkAD
/-
  renew: the tables of some tuples laid anew, in a map of their own. Written by tools/mkTpN.py.
-/
namespace Go.Proofs.YtfpmljgmfapoiaaGreat
open Go.RowKit
set_option linter.unusedVariables false
set_option linter.unusedSimpArgs false

theorem rowO_cells {w : World} {b : Nat} {ad : Option Addr} {n cap : Nat} {l : List Spt} (h : RowO w b (.slice ad n cap) l) {Bf : Nat} (hB : Bf < b) : n = l.length ∧ ∀ W, Chg w W (fun b => b = Bf) → ∀ k (hk : k < l.length), ∃ g, ad = some ⟨g, 0, none⟩ ∧ ∀ j u, (encO (l[k]'hk))[j]? = some u → W.cell? ⟨g, k * 10 + j, none⟩ = some u := by
  obtain ⟨ad', cap', e, _, hf⟩ := h.form
  injection e with e1 e2 _
  refine ⟨e2, fun W hb k hk => ?_⟩
  obtain ⟨g, e3, hg1, hg2, hc⟩ := hf (by omega)
  refine ⟨g, e1.trans e3, fun j u hu => ?_⟩
  have hj : j < 10 := by have := (List.getElem?_eq_some_iff.1 hu).1; simpa [encO] using this
  have h1 := (hc k hk j hj).trans hu
  unfold World.cell? at h1 ⊢
  rw [hb.block g hg2 (fun e => by omega)]; exact h1
theorem rng_spot {w : World} {B : Nat} {x : Spt} (h : w.heap[B]? = some (.cells #[.int .i64 x.1.a, .int .i64 x.1.b, .int .i64 x.1.c, .int .i64 x.1.d, .int .u8 x.1.m, .int .u32 x.2.s, .int .u32 x.2.d, .int .u16 x.2.p, .int .u16 x.2.q, .int .u8 x.2.r] 146 (0, 0))) : w.rangeAt B 0 [.int .i64 x.1.a, .int .i64 x.1.b, .int .i64 x.1.c, .int .i64 x.1.d, .int .u8 x.1.m] := by
  have := World.rangeAt_of_block h 0 5
  simpa using this
def doneS (l : List Ru) (k : Nat) : List Spt := (l.take k).flatMap spR
theorem doneS_step {l : List Ru} {k : Nat} (h : k < l.length) : doneS l (k + 1) = doneS l k ++ spR l[k] := by
  unfold doneS; rw [List.take_succ_eq_append_getElem h, List.flatMap_append]; simp
theorem doneS_len (l : List Ru) (k : Nat) : (doneS l k).length ≤ l.length * 900 := by
  unfold doneS
  rw [List.length_flatMap]
  have : ∀ m : List Ru, (m.map fun R => (spR R).length).sum ≤ m.length * 900 := fun m => by
    induction m with
    | nil => simp
    | cons R m ih =>
      have := sp_le R
      simp only [List.map_cons, List.sum_cons, List.length_cons]; omega
  refine Nat.le_trans (this _) ?_
  rw [List.length_take]
  exact Nat.mul_le_mul_right _ (by omega)
theorem rowO_prot {w : World} {b lo : Nat} {ad : Option Addr} {n cap : Nat} {l : List Spt} (h : RowO w b (.slice ad n cap) l) (hB : lo ≤ b) : n = l.length ∧ ∀ W : World, (∀ b, lo ≤ b → b < w.heap.size → W.heap[b]? = w.heap[b]?) → ∀ k (hk : k < l.length), ∃ g, ad = some ⟨g, 0, none⟩ ∧ ∀ j u, (encO (l[k]'hk))[j]? = some u → W.cell? ⟨g, k * 10 + j, none⟩ = some u := by
  obtain ⟨ad', cap', e, _, hf⟩ := h.form
  injection e with e1 e2 _
  refine ⟨e2, fun W hb k hk => ?_⟩
  obtain ⟨g, e3, hg1, hg2, hc⟩ := hf (by omega)
  refine ⟨g, e1.trans e3, fun j u hu => ?_⟩
  have hj : j < 10 := by have := (List.getElem?_eq_some_iff.1 hu).1; simpa [encO] using this
  have h1 := (hc k hk j hj).trans hu
  unfold World.cell? at h1 ⊢
  rw [hb g (by omega) hg2]; exact h1
def putS (R : Ru) (j : Nat) : List (Spt × Int) := ((spR R).take j).map fun x => (x, R.i)
theorem putS_step {R : Ru} {j : Nat} (h : j < (spR R).length) : putS R (j + 1) = putS R j ++ [((spR R)[j], R.i)] := by
  unfold putS; rw [List.take_succ_eq_append_getElem h, List.map_append]; rfl
theorem putS_len (R : Ru) (j : Nat) : (putS R j).length ≤ 900 := by
  have := sp_le R
  unfold putS; rw [List.length_map, List.length_take]; omega
def doneA (l : List Ru) (k : Nat) : List (Spt × Int) := allS (l.take k)
theorem doneA_step {l : List Ru} {k : Nat} (h : k < l.length) : doneA l (k + 1) = doneA l k ++ (spR l[k]).map fun x => (x, l[k].i) := by
  unfold doneA; rw [List.take_succ_eq_append_getElem h, allS_snoc]
set_option maxHeartbeats 16000000 in
set_option maxRecDepth 20000 in
theorem renewC (X off B : Nat) (l lc : List Ru) (vl vc : Value) (w : World) (hl : SrcU w vl l) (hc : SrcU w vc lc) (hn : l.length ≤ 64) (hnc : lc.length ≤ 64) (okl : ∀ R ∈ l, BdR R ∧ okR R = true) (okc : ∀ R ∈ lc, BdR R ∧ okR R = true)
    {n0 : Nat} {f0 : Tp → Option Nat} {ks0 : List Tp} {A0 : List (Spt × Int)} {L0 : Tp → List Hx.SlI} {S0 : Tp → Nat → Prop} (hX : w.cell? ⟨X, off, none⟩ = some (.map (some B))) (hm0 : Mp w B n0 f0 ks0) (hg0 : Gs w f0 (con A0) (ent A0) L0 S0) (hB0 : ∀ t, (f0 t).isSome = true → ∀ b, S0 t b → b ≠ B) (hXB : X ≠ B) (hk0 : ks0.length ≤ 1000000)
    (hA : ∀ t, (¬ ∃ x ∈ doneS lc lc.length, x.1 = t) → con A0 t = con (allS l) t ∧ ent A0 t = ent (allS l) t) :
    Calls Tryz.prog 47 #[.pointer (some ⟨X, off, none⟩), vl, vc] w fun e w' => e = .returned (.tuple #[]) ∧ (∃ n' f' ks' L' S', Mp w' B n' f' ks' ∧ Gs w' f' (con (allS l)) (ent (allS l)) L' S' ∧
      (∀ t, (f' t).isSome = true ↔ ((∃ x ∈ doneS lc lc.length, x.1 = t) ∧ 0 < ent (allS l) t) ∨ ((¬ ∃ x ∈ doneS lc lc.length, x.1 = t) ∧ (f0 t).isSome = true)) ∧
      ∀ t, (f' t).isSome = true → ∀ b, S' t b → b ≠ B ∧ (((f0 t).isSome = true ∧ S0 t b) ∨ w.heap.size ≤ b)) ∧ Chg w w' (fun b => b = B) := by
  have HX : Hid (w.cell? ⟨X, off, none⟩ = some (.map (some B))) := hX
  have Hm0 : Hid (Mp w B ks0.length f0 ks0) := hm0.tight
  have Hg0 : Hid (Gs w f0 (con A0) (ent A0) L0 S0) := hg0
  have HB0 : Hid (∀ t, (f0 t).isSome = true → ∀ b, S0 t b → b ≠ B) := hB0
  have HXB : Hid (X ≠ B) := hXB
  have HA : Hid (∀ t, (¬ ∃ x ∈ doneS lc lc.length, x.1 = t) → con A0 t = con (allS l) t ∧ ent A0 t = ent (allS l) t) := hA
  have Hk0 : Hid (ks0.length ≤ 1000000) := hk0
  clear hX hm0 hg0 hB0 hXB hA hk0
  obtain ⟨adl, capl, rfl, _, _⟩ := id hl
  obtain ⟨adc, capc, rfl, _, _⟩ := id hc
  have Hl : Hid _ := (rngU hl).2
  have Hc : Hid _ := (rngU hc).2
  have Okl : Hid (∀ R ∈ l, BdR R ∧ okR R = true) := okl
  have Okc : Hid (∀ R ∈ lc, BdR R ∧ okR R = true) := okc
  obtain ⟨nl, hnl⟩ : ∃ n, n = l.length := ⟨_, rfl⟩
  obtain ⟨nc, hncc⟩ : ∃ n, n = lc.length := ⟨_, rfl⟩
  rw [← hnl] at hn ⊢
  rw [← hncc] at hnc ⊢
  have Hnl : Hid (nl = l.length) := hnl
  have Hnc : Hid (nc = lc.length) := hncc
  clear hl hc okl okc hnl hncc
  have hmm : (Instr.makeMap 70 none).run Tryz.prog w = .ok (.map (some w.heap.size)) (w.alloc (.map #[] 0)) := by
    simp [Instr.makeMap, Tryz.runUnderlying70]
  have HF0 : Hid (FrE w (w.alloc (.map #[] 0)) w.heap.size [] []) := FrE.new w
  have hb0 : Below w.heap.size w (w.alloc (.map #[] 0)) := (Below.refl _ _).alloc (Nat.le_refl _) _
  obtain ⟨Bf, hBf⟩ : ∃ Bf, Bf = w.heap.size := ⟨_, rfl⟩
  rw [← hBf] at hmm HF0
  generalize w.alloc (.map #[] 0) = W0 at *
  clear hBf
  go_enter Tryz.func47, Tryz.ntmps47
  go_wp2_with (fail)
  go_loopw [21] (fun vi wr => ∃ k : Nat, k ≤ nc ∧ vi = .int .i64 k ∧ Hid (FrE w wr Bf (doneS lc k) [])) (fun vi _ => nc - (intOf vi).toNat)
  case atStart => exact ⟨0, Nat.zero_le _, rfl, HF0.out⟩
  case round =>
    obtain ⟨k, hk, rfl, HF⟩ := hrel
    clear HF0 hmm hb0
    by_cases hlt : k < nc
    · have hlti : (k : Int) < (nc : Int) := by omega
      have hkl : k < lc.length := by rw [← Hnc.out]; exact hlt
      obtain ⟨g, of, rfl, hrg⟩ := Hc.out wr HF.out.bl k hkl
      have HSt : Hid (doneS lc (k + 1) = doneS lc k ++ spR lc[k]) := doneS_step hkl
      have HLn : Hid ((doneS lc k).length ≤ lc.length * 900) := doneS_len lc k
      have hbd := Okc.out _ (List.getElem_mem hkl)
      obtain ⟨R, hR⟩ : ∃ R, R = lc[k] := ⟨_, rfl⟩
      rw [← hR] at hrg HSt hbd
      clear hR
      have x0 : wr.cell? ⟨g, of + k * 12, none⟩ = some (.int .i64 R.i) := hrg 0 _ rfl
      have x1 : wr.cell? ⟨g, of + k * 12 + 1, none⟩ = some (.int .u32 R.s) := hrg 1 _ rfl
      have x2 : wr.cell? ⟨g, of + k * 12 + 2, none⟩ = some (.int .i64 R.sl) := hrg 2 _ rfl
      have x3 : wr.cell? ⟨g, of + k * 12 + 3, none⟩ = some (.int .u32 R.d) := hrg 3 _ rfl
      have x4 : wr.cell? ⟨g, of + k * 12 + 4, none⟩ = some (.int .i64 R.dl) := hrg 4 _ rfl
      have x5 : wr.cell? ⟨g, of + k * 12 + 5, none⟩ = some (.int .u16 R.p.1) := hrg 5 _ rfl
      have x6 : wr.cell? ⟨g, of + k * 12 + 6, none⟩ = some (.int .u16 R.p.2) := hrg 6 _ rfl
      have x7 : wr.cell? ⟨g, of + k * 12 + 7, none⟩ = some (.int .u16 R.q.1) := hrg 7 _ rfl
      have x8 : wr.cell? ⟨g, of + k * 12 + 8, none⟩ = some (.int .u16 R.q.2) := hrg 8 _ rfl
      have x9 : wr.cell? ⟨g, of + k * 12 + 9, none⟩ = some (.int .u8 R.m.1) := hrg 9 _ rfl
      have x10 : wr.cell? ⟨g, of + k * 12 + 10, none⟩ = some (.int .u8 R.m.2) := hrg 10 _ rfl
      have x11 : wr.cell? ⟨g, of + k * 12 + 11, none⟩ = some (.int .i64 R.act) := hrg 11 _ rfl
      obtain ⟨W1, hW1⟩ : ∃ W1, W1 = wr.alloc (.cells #[.int .i64 R.i, .int .u32 R.s, .int .i64 R.sl, .int .u32 R.d, .int .i64 R.dl, .int .u16 R.p.1, .int .u16 R.p.2, .int .u16 R.q.1, .int .u16 R.q.2, .int .u8 R.m.1, .int .u8 R.m.2, .int .i64 R.act] 52) := ⟨_, rfl⟩
      have hbW : Below wr.heap.size wr W1 := by rw [hW1]; exact (Below.refl _ _).alloc (Nat.le_refl _) _
      have HRb : Hid (W1.heap[wr.heap.size]? = some (.cells #[.int .i64 R.i, .int .u32 R.s, .int .i64 R.sl, .int .u32 R.d, .int .i64 R.dl, .int .u16 R.p.1, .int .u16 R.p.2, .int .u16 R.q.1, .int .u16 R.q.2, .int .u8 R.m.1, .int .u8 R.m.2, .int .i64 R.act] 52)) := by show _ = _; rw [hW1]; exact blk_new _ _
      have HF1 : Hid (FrE w W1 Bf (doneS lc k) []) := HF.out.on hbW
      have hsp := fun W => spotsC R W hbd.1 hbd.2
      have HBd : Hid (∀ x ∈ spR R, BdT x.1 ∧ Hx.OkH x.2) := sp_bd hbd.2 hbd.1
      have HsL : Hid ((spR R).length ≤ 900) := sp_le R
      clear hrg hbd hbW
      go_upto_region 4 with (rw [← hW1])
      clear hW1 x0 x1 x2 x3 x4 x5 x6 x7 x8 x9 x10 x11
      obtain ⟨y0, y1, y2, y3, y4, y5, y6, y7, y8, y9, y10, y11⟩ := blk12 HRb.out
      go_wp2_with (go_at_call 65; fail)
      refine (hsp _).mono ?_
      rintro e w2 ⟨v2, rfl, hr2, hb2⟩
      have HF2 : Hid (FrE w w2 Bf (doneS lc k ++ (spR R).take 0) []) := by
        show FrE _ _ _ _ _
        rw [List.take_zero, List.append_nil]; exact HF1.out.on hb2
      obtain ⟨adS, mS, capS, rfl⟩ : ∃ ad n cap, v2 = .slice ad n cap := by
        obtain ⟨ad, cap, e, _⟩ := hr2.form
        exact ⟨ad, _, cap, e⟩
      have hBf1 : Bf < W1.heap.size := by
        obtain ⟨_, _, _, _, _, h⟩ := HF1.out
        exact h.mp.lt
      have HmS : Hid (mS = (spR R).length) := (rowO_cells hr2 hBf1).1
      have HCS : Hid _ := (rowO_cells hr2 hBf1).2
      have hmS : mS ≤ 900 := by rw [HmS.out]; exact HsL.out
      clear hr2 hb2 hsp HRb HF1 hBf1 y0 y1 y2 y3 y4 y5 y6 y7 y8 y9 y10 y11 HF
      go_wp2_with (fail)
      go_loopw [28] (fun vj wx => ∃ j : Nat, j ≤ mS ∧ vj = .int .i64 j ∧ Hid (FrE w wx Bf (doneS lc k ++ (spR R).take j) []) ∧ Hid (Chg w2 wx (fun b => b = Bf))) (fun vj _ => mS - (intOf vj).toNat)
      case atStart => exact ⟨0, Nat.zero_le _, rfl, HF2.out, Chg.of_below (Below.refl _ _) _⟩
      case round =>
        obtain ⟨j, hj, rfl, HFj, HBj⟩ := hrel
        clear HF2
        by_cases hjt : j < mS
        · have hjti : (j : Int) < (mS : Int) := by omega
          have hjl : j < (spR R).length := by rw [← HmS.out]; exact hjt
          obtain ⟨gS, rfl, hrg⟩ := HCS.out wr HBj.out j hjl
          have HTk : Hid ((spR R).take (j + 1) = (spR R).take j ++ [(spR R)[j]]) := List.take_succ_eq_append_getElem hjl
          have hbx := HBd.out _ (List.getElem_mem hjl)
          obtain ⟨x, hx⟩ : ∃ x, x = (spR R)[j] := ⟨_, rfl⟩
          rw [← hx] at hrg HTk hbx
          clear hx
          have z0 : wr.cell? ⟨gS, j * 10, none⟩ = some (.int .i64 x.1.a) := hrg 0 _ rfl
          have z1 : wr.cell? ⟨gS, j * 10 + 1, none⟩ = some (.int .i64 x.1.b) := hrg 1 _ rfl
          have z2 : wr.cell? ⟨gS, j * 10 + 2, none⟩ = some (.int .i64 x.1.c) := hrg 2 _ rfl
          have z3 : wr.cell? ⟨gS, j * 10 + 3, none⟩ = some (.int .i64 x.1.d) := hrg 3 _ rfl
          have z4 : wr.cell? ⟨gS, j * 10 + 4, none⟩ = some (.int .u8 x.1.m) := hrg 4 _ rfl
          have z5 : wr.cell? ⟨gS, j * 10 + 5, none⟩ = some (.int .u32 x.2.s) := hrg 5 _ rfl
          have z6 : wr.cell? ⟨gS, j * 10 + 6, none⟩ = some (.int .u32 x.2.d) := hrg 6 _ rfl
          have z7 : wr.cell? ⟨gS, j * 10 + 7, none⟩ = some (.int .u16 x.2.p) := hrg 7 _ rfl
          have z8 : wr.cell? ⟨gS, j * 10 + 8, none⟩ = some (.int .u16 x.2.q) := hrg 8 _ rfl
          have z9 : wr.cell? ⟨gS, j * 10 + 9, none⟩ = some (.int .u8 x.2.r) := hrg 9 _ rfl
          obtain ⟨W2, hW2⟩ : ∃ W2, W2 = wr.alloc (.cells #[.int .i64 x.1.a, .int .i64 x.1.b, .int .i64 x.1.c, .int .i64 x.1.d, .int .u8 x.1.m, .int .u32 x.2.s, .int .u32 x.2.d, .int .u16 x.2.p, .int .u16 x.2.q, .int .u8 x.2.r] 146) := ⟨_, rfl⟩
          have hbW : Below wr.heap.size wr W2 := by rw [hW2]; exact (Below.refl _ _).alloc (Nat.le_refl _) _
          have HZ2 : Hid (W2.heap.size = wr.heap.size + 1) := by show _ = _; rw [hW2]; simp
          have HXb : Hid (W2.heap[wr.heap.size]? = some (.cells #[.int .i64 x.1.a, .int .i64 x.1.b, .int .i64 x.1.c, .int .i64 x.1.d, .int .u8 x.1.m, .int .u32 x.2.s, .int .u32 x.2.d, .int .u16 x.2.p, .int .u16 x.2.q, .int .u8 x.2.r] 146 (0, 0))) := by show _ = _; rw [hW2]; exact blk_new _ _
          have HBj2 : Hid (Chg w2 W2 (fun b => b = Bf)) := HBj.out.trans (Chg.of_below hbW (fun _ => False)) (fun _ e => e.elim)
          obtain ⟨n, f, ks, L, S, hFr⟩ := HFj.out.on hbW
          have HBfl : Hid (Bf < wr.heap.size) := by
            obtain ⟨_, _, _, _, _, h⟩ := HFj.out
            exact h.mp.lt
          have hlk := hFr.mp.look hbx.1
          have HFr : Hid (Frsh w W2 Bf n f ks L S (doneS lc k ++ (spR R).take j) []) := hFr
          have Hbx : Hid (BdT x.1 ∧ Hx.OkH x.2) := hbx
          clear hFr hbW hrg hbx HFj
          go_upto_region 7 with (rw [← hW2])
          clear hW2 z0 z1 z2 z3 z4 z5 z6 z7 z8 z9
          obtain ⟨u0, u1, u2, u3, u4, u5, u6, u7, u8, u9⟩ := blk10 HXb.out
          cases hfx : f x.1 with
          | none =>
            rw [hfx] at hlk
            replace hlk : (Instr.lookup 70 (.map (some Bf)) (.agg #[.int .i64 (x.1).a, .int .i64 (x.1).b, .int .i64 ((x.1).c : Int), .int .i64 ((x.1).d : Int), .int .u8 ((x.1).m : Int)]) false).run Tryz.prog W2 = .ok (.pointer none) W2 := hlk
            go_wp2_with (fail)
            refine wp_region_held_drew (S := fun w' => w'.heap[wr.heap.size]? = some (.cells #[.int .i64 x.1.a, .int .i64 x.1.b, .int .i64 x.1.c, .int .i64 x.1.d, .int .u8 x.1.m, .int .u32 x.2.s, .int .u32 x.2.d, .int .u16 x.2.p, .int .u16 x.2.q, .int .u8 x.2.r] 146 (0, 0))) (by kernel_rfl) HXb.out (fun hS0 => ?_)
            obtain ⟨wd, hwd⟩ : ∃ x, x = W2.drew := ⟨_, rfl⟩
            have HFd : Hid (Frsh w wd Bf n f ks L S (doneS lc k ++ (spR R).take j) []) := by show Frsh _ _ _ _ _ _ _ _ _ _; rw [hwd]; exact HFr.out.on ((Below.refl _ _).drew)
            have HBdw : Hid (Chg w2 wd (fun b => b = Bf)) := by show Chg _ _ _; rw [hwd]; exact HBj2.out.trans (Chg.of_below ((Below.refl _ _).drew) (fun _ => False)) (fun _ e => e.elim)
            have Hzd : Hid (wd.heap.size = W2.heap.size) := by show _ = _; rw [hwd]; rfl
            rw [← hwd] at hS0 ⊢
            clear hwd
            refine wpTk (i := 0) (v := .map (some Bf)) hS0 ?_
            simp only [nrm]
            refine wpTk (i := 1) (v := .pointer (some ⟨wr.heap.size, 0, none⟩)) hS0 ?_
            simp only [nrm]
            refine wpLd (i := 2) rfl (yieldsIf_load_mid rfl 144 (.tmp 38) rfl wr.heap.size 0 rfl [.int .i64 x.1.a, .int .i64 x.1.b, .int .i64 x.1.c, .int .i64 x.1.d, .int .u8 x.1.m] _ (fun w' hw' => rng_spot hw') Tryz.underlying144 rfl (by kernel_rfl)) hS0 ?_
            simp only [nrm]
            refine wpTk (i := 3) (v := .pointer (some ⟨wr.heap.size, 0, none⟩)) hS0 ?_
            simp only [nrm]
            refine wpLd (i := 4) rfl (yieldsIf_load_mid rfl 144 (.tmp 40) rfl wr.heap.size 0 rfl [.int .i64 x.1.a, .int .i64 x.1.b, .int .i64 x.1.c, .int .i64 x.1.d, .int .u8 x.1.m] _ (fun w' hw' => rng_spot hw') Tryz.underlying144 rfl (by kernel_rfl)) hS0 ?_
            simp only [nrm]
            refine wpO 5 (fun K' hK' => ?_)
            go_wp2_with (go_at_call 66; refine (newGroupC x.1 _).mono ?_; rintro e w5 ⟨G, lG, rfl, hG, hb5⟩)
            have hS5 := blk_on hS0 hb5
            have HbD5 : Hid (Below wd.heap.size wd w5) := hb5
            have HG5 : Hid (Grp w5 G x.1 (fun _ => []) 0 lG (fun b => wd.heap.size ≤ b)) := hG
            clear hG hb5
            refine ⟨hS5, ?_⟩
            refine wpO 6 (fun K' hK' => ?_)
            obtain ⟨w6, hup, hF6, hg6⟩ := HFd.out.more Hbx.out.1 hfx HG5.out HbD5.out (by have := HLn.out; have := Hnc.out; rw [List.length_append, List.length_take]; omega)
            have HF6 : Hid (FrE w w6 Bf (doneS lc k ++ (spR R).take (j + 1)) []) := by
              show FrE _ _ _ _ _
              rw [HTk.out, ← List.append_assoc]; exact hF6
            have Hg6 : Hid (w5.grownBy w6 (some Bf)) := hg6
            clear hF6 hg6
            have HB6 : Hid (Chg w2 w6 (fun b => b = Bf)) := (HBdw.out.trans (Chg.of_below HbD5.out (fun _ => False)) (fun _ e => e.elim)).trans ⟨Hg6.out.os, Hg6.out.tape, Hg6.out.output, Hg6.out.size, fun q hq hn => Hg6.out.block q hq (fun e => hn (by injection e))⟩ (fun _ e => .inl e)
            go_wp2_with (fail)
            refine ⟨blk_gr hS5 Hg6.out (fun e => by injection e with e; have := HBfl.out; omega), ?_⟩
            refine wpAnyH_done (by kernel_rfl) ?_ _
            try simp only [nrm]
            clear hS0 hS5 hup
            go_wp2_with (fail)
            go_roundw
            case rel => exact ⟨j + 1, by omega, by go_num, HF6.out, HB6.out⟩
            case measure => simp [intOf]; omega
          | some G =>
            rw [hfx] at hlk
            replace hlk : (Instr.lookup 70 (.map (some Bf)) (.agg #[.int .i64 (x.1).a, .int .i64 (x.1).b, .int .i64 ((x.1).c : Int), .int .i64 ((x.1).d : Int), .int .u8 ((x.1).m : Int)]) false).run Tryz.prog W2 = .ok (.pointer (some ⟨G, 0, none⟩)) W2 := hlk
            have HS1 : Hid (FrE w W2 Bf (doneS lc k ++ (spR R).take (j + 1)) []) := by
              show FrE _ _ _ _ _
              rw [HTk.out, ← List.append_assoc]
              exact ⟨n, f, ks, L, S, HFr.out.seen (by rw [hfx]; rfl)⟩
            go_wp2_with (fail)
            go_roundw
            case rel => exact ⟨j + 1, by omega, by go_num, HS1.out, HBj2.out⟩
            case measure => simp [intOf]; omega
        · obtain rfl : j = mS := by omega
          have hni : ¬ (j : Int) < (j : Int) := by omega
          have HE : Hid (FrE w wr Bf (doneS lc (k + 1)) []) := by
            show FrE _ _ _ _ _
            rw [HSt.out]
            have := HFj.out
            rwa [HmS.out, List.take_length] at this
          go_wp2_with (fail)
          go_roundw
          case rel => exact ⟨k + 1, by omega, by go_num, HE.out⟩
          case measure => simp [intOf]; omega
    · obtain rfl : k = nc := by omega
      have hni : ¬ (k : Int) < (k : Int) := by omega
      obtain ⟨TT, hTT⟩ : ∃ TT, TT = doneS lc k := ⟨_, rfl⟩
      have HTT : Hid (TT = doneS lc k) := hTT
      rw [← hTT] at HF
      have HF3 : Hid (FrE w wr Bf TT (doneA l 0)) := HF.out
      clear HF hTT
      go_wp2_with (fail)
      go_loopw [47] (fun vi wx => ∃ k2 : Nat, k2 ≤ nl ∧ vi = .int .i64 k2 ∧ Hid (FrE w wx Bf TT (doneA l k2))) (fun vi _ => nl - (intOf vi).toNat)
      case atStart => exact ⟨0, Nat.zero_le _, rfl, HF3.out⟩
      case round =>
        obtain ⟨k2, hk2, rfl, HF⟩ := hrel
        clear HF3
        by_cases hlt : k2 < nl
        · have hlti : (k2 : Int) < (nl : Int) := by omega
          have hkl : k2 < l.length := by rw [← Hnl.out]; exact hlt
          obtain ⟨g, of, rfl, hrg⟩ := Hl.out wr HF.out.bl k2 hkl
          have HSt : Hid (doneA l (k2 + 1) = doneA l k2 ++ (spR l[k2]).map fun x => (x, l[k2].i)) := doneA_step hkl
          have HLn : Hid ((doneA l k2).length ≤ k2 * 900) := by
            have := allS_le (l.take k2)
            rw [List.length_take] at this
            show (allS (l.take k2)).length ≤ _
            rwa [Nat.min_eq_left (by omega)] at this
          have hbd := Okl.out _ (List.getElem_mem hkl)
          obtain ⟨R, hR⟩ : ∃ R, R = l[k2] := ⟨_, rfl⟩
          rw [← hR] at hrg HSt hbd
          clear hR
          have x0 : wr.cell? ⟨g, of + k2 * 12, none⟩ = some (.int .i64 R.i) := hrg 0 _ rfl
          have x1 : wr.cell? ⟨g, of + k2 * 12 + 1, none⟩ = some (.int .u32 R.s) := hrg 1 _ rfl
          have x2 : wr.cell? ⟨g, of + k2 * 12 + 2, none⟩ = some (.int .i64 R.sl) := hrg 2 _ rfl
          have x3 : wr.cell? ⟨g, of + k2 * 12 + 3, none⟩ = some (.int .u32 R.d) := hrg 3 _ rfl
          have x4 : wr.cell? ⟨g, of + k2 * 12 + 4, none⟩ = some (.int .i64 R.dl) := hrg 4 _ rfl
          have x5 : wr.cell? ⟨g, of + k2 * 12 + 5, none⟩ = some (.int .u16 R.p.1) := hrg 5 _ rfl
          have x6 : wr.cell? ⟨g, of + k2 * 12 + 6, none⟩ = some (.int .u16 R.p.2) := hrg 6 _ rfl
          have x7 : wr.cell? ⟨g, of + k2 * 12 + 7, none⟩ = some (.int .u16 R.q.1) := hrg 7 _ rfl
          have x8 : wr.cell? ⟨g, of + k2 * 12 + 8, none⟩ = some (.int .u16 R.q.2) := hrg 8 _ rfl
          have x9 : wr.cell? ⟨g, of + k2 * 12 + 9, none⟩ = some (.int .u8 R.m.1) := hrg 9 _ rfl
          have x10 : wr.cell? ⟨g, of + k2 * 12 + 10, none⟩ = some (.int .u8 R.m.2) := hrg 10 _ rfl
          have x11 : wr.cell? ⟨g, of + k2 * 12 + 11, none⟩ = some (.int .i64 R.act) := hrg 11 _ rfl
          obtain ⟨W1, hW1⟩ : ∃ W1, W1 = wr.alloc (.cells #[.int .i64 R.i, .int .u32 R.s, .int .i64 R.sl, .int .u32 R.d, .int .i64 R.dl, .int .u16 R.p.1, .int .u16 R.p.2, .int .u16 R.q.1, .int .u16 R.q.2, .int .u8 R.m.1, .int .u8 R.m.2, .int .i64 R.act] 52) := ⟨_, rfl⟩
          have hbW : Below wr.heap.size wr W1 := by rw [hW1]; exact (Below.refl _ _).alloc (Nat.le_refl _) _
          have HRb : Hid (W1.heap[wr.heap.size]? = some (.cells #[.int .i64 R.i, .int .u32 R.s, .int .i64 R.sl, .int .u32 R.d, .int .i64 R.dl, .int .u16 R.p.1, .int .u16 R.p.2, .int .u16 R.q.1, .int .u16 R.q.2, .int .u8 R.m.1, .int .u8 R.m.2, .int .i64 R.act] 52)) := by show _ = _; rw [hW1]; exact blk_new _ _
          have hsp := fun W => spotsC R W hbd.1 hbd.2
          have HBd : Hid (∀ x ∈ spR R, BdT x.1 ∧ Hx.OkH x.2) := sp_bd hbd.2 hbd.1
          have HsL : Hid ((spR R).length ≤ 900) := sp_le R
          have HbW : Hid (Below wr.heap.size wr W1) := hbW
          clear hrg hbd hbW
          go_upto_region 14 with (rw [← hW1])
          clear hW1 x0 x1 x2 x3 x4 x5 x6 x7 x8 x9 x10 x11
          obtain ⟨y0, y1, y2, y3, y4, y5, y6, y7, y8, y9, y10, y11⟩ := blk12 HRb.out
          go_wp2_with (go_at_call 65; fail)
          refine (hsp _).mono ?_
          rintro e w2 ⟨v2, rfl, hr2, hb2⟩
          obtain ⟨adS, mS, capS, rfl⟩ : ∃ ad n cap, v2 = .slice ad n cap := by
            obtain ⟨ad, cap, e, _⟩ := hr2.form
            exact ⟨ad, _, cap, e⟩
          obtain ⟨lo, hlo⟩ : ∃ lo, lo = wr.heap.size := ⟨_, rfl⟩
          have hprot := HF.out.prot (HbW.out.trans (hb2.mono HbW.out.size))
          have hR2 := blk_on HRb.out hb2
          rw [← hlo] at hprot hR2
          have HmS : Hid (mS = (spR R).length) := (rowO_prot hr2 (lo := lo) (by rw [hlo]; exact HbW.out.size)).1
          have HCS : Hid _ := (rowO_prot hr2 (lo := lo) (by rw [hlo]; exact HbW.out.size)).2
          have HR2 : Hid (w2.heap[lo]? = some (.cells #[.int .i64 R.i, .int .u32 R.s, .int .i64 R.sl, .int .u32 R.d, .int .i64 R.dl, .int .u16 R.p.1, .int .u16 R.p.2, .int .u16 R.q.1, .int .u16 R.q.2, .int .u8 R.m.1, .int .u8 R.m.2, .int .i64 R.act] 52)) := hR2
          have Hlh : Hid (lo < w2.heap.size) := blk_lt hR2
          have HF4 : Hid (FrP w w2 Bf TT (doneA l k2 ++ putS R 0) lo w2.heap.size w2) := by
            show FrP _ _ _ _ _ _ _ _
            rw [show putS R 0 = [] from rfl, List.append_nil]; exact hprot
          have hmS : mS ≤ 900 := by rw [HmS.out]; exact HsL.out
          try rw [← hlo]
          clear hr2 hb2 hsp HRb y0 y1 y2 y3 y4 y5 y6 y7 y8 y9 y10 y11 HF HbW hprot hR2 hlo
          go_wp2_with (fail)
          go_loopw [54] (fun vj wx => ∃ j : Nat, j ≤ mS ∧ vj = .int .i64 j ∧ Hid (FrP w wx Bf TT (doneA l k2 ++ putS R j) lo w2.heap.size w2)) (fun vj _ => mS - (intOf vj).toNat)
          case atStart => exact ⟨0, Nat.zero_le _, rfl, HF4.out⟩
          case round =>
            obtain ⟨j, hj, rfl, HFj⟩ := hrel
            clear HF4
            by_cases hjt : j < mS
            · have hjti : (j : Int) < (mS : Int) := by omega
              have hjl : j < (spR R).length := by rw [← HmS.out]; exact hjt
              obtain ⟨gS, rfl, hrg⟩ := HCS.out wr (by obtain ⟨_, _, _, _, _, _, _, h3, _⟩ := HFj.out; exact h3) j hjl
              have hst := putS_step hjl
              have hbx := HBd.out _ (List.getElem_mem hjl)
              have hLp := putS_len R j
              obtain ⟨x, hx⟩ : ∃ x, x = (spR R)[j] := ⟨_, rfl⟩
              rw [← hx] at hrg hbx hst
              have HTk : Hid (doneA l k2 ++ putS R (j + 1) = (doneA l k2 ++ putS R j) ++ [(x, R.i)]) := by
                show _ = _
                rw [hst, List.append_assoc]
              have HLp : Hid ((putS R j).length ≤ 900) := hLp
              clear hx hst hLp
              have z0 : wr.cell? ⟨gS, j * 10, none⟩ = some (.int .i64 x.1.a) := hrg 0 _ rfl
              have z1 : wr.cell? ⟨gS, j * 10 + 1, none⟩ = some (.int .i64 x.1.b) := hrg 1 _ rfl
              have z2 : wr.cell? ⟨gS, j * 10 + 2, none⟩ = some (.int .i64 x.1.c) := hrg 2 _ rfl
              have z3 : wr.cell? ⟨gS, j * 10 + 3, none⟩ = some (.int .i64 x.1.d) := hrg 3 _ rfl
              have z4 : wr.cell? ⟨gS, j * 10 + 4, none⟩ = some (.int .u8 x.1.m) := hrg 4 _ rfl
              have z5 : wr.cell? ⟨gS, j * 10 + 5, none⟩ = some (.int .u32 x.2.s) := hrg 5 _ rfl
              have z6 : wr.cell? ⟨gS, j * 10 + 6, none⟩ = some (.int .u32 x.2.d) := hrg 6 _ rfl
              have z7 : wr.cell? ⟨gS, j * 10 + 7, none⟩ = some (.int .u16 x.2.p) := hrg 7 _ rfl
              have z8 : wr.cell? ⟨gS, j * 10 + 8, none⟩ = some (.int .u16 x.2.q) := hrg 8 _ rfl
              have z9 : wr.cell? ⟨gS, j * 10 + 9, none⟩ = some (.int .u8 x.2.r) := hrg 9 _ rfl
              obtain ⟨W2, hW2⟩ : ∃ W2, W2 = wr.alloc (.cells #[.int .i64 x.1.a, .int .i64 x.1.b, .int .i64 x.1.c, .int .i64 x.1.d, .int .u8 x.1.m, .int .u32 x.2.s, .int .u32 x.2.d, .int .u16 x.2.p, .int .u16 x.2.q, .int .u8 x.2.r] 146) := ⟨_, rfl⟩
              have hbW : Below wr.heap.size wr W2 := by rw [hW2]; exact (Below.refl _ _).alloc (Nat.le_refl _) _
              have HXb : Hid (W2.heap[wr.heap.size]? = some (.cells #[.int .i64 x.1.a, .int .i64 x.1.b, .int .i64 x.1.c, .int .i64 x.1.d, .int .u8 x.1.m, .int .u32 x.2.s, .int .u32 x.2.d, .int .u16 x.2.p, .int .u16 x.2.q, .int .u8 x.2.r] 146 (0, 0))) := by show _ = _; rw [hW2]; exact blk_new _ _
              obtain ⟨n, f, ks, L, S, hFr, hP1, hP2, hP3⟩ := HFj.out.on hbW
              have hlk := hFr.mp.look hbx.1
              have hRi : W2.heap[lo]? = some (.cells #[.int .i64 R.i, .int .u32 R.s, .int .i64 R.sl, .int .u32 R.d, .int .i64 R.dl, .int .u16 R.p.1, .int .u16 R.p.2, .int .u16 R.q.1, .int .u16 R.q.2, .int .u8 R.m.1, .int .u8 R.m.2, .int .i64 R.act] 52) := (hP2 lo (Nat.le_refl _) Hlh.out).trans HR2.out
              have HFr : Hid (Frsh w W2 Bf n f ks L S TT (doneA l k2 ++ putS R j)) := hFr
              have HP1 : Hid (∀ t, (f t).isSome = true → ∀ b, S t b → b < lo ∨ w2.heap.size ≤ b) := hP1
              have HP2 : Hid (∀ b, lo ≤ b → b < w2.heap.size → W2.heap[b]? = w2.heap[b]?) := hP2
              have HP3 : Hid (w2.heap.size ≤ W2.heap.size) := hP3
              have Hbx : Hid (BdT x.1 ∧ Hx.OkH x.2) := hbx
              clear hFr hbW hrg hbx HFj hP1 hP2 hP3
              go_upto_region 17 with (rw [← hW2])
              clear hW2 z0 z1 z2 z3 z4 z5 z6 z7 z8 z9
              obtain ⟨u0, u1, u2, u3, u4, u5, u6, u7, u8, u9⟩ := blk10 HXb.out
              obtain ⟨q0, _, _, _, _, _, _, _, _, _, _, _⟩ := blk12 hRi
              clear hRi
              cases hfx : f x.1 with
              | none =>
                rw [hfx] at hlk
                replace hlk : (Instr.lookup 70 (.map (some Bf)) (.agg #[.int .i64 (x.1).a, .int .i64 (x.1).b, .int .i64 ((x.1).c : Int), .int .i64 ((x.1).d : Int), .int .u8 ((x.1).m : Int)]) false).run Tryz.prog W2 = .ok (.pointer none) W2 := hlk
                have HS1 : Hid (FrP w W2 Bf TT (doneA l k2 ++ putS R (j + 1)) lo w2.heap.size w2) := by
                  show FrP _ _ _ _ _ _ _ _
                  rw [HTk.out]
                  exact ⟨n, f, ks, L, S, HFr.out.skip R.i hfx, HP1.out, HP2.out, HP3.out⟩
                go_wp2_with (fail)
                go_roundw
                case rel => exact ⟨j + 1, by omega, by go_num, HS1.out⟩
                case measure => simp [intOf]; omega
              | some G =>
                rw [hfx] at hlk
                replace hlk : (Instr.lookup 70 (.map (some Bf)) (.agg #[.int .i64 (x.1).a, .int .i64 (x.1).b, .int .i64 ((x.1).c : Int), .int .i64 ((x.1).d : Int), .int .u8 ((x.1).m : Int)]) false).run Tryz.prog W2 = .ok (.pointer (some ⟨G, 0, none⟩)) W2 := hlk
                have hE : ent (doneA l k2 ++ putS R j) x.1 < 65536 := by
                  have h1 := ent_le (doneA l k2 ++ putS R j) x.1
                  have h2 := HLn.out
                  have h3 := HLp.out
                  rw [List.length_append] at h1
                  omega
                have hput := putGrp (HFr.out.gs.grp x.1 G hfx) x.2 R.i Hbx.out.2 hE
                clear hE
                go_wp2_with (go_at_call 67; refine hput.mono ?_; rintro e w5 ⟨rfl, l5, S5, hG5, hS5, hc5⟩)
                have HS1 : Hid (FrP w w5 Bf TT (doneA l k2 ++ putS R (j + 1)) lo w2.heap.size w2) := by
                  show FrP _ _ _ _ _ _ _ _
                  rw [HTk.out]
                  have hsx : (f x.1).isSome = true := by rw [hfx]; rfl
                  refine ⟨n, f, ks, _, _, HFr.out.put hfx hG5 hS5 hc5, fun t ht b hb => ?_, fun b b1 b2 => ?_, Nat.le_trans HP3.out hc5.size⟩
                  · by_cases e : t = x.1
                    · simp only [if_pos e] at hb
                      rcases (hS5 b hb).1 with h1 | h1
                      · exact HP1.out _ hsx b h1
                      · have := HP3.out; exact .inr (by omega)
                    · simp only [if_neg e] at hb
                      exact HP1.out t ht b hb
                  · rw [hc5.block b (by have := HP3.out; omega) (fun e => by rcases HP1.out _ hsx b e with h1 | h1 <;> omega)]
                    exact HP2.out b b1 b2
                clear hput hG5 hS5 hc5
                go_wp2_with (fail)
                go_roundw
                case rel => exact ⟨j + 1, by omega, by go_num, HS1.out⟩
                case measure => simp [intOf]; omega
            · obtain rfl : j = mS := by omega
              have hni : ¬ (j : Int) < (j : Int) := by omega
              have HE : Hid (FrE w wr Bf TT (doneA l (k2 + 1))) := by
                show FrE _ _ _ _ _
                rw [HSt.out]
                have := HFj.out.out
                unfold putS at this
                rwa [HmS.out, List.take_length] at this
              go_wp2_with (fail)
              go_roundw
              case rel => exact ⟨k2 + 1, by omega, by go_num, HE.out⟩
              case measure => simp [intOf]; omega
        · obtain rfl : k2 = nl := by omega
          have hni : ¬ (k2 : Int) < (k2 : Int) := by omega
          have HFa : Hid (FrE w wr Bf TT (allS l)) := by
            show FrE _ _ _ _ _
            have := HF.out
            unfold doneA at this
            rwa [Hnl.out, List.take_length] at this
          obtain ⟨nF, fF, ksF, LF, SF, hFr⟩ := HFa.out
          obtain ⟨DF, hown, hD1, hD2, hD3⟩ := hFr.mp.ex
          have HFr : Hid (Frsh w wr Bf nF fF ksF LF SF TT (allS l)) := hFr
          have HD1 : Hid (∀ t kl, keyT t kl → DF.atKey kl (datM none) = datM (fF t) ∧ Go.Maps.has DF kl = (fF t).isSome) := hD1
          have HD2 : Hid (∀ kl, Go.Maps.has DF kl = true → ∃ t, keyT t kl) := hD2
          obtain ⟨W4, hW4⟩ : ∃ W4, W4 = wr := ⟨_, rfl⟩
          rw [← hW4] at hown HFr ⊢
          clear hFr hD1 hD2 hD3 HFa HF hW4
          go_wp2_with (first | (at_range; refine wpList_range_own _ rfl _ 70 rfl KT 93 tp_keyed Tryz.underlying70 ptrE Bf nF DF rfl hown ?_; intro w5 hrg0 hgr5 hsz5))
          have HRg : Hid (w5.ranges Tryz.prog KT ptrE Bf W4.heap.size nF DF (Go.Maps.has DF) (Go.Maps.size DF)) := hrg0
          have HG5 : Hid (W4.grownBy w5 none) := hgr5
          clear hrg0 hgr5 hsz5 hown
          try go_frame
          try go_wp2_with (fail)
          go_loopw [74] (fun _ wx => ∃ (left : Lit → Bool) (cnt nB : Nat) (fB : Tp → Option Nat) (ksB done : List Tp), Hid (wx.ranges Tryz.prog KT ptrE Bf W4.heap.size nF DF left cnt) ∧ Hid (Mp wx B nB fB ksB) ∧ Hid (nB ≤ ks0.length + done.length) ∧ Hid (done.Nodup ∧ ∀ t ∈ done, (fF t).isSome = true) ∧ Hid (∀ t, fB t = if t ∈ done then (if 0 < ent (allS l) t then fF t else none) else f0 t) ∧ Hid ((∀ kl, left kl = true → ∃ t, keyT t kl ∧ (fF t).isSome = true ∧ t ∉ done) ∧ ∀ t kl, keyT t kl → (fF t).isSome = true → t ∉ done → left kl = true) ∧ Hid (Chg W4 wx (fun b => b = B))) (fun _ wx => wx.rangeLeft Bf W4.heap.size)
          case atStart =>
            refine ⟨_, _, ks0.length, f0, ks0, [], HRg.out, (Hm0.out.on HFr.out.bl).on ⟨HG5.out.os, HG5.out.tape, HG5.out.output, HG5.out.size, fun b hb => HG5.out.block b hb (by simp)⟩, Nat.le_refl _, ⟨List.nodup_nil, fun t h => by cases h⟩, fun t => by simp, ⟨fun kl h => ?_, fun t kl hk hf _ => ?_⟩, ⟨HG5.out.os, HG5.out.tape, HG5.out.output, HG5.out.size, fun b hb _ => HG5.out.block b hb (by simp)⟩⟩
            · obtain ⟨t, ht⟩ := HD2.out kl h
              refine ⟨t, ht, ?_, by simp⟩
              rw [← (HD1.out t kl ht).2]; exact h
            · rw [(HD1.out t kl hk).2]; exact hf
          case round =>
            obtain ⟨left, cnt, nB, fB, ksB, done, HR, HMB, HnB, HDn, HfB, HLf, HCh⟩ := hrel
            clear HRg HG5
            have hrgo := HR.out
            go_wp2_with (at_next; refine wpList_next_ranges _ rfl _ rfl KT tp_keyed ptrE (fun v : Value => v) (fun v : Value => v) (fun key kl _ => ⟨key, rfl⟩) (fun v y _ => ⟨v, rfl⟩) Bf W4.heap.size nF DF left cnt rfl hrgo ?_ ?_)
            · intro hc0 hl0
              clear hrgo
              have HAll : Hid (∀ t, (fF t).isSome = true → t ∈ done) := fun t hf => by
                by_cases e : t ∈ done
                · exact e
                · obtain ⟨kl, hk⟩ := tp_key (HFr.out.mp.bd t hf)
                  have := HLf.out.2 t kl hk hf e
                  rw [hl0 kl] at this; cases this
              clear hl0
              go_wp2_with (fail)
              refine bodyPost_end (v := .tuple #[]) (by simp [results, Tryz.results47, go_sem]) rfl ⟨rfl, ?_, ?_⟩
              · have hdn : ∀ t, t ∈ done ↔ (fF t).isSome = true := fun t => ⟨HDn.out.2 t, HAll.out t⟩
                have hBw := Hm0.out.lt
                have hz4 := HFr.out.bl.size
                have hfb : ∀ t, fB t = if (fF t).isSome = true then (if 0 < ent (allS l) t then fF t else none) else f0 t := fun t => by
                  rw [HfB.out t]
                  by_cases e : t ∈ done
                  · rw [if_pos e, if_pos ((hdn t).1 e)]
                  · rw [if_neg e, if_neg (fun e2 => e ((hdn t).2 e2))]
                have hlb : ∀ b, b < W4.heap.size → b ≠ B → wr.heap[b]? = W4.heap[b]? := HCh.out.block
                have hdom : ∀ t, (fF t).isSome = true ↔ ∃ x ∈ doneS lc k, x.1 = t := fun t => by rw [HFr.out.dom, HTT.out]
                have hin : ∀ t, (fB t).isSome = true → ¬ (fF t).isSome = true → (f0 t).isSome = true := fun t e ht => by
                  rw [hfb t, if_neg ht] at e; exact e
                refine ⟨nB, fB, ksB, fun t => if (fF t).isSome = true then LF t else L0 t, fun t b => if (fF t).isSome = true then SF t b else S0 t b, HMB.out, ⟨fun t g e => ?_, fun t t' hne e e' b hs hs' => ?_, fun t e b hs => ?_⟩, fun t => ?_, fun t e b hs => ?_⟩
                · by_cases ht : (fF t).isSome = true
                  · rw [hfb t, if_pos ht] at e
                    simp only [if_pos ht]
                    split at e
                    · exact (HFr.out.gs.grp t g e).stay fun b hb => hlb b (HFr.out.gs.lt t ht b hb) (fun e => by have := (HFr.out.new t ht b hb).1; omega)
                    · cases e
                  · rw [hfb t, if_neg ht] at e
                    simp only [if_neg ht]
                    have hs0 : (f0 t).isSome = true := by rw [e]; rfl
                    obtain ⟨c1, c2⟩ := HA.out t (fun h => ht ((hdom t).2 (by rw [← Hnc.out] at h; exact h)))
                    rw [← c1, ← c2]
                    exact (Hg0.out.grp t g e).stay fun b hb => (hlb b (by have := Hg0.out.lt t hs0 b hb; omega) (HB0.out t hs0 b hb)).trans (HFr.out.bl.block b (Hg0.out.lt t hs0 b hb))
                · by_cases ht : (fF t).isSome = true
                  · simp only [if_pos ht] at hs
                    by_cases ht' : (fF t').isSome = true
                    · simp only [if_pos ht'] at hs'
                      exact HFr.out.gs.apart t t' hne ht ht' b hs hs'
                    · simp only [if_neg ht'] at hs'
                      have h1 := (HFr.out.new t ht b hs).1
                      have h2 := Hg0.out.lt t' (hin t' e' ht') b hs'
                      omega
                  · simp only [if_neg ht] at hs
                    by_cases ht' : (fF t').isSome = true
                    · simp only [if_pos ht'] at hs'
                      have h1 := (HFr.out.new t' ht' b hs').1
                      have h2 := Hg0.out.lt t (hin t e ht) b hs
                      omega
                    · simp only [if_neg ht'] at hs'
                      exact Hg0.out.apart t t' hne (hin t e ht) (hin t' e' ht') b hs hs'
                · have hz := HCh.out.size
                  by_cases ht : (fF t).isSome = true
                  · simp only [if_pos ht] at hs
                    have := HFr.out.gs.lt t ht b hs; omega
                  · simp only [if_neg ht] at hs
                    have := Hg0.out.lt t (hin t e ht) b hs; omega
                · rw [hfb t, ← hdom t]
                  by_cases ht : (fF t).isSome = true
                  · by_cases hE : 0 < ent (allS l) t
                    · simp [ht, hE]
                    · simp [ht, hE]
                  · simp [ht]
                · by_cases ht : (fF t).isSome = true
                  · simp only [if_pos ht] at hs
                    have h1 := (HFr.out.new t ht b hs).1
                    exact ⟨by omega, .inr h1⟩
                  · simp only [if_neg ht] at hs
                    have h0 := hin t e ht
                    exact ⟨HB0.out t h0 b hs, .inl ⟨h0, hs⟩⟩
              · exact ((Chg.of_below HFr.out.bl (fun b => b = B)).trans HCh.out (fun _ e => .inl e))
            · intro x c kl dd pp w6 cnt1 hkx hlx hcy hat hrg1 hlt1 hg1 hs1 hen
              clear hrgo
              obtain ⟨t, ht, hft, htd⟩ := HLf.out.1 kl hlx
              obtain rfl : x = .agg #[.int .i64 t.a, .int .i64 t.b, .int .i64 t.c, .int .i64 t.d, .int .u8 t.m] := tp_keyed.inj hkx ht
              obtain ⟨oo, rfl, e⟩ := ptrE_inv hcy
              have hoo : oo = fF t := datM_inj (e.symm.trans ((hat _).symm.trans (HD1.out t kl ht).1))
              obtain ⟨g, hg⟩ : ∃ g, fF t = some g := Option.isSome_iff_exists.1 hft
              have hcv : valM oo = .pointer (some ⟨g, 0, none⟩) := by rw [hoo, hg]; rfl
              rw [hcv] at hen ⊢
              have HHen : Hid _ := hen
              have Hbt : Hid (BdT t) := HFr.out.mp.bd t hft
              have Hg : Hid (fF t = some g) := hg
              have Htd : Hid (t ∉ done) := htd
              have Hkt : Hid (keyT t kl) := ht
              have HR1 : Hid (w6.ranges Tryz.prog KT ptrE Bf W4.heap.size nF DF (fun z => left z && !z.sameKey kl) cnt1) := hrg1
              have HG1 : Hid (wr.grownBy w6 (some W4.heap.size)) := hg1
              have HLt : Hid (cnt1 < cnt) := hlt1
              have HW4 : Hid (W4.heap.size < wr.heap.size) := HR.out.lt
              have hlb : ∀ b, b < W4.heap.size → b ≠ B → w6.heap[b]? = W4.heap[b]? := fun b b1 b2 => by
                rw [hg1.block b (by have := HCh.out.size; omega) (fun e => by injection e; omega), HCh.out.block b b1 b2]
              have hBw := Hm0.out.lt
              have hgrp : Grp w6 g t (con (allS l) t) (ent (allS l) t) (LF t) (SF t) := (HFr.out.gs.grp t g hg).stay fun b hb => hlb b (HFr.out.gs.lt t hft b hb) (fun e => by have := (HFr.out.new t hft b hb).1; omega)
              obtain ⟨_, _, _, _, _, _, fg, _⟩ := id hgrp
              have e6 := (blkG7 fg.blk).2
              have hXw := World.block_lt_of_cell? _ _ HX.out
              have hX4 : W4.cell? ⟨X, off, none⟩ = some (.map (some B)) := cell_on1 HFr.out.bl HX.out
              have hX6 : w6.cell? ⟨X, off, none⟩ = some (.map (some B)) := by
                have := hlb X (World.block_lt_of_cell? _ _ hX4) HXB.out
                unfold World.cell? at hX4 ⊢
                rw [this]; exact hX4
              have HX6 : Hid (w6.cell? ⟨X, off, none⟩ = some (.map (some B))) := hX6
              have HMB6 : Hid (Mp w6 B nB fB ksB) := HMB.out.stay (HG1.out.block B HMB.out.lt (fun e => by injection e with e; have := HFr.out.bl.size; omega))
              have HCh6 : Hid (Chg W4 w6 (fun b => b = B)) := ⟨hg1.os.trans HCh.out.os, hg1.tape.trans HCh.out.tape, hg1.output.trans HCh.out.output, Nat.le_trans HCh.out.size hg1.size, hlb⟩
              obtain ⟨EE, hEE⟩ : ∃ EE, EE = ent (allS l) t := ⟨_, rfl⟩
              have HEE : Hid (EE = ent (allS l) t) := hEE
              rw [← hEE] at e6
              have hgl : g < w6.heap.size := World.block_lt_of_cell? _ _ e6
              obtain ⟨W7, hW7⟩ : ∃ W7, W7 = w6.alloc (.cells #[.int .i64 t.a, .int .i64 t.b, .int .i64 t.c, .int .i64 t.d, .int .u8 t.m] 144) := ⟨_, rfl⟩
              have hb7 : Below w6.heap.size w6 W7 := by rw [hW7]; exact (Below.refl _ _).alloc (Nat.le_refl _) _
              have HT7 : Hid (W7.heap[w6.heap.size]? = some (.cells #[.int .i64 t.a, .int .i64 t.b, .int .i64 t.c, .int .i64 t.d, .int .u8 t.m] 144)) := by show _ = _; rw [hW7]; exact blk_new _ _
              have e7 := cell_on1 hb7 e6
              have HX7 : Hid (W7.cell? ⟨X, off, none⟩ = some (.map (some B))) := cell_on1 hb7 hX6
              have Hb7 : Hid (Below w6.heap.size w6 W7) := hb7
              clear hkx hlx hcy hat hrg1 hlt1 hg1 hs1 hoo hcv hg hft htd ht hlb hgrp fg e6 hX4 hX6 hEE hXw hBw hb7 hgl e
              go_upto_region 25 with (rw [← hW7])
              try rw [← hW7]
              clear hW7
              have HMB7 : Hid (Mp W7 B nB fB ksB) := HMB6.out.on Hb7.out
              have HR7 : Hid (W7.ranges Tryz.prog KT ptrE Bf W4.heap.size nF DF (fun z => left z && !z.sameKey kl) cnt1) := World.ranges.kept (row := none) HR1.out ⟨Hb7.out.os, Hb7.out.tape, Hb7.out.output, Hb7.out.size, fun b hb _ => Hb7.out.block b hb⟩ (by simp) (by simp)
              have HCh7 : Hid (Chg W4 W7 (fun b => b = B)) := HCh6.out.trans (Chg.of_below Hb7.out (fun _ => False)) (fun _ e => e.elim)
              have Hne : Hid (B ≠ w6.heap.size ∧ W4.heap.size < w6.heap.size ∧ B < W4.heap.size ∧ Bf ≠ B) := ⟨by have := HMB6.out.lt; omega, by have := HG1.out.size; have := HW4.out; omega, by have := Hm0.out.lt; have := HFr.out.bl.size; omega, by have := HFr.out.Bf; have := Hm0.out.lt; omega⟩
              have HLfN : Hid ((∀ kl', (left kl' && !kl'.sameKey kl) = true → ∃ t', keyT t' kl' ∧ (fF t').isSome = true ∧ t' ∉ done ++ [t]) ∧ ∀ t' kl', keyT t' kl' → (fF t').isSome = true → t' ∉ done ++ [t] → (left kl' && !kl'.sameKey kl) = true) := by
                refine ⟨fun kl' h => ?_, fun t' kl' hk' hf' hd' => ?_⟩
                · rw [Bool.and_eq_true] at h
                  obtain ⟨t', h1, h2, h3⟩ := HLf.out.1 kl' h.1
                  refine ⟨t', h1, h2, fun e => ?_⟩
                  rcases List.mem_append.1 e with e | e
                  · exact h3 e
                  · simp at e
                    subst e
                    have : kl' = kl := keyT_same h1 Hkt.out
                    subst this
                    have h4 := h.2
                    rw [Bool.not_eq_true'] at h4
                    exact absurd (WideAt.sameKey_self (keyT_lit Hkt.out)) (by rw [h4]; simp)
                · have e1 : t' ∉ done := fun e => hd' (by simp [e])
                  have e2 : t' ≠ t := fun e => hd' (by simp [e])
                  rw [Bool.and_eq_true]
                  refine ⟨HLf.out.2 t' kl' hk' hf' e1, ?_⟩
                  have hne : kl' ≠ kl := fun e => e2 (keyT_inj hk' (by rw [e]; exact Hkt.out))
                  rw [Go.Maps.sameKey_ne hne]; rfl
              have HDnN : Hid ((done ++ [t]).Nodup ∧ ∀ s ∈ done ++ [t], (fF s).isSome = true) := by
                refine ⟨?_, fun s hs => ?_⟩
                · rw [List.nodup_append]
                  exact ⟨HDn.out.1, by simp, fun a ha b hb e2 => by simp at hb; subst hb; exact Htd.out (e2 ▸ ha)⟩
                · rcases List.mem_append.1 hs with hs | hs
                  · exact HDn.out.2 s hs
                  · simp at hs; subst hs; rw [Hg.out]; rfl
              have HnBd : Hid (nB < 4294967295) := by
                have h1 : done.length ≤ ksF.length := List.Nodup.length_le_of_subset HDn.out.1 (fun s hs => (HFr.out.mp.mem s).2 (HDn.out.2 s hs))
                have h2 : ksF.length ≤ nF := by
                  obtain ⟨D, a, _, _, d⟩ := HFr.out.mp.ex
                  rw [← d]; exact a.size_le
                have h3 := HFr.out.le
                have h4 := doneS_len lc k
                rw [← HTT.out] at h4
                have h5 := Hnc.out
                have h6 := HnB.out
                have h7 := Hk0.out
                show nB < _
                omega
              have HfN : Hid (∀ o : Option Nat, o = (if 0 < EE then fF t else none) → ∀ s, updM fB t o s = if s ∈ done ++ [t] then (if 0 < ent (allS l) s then fF s else none) else f0 s) := by
                intro o ho s
                unfold updM
                by_cases e : s = t
                · subst e
                  rw [if_pos rfl, if_pos (show s ∈ done ++ [s] by simp), ho, HEE.out]
                · rw [if_neg e, HfB.out s]
                  by_cases e2 : s ∈ done
                  · rw [if_pos e2, if_pos (show s ∈ done ++ [t] by simp [e2])]
                  · rw [if_neg e2, if_neg (show ¬ s ∈ done ++ [t] by simp [e2, e])]
              by_cases hE : 0 < EE
              · have hEi : (0 : Int) < (EE : Int) := by omega
                go_wp2_with (fail)
                refine wp_region_held_drew (S := fun w' => w'.cell? ⟨X, off, none⟩ = some (.map (some B)) ∧ w'.heap[w6.heap.size]? = some (.cells #[.int .i64 t.a, .int .i64 t.b, .int .i64 t.c, .int .i64 t.d, .int .u8 t.m] 144)) (by kernel_rfl) ⟨HX7.out, HT7.out⟩ (fun hS0 => ?_)
                obtain ⟨wd, hwd⟩ : ∃ x, x = W7.drew := ⟨_, rfl⟩
                have hbd : Below W7.heap.size W7 wd := by rw [hwd]; exact (Below.refl _ _).drew
                rw [← hwd] at hS0 ⊢
                clear hwd
                have HMd : Hid (Mp wd B nB fB ksB) := HMB7.out.on hbd
                have HRd : Hid (wd.ranges Tryz.prog KT ptrE Bf W4.heap.size nF DF (fun z => left z && !z.sameKey kl) cnt1) := World.ranges.kept (row := none) HR7.out ⟨hbd.os, hbd.tape, hbd.output, hbd.size, fun b hb _ => hbd.block b hb⟩ (by simp) (by simp)
                have HCd : Hid (Chg W4 wd (fun b => b = B)) := HCh7.out.trans (Chg.of_below hbd (fun _ => False)) (fun _ e => e.elim)
                clear hbd
                refine wpTk (i := 0) (v := .pointer (some ⟨X, off, none⟩)) hS0 ?_
                simp only [nrm]
                refine wpTk (i := 1) (v := .pointer (some ⟨X, off, none⟩)) hS0 ?_
                simp only [nrm]
                refine wpTk (i := 2) (v := .pointer (some ⟨X, off, none⟩)) hS0 ?_
                simp only [nrm]
                refine wpAnyH_take (i := 3) (v := .map (some B)) rfl (by kernel_rfl) (by kernel_rfl) (by kernel_rfl) (fun _ _ _ h => h) (.inl ⟨rfl, fun w' hw' => by have hcc := hw'.1; simp [execOp, go_sem, hcc]⟩) hS0 ?_
                simp only [nrm]
                refine wpLd (i := 4) rfl (yieldsIf_load_mid rfl 144 (.tmp 16) rfl w6.heap.size 0 rfl [.int .i64 t.a, .int .i64 t.b, .int .i64 t.c, .int .i64 t.d, .int .u8 t.m] _ (fun w' hw' => by have := World.rangeAt_of_block hw'.2 0 5; simpa using this) Tryz.underlying144 rfl (by kernel_rfl)) hS0 ?_
                simp only [nrm]
                refine wpTk (i := 5) (v := .pointer (some ⟨g, 0, none⟩)) hS0 ?_
                simp only [nrm]
                refine wpO 6 (fun K' hK' => ?_)
                obtain ⟨w9, hup, hm9, hg9, hz9⟩ := HMd.out.put Hbt.out g (by have := HnBd.out; omega)
                have hS9 : w9.cell? ⟨X, off, none⟩ = some (.map (some B)) ∧ w9.heap[w6.heap.size]? = some (.cells #[.int .i64 t.a, .int .i64 t.b, .int .i64 t.c, .int .i64 t.d, .int .u8 t.m] 144) := by
                  refine ⟨?_, blk_gr hS0.2 hg9 (fun e => Hne.out.1 (by injection e))⟩
                  have h1 := hg9.block X (World.block_lt_of_cell? _ _ hS0.1) (fun e => HXB.out (by injection e))
                  have h2 := hS0.1
                  unfold World.cell? at h2 ⊢
                  rw [h1]; exact h2
                have HM9 : Hid (Mp w9 B (nB + 1) (updM fB t (some g)) (if t ∈ ksB then ksB else ksB ++ [t])) := hm9
                have HR9 : Hid (w9.ranges Tryz.prog KT ptrE Bf W4.heap.size nF DF (fun z => left z && !z.sameKey kl) cnt1) := World.ranges.kept (row := some B) HRd.out hg9 (fun e => Hne.out.2.2.2 (by injection e)) (fun e => by injection e with e; have := Hne.out.2.2.1; omega)
                have HC9 : Hid (Chg W4 w9 (fun b => b = B)) := HCd.out.trans ⟨hg9.os, hg9.tape, hg9.output, hg9.size, fun q hq hn => hg9.block q hq (fun e => hn (by injection e))⟩ (fun _ e => .inl e)
                go_wp2_with (fail)
                refine ⟨hS9, ?_⟩
                refine wpAnyH_done (by kernel_rfl) ?_ _
                try simp only [nrm]
                clear hS0 hS9 hup hm9 hg9 hz9
                go_wp2_with (fail)
                go_roundw
                case rel => exact ⟨_, cnt1, (nB + 1), _, _, done ++ [t], HR9.out, HM9.out, by have := HnB.out; show _ ≤ _; simp; omega, HDnN.out, HfN.out (some g) (by rw [if_pos hE, Hg.out]), HLfN.out, HC9.out⟩
                case measure => rw [World.ranges.left_eq HR9.out, World.ranges.left_eq HR.out]; exact HLt.out
              · have hE0 : ¬ (0 : Int) < (EE : Int) := by omega
                go_wp2_with (fail)
                refine wp_region_held_drew (S := fun w' => w'.cell? ⟨X, off, none⟩ = some (.map (some B)) ∧ w'.heap[w6.heap.size]? = some (.cells #[.int .i64 t.a, .int .i64 t.b, .int .i64 t.c, .int .i64 t.d, .int .u8 t.m] 144)) (by kernel_rfl) ⟨HX7.out, HT7.out⟩ (fun hS0 => ?_)
                obtain ⟨wd, hwd⟩ : ∃ x, x = W7.drew := ⟨_, rfl⟩
                have hbd : Below W7.heap.size W7 wd := by rw [hwd]; exact (Below.refl _ _).drew
                rw [← hwd] at hS0 ⊢
                clear hwd
                have HMd : Hid (Mp wd B nB fB ksB) := HMB7.out.on hbd
                have HRd : Hid (wd.ranges Tryz.prog KT ptrE Bf W4.heap.size nF DF (fun z => left z && !z.sameKey kl) cnt1) := World.ranges.kept (row := none) HR7.out ⟨hbd.os, hbd.tape, hbd.output, hbd.size, fun b hb _ => hbd.block b hb⟩ (by simp) (by simp)
                have HCd : Hid (Chg W4 wd (fun b => b = B)) := HCh7.out.trans (Chg.of_below hbd (fun _ => False)) (fun _ e => e.elim)
                clear hbd
                refine wpTk (i := 0) (v := .pointer (some ⟨X, off, none⟩)) hS0 ?_
                simp only [nrm]
                refine wpTk (i := 1) (v := .pointer (some ⟨X, off, none⟩)) hS0 ?_
                simp only [nrm]
                refine wpTk (i := 2) (v := .pointer (some ⟨X, off, none⟩)) hS0 ?_
                simp only [nrm]
                refine wpAnyH_take (i := 3) (v := .map (some B)) rfl (by kernel_rfl) (by kernel_rfl) (by kernel_rfl) (fun _ _ _ h => h) (.inl ⟨rfl, fun w' hw' => by have hcc := hw'.1; simp [execOp, go_sem, hcc]⟩) hS0 ?_
                simp only [nrm]
                refine wpLd (i := 4) rfl (yieldsIf_load_mid rfl 144 (.tmp 16) rfl w6.heap.size 0 rfl [.int .i64 t.a, .int .i64 t.b, .int .i64 t.c, .int .i64 t.d, .int .u8 t.m] _ (fun w' hw' => by have := World.rangeAt_of_block hw'.2 0 5; simpa using this) Tryz.underlying144 rfl (by kernel_rfl)) hS0 ?_
                simp only [nrm]
                refine wpO 5 (fun K' hK' => ?_)
                obtain ⟨w9, hup, hm9, hg9, hz9⟩ := HMd.out.del Hbt.out 0
                have hS9 : w9.cell? ⟨X, off, none⟩ = some (.map (some B)) ∧ w9.heap[w6.heap.size]? = some (.cells #[.int .i64 t.a, .int .i64 t.b, .int .i64 t.c, .int .i64 t.d, .int .u8 t.m] 144) := by
                  refine ⟨?_, blk_gr hS0.2 hg9 (fun e => Hne.out.1 (by injection e))⟩
                  have h1 := hg9.block X (World.block_lt_of_cell? _ _ hS0.1) (fun e => HXB.out (by injection e))
                  have h2 := hS0.1
                  unfold World.cell? at h2 ⊢
                  rw [h1]; exact h2
                have HM9 : Hid (Mp w9 B nB (updM fB t none) (ksB.erase t)) := hm9
                have HR9 : Hid (w9.ranges Tryz.prog KT ptrE Bf W4.heap.size nF DF (fun z => left z && !z.sameKey kl) cnt1) := World.ranges.kept (row := some B) HRd.out hg9 (fun e => Hne.out.2.2.2 (by injection e)) (fun e => by injection e with e; have := Hne.out.2.2.1; omega)
                have HC9 : Hid (Chg W4 w9 (fun b => b = B)) := HCd.out.trans ⟨hg9.os, hg9.tape, hg9.output, hg9.size, fun q hq hn => hg9.block q hq (fun e => hn (by injection e))⟩ (fun _ e => .inl e)
                go_wp2_with (fail)
                refine ⟨hS9, ?_⟩
                refine wpAnyH_done (by kernel_rfl) ?_ _
                try simp only [nrm]
                clear hS0 hS9 hup hm9 hg9 hz9
                go_wp2_with (fail)
                go_roundw
                case rel => exact ⟨_, cnt1, nB, _, _, done ++ [t], HR9.out, HM9.out, by have := HnB.out; show _ ≤ _; simp; omega, HDnN.out, HfN.out none (by rw [if_neg hE]), HLfN.out, HC9.out⟩
                case measure => rw [World.ranges.left_eq HR9.out, World.ranges.left_eq HR.out]; exact HLt.out
end Go.Proofs.YtfpmljgmfapoiaaGreat
