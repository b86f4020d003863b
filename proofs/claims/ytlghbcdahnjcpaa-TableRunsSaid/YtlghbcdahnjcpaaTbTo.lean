/-
  told.
-/
import Derived.Sort.CutIn
import Derived.Test.YtlghbcdahnjcpaaTbTa
namespace Go.Proofs.Ytlghbcdahnjcpaa
open Go.RowKit
set_option linter.unusedVariables false
set_option linter.unusedSimpArgs false
attribute [local go_sem] Oper.semAt_some

theorem eq_nilF (lb : Array Value) (w : World) : Sem.run Try.prog (binOp .eql 74 (.func (.func 46) #[] lb) .nilFunc) w = .ok (.bool false) w := by
  have h : ∀ d, Sem.run Try.prog (Op.equalIn (d + 1) 74 (.func (.func 46) #[] lb) .nilFunc) w = .ok false w := fun d => by
    rw [Op.equalIn]
    simp [go_sem, run_underlying Try.underlying74]
  have h2 : Sem.run Try.prog (Op.equal 74 (.func (.func 46) #[] lb) .nilFunc) w = .ok false w := h 9999
  simp [binOp, go_sem, h2]
def dmk (D : Nat) : Deferred := { target := .collected D, args := #[] }
/-- The marks of the loops that were gone through. -/
def Mks (ds : List Nat) (V : World) : Prop := ds.Pairwise (· ≠ ·) ∧ ∀ D ∈ ds, V.heap[D]? = some (.deferred (some []))
theorem Mks.on {ds : List Nat} {V V' : World} (h : Mks ds V) (hb : Below V.heap.size V V') : Mks ds V' := ⟨h.1, fun D hD => by
  have h1 := h.2 D hD
  rw [hb.block D (by
    rcases Nat.lt_or_ge D V.heap.size with h | h
    · exact h
    · rw [Array.getElem?_eq_none h] at h1; cases h1)]
  exact h1⟩
def Tst0 (w : World) (u : Value) (t Bn KB k : Nat) (V : World) : Prop :=
  V.heap[w.heap.size]? = some (.cells #[u] 33) ∧ V.heap[w.heap.size + 1]? = some (.cells #[.bool false] 4) ∧ V.heap[Bn]? = some (.cells #[.pointer (some ⟨t, 0, none⟩)] 27) ∧ V.heap[KB]? = some (.cells #[.int .i64 (k : Int)] 3) ∧ Below w.heap.size w V
def Tst (w : World) (u : Value) (t Bn KB NB k j : Nat) (V : World) : Prop := Tst0 w u t Bn KB k V ∧ V.heap[NB]? = some (.cells #[.int .i64 (j : Int)] 3)
theorem pre_next {l : List Ru} {pre : List Rux} {x : Rux} (hbd : ∀ k (hk : k < l.length), BdR (l[k]'hk)) (hp : pre ++ [x] <+: allX l 0) : ∃ hk : pre.length < l.length, x.1 = (pre.length, l[pre.length]'hk) := by
  obtain ⟨rest, hr⟩ := hp
  have hlen : (allX l 0).length = l.length := allX_length l 0
  have hk : pre.length < l.length := by rw [← hlen, ← hr]; simp
  have hx : x = rux pre.length (l[pre.length]'hk) := by
    have := allX_at l 0 pre.length hk
    rw [Nat.zero_add] at this
    rw [← this]
    simp [← hr]
  exact ⟨hk, by rw [hx, rux_in _ (hbd _ hk)]⟩
def TFr (f : Nat → Value) (t : Nat) (u : Value) (LB RB Bn KB : Nat) : Array Value := (.pointer (some ⟨t, 0, none⟩) :: u :: f 2 :: .pointer (some ⟨LB, 0, none⟩) :: .pointer (some ⟨RB, 0, none⟩) :: f 5 :: f 6 :: .func (.func 46) #[] #[.pointer (some ⟨Bn, 0, none⟩)] :: .pointer (some ⟨KB, 0, none⟩) :: f 9 :: f 10 :: f 11 :: f 12 :: f 13 :: f 14 :: f 15 :: f 16 :: f 17 :: f 18 :: f 19 :: f 20 :: f 21 :: f 22 :: f 23 :: f 24 :: f 25 :: f 26 :: f 27 :: f 28 :: f 29 :: f 30 :: f 31 :: f 32 :: f 33 :: f 34 :: f 35 :: f 36 :: f 37 :: f 38 :: f 39 :: f 40 :: f 41 :: f 42 :: f 43 :: f 44 :: f 45 :: f 46 :: f 47 :: f 48 :: f 49 :: f 50 :: f 51 :: f 52 :: f 53 :: f 54 :: f 55 :: f 56 :: f 57 :: f 58 :: f 59 :: f 60 :: f 61 :: f 62 :: f 63 :: f 64 :: f 65 :: f 66 :: f 67 :: f 68 :: f 69 :: f 70 :: f 71 :: f 72 :: f 73 :: f 74 :: f 75 :: f 76 :: [] : List Value).toArray
theorem Tst0.on {w V V' : World} {u : Value} {t Bn KB k : Nat} (h : Tst0 w u t Bn KB k V) (hb : Below V.heap.size V V') : Tst0 w u t Bn KB k V' := ⟨blk_on h.1 hb, blk_on h.2.1 hb, blk_on h.2.2.1 hb, blk_on h.2.2.2.1 hb, h.2.2.2.2.trans (hb.mono h.2.2.2.2.size)⟩
set_option maxRecDepth 100000 in
set_option maxHeartbeats 8000000 in
theorem toldC (t : Nat) (v : Value) (M A : Int) (L : List Ru) (u : Value) (w : World) (hT : Tab w t v M A L) (hs : SrcU w u L) (hL : L.length ≤ 200000) (hbd : ∀ k (hk : k < L.length), BdR (L[k]'hk)) :
    Calls Try.prog 15 #[.pointer (some ⟨t, 0, none⟩), u] w fun e w' => e = .returned (.bool true) ∧ Below w.heap.size w w' := by
  have HT : Hid (Tab w t v M A L) := hT
  have HS : Hid (SrcU w u L) := hs
  have hlt := hT.lt
  have hown : Hid (∀ k, v.ownBlock = some k → k < w.heap.size) := fun k e => hT.own e
  obtain ⟨ad, cap, rfl, hcap, hat⟩ := hs
  obtain ⟨n, hn⟩ : ∃ n, n = L.length := ⟨_, rfl⟩
  have Hn : Hid (n = L.length) := hn
  have hgU : ((w.alloc (.cells #[.slice ad n cap] 33)).alloc (.cells #[.bool false] 4)).heap.size = w.heap.size + 1 + 1 := by simp
  have hbU : Below w.heap.size w ((w.alloc (.cells #[.slice ad n cap] 33)).alloc (.cells #[.bool false] 4)) := ((Below.refl _ _).alloc (Nat.le_refl _) _).alloc (by simp) _
  have kU0 : ((w.alloc (.cells #[.slice ad n cap] 33)).alloc (.cells #[.bool false] 4)).heap[w.heap.size]? = some (.cells #[.slice ad n cap] 33) := blk_alloc (blk_new w _) _
  have kU1 : ((w.alloc (.cells #[.slice ad n cap] 33)).alloc (.cells #[.bool false] 4)).heap[w.heap.size + 1]? = some (.cells #[.bool false] 4) := by simpa using blk_new (w.alloc (.cells #[.slice ad n cap] 33)) (.cells #[.bool false] 4)
  have hRu := rulesX t v M A L _ (hT.on hbU) hL
  rw [← hn] at hRu hcap HS hL ⊢
  rw [hgU] at hRu
  have hn0 : (n : Int) ≤ 200000 := by omega
  clear hT hat hn
  refine callsIn_wide.1 (callsIn_of_wp_marks (n := 9) Try.func15 rfl trivial ?_ rfl)
  simp only [Try.ntmps15, List.size_toArray, List.length_cons, List.length_nil, Nat.reduceAdd, Nat.reduceSub, Array.replicate_succ, Array.replicate_zero, List.push_toArray, List.append_toArray, List.nil_append, List.cons_append]
  refine wpIn_wide.2 ?_
  go_wp2_with (fail)
  refine hRu.mono ?_
  rintro e W1 ⟨rfl, hr1, hb1⟩
  rw [← hgU] at hb1
  have HB1 : Hid (Below w.heap.size w W1) := hbU.trans (hb1.mono hbU.size)
  have K01 : Hid (W1.heap[w.heap.size]? = some (.cells #[.slice ad n cap] 33)) := blk_on kU0 hb1
  have K11 : Hid (W1.heap[w.heap.size + 1]? = some (.cells #[.bool false] 4)) := blk_on kU1 hb1
  have HR1 : Hid (RowU W1 0 (.slice (some ⟨w.heap.size + 1 + 1, 0, none⟩) n n) L) := hr1.base (Nat.zero_le _)
  have c0 : W1.cell? ⟨w.heap.size, 0, none⟩ = some (.slice ad n cap) := blk_cell K01.out rfl
  have hSm : Calls Try.prog 26 #[.slice (some ⟨w.heap.size + 1 + 1, 0, none⟩) n n, .slice ad n cap] W1 fun e w' => e = .returned (.bool true) ∧ Below W1.heap.size W1 w' := keepSame _ _ L W1 HR1.out.src (HS.out.keep HB1.out) (by rw [← Hn.out]; omega)
  clear hb1 hr1 hRu kU0 kU1 hgU hbU
  go_wp2_with (fail)
  refine hSm.mono ?_
  rintro e W2 ⟨rfl, hb⟩
  have HB2 : Hid (Below w.heap.size w W2) := HB1.out.trans (hb.mono HB1.out.size)
  have K02 : Hid (W2.heap[w.heap.size]? = some (.cells #[.slice ad n cap] 33)) := blk_on K01.out hb
  have K12 : Hid (W2.heap[w.heap.size + 1]? = some (.cells #[.bool false] 4)) := blk_on K11.out hb
  have hSp := spoilC (w.heap.size + 1 + 1) n L W2 (HR1.out.on hb) hL
  clear hb hSm HB1 K01 K11 HR1 c0
  go_wp2_with (fail)
  refine hSp.mono ?_
  rintro e W3 ⟨rfl, hg⟩
  have HB3 : Hid (Below w.heap.size w W3) := HB2.out.grown hg (by have := HB2.out.size; omega) (fun k hk => by simp at hk; omega)
  have K03 : Hid (W3.heap[w.heap.size]? = some (.cells #[.slice ad n cap] 33)) := by show _ = _; rw [hg.block _ (blk_lt K02.out) (by first | (simp; done) | (simp; omega))]; exact K02.out
  have K13 : Hid (W3.heap[w.heap.size + 1]? = some (.cells #[.bool false] 4)) := by show _ = _; rw [hg.block _ (blk_lt K12.out) (by first | (simp; done) | (simp; omega))]; exact K12.out
  have hRu2 := rulesX t v M A L W3 (HT.out.on HB3.out) (by rw [← Hn.out]; exact hL)
  rw [← Hn.out] at hRu2
  clear hg hSp HB2 K02 K12
  go_wp2_with (fail)
  refine hRu2.mono ?_
  rintro e W4 ⟨rfl, hr4, hb⟩
  have HB4 : Hid (Below w.heap.size w W4) := HB3.out.trans (hb.mono HB3.out.size)
  have K04 : Hid (W4.heap[w.heap.size]? = some (.cells #[.slice ad n cap] 33)) := blk_on K03.out hb
  have K14 : Hid (W4.heap[w.heap.size + 1]? = some (.cells #[.bool false] 4)) := blk_on K13.out hb
  have HR4 : Hid (RowU W4 W3.heap.size (.slice (some ⟨W3.heap.size, 0, none⟩) n n) L) := hr4
  clear hb hRu2 HB3 K03 K13 hr4
  go_wp2_with (fail)
  refine (allC (some ⟨t, 0, none⟩) _).mono ?_
  rintro e W5 ⟨rfl, hw5⟩
  have hb : Below W4.heap.size W4 W5 := by rw [hw5]; exact (Below.refl _ _).alloc (Nat.le_refl _) _
  have HB5 : Hid (Below w.heap.size w W5) := HB4.out.trans (hb.mono HB4.out.size)
  have K05 : Hid (W5.heap[w.heap.size]? = some (.cells #[.slice ad n cap] 33)) := blk_on K04.out hb
  have K15 : Hid (W5.heap[w.heap.size + 1]? = some (.cells #[.bool false] 4)) := blk_on K14.out hb
  have K25 : Hid (W5.heap[W4.heap.size]? = some (.cells #[.pointer (some ⟨t, 0, none⟩)] 27)) := by show _ = _; rw [hw5]; exact blk_new W4 _
  have HR5 : Hid (SrcU W5 (.slice (some ⟨W3.heap.size, 0, none⟩) n n) L) := (HR4.out.on hb).src
  have c0 : W5.cell? ⟨w.heap.size, 0, none⟩ = some (.slice ad n cap) := blk_cell K05.out rfl
  have hSm : Calls Try.prog 26 #[.slice (some ⟨W3.heap.size, 0, none⟩) n n, .slice ad n cap] W5 fun e w' => e = .returned (.bool true) ∧ Below W5.heap.size W5 w' := keepSame _ _ L W5 HR5.out (HS.out.keep HB5.out) (by rw [← Hn.out]; omega)
  have hnf := eq_nilF
  have hBn : Hid (w.heap.size + 1 < W4.heap.size) := blk_lt K14.out
  clear hb hw5 HB4 K04 K14 HR4
  generalize W4.heap.size = Bn at *
  generalize W3.heap.size = G3 at *
  go_wp2_with (fail)
  refine hSm.mono ?_
  rintro e W6 ⟨rfl, hb⟩
  have HB6 : Hid (Below w.heap.size w W6) := HB5.out.trans (hb.mono HB5.out.size)
  have K06 : Hid (W6.heap[w.heap.size]? = some (.cells #[.slice ad n cap] 33)) := blk_on K05.out hb
  have K16 : Hid (W6.heap[w.heap.size + 1]? = some (.cells #[.bool false] 4)) := blk_on K15.out hb
  have K26 : Hid (W6.heap[Bn]? = some (.cells #[.pointer (some ⟨t, 0, none⟩)] 27)) := blk_on K25.out hb
  clear hb hSm HB5 K05 K15 K25 HR5 c0 hnf
  go_upto_region 10 with (fail)
  refine loop_two (fun k a V => ∃ (KB : Nat) (ds : List Nat), a = { tmps := TFr (fun i => a.tmps.getD i undef) t (.slice ad n cap) w.heap.size (w.heap.size + 1) Bn KB, defers := ds.map dmk } ∧ ds.length = k ∧ Hid (Tst0 w (.slice ad n cap) t Bn KB k V) ∧ Hid (Mks ds V) ∧ Hid (∀ D ∈ ds, w.heap.size ≤ D)) ?start ?step ?fin
  case start =>
    exact ⟨W6.heap.size, [], rfl, rfl, ⟨blk_alloc K06.out _, blk_alloc K16.out _, blk_alloc K26.out _, blk_new W6 _, HB6.out.alloc HB6.out.size _⟩, ⟨List.Pairwise.nil, fun D h => by cases h⟩, fun D h => by cases h⟩
  case step =>
    rintro k a V hk2 ⟨KB, ds, ha, hdl, HT0, HM, HW⟩
    generalize (fun i => a.tmps.getD i undef) = f at ha
    subst ha
    unfold TFr
    clear K06 K16 K26 HB6
    have hk0 : (k : Int) < 2 := by omega
    have hq0 : V.cell? ⟨KB, 0, none⟩ = some (.int .i64 (k : Int)) := blk_cell HT0.out.2.2.2.1 rfl
    generalize hdm : ds.map dmk = dm
    go_wp2_with (fail)
    obtain ⟨V1, hV1⟩ : ∃ V1, V1 = V.alloc (.cells #[.int .i64 0] 3) := ⟨_, rfl⟩
    rw [← hV1]
    have hb1 : Below V.heap.size V V1 := by rw [hV1]; exact (Below.refl _ _).alloc (Nat.le_refl _) _
    have hz1 : V1.heap.size = V.heap.size + 1 := by rw [hV1]; simp
    have hT1 : Tst w (.slice ad n cap) t Bn KB V.heap.size k 0 V1 := ⟨HT0.out.on hb1, by rw [hV1]; exact blk_new V _⟩
    have hM1 : Mks ds V1 := HM.out.on hb1
    have hBnl : Bn < V.heap.size := blk_lt HT0.out.2.2.1
    have hKBl : KB < V.heap.size := blk_lt HT0.out.2.2.2.1
    have hRBl : w.heap.size + 1 < V.heap.size := blk_lt HT0.out.2.1
    have hdB : ∀ D ∈ ds, D < V.heap.size := fun D hD => by
      have h1 := HM.out.2 D hD
      rcases Nat.lt_or_ge D V.heap.size with h | h
      · exact h
      · rw [Array.getElem?_eq_none h] at h1; cases h1
    clear hV1 hb1 HT0 HM hq0
    generalize V.heap.size = NB at *
    have HT1 : Hid (Tst w (.slice ad n cap) t Bn KB NB k 0 V1) := hT1
    have HM1 : Hid (Mks ds V1) := hM1
    have hcn : V1.cell? ⟨Bn, 0, none⟩ = some (.pointer (some ⟨t, 0, none⟩)) := blk_cell hT1.1.2.2.1 rfl
    have hbw : Below w.heap.size w V1 := hT1.1.2.2.2.2
    clear hT1 hM1
    refine (wpIn_wide (n := 9)).1 ?_
    refine range_top 37 38 10 11 rfl (n₀ := NB) (by omega) (all_stops 8 (by decide) Bn NB t v M A L (by rw [← Hn.out]; exact hL) hbd V1 hBnl (by omega) (fun k e => by have := hown.out k e; omega) (by omega) hcn (HT.out.on hbw))
      (fun (pre : List Rux) (V : World) => Tst w (.slice ad n cap) t Bn KB NB k pre.length V ∧ V1.heap.size ≤ V.heap.size ∧ Mks ds V)
      (fun (cc : Code) (pre : List Rux) (V : World) => (cc = Code.exit 2 ∧ k = 0 ∧ pre.length = 2 ∧ Tst w (.slice ad n cap) t Bn KB NB k pre.length V ∧ V1.heap.size ≤ V.heap.size ∧ Mks ds V) ∨ ¬ (pre <+: allX L 0))
      ?hI ?hIx ?h0 ?assign (fun pre V hi => hi.2.1) ?body ?done ?stop
    case hI =>
      rintro s X Y row ⟨⟨⟨a1, a2, a3, a4, a5⟩, a6⟩, b1, b2⟩ hg hr
      have hr' : ∀ r, row = some r → ∃ o : Obj, X.heap[r]? = some o ∧ o.isCells = false := fun r e => (hr r e).2
      refine ⟨⟨⟨blk_kept a1 hg hr', blk_kept a2 hg hr', blk_kept a3 hg hr', blk_kept a4 hg hr', a5.grown hg (by have := a5.size; omega) (fun k e => by have := (hr k e).1; omega)⟩, blk_kept a6 hg hr'⟩, Nat.le_trans b1 hg.size, b2.1, fun D hD => ?_⟩
      rw [hg.block D (by have := hdB D hD; omega) (fun e => by have := (hr D e.symm).1; have := hdB D hD; omega)]
      exact b2.2 D hD
    case hIx =>
      rintro cc s X Y row (⟨c1, c2, c3, ⟨⟨a1, a2, a3, a4, a5⟩, a6⟩, b1, b2⟩ | c4) hg hr
      · have hr' : ∀ r, row = some r → ∃ o : Obj, X.heap[r]? = some o ∧ o.isCells = false := fun r e => (hr r e).2
        refine .inl ⟨c1, c2, c3, ⟨⟨blk_kept a1 hg hr', blk_kept a2 hg hr', blk_kept a3 hg hr', blk_kept a4 hg hr', a5.grown hg (by have := a5.size; omega) (fun k e => by have := (hr k e).1; omega)⟩, blk_kept a6 hg hr'⟩, Nat.le_trans b1 hg.size, b2.1, fun D hD => ?_⟩
        rw [hg.block D (by have := hdB D hD; omega) (fun e => by have := (hr D e.symm).1; have := hdB D hD; omega)]
        exact b2.2 D hD
      · exact .inr c4
    case h0 => exact ⟨HT1.out, Nat.le_refl _, HM1.out⟩
    case assign =>
      intro l pre x V K2 hi hz hK2
      simp only [List.setIfInBounds_toArray, List.set_cons_succ, List.set_cons_zero] at hK2 ⊢
      gi_wp2
      exact hK2
    case body =>
      rintro l' pre ⟨⟨i, p⟩, hp⟩ Bx V2 hl' ⟨r, hr⟩ hBx hX ⟨hT2, hz2, hM2⟩ hN
      simp only [List.setIfInBounds_toArray, List.set_cons_succ, List.set_cons_zero]
      have hX : V2.heap[Bx]? = some (.cells #[.int .i64 p.i, .int .u32 (p.s : Int), .int .i64 p.sl, .int .u32 (p.d : Int), .int .i64 p.dl, .int .u16 (p.p.1 : Int), .int .u16 (p.p.2 : Int), .int .u16 (p.q.1 : Int), .int .u16 (p.q.2 : Int), .int .u8 (p.m.1 : Int), .int .u8 (p.m.2 : Int), .int .i64 p.act] 43) := hX
      have hpl : pre.length < L.length := by rw [← allX_length L 0]; exact hN
      have hnx := fun h => pre_next (pre := pre) (x := ⟨(i, p), hp⟩) hbd h
      have hQr : ∀ a V', KeepsFrom V1.heap.size V2 V' → ¬ (pre ++ [⟨(i, p), hp⟩] <+: allX L 0) → ownPostG V1.heap.size (Below NB) (fun (pre : List Rux) (V : World) => Tst w (.slice ad n cap) t Bn KB NB k pre.length V ∧ V1.heap.size ≤ V.heap.size ∧ Mks ds V) (fun (cc : Code) (pre : List Rux) (V : World) => (cc = Code.exit 2 ∧ k = 0 ∧ pre.length = 2 ∧ Tst w (.slice ad n cap) t Bn KB NB k pre.length V ∧ V1.heap.size ≤ V.heap.size ∧ Mks ds V) ∨ ¬ (pre <+: allX L 0)) (pre ++ [⟨(i, p), hp⟩]) V2 .ret a V' := fun a V' hk hh => ⟨hk, .inr hh⟩
      have hQn : ∀ a V', KeepsFrom V1.heap.size V2 V' → Below NB V2 V' → Tst w (.slice ad n cap) t Bn KB NB k (pre ++ [⟨(i, p), hp⟩] : List Rux).length V' → V1.heap.size ≤ V'.heap.size → Mks ds V' → ownPostG V1.heap.size (Below NB) (fun (pre : List Rux) (V : World) => Tst w (.slice ad n cap) t Bn KB NB k pre.length V ∧ V1.heap.size ≤ V.heap.size ∧ Mks ds V) (fun (cc : Code) (pre : List Rux) (V : World) => (cc = Code.exit 2 ∧ k = 0 ∧ pre.length = 2 ∧ Tst w (.slice ad n cap) t Bn KB NB k pre.length V ∧ V1.heap.size ≤ V.heap.size ∧ Mks ds V) ∨ ¬ (pre <+: allX L 0)) (pre ++ [⟨(i, p), hp⟩]) V2 .normal a V' := fun a V' h1 h2 h3 h4 h5 => ⟨h1, h2, h3, h4, h5⟩
      have hQe : ∀ a V', KeepsFrom V1.heap.size V2 V' → k = 0 → (pre ++ [⟨(i, p), hp⟩] : List Rux).length = 2 → Tst w (.slice ad n cap) t Bn KB NB k (pre ++ [⟨(i, p), hp⟩] : List Rux).length V' → V1.heap.size ≤ V'.heap.size → Mks ds V' → ownPostG V1.heap.size (Below NB) (fun (pre : List Rux) (V : World) => Tst w (.slice ad n cap) t Bn KB NB k pre.length V ∧ V1.heap.size ≤ V.heap.size ∧ Mks ds V) (fun (cc : Code) (pre : List Rux) (V : World) => (cc = Code.exit 2 ∧ k = 0 ∧ pre.length = 2 ∧ Tst w (.slice ad n cap) t Bn KB NB k pre.length V ∧ V1.heap.size ≤ V.heap.size ∧ Mks ds V) ∨ ¬ (pre <+: allX L 0)) (pre ++ [⟨(i, p), hp⟩]) V2 (.exit 2) a V' := fun a V' h1 h2 h3 h4 h5 h6 => ⟨h1, .inl ⟨rfl, h2, h3, h4, h5, h6⟩⟩
      generalize hQ2 : ownPostG _ _ _ _ _ _ = Q2 at hQr hQn hQe ⊢
      clear hQ2 hr hl' hN
      have hlen : (pre ++ [⟨(i, p), hp⟩] : List Rux).length = pre.length + 1 := by simp
      rw [hlen] at hQn hQe
      have hnp : ¬ (i = pre.length ∧ p = L[pre.length]'hpl) → ¬ (pre ++ [⟨(i, p), hp⟩] <+: allX L 0) := fun hh h => by
        obtain ⟨hk, e⟩ := hnx h
        have e1 : i = pre.length := congrArg Prod.fst e
        have e2 : p = L[pre.length]'hk := congrArg Prod.snd e
        exact hh ⟨e1, e2⟩
      clear hnx hlen
      generalize (pre ++ [⟨(i, p), hp⟩] <+: allX L 0) = PX at hnp hQr
      obtain ⟨q, hqe⟩ : ∃ q, q = L[pre.length]'hpl := ⟨_, rfl⟩
      have hrg := (HS.out.keep hT2.1.2.2.2.2).rng.2 V2 (Below.refl _ _) pre.length hpl
      rw [← hqe] at hnp hrg
      clear hqe
      have hjn : (pre.length : Int) < (n : Int) := by have := Hn.out; omega
      have hjd : decide ((n : Int) ≤ (pre.length : Int)) = false := decide_eq_false (by omega)
      have hjd2 : decide (n ≤ pre.length) = false := decide_eq_false (by omega)
      have hjl : decide ((pre.length : Int) < (n : Int)) = true := decide_eq_true hjn
      have hje : ((pre.length : Int) != (pre.length : Int)) = false := by simp
      generalize pre.length = j at *
      obtain ⟨g, off, rfl, hrg⟩ := hrg
      have kcN : ∀ y : Kin V2, y.val.cell? ⟨NB, 0, none⟩ = some (.int .i64 (j : Int)) := fun y => cell_on1 y.is (blk_cell hT2.2 rfl)
      have kcL : ∀ y : Kin V2, y.val.cell? ⟨w.heap.size, 0, none⟩ = some (.slice (some ⟨g, off, none⟩) n cap) := fun y => cell_on1 y.is (blk_cell hT2.1.1 rfl)
      have HR2 : Hid (V2.heap[w.heap.size + 1]? = some (.cells #[.bool false] 4)) := hT2.1.2.1
      have HT2 : Hid (Tst w (.slice (some ⟨g, off, none⟩) n cap) t Bn KB NB k j V2) := hT2
      have HM2 : Hid (Mks ds V2) := hM2
      have hx0 : V2.rangeAt Bx 0 (encU p).toArray.toList := by have := World.rangeAt_of_block hX 0 12; simpa [encU] using this
      have hi1 : (Try.prog.info? 43).map (·.size) = some (encU p).toArray.size := infoXU
      have hi2 : (Try.prog.info? 43).map (·.size) = some (encU q).toArray.size := infoXU
      have hE : ∀ W : World, Sem.run Try.prog (binOp .neq 43 (.agg (encU p).toArray) (.agg (encU q).toArray)) W = .ok (.bool (!eqRu p q)) W := fun W => neRu_any p q W
      have hg0 : V2.rangeAt g (off + j * 12) (encU q).toArray.toList := hrg
      clear hrg hT2 hM2 hX hbw hcn
      by_cases hij : i = j
      · have hji := hij.symm
        clear hij
        subst hji
        by_cases hpq : p = q
        · rw [(eqRu_iff p q).2 hpq] at hE
          simp only [Bool.not_true] at hE
          clear hnp hQr
          generalize (encU p).toArray = A1 at *
          generalize (encU q).toArray = A2 at *
          have HX : Hid _ := hx0
          have HG : Hid _ := hg0
          have Hi1 : Hid _ := hi1
          have Hi2 : Hid _ := hi2
          clear hx0 hg0 hi1 hi2 hpq
          gi_upto_region 16 with (fail)
          have kne : Nonempty (Kin V2) := ⟨⟨_, Below.refl _ _⟩⟩
          refine wpIn_region_kinR V2 (Below.refl _ _) (by kernel_rfl) (by kernel_rfl) (by kernel_rfl) ?_
          iterate 10 (go_big_quiet_step (fail))
          refine wpQuiet_load_midG (by rfl) 43 (.tmp 11) rfl Bx 0 A1 rfl (range_kin HX.out) Try.underlying43 rfl Hi1.out ?_
          simp only [List.getElem_toArray, List.getElem_cons_succ, List.getElem_cons_zero, Act.put, List.setIfInBounds_toArray, List.set_cons_zero, List.set_cons_succ]
          iterate 3 (go_big_quiet_step (fail))
          refine wpQuiet_load_midG (by rfl) 43 (.tmp 52) rfl g (off + j * 12) A2 rfl (range_kin HG.out) Try.underlying43 rfl Hi2.out ?_
          simp only [List.getElem_toArray, List.getElem_cons_succ, List.getElem_cons_zero, Act.put, List.setIfInBounds_toArray, List.set_cons_zero, List.set_cons_succ]
          repeat (go_big_quiet_step (fail))
          refine wpQuiet_nil ?_
          rintro wq ⟨⟨xq, hxq⟩, hyq⟩
          have hq : Below V2.heap.size V2 wq := by rw [hyq]; exact hxq
          clear hyq hxq xq kne kcN kcL
          clear hE HX HG Hi1 Hi2
          have c9 : wq.cell? ⟨NB, 0, none⟩ = some (.int .i64 (j : Int)) := blk_cell (blk_on HT2.out.2 hq) rfl
          have f9 := blk_free (blk_on HT2.out.2 hq) 0
          have c8 : wq.cell? ⟨KB, 0, none⟩ = some (.int .i64 (k : Int)) := blk_cell (blk_on HT2.out.1.2.2.2.1 hq) rfl
          have hne8 : ¬ KB = NB := by omega
          have hw1 : IntKind.i64.wrap ((j : Int) + 1) = (j : Int) + 1 := by rw [IntKind.wrap_i64]; omega
          have hkf : KeepsFrom V1.heap.size V2 wq := ⟨hq.size, fun q o _ hq2 _ => by rw [hq.block q (blk_lt hq2)]; exact hq2⟩
          have HK : Hid (KeepsFrom V1.heap.size V2 (wq.setCell ⟨NB, 0, none⟩ (.int .i64 ((j : Int) + 1)))) := hkf.trans ((KeepsOthers.setCell _ _ _).from _)
          have HBe : Hid (Below NB V2 (wq.setCell ⟨NB, 0, none⟩ (.int .i64 ((j : Int) + 1)))) := (show Below NB V2 wq from hq.mono (by omega)).setCell (p := ⟨NB, 0, none⟩) (Nat.le_refl _) _
          have HTe : Hid (Tst w (.slice (some ⟨g, off, none⟩) n cap) t Bn KB NB k (j + 1) (wq.setCell ⟨NB, 0, none⟩ (.int .i64 ((j : Int) + 1)))) := by
            obtain ⟨⟨a1, a2, a3, a4, a5⟩, a6⟩ := HT2.out
            exact ⟨⟨blk_far (blk_on a1 hq) (by omega) _, blk_far (blk_on a2 hq) (by omega) _, blk_far (blk_on a3 hq) (by omega) _, blk_far (blk_on a4 hq) (by omega) _, (a5.trans (hq.mono a5.size)).setCell (p := ⟨NB, 0, none⟩) (by show w.heap.size ≤ NB; omega) _⟩, by simpa using blk_set (blk_on a6 hq) (j := 0) (.int .i64 ((j : Int) + 1))⟩
          have HSe : Hid (V1.heap.size ≤ (wq.setCell ⟨NB, 0, none⟩ (.int .i64 ((j : Int) + 1))).heap.size) := by show _ ≤ _; have := hq.size; simp; omega
          have HMe : Hid (Mks ds (wq.setCell ⟨NB, 0, none⟩ (.int .i64 ((j : Int) + 1)))) := by
            have h1 := HM2.out.on hq
            exact ⟨h1.1, fun D hD => blk_far (h1.2 D hD) (by have := hdB D hD; omega) _⟩
          have HQn : Hid _ := hQn
          have HQe : Hid _ := hQe
          clear hkf hQn hQe
          by_cases hk0' : k = 0
          · subst hk0'
            by_cases hj2 : j = 1
            · subst hj2
              gi_wp2_with (fail)
              exact HQe.out _ _ HK.out (by first | rfl | trivial) (by first | rfl | trivial) HTe.out HSe.out HMe.out
            · have hj2d : decide ((j : Int) + 1 = 2) = false := decide_eq_false (by omega)
              have hj2n : ¬ (j : Int) + 1 = 2 := by omega
              gi_wp2_with (fail)
              exact HQn.out _ _ HK.out HBe.out HTe.out HSe.out HMe.out
          · have hk0d : decide ((k : Int) = 0) = false := decide_eq_false (by omega)
            have hk0n : ¬ (k : Int) = 0 := by omega
            gi_wp2_with (fail)
            exact HQn.out _ _ HK.out HBe.out HTe.out HSe.out HMe.out
        · rw [eqRu_no hpq] at hE
          simp only [Bool.not_false] at hE
          have hnp1 := hnp (fun h => hpq h.2)
          clear hnp hQn hQe
          replace hQr := fun a V' h => hQr a V' h hnp1
          generalize (encU p).toArray = A1 at *
          generalize (encU q).toArray = A2 at *
          have HX : Hid _ := hx0
          have HG : Hid _ := hg0
          have Hi1 : Hid _ := hi1
          have Hi2 : Hid _ := hi2
          clear hx0 hg0 hi1 hi2 hpq
          gi_upto_region 16 with (fail)
          have kne : Nonempty (Kin V2) := ⟨⟨_, Below.refl _ _⟩⟩
          refine wpIn_region_kinR V2 (Below.refl _ _) (by kernel_rfl) (by kernel_rfl) (by kernel_rfl) ?_
          iterate 10 (go_big_quiet_step (fail))
          refine wpQuiet_load_midG (by rfl) 43 (.tmp 11) rfl Bx 0 A1 rfl (range_kin HX.out) Try.underlying43 rfl Hi1.out ?_
          simp only [List.getElem_toArray, List.getElem_cons_succ, List.getElem_cons_zero, Act.put, List.setIfInBounds_toArray, List.set_cons_zero, List.set_cons_succ]
          iterate 3 (go_big_quiet_step (fail))
          refine wpQuiet_load_midG (by rfl) 43 (.tmp 52) rfl g (off + j * 12) A2 rfl (range_kin HG.out) Try.underlying43 rfl Hi2.out ?_
          simp only [List.getElem_toArray, List.getElem_cons_succ, List.getElem_cons_zero, Act.put, List.setIfInBounds_toArray, List.set_cons_zero, List.set_cons_succ]
          repeat (go_big_quiet_step (fail))
          refine wpQuiet_nil ?_
          rintro wq ⟨⟨xq, hxq⟩, hyq⟩
          have hq : Below V2.heap.size V2 wq := by rw [hyq]; exact hxq
          clear hyq hxq xq kne kcN kcL
          clear hE HX HG Hi1 Hi2
          have y0 : wq.cell? ⟨w.heap.size + 1, 0, none⟩ = some (.bool false) := blk_cell (blk_on HR2.out hq) rfl
          have f0 := blk_free (blk_on HR2.out hq) 0
          have hkf : Hid (KeepsFrom V1.heap.size V2 wq) := ⟨hq.size, fun q o _ hq2 _ => by rw [hq.block q (blk_lt hq2)]; exact hq2⟩
          gi_wp2_with (fail)
          have X := hkf.out.trans ((KeepsOthers.setCell wq ⟨w.heap.size + 1, 0, none⟩ (.bool false)).from V1.heap.size)
          rw [hz1] at X
          exact X
      · have hnp1 := hnp (fun h => hij h.1)
        replace hQr := fun a V' h => hQr a V' h hnp1
        clear hnp hQn hQe hE hx0 hi1 hi2 hg0
        have hij' : ¬ (i : Int) = (j : Int) := by omega
        have hijb : ((i : Int) != (j : Int)) = true := by simp; omega
        have hijd : decide ((i : Int) = (j : Int)) = false := decide_eq_false hij'
        have hije : decide (i = j) = false := decide_eq_false hij
        gi_upto_region 16 with (fail)
        have kne : Nonempty (Kin V2) := ⟨⟨_, Below.refl _ _⟩⟩
        refine wpIn_region_kinR V2 (Below.refl _ _) (by kernel_rfl) (by kernel_rfl) (by kernel_rfl) ?_
        repeat (go_big_quiet_step (fail))
        refine wpQuiet_nil ?_
        rintro wq ⟨⟨xq, hxq⟩, hyq⟩
        have hq : Below V2.heap.size V2 wq := by rw [hyq]; exact hxq
        clear hyq hxq xq kne kcN kcL
        have y0 : wq.cell? ⟨w.heap.size + 1, 0, none⟩ = some (.bool false) := blk_cell (blk_on HR2.out hq) rfl
        have f0 := blk_free (blk_on HR2.out hq) 0
        have hkf : Hid (KeepsFrom V1.heap.size V2 wq) := ⟨hq.size, fun q o _ hq2 _ => by rw [hq.block q (blk_lt hq2)]; exact hq2⟩
        gi_wp2_with (fail)
        have X := hkf.out.trans ((KeepsOthers.setCell wq ⟨w.heap.size + 1, 0, none⟩ (.bool false)).from V1.heap.size)
        rw [hz1] at X
        exact X
    case done =>
      rintro D xs V3 hD hxs ⟨hT3, hz3, hM3⟩ hK
      have hxl : xs.length = n := by rw [hxs, allX_length]; exact Hn.out.symm
      rw [hxl] at hT3
      clear hxs hxl
      have HT3 : Hid (Tst w (.slice ad n cap) t Bn KB NB k n V3) := hT3
      have c9 : V3.cell? ⟨NB, 0, none⟩ = some (.int .i64 (n : Int)) := blk_cell HT3.out.2 rfl
      have c3 : V3.cell? ⟨w.heap.size, 0, none⟩ = some (.slice ad n cap) := blk_cell HT3.out.1.1 rfl
      have c8 : V3.cell? ⟨KB, 0, none⟩ = some (.int .i64 (k : Int)) := blk_cell HT3.out.1.2.2.2.1 rfl
      have hKl : KB < V3.heap.size := blk_lt HT3.out.1.2.2.2.1
      have hne8 : ¬ KB = V3.heap.size := by omega
      have hw1 : IntKind.i64.wrap ((k : Int) + 1) = (k : Int) + 1 := by rw [IntKind.wrap_i64]; omega
      have JT : Hid (Tst0 w (.slice ad n cap) t Bn V3.heap.size (k + 1) (V3.alloc (.cells #[.int .i64 ((k : Int) + 1)] 3))) := by
        obtain ⟨⟨a1, a2, a3, a4, a5⟩, a6⟩ := HT3.out
        have l1 := blk_lt a1
        have l2 := blk_lt a2
        have l3 := blk_lt a3
        exact ⟨blk_alloc a1 _, blk_alloc a2 _, blk_alloc a3 _, blk_new V3 _, a5.alloc a5.size _⟩
      have JM : Hid (Mks (D :: ds) (V3.alloc (.cells #[.int .i64 ((k : Int) + 1)] 3))) := by
        have lD : D < V3.heap.size := (Array.getElem?_eq_some_iff.1 hK).1
        refine ⟨List.pairwise_cons.2 ⟨fun E hE => by have := hdB E hE; omega, hM3.1⟩, fun E hE => ?_⟩
        rcases List.mem_cons.1 hE with rfl | hE
        · exact ((Below.refl _ V3).alloc (Nat.le_refl _) _).block _ lD |>.trans hK
        · have := hdB E hE
          exact ((Below.refl _ V3).alloc (Nat.le_refl _) _).block _ (by omega) |>.trans (hM3.2 E hE)
      have JW : Hid (∀ E ∈ D :: ds, w.heap.size ≤ E) := fun E hE => by
        rcases List.mem_cons.1 hE with rfl | hE
        · omega
        · exact HW.out E hE
      have Hdm : Hid (ds.map dmk = dm) := hdm
      have Hdl : Hid (ds.length = k) := hdl
      clear hK hM3 hT3 HT3 HT1 HM1 hcn hbw hdm hdl
      go_wp2_with (fail)
      exact ⟨V3.heap.size, D :: ds, by rw [← Hdm.out]; rfl, by simp [Hdl.out], JT.out, JM.out, JW.out⟩
    case stop =>
      rintro D cc pre V3 hD hpre (⟨rfl, hk00, hlen, hT3, hz3, hM3⟩ | hno) hK
      · subst hk00
        rw [hlen] at hT3
        have HT3 : Hid (Tst w (.slice ad n cap) t Bn KB NB 0 2 V3) := hT3
        have c9 : V3.cell? ⟨NB, 0, none⟩ = some (.int .i64 2) := blk_cell HT3.out.2 rfl
        have c3 : V3.cell? ⟨w.heap.size, 0, none⟩ = some (.slice ad n cap) := blk_cell HT3.out.1.1 rfl
        have c8 : V3.cell? ⟨KB, 0, none⟩ = some (.int .i64 0) := blk_cell HT3.out.1.2.2.2.1 rfl
        have hKl : KB < V3.heap.size := blk_lt HT3.out.1.2.2.2.1
        have hne8 : ¬ KB = V3.heap.size := by omega
        have JT : Hid (Tst0 w (.slice ad n cap) t Bn V3.heap.size (0 + 1) (V3.alloc (.cells #[.int .i64 1] 3))) := by
          obtain ⟨⟨a1, a2, a3, a4, a5⟩, a6⟩ := HT3.out
          have l1 := blk_lt a1
          have l2 := blk_lt a2
          have l3 := blk_lt a3
          exact ⟨blk_alloc a1 _, blk_alloc a2 _, blk_alloc a3 _, blk_new V3 _, a5.alloc a5.size _⟩
        have JM : Hid (Mks (D :: ds) (V3.alloc (.cells #[.int .i64 1] 3))) := by
          have lD : D < V3.heap.size := (Array.getElem?_eq_some_iff.1 hK).1
          refine ⟨List.pairwise_cons.2 ⟨fun E hE => by have := hdB E hE; omega, hM3.1⟩, fun E hE => ?_⟩
          rcases List.mem_cons.1 hE with rfl | hE
          · exact ((Below.refl _ V3).alloc (Nat.le_refl _) _).block _ lD |>.trans hK
          · have := hdB E hE
            exact ((Below.refl _ V3).alloc (Nat.le_refl _) _).block _ (by omega) |>.trans (hM3.2 E hE)
        have JW : Hid (∀ E ∈ D :: ds, w.heap.size ≤ E) := fun E hE => by
          rcases List.mem_cons.1 hE with rfl | hE
          · omega
          · exact HW.out E hE
        have Hdm : Hid (ds.map dmk = dm) := hdm
        have Hdl : Hid (ds.length = 0) := hdl
        clear hK hM3 hT3 HT3 HT1 HM1 hcn hbw hdm hdl
        refine wpIn_wide.2 ?_
        by_cases hn2 : n = 2
        · have hn2i : (n : Int) = 2 := by omega
          go_wp2_with (fail)
          exact ⟨V3.heap.size, D :: ds, by rw [← Hdm.out]; rfl, by simp [Hdl.out], JT.out, JM.out, JW.out⟩
        · have hn2i : ¬ (2 : Int) = (n : Int) := by omega
          have hn2j : ¬ (n : Int) = 2 := by omega
          go_wp2_with (fail)
          exact ⟨V3.heap.size, D :: ds, by rw [← Hdm.out]; rfl, by simp [Hdl.out], JT.out, JM.out, JW.out⟩
      · exact absurd hpre hno
  case fin =>
    rintro a V ⟨KB, ds, ha, hdl, HT0, HM, HW⟩
    generalize (fun i => a.tmps.getD i undef) = f at ha
    subst ha
    unfold TFr
    clear K06 K16 K26 HB6
    match ds, hdl, HM, HW with
    | [D2, D1], _, HM, HW =>
      have hq0 : V.cell? ⟨KB, 0, none⟩ = some (.int .i64 2) := blk_cell HT0.out.2.2.2.1 rfl
      have y0 : V.cell? ⟨w.heap.size + 1, 0, none⟩ = some (.bool false) := blk_cell HT0.out.2.1 rfl
      have f0 := blk_free HT0.out.2.1 0
      simp only [List.map_cons, List.map_nil, dmk]
      have HK2 : Hid (V.heap[D2]? = some (.deferred (some []))) := HM.out.2 D2 (by simp)
      have HK1 : Hid (V.heap[D1]? = some (.deferred (some []))) := HM.out.2 D1 (by simp)
      have HNe : Hid (D2 ≠ D1) := (List.pairwise_cons.1 HM.out.1).1 D1 (by simp)
      have HL2 : Hid (w.heap.size ≤ D2) := HW.out D2 (by simp)
      have HL1 : Hid (w.heap.size ≤ D1) := HW.out D1 (by simp)
      clear HM HW
      go_wp2_with (fail)
      have hK' := (KeepsOthers.setCell V ⟨w.heap.size + 1, 0, none⟩ (.bool true)).same D2 _ HK2.out rfl
      have hK'' := (KeepsOthers.setCell V ⟨w.heap.size + 1, 0, none⟩ (.bool true)).same D1 _ HK1.out rfl
      have hg8 := grownBy_putObj' (V.setCell ⟨w.heap.size + 1, 0, none⟩ (.bool true)) D2 (.deferred none)
      have hK8 := (hg8.block D1 (Array.getElem?_eq_some_iff.1 hK'').1 (by intro e; have := Option.some.inj e; exact HNe.out this.symm)).trans hK''
      refine ⟨by simp, .inl ⟨_, _, rfl, run_takeDeferred hK', ⟨by simp, .inl ⟨_, _, rfl, run_takeDeferred hK8, ?_⟩⟩⟩⟩
      have q1 := blk_set HT0.out.2.1 (j := 0) (.bool true)
      have q2 := blk_kept q1 hg8 (fun r e => by cases e; exact ⟨_, hK', rfl⟩)
      have q3 := blk_kept q2 (grownBy_putObj' _ D1 (.deferred none)) (fun r e => by cases e; exact ⟨_, hK8, rfl⟩)
      have q4 := blk_cell q3 (j := 0) (v := .bool true) (by simp)
      refine ⟨.bool true, ?_, rfl, ((HT0.out.2.2.2.2.setCell (p := ⟨w.heap.size + 1, 0, none⟩) (Nat.le_succ _) _).trans (belowK_b (w := w) (Nat.le_refl _) _ D2 _ _ HL2.out hK' rfl rfl)).trans (belowK_b (w := w) (Nat.le_refl _) _ D1 _ _ HL1.out hK8 rfl rfl)⟩
      simp [results, Try.results15, go_sem, q4]
end Go.Proofs.Ytlghbcdahnjcpaa
