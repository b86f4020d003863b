/-
  The law CurveSorts answers true for every list of rules: Sort gives the places of the rules in the order of the walk, equal ones in the order of the list, and leaves the list as it was; each rule's point is the document's.
  Conditions: none; the law holds for every input.
-/
import Derived.Test.YtlfdlifmcabfjaaCvS
import Derived.Test.YtlfdlifmcabfjaaCvFo
namespace Go.Proofs.Ytlfdlifmcabfjaa
open Go.ChangeShapes Go.WideShapes Go.ChangeAt Go.RowKit Go.Joins
set_option linter.unusedVariables false
set_option linter.unusedSimpArgs false

theorem ord_yes {a b : Nat} {x y : Int} (h1 : Wd a x) (h2 : Wd b y) (h : x = y) : (FloatKind.f64.format.order a b == some .eq) = true := by
  rw [order_wd h1 h2, compare_eq]; exact decide_eq_true h
theorem row_cells {w : World} {b : Nat} {u : Value} {d : Array Int} {n : Nat} (hn : d.size = n) (h : w.ownsRow b 3 1 u d.size (eL d)) : ∃ (a2 : Option Addr) (c2 : Nat), u = .slice a2 n c2 ∧ ∀ k, k < n → ∃ g, a2 = some ⟨g, 0, none⟩ ∧ w.cell? ⟨g, k, none⟩ = some (.int .i64 d[k]!) := by
  subst hn
  rcases h.2 with ⟨hv, h0⟩ | ⟨g, cap, cur, hv, _⟩
  · exact ⟨none, 0, by rw [hv, h0], fun k hk => by omega⟩
  · subst hv
    exact ⟨some ⟨g, 0, none⟩, cap, rfl, fun k hk => ⟨g, rfl, by rw [h.cellAt k (by omega), eL_at hk]⟩⟩
set_option maxRecDepth 20000 in
set_option maxHeartbeats 8000000 in
theorem curveSorts_walk (l : List Ru) (v : Value) (bd : ∀ R ∈ l, BdR R) (w : World) (hs : SrcU w v l) :
    Calls Try.prog 7 #[v] w fun e w' => e = .returned (.bool true) ∧ Below w.heap.size w w' := by
  have HS : Hid (SrcU w v l) := hs
  have HBd : Hid (∀ R ∈ l, R.s < 4294967296 ∧ R.d < 4294967296) := fun R hR => ⟨(bd R hR).1, (bd R hR).2.1⟩
  obtain ⟨ad, cap, rfl, hcap, hat⟩ := hs
  obtain ⟨n, hn⟩ : ∃ n, n = l.length := ⟨_, rfl⟩
  rw [← hn] at hcap HS ⊢
  have Hn : Hid (n = l.length) := hn
  clear hn hat bd
  by_cases hl : n ≤ 2000
  · have hl1 : ¬ (2000 : Int) < (n : Int) := by omega
    have hll : l.length ≤ 2000 := by rw [← Hn.out]; exact hl
    have HL : Hid (l.length ≤ 2000) := hll
    clear hll
    go_enter Try.func7, Try.ntmps7
    go_wp2_with (fail)
    refine (lendC _ l w HS.out (by have := HL.out; omega)).mono ?_
    rintro e w1 ⟨x, g, rfl, hL, hg1, hg2, hb1⟩
    have H1 : Hid (Lent w1 x l g ∧ w.heap.size ≤ g ∧ g < w1.heap.size ∧ Below w.heap.size w w1) := ⟨hL, hg1, hg2, hb1⟩
    clear hL hg1 hg2 hb1
    go_wp2_with (fail)
    refine (sortC _ l w1 H1.out.1.src HL.out HBd.out).mono ?_
    rintro e w2 ⟨d', rfl, z', c', m1, m2, so', hb2⟩
    have H2 : Hid (d'.size = l.length ∧ (∀ k, k < l.length → w2.cell? ⟨w1.heap.size, k, none⟩ = some (.int .i64 d'[k]!)) ∧ Mb d' l.length ∧ So (ksL l) d' 0 l.length ∧ Below w1.heap.size w1 w2) := ⟨z', c', ⟨m1, m2⟩, so', hb2⟩
    clear z' c' m1 m2 so' hb2
    go_wp2_with (fail)
    have HB2 : Hid (Below w.heap.size w w2) := H1.out.2.2.2.trans (H2.out.2.2.2.2.mono H1.out.2.2.2.size)
    refine (backC _ x l g w2 ⟨H1.out.1.1, H1.out.1.2.on H2.out.2.2.2.2⟩ (HS.out.keep HB2.out) (by have := HL.out; omega)).mono ?_
    rintro e w3 ⟨rfl, hgr⟩
    have H3 : Hid (Below w.heap.size w w3 ∧ ∀ k, k < l.length → w3.cell? ⟨w1.heap.size, k, none⟩ = some (.int .i64 d'[k]!)) := by
      refine ⟨HB2.out.grown hgr HB2.out.size (fun k hk => by cases hk; exact H1.out.2.1), fun k hk => hgr.cell (H2.out.2.1 k hk) (fun e => ?_)⟩
      have h1 : w1.heap.size = g := by simpa using e
      have h2 := H1.out.2.2.1
      omega
    clear hgr
    go_wp2_with (fail)
    refine (refSortC _ l w3 (HS.out.keep H3.out.1) HL.out HBd.out).mono ?_
    rintro e w4 ⟨u, d, rfl, z, hrow, hm, hso, hb4⟩
    obtain ⟨a2, c2, rfl, hc2⟩ := row_cells z hrow
    have H4 : Hid (Below w.heap.size w w4 ∧ (∀ k, k < l.length → w4.cell? ⟨w1.heap.size, k, none⟩ = some (.int .i64 d'[k]!)) ∧ (∀ k, k < l.length → ∃ g, a2 = some ⟨g, 0, none⟩ ∧ w4.cell? ⟨g, k, none⟩ = some (.int .i64 d'[k]!))) := by
      have E := so_uniq hso H2.out.2.2.2.1 hm.1 hm.2 H2.out.2.2.1.1 H2.out.2.2.1.2
      refine ⟨H3.out.1.trans (hb4.mono H3.out.1.size), fun k hk => cell_on1 hb4 (H3.out.2 k hk), fun k hk => ?_⟩
      rw [← E k hk]; exact hc2 k hk
    clear z hrow hm hso hb4 hc2 H3 H2 H1 HB2
    have h0n : (n : Int) ≤ 2000 := by omega
    go_wp2_with (fail)
    go_loopw [7] (fun vi wr => ∃ i : Nat, i ≤ n ∧ vi = .int .i64 (i : Int) ∧ Hid (Below w4.heap.size w4 wr)) (fun vi _ => n - (intOf vi).toNat)
    case atStart => exact ⟨0, Nat.zero_le _, rfl, Below.refl _ _⟩
    case round =>
      obtain ⟨i, hi, rfl, hb⟩ := hrel
      by_cases hlt : i < n
      · have hlti : (i : Int) < (n : Int) := by omega
        have hltL : i < l.length := by rw [← Hn.out]; exact hlt
        obtain ⟨p, hp⟩ : ∃ p, p = l[i]'hltL := ⟨_, rfl⟩
        obtain ⟨b1, b2⟩ := HBd.out p (by rw [hp]; exact List.getElem_mem hltL)
        have hrg := (HS.out.keep (H4.out.1.trans (hb.out.mono H4.out.1.size))).rng.2
        have hr1 := hrg wr (Below.refl _ _) i hltL
        obtain ⟨g, off, rfl, _⟩ := hr1
        have hrg' : ∀ W, Below wr.heap.size wr W → W.rangeAt g (off + i * 12) (encU p).toArray.toList := fun W hW => by
          obtain ⟨g', off', e, h⟩ := hrg W hW i hltL
          cases e
          rw [← hp] at h
          exact h
        have HRg : Hid (∀ W, Below wr.heap.size wr W → W.rangeAt g (off + i * 12) (encU p).toArray.toList) := hrg'
        have hPt : ∀ W, Calls Try.prog 22 #[.agg (encU p).toArray] W _ := fun W => pointC p b1 b2 W
        have hOf : ∀ W, Calls Try.prog 23 #[.agg (encU p).toArray] W _ := fun W => ofC p b1 b2 W
        obtain ⟨s1, s2, s3, s4⟩ := pt_sq b1 b2
        have hN := fun W => number_any (ptR p).1 (ptR p).2 W
        have o1 : (FloatKind.f64.format.order (FL (ptR p).1) (FL (ptR p).1) == some .eq) = true := ord_yes (wd_FL (by have : (2 : Int) ^ 16 = 65536 := rfl; omega)) (wd_FL (by have : (2 : Int) ^ 16 = 65536 := rfl; omega)) rfl
        have o2 : (FloatKind.f64.format.order (FL (ptR p).2) (FL (ptR p).2) == some .eq) = true := ord_yes (wd_FL (by have : (2 : Int) ^ 16 = 65536 := rfl; omega)) (wd_FL (by have : (2 : Int) ^ 16 = 65536 := rfl; omega)) rfl
        have hsz : (encU p).toArray.size = 12 := by simp [encU]
        clear hrg hrg' hp b1 b2 s1 s2 s3 s4
        unfold CX at hPt hN
        generalize (encU p).toArray = A at *
        generalize (ptR p).1 = px at *
        generalize (ptR p).2 = py at *
        have hiA : (Try.prog.info? 60).map (·.size) = some A.size := by rw [hsz]; exact infoXU
        have Hi : Hid _ := hiA
        clear hiA hsz
        go_upto_region 11 with (first | (refine wpList_load_mid rfl 60 (.tmp 29) rfl g (off + i * 12) A rfl (HRg.out _ (Below.refl _ _)) Try.underlying60 rfl Hi.out ?_) | (go_at_call 22; refine (hPt _).mono ?_; rintro e1 w5 ⟨rfl, hb5⟩; replace hb5 : Hid _ := hb5))
        go_wp2_with (first | (refine wpList_load_mid rfl 60 (.tmp 35) rfl g (off + i * 12) A rfl (HRg.out _ hb5.out) Try.underlying60 rfl Hi.out ?_) | (go_at_call 23; refine (hOf _).mono ?_; rintro e1 w6 ⟨rfl, hb6⟩; replace hb6 : Hid _ := hb6) | (go_at_call 12; refine (hN _).mono ?_; rintro e1 w7 ⟨rfl, hb7⟩; replace hb7 : Hid _ := hb7))
        go_roundw
        case rel => exact ⟨i + 1, by omega, by go_num, hb.out.trans ((hb5.out.trans ((hb6.out.trans (hb7.out.mono hb6.out.size)).mono hb5.out.size)).mono hb.out.size)⟩
        case measure => simp [intOf]; omega
      · obtain rfl : i = n := by omega
        have hni : ¬ (i : Int) < (i : Int) := by omega
        have hI := intsC (some ⟨w1.heap.size, 0, none⟩) a2 l.length l.length c2 (fun k => d'[k]!) wr HL.out (fun k hk => ⟨_, rfl, cell_on1 hb.out (H4.out.2.1 k hk)⟩) (fun k hk => by obtain ⟨g', e, h⟩ := H4.out.2.2 k hk; exact ⟨g', e, cell_on1 hb.out h⟩)
        go_wp2_with (fail)
        refine (awakeC _).mono ?_
        rintro e w' ⟨rfl, hw⟩; obtain rfl := hw.symm; clear hw
        go_wp2_with (fail)
        refine hI.mono ?_
        rintro e w8 ⟨rfl, hb8⟩
        have HF : Hid (Below w.heap.size w w8) := (H4.out.1.trans (hb.out.mono H4.out.1.size)).trans (hb8.mono ((H4.out.1.trans (hb.out.mono H4.out.1.size)).size))
        clear hb8
        go_wp2_with (fail)
        go_ret
        exact ⟨rfl, HF.out⟩
  · have hl1 : (2000 : Int) < (n : Int) := by omega
    go_enter Try.func7, Try.ntmps7
    go_wp2
    go_ret
    exact ⟨rfl, Below.refl _ _⟩

set_option maxRecDepth 100000 in
theorem curveSorts_lifted (os : Os) (started : os.Started) (H : Type) (enc : TypeId × Value → H) :
    ReturnsInHanded {} Try.checked os 7 .any (Rows.curveSortsSpec.pre6 enc Try.prog Try.f7 Rows.curveSortsRow.domain false) (Rows.curveSortsSpec.post enc Try.prog Try.f7 false true false false) := by
  refine returnsInHanded_of_change (C := Try.checked) own started (by kernel_rfl) Try.func7
    (ChangeSpec.witness6 (enc := enc) (C := Try.checked) false ⟨#[], #[.slice none 0 0], []⟩ 8 (by kernel_rfl) (by kernel_rfl) (by kernel_rfl) (by kernel_rfl)) ?_
  intro W base args ds gs before hval0 hW hcnd _
  have hval : ∀ (j : Nat) t v, Try.f7.params[j]? = some t → args[j]? = some v → Value.okWide Try.prog W .any base t v := hval0
  have hW' := hW
  obtain ⟨p, q, hA0, hV, rfl, hfz, hnd⟩ := hW
  have hA : DataW.TrodAll enc Try.prog W 0 (fun _ => true) true Try.f7.params.toList args.toList ds p := hA0
  rw [Try.params7] at hA hval
  obtain ⟨v0, vs0, d0, ds0, p0, q0, hargs, rfl, rfl, h0, r0⟩ := trodAll_cons hA
  obtain ⟨rfl, rfl, rfl⟩ := trodAll_nil r0
  obtain rfl : args = #[v0] := by cases args; simp_all
  obtain ⟨rfl, rfl⟩ := trodVars_none hV
  have hlt0 : ∀ x ∈ p0, x.block < W.heap.size := fun x hx => by simpa using hW'.lt x (by simp [hx])
  obtain ⟨l0, s0, bd0⟩ := open_rus (hval 0 44 v0 rfl rfl) h0
  clear hA0 hval0
  simp only [List.append_nil] at hW'
  refine (curveSorts_walk l0 v0 bd0 W s0).mono fun e W' ⟨he, bel⟩ => ?_
  subst he
  exact ⟨_, rfl, _, _, _, [], _, [], hW', trodAll_mk1 (shut_bool Try.underlying4 _), (trodAll_cons_mk (Below.trod laidOut (by kernel_rfl) (of_decide_eq_true (by kernel_rfl)) h0 bel hlt0) trodAll_mk0), rfl, bel.frame _, fun h => by cases h⟩

/-- The given statement. -/
theorem curveSorts_holds : Rows.CurveSortsSaid :=
  OpenClaim.holds_of_wide 7 Try.f7 rfl rfl rfl rfl rfl rfl rfl ⟨rfl, rfl, rfl, rfl, rfl⟩ rfl rfl rfl rfl rfl (by kernel_rfl) Try.func7 (by kernel_rfl)
    (of_decide_eq_true (by kernel_rfl)) (by unfold Func.isWrapper; first | (rw [if_pos (by decide +kernel)]; kernel_rfl) | (rw [if_neg (by decide +kernel)]; exact ⟨rfl, rfl⟩))
    (fun os started H enc _ => curveSorts_lifted os started H enc)
#print axioms curveSorts_holds
end Go.Proofs.Ytlfdlifmcabfjaa
