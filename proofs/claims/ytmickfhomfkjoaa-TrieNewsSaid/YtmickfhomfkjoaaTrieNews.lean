/-
  For every width and number, trie.New makes a trie just if there may be one, and a trie that is none answers as the document says (P12.1); the examples of the document hold.
  Conditions: none; the law holds for every input.
-/
import Derived.Test.YtmickfhomfkjoaaTrAw
import Derived.Test.YtmickfhomfkjoaaTrFr
namespace Go.Proofs.Ytmickfhomfkjoaa
open Go.ChangeShapes Go.WideShapes Go.ChangeAt Go.RowKit Go.Joins
set_option linter.unusedVariables false
set_option linter.unusedSimpArgs false

set_option maxRecDepth 20000 in
set_option maxHeartbeats 1000000 in
theorem trieNews_walk (Wi : Int) (hW : I64 Wi) (Mi : Int) (hM : I64 Mi) (k : Nat) (hk : k < 4294967296) (n : Int) (hn : I64 n) (w : World) :
    Calls Try.prog 3 #[.int .i64 Wi, .int .i64 Mi, .int .u32 (k : Int), .int .i64 n] w fun e w' => e = .returned (.bool true) ∧ Below w.heap.size w w' := by
  have hr := fun V => rightC Wi Mi V
  cases h : okN Wi Mi
  · rw [h] at hr
    go_enter Try.func3, Try.ntmps3
    have Hw : Hid (Below w.heap.size w w) := Below.refl _ _
    go_wp2_with (fail)
    refine (new_no Wi Mi h _).mono ?_
    rintro e W1 ⟨rfl, hw⟩
    obtain rfl := hw.symm
    clear hw
    go_wp2_with (fail)
    refine (hr _).mono ?_
    rintro e W2 ⟨rfl, hw⟩
    obtain rfl := hw.symm
    clear hw
    go_wp2_with (fail)
    refine (get_nil k n _).mono ?_
    rintro e W3 ⟨rfl, hb⟩
    have HW3 : Hid (Below w.heap.size w W3) := Hw.out.trans (hb.mono Hw.out.size)
    clear Hw
    clear hb
    go_wp2_with (fail)
    refine (long_nil0 k _).mono ?_
    rintro e W4 ⟨rfl, hb⟩
    have HW4 : Hid (Below w.heap.size w W4) := HW3.out.trans (hb.mono HW3.out.size)
    clear HW3
    clear hb
    have xb := bel_al1 W4 (.cells #[.int .u32 0, .int .i64 0, .int .i64 0] 31)
    have KX := hidMk (blk_new W4 (.cells #[.int .u32 0, .int .i64 0, .int .i64 0] 31))
    go_wp2_with (fail)
    generalize W4.alloc (.cells #[.int .u32 0, .int .i64 0, .int .i64 0] 31) = WX at *
    have HWX : Hid (Below w.heap.size w WX) := HW4.out.trans (xb.mono HW4.out.size)
    clear HW4
    clear xb
    refine (put_nil k n 1 _).mono ?_
    rintro e w9 ⟨rfl, hw⟩
    obtain rfl := hw.symm
    clear hw
    obtain ⟨x0, x1, x2⟩ := blk3 KX.out
    go_wp2_with (fail)
    refine (cut_nil k n _).mono ?_
    rintro e W5 ⟨rfl, hw⟩
    obtain rfl := hw.symm
    clear hw
    go_wp2_with (fail)
    refine (aboveC none k n _).mono ?_
    rintro e w9 ⟨rfl, hw⟩
    obtain rfl := hw.symm
    clear hw
    clear x0 x1 x2
    go_wp2_with (fail)
    refine (same_nilA k n WX).mono ?_
    rintro e W6 ⟨rfl, hb⟩
    have HW6 : Hid (Below w.heap.size w W6) := HWX.out.trans (hb.mono HWX.out.size)
    clear HWX
    have KW6 := hidMk (blk_on KX.out hb)
    clear KX
    clear hb
    go_wp2_with (fail)
    refine (walkC none _).mono ?_
    rintro e w9 ⟨rfl, hw⟩
    obtain rfl := hw.symm
    clear hw
    go_wp2_with (fail)
    refine (same_nilW W6).mono ?_
    rintro e W7 ⟨rfl, hb⟩
    have HW7 : Hid (Below w.heap.size w W7) := HW6.out.trans (hb.mono HW6.out.size)
    clear HW6
    have KW7 := hidMk (blk_on KW6.out hb)
    clear KW6
    clear hb
    go_wp2_with (fail)
    refine (nodes_nil _).mono ?_
    rintro e W8 ⟨rfl, hw⟩
    obtain rfl := hw.symm
    clear hw
    go_wp2_with (fail)
    refine (arena_nil _).mono ?_
    rintro e W9 ⟨rfl, hw⟩
    obtain rfl := hw.symm
    clear hw
    go_wp2_with (fail)
    refine (awakeC _).mono ?_
    rintro e W10 ⟨rfl, hb⟩
    have HW10 : Hid (Below w.heap.size w W10) := HW7.out.trans (hb.mono HW7.out.size)
    clear HW7
    have KW10 := hidMk (blk_on KW7.out hb)
    clear KW7
    clear hb
    go_wp2_with (fail)
    go_ret
    exact ⟨rfl, HW10.out⟩
  · rw [h] at hr
    obtain ⟨Wd, rfl⟩ : ∃ Wd : Nat, Wi = (Wd : Int) := ⟨Wi.toNat, by unfold okN at h; have := of_decide_eq_true h; omega⟩
    obtain ⟨M, rfl⟩ : ∃ M : Nat, Mi = (M : Int) := ⟨Mi.toNat, by unfold okN at h; have := of_decide_eq_true h; omega⟩
    go_enter Try.func3, Try.ntmps3
    go_wp2_with (fail)
    refine (own_new Wd M h w w (Below.refl _ _)).mono ?_
    rintro e W0 ⟨t, rfl, o1, -⟩
    have OW0 := hidMk o1
    clear o1
    go_wp2_with (fail)
    refine (hr _).mono ?_
    rintro e W1 ⟨rfl, hw⟩
    obtain rfl := hw.symm
    clear hw
    go_wp2_with (fail)
    refine (get_nil k n _).mono ?_
    rintro e W2 ⟨rfl, hb⟩
    have OW2 := hidMk (OW0.out.on hb)
    clear OW0
    clear hb
    go_wp2_with (fail)
    refine (long_nil0 k _).mono ?_
    rintro e W3 ⟨rfl, hb⟩
    have OW3 := hidMk (OW2.out.on hb)
    clear OW2
    clear hb
    have xb := bel_al1 W3 (.cells #[.int .u32 0, .int .i64 0, .int .i64 0] 31)
    have KX := hidMk (blk_new W3 (.cells #[.int .u32 0, .int .i64 0, .int .i64 0] 31))
    go_wp2_with (fail)
    generalize W3.alloc (.cells #[.int .u32 0, .int .i64 0, .int .i64 0] 31) = WX at *
    have OWX := hidMk (OW3.out.on xb)
    clear OW3
    clear xb
    refine (put_nil k n 1 _).mono ?_
    rintro e w9 ⟨rfl, hw⟩
    obtain rfl := hw.symm
    clear hw
    obtain ⟨x0, x1, x2⟩ := blk3 KX.out
    go_wp2_with (fail)
    refine (cut_nil k n _).mono ?_
    rintro e W4 ⟨rfl, hw⟩
    obtain rfl := hw.symm
    clear hw
    go_wp2_with (fail)
    refine (aboveC none k n _).mono ?_
    rintro e w9 ⟨rfl, hw⟩
    obtain rfl := hw.symm
    clear hw
    clear x0 x1 x2
    go_wp2_with (fail)
    refine (same_nilA k n WX).mono ?_
    rintro e W5 ⟨rfl, hb⟩
    have OW5 := hidMk (OWX.out.on hb)
    clear OWX
    have KW5 := hidMk (blk_on KX.out hb)
    clear KX
    clear hb
    go_wp2_with (fail)
    refine (walkC none _).mono ?_
    rintro e w9 ⟨rfl, hw⟩
    obtain rfl := hw.symm
    clear hw
    go_wp2_with (fail)
    refine (same_nilW W5).mono ?_
    rintro e W6 ⟨rfl, hb⟩
    have OW6 := hidMk (OW5.out.on hb)
    clear OW5
    have KW6 := hidMk (blk_on KW5.out hb)
    clear KW5
    clear hb
    go_wp2_with (fail)
    refine (nodes_nil _).mono ?_
    rintro e W7 ⟨rfl, hw⟩
    obtain rfl := hw.symm
    clear hw
    go_wp2_with (fail)
    refine (arena_nil _).mono ?_
    rintro e W8 ⟨rfl, hw⟩
    obtain rfl := hw.symm
    clear hw
    go_wp2_with (fail)
    refine (awakeC _).mono ?_
    rintro e W9 ⟨rfl, hb⟩
    have OW9 := hidMk (OW6.out.on hb)
    clear OW6
    have KW9 := hidMk (blk_on KW6.out hb)
    clear KW6
    clear hb
    go_wp2_with (fail)
    refine (nodesC _ _ _ _ _ _ _ OW9.out.tr).mono ?_
    rintro e W10 ⟨rfl, hw⟩
    obtain rfl := hw.symm
    clear hw
    go_wp2_with (fail)
    refine (arenaC _ _ _ _ _ _ _ OW9.out.tr).mono ?_
    rintro e W11 ⟨rfl, hw⟩
    obtain rfl := hw.symm
    clear hw
    go_wp2_with (fail)
    refine (walkC _ _).mono ?_
    rintro e w9 ⟨rfl, hw⟩
    obtain rfl := hw.symm
    clear hw
    go_wp2_with (fail)
    refine (same_walk OW9.out (.slice none 0 0) 0 (RowE.nil _ 0).src (by decide) (by decide)).mono ?_
    rintro e W12 ⟨rfl, hb⟩
    have OW12 := hidMk (OW9.out.on hb)
    clear OW9
    have KW12 := hidMk (blk_on KW9.out hb)
    clear KW9
    clear hb
    have HF : Hid (Below w.heap.size w W12) := OW12.out.be
    go_wp2_with (fail)
    go_ret
    exact ⟨rfl, HF.out⟩

set_option maxRecDepth 100000 in
theorem trieNews_lifted (os : Os) (started : os.Started) (H : Type) (enc : TypeId × Value → H) :
    ReturnsInHanded {} Try.checked os 3 .any (Rows.trieNewsSpec.pre6 enc Try.prog Try.f3 Rows.trieNewsRow.domain false) (Rows.trieNewsSpec.post enc Try.prog Try.f3 false true false false) := by
  refine returnsInHanded_of_change (C := Try.checked) own started (by kernel_rfl) Try.func3
    (ChangeSpec.witness6 (enc := enc) (C := Try.checked) false ⟨#[], #[.int .i64 0, .int .i64 0, .int .u32 0, .int .i64 0], []⟩ 8 (by kernel_rfl) (by kernel_rfl) (by kernel_rfl) (by kernel_rfl)) ?_
  intro W base args ds gs before hval0 hW hcnd _
  have hval : ∀ (j : Nat) t v, Try.f3.params[j]? = some t → args[j]? = some v → Value.okWide Try.prog W .any base t v := hval0
  have hW' := hW
  obtain ⟨p, q, hA0, hV, rfl, hfz, hnd⟩ := hW
  have hA : DataW.TrodAll enc Try.prog W 0 (fun _ => true) true Try.f3.params.toList args.toList ds p := hA0
  rw [Try.params3] at hA hval
  obtain ⟨v0, vs0, d0, ds0, p0, q0, hargs, rfl, rfl, h0, r0⟩ := trodAll_cons hA
  obtain ⟨v1, vs1, d1, ds1, p1, q1, rfl, rfl, rfl, h1, r1⟩ := trodAll_cons r0
  obtain ⟨v2, vs2, d2, ds2, p2, q2, rfl, rfl, rfl, h2, r2⟩ := trodAll_cons r1
  obtain ⟨v3, vs3, d3, ds3, p3, q3, rfl, rfl, rfl, h3, r3⟩ := trodAll_cons r2
  obtain ⟨rfl, rfl, rfl⟩ := trodAll_nil r3
  obtain rfl : args = #[v0, v1, v2, v3] := by cases args; simp_all
  obtain ⟨rfl, rfl⟩ := trodVars_none hV
  have hlt0 : ∀ x ∈ p0, x.block < W.heap.size := fun x hx => by simpa using hW'.lt x (by simp [hx])
  obtain ⟨a0, rfl, _, _, w0⟩ := open_int Try.underlying3 (hval 0 3 v0 rfl rfl) h0
  have hlt1 : ∀ x ∈ p1, x.block < W.heap.size := fun x hx => by simpa using hW'.lt x (by simp [hx])
  obtain ⟨a1, rfl, _, _, w1⟩ := open_int Try.underlying3 (hval 1 3 v1 rfl rfl) h1
  have hlt2 : ∀ x ∈ p2, x.block < W.heap.size := fun x hx => by simpa using hW'.lt x (by simp [hx])
  obtain ⟨a2, rfl, _, _, w2⟩ := open_int Try.underlying22 (hval 2 22 v2 rfl rfl) h2
  obtain ⟨b2, rfl, t2⟩ := wf_u32 w2
  have hlt3 : ∀ x ∈ p3, x.block < W.heap.size := fun x hx => by simpa using hW'.lt x (by simp [hx])
  obtain ⟨a3, rfl, _, _, w3⟩ := open_int Try.underlying3 (hval 3 3 v3 rfl rfl) h3
  clear hA0 hval0
  simp only [List.append_nil] at hW'
  refine (trieNews_walk a0 (wf_sgn w0) a1 (wf_sgn w1) b2 t2 a3 (wf_sgn w3) W ).mono fun e W' ⟨he, bel⟩ => ?_
  subst he
  exact ⟨_, rfl, _, _, _, [], _, [], hW', trodAll_mk1 (shut_bool Try.underlying4 _), (trodAll_cons_mk (Below.trod laidOut (by kernel_rfl) (of_decide_eq_true (by kernel_rfl)) h0 bel hlt0) (trodAll_cons_mk (Below.trod laidOut (by kernel_rfl) (of_decide_eq_true (by kernel_rfl)) h1 bel hlt1) (trodAll_cons_mk (Below.trod laidOut (by kernel_rfl) (of_decide_eq_true (by kernel_rfl)) h2 bel hlt2) (trodAll_cons_mk (Below.trod laidOut (by kernel_rfl) (of_decide_eq_true (by kernel_rfl)) h3 bel hlt3) trodAll_mk0)))), rfl, bel.frame _, fun h => by cases h⟩

/-- The given statement. -/
theorem trieNews_holds : Rows.TrieNewsSaid :=
  OpenClaim.holds_of_wide 3 Try.f3 rfl rfl rfl rfl rfl rfl rfl ⟨rfl, rfl, rfl, rfl, rfl⟩ rfl rfl rfl rfl rfl (by kernel_rfl) Try.func3 (by kernel_rfl)
    (of_decide_eq_true (by kernel_rfl)) (by unfold Func.isWrapper; first | (rw [if_pos (by decide +kernel)]; kernel_rfl) | (rw [if_neg (by decide +kernel)]; exact ⟨rfl, rfl⟩))
    (fun os started H enc _ => trieNews_lifted os started H enc)
#print axioms trieNews_holds
end Go.Proofs.Ytmickfhomfkjoaa
