/-
 Whatever configuration, rules and headers are handed in: an engine of cuts that is set with these rules refuses them as the document says, or answers each header as the first match, within the document's bounds (P18.2, P18.3); the examples of the document hold.
 Conditions: none; the law holds for every input.
-/
import Derived.Test.YtgokmkholjfhbaaGreatPkBX
import Derived.Test.YtgokmkholjfhbaaGreatPkBP
namespace Go.Proofs.YtgokmkholjfhbaaGreat
open Go.ChangeShapes Go.WideShapes Go.ChangeAt Go.RowKit Go.Joins
set_option linter.unusedVariables false
set_option linter.unusedSimpArgs false

theorem srcO_one (o : Opp) (w : World) {B : Nat} (h : w.heap[B]? = some (.cells (encO o).toArray 66 (0, 0))) : SrcO w (.slice (some ⟨B, 0, none⟩) 1 1) [o] := by
 refine ⟨some ⟨B, 0, none⟩, 1, rfl, ⟨Nat.le_refl _, fun e => by cases e⟩, fun _ => ⟨B, 0, rfl, fun k hk j hj => ?_⟩⟩
 have hk0 : k = 0 := by simp at hk; exact hk
 subst hk0
 have hl : j < (encO o).length := hj
 have : (encO o).toArray[j]? = some ((encO o)[j]'hl) := by simp [hl]
 rw [show 0 + (0 * 21 + j) = j by omega, blk_cell h this]
 simp [hl]
set_option maxRecDepth 20000 in
set_option maxHeartbeats 4000000 in
theorem cutsSets_walk (c : Cf) (bc : BdC c) (l : List Ru) (v : Value) (bl : ∀ R ∈ l, BdR R) (hds : List Hd) (hv : Value) (t2 : True) (w : World) (s1 : SrcU w v l) (s2 : SrcH w hv hds ∧ ∀ R ∈ hds, OkH R) :
  Calls Tryz.prog 5 #[.agg #[.int .i64 c.m, .int .i64 c.a, .int .i64 c.p, .int .i64 c.g, .int .i64 c.t, .int .i64 c.b, .int .i64 c.d], v, hv] w fun e w' => e = .returned (.bool true) ∧ Below w.heap.size w w' := by
 have HS : Hid (SrcU w v l) := s1
 have HH : Hid (SrcH w hv hds ∧ ∀ R ∈ hds, OkH R) := s2
 have Hb : Hid (∀ R ∈ l, BdR R) := bl
 obtain ⟨ad, cap, hve, _, _⟩ := s1
 obtain ⟨n, hn⟩ : ∃ n, n = l.length := ⟨_, rfl⟩
 rw [← hn] at hve
 subst hve
 obtain ⟨adh, caph, hhe, _, _⟩ := s2.1
 obtain ⟨nh, hnh⟩ : ∃ n, n = hds.length := ⟨_, rfl⟩
 rw [← hnh] at hhe
 subst hhe
 have HB0 : Hid (Below w.heap.size w (w.alloc (.cells #[.int .i64 c.m, .int .i64 c.a, .int .i64 c.p, .int .i64 c.g, .int .i64 c.t, .int .i64 c.b, .int .i64 c.d] 24))) := (Below.refl _ _).alloc (Nat.le_refl _) _
 have Kc0 : Hid ((w.alloc (.cells #[.int .i64 c.m, .int .i64 c.a, .int .i64 c.p, .int .i64 c.g, .int .i64 c.t, .int .i64 c.b, .int .i64 c.d] 24)).heap[w.heap.size]? = some (.cells #[.int .i64 c.m, .int .i64 c.a, .int .i64 c.p, .int .i64 c.g, .int .i64 c.t, .int .i64 c.b, .int .i64 c.d] 24 (0, 0))) := blk_new w _
 clear hn hnh bl s2
 go_enter Tryz.func5, Tryz.ntmps5
 go_upto_region 1 with (fail)
 obtain ⟨U0, hU0⟩ : ∃ U, U = w.alloc (.cells #[.int .i64 c.m, .int .i64 c.a, .int .i64 c.p, .int .i64 c.g, .int .i64 c.t, .int .i64 c.b, .int .i64 c.d] 24) := ⟨_, rfl⟩
 rw [← hU0] at HB0 Kc0 ⊢
 clear hU0
 have q0 : U0.cell? ⟨w.heap.size, 0, none⟩ = some (.int .i64 c.m) := blk_cell Kc0.out rfl
 have q1 : U0.cell? ⟨w.heap.size, 1, none⟩ = some (.int .i64 c.a) := blk_cell Kc0.out rfl
 have q2 : U0.cell? ⟨w.heap.size, 2, none⟩ = some (.int .i64 c.p) := blk_cell Kc0.out rfl
 have q3 : U0.cell? ⟨w.heap.size, 3, none⟩ = some (.int .i64 c.g) := blk_cell Kc0.out rfl
 have q4 : U0.cell? ⟨w.heap.size, 4, none⟩ = some (.int .i64 c.t) := blk_cell Kc0.out rfl
 have q5 : U0.cell? ⟨w.heap.size, 5, none⟩ = some (.int .i64 c.b) := blk_cell Kc0.out rfl
 have q6 : U0.cell? ⟨w.heap.size, 6, none⟩ = some (.int .i64 c.d) := blk_cell Kc0.out rfl
 have HB1 : Hid (Below w.heap.size w (U0.alloc (.cells #[.int .i64 4, .int .i64 0, .int .i64 0, .int .i64 0, .int .u32 0, .int .i64 0, .int .u32 0, .int .i64 0, .int .u16 0, .int .u16 0, .int .u16 0, .int .u16 0, .int .u8 0, .int .u8 0, .int .i64 0, .int .u32 0, .int .u32 0, .int .u16 0, .int .u16 0, .int .u8 0, .slice ad n cap] 66))) := HB0.out.alloc HB0.out.size _
 have KO : Hid ((U0.alloc (.cells #[.int .i64 4, .int .i64 0, .int .i64 0, .int .i64 0, .int .u32 0, .int .i64 0, .int .u32 0, .int .i64 0, .int .u16 0, .int .u16 0, .int .u16 0, .int .u16 0, .int .u8 0, .int .u8 0, .int .i64 0, .int .u32 0, .int .u32 0, .int .u16 0, .int .u16 0, .int .u8 0, .slice ad n cap] 66)).heap[U0.heap.size]? = some (.cells #[.int .i64 4, .int .i64 0, .int .i64 0, .int .i64 0, .int .u32 0, .int .i64 0, .int .u32 0, .int .i64 0, .int .u16 0, .int .u16 0, .int .u16 0, .int .u16 0, .int .u8 0, .int .u8 0, .int .i64 0, .int .u32 0, .int .u32 0, .int .u16 0, .int .u16 0, .int .u8 0, .slice ad n cap] 66 (0, 0))) := blk_new U0 _
 go_wp2_with (go_at_call 4; fail)
 have ho : BdO (U0.alloc (.cells #[.int .i64 4, .int .i64 0, .int .i64 0, .int .i64 0, .int .u32 0, .int .i64 0, .int .u32 0, .int .i64 0, .int .u16 0, .int .u16 0, .int .u16 0, .int .u16 0, .int .u8 0, .int .u8 0, .int .i64 0, .int .u32 0, .int .u32 0, .int .u16 0, .int .u16 0, .int .u8 0, .slice ad n cap] 66)) ⟨4, 0, 0, ruZ, ⟨0, 0, 0, 0, 0⟩, .slice ad n cap, l⟩ := ⟨show I64 4 by unfold I64; decide, show I64 0 by unfold I64; decide, show I64 0 by unfold I64; decide, show BdR ruZ by unfold BdR I64 ruZ; decide, show OkH ⟨0, 0, 0, 0, 0⟩ by unfold OkH; decide, HS.out.keep HB1.out, Hb.out⟩
 refine (playsC c bc _ _ [⟨4, 0, 0, ruZ, ⟨0, 0, 0, 0, 0⟩, .slice ad n cap, l⟩] hds _ (srcO_one _ _ KO.out) (fun o h => by rw [List.mem_singleton.1 h]; exact ho) (HH.out.1.keep HB1.out) HH.out.2).mono ?_
 rintro e U2 ⟨rfl, hb⟩
 have HB2 : Hid (Below w.heap.size w U2) := HB1.out.trans (hb.mono HB1.out.size)
 clear hb
 go_wp2_with (fail)
 go_ret
 exact ⟨rfl, HB2.out⟩

set_option maxRecDepth 100000 in
theorem cutsSets_lifted (os : Os) (started : os.Started) (H : Type) (enc : TypeId × Value → H) :
  ReturnsInHanded {} Tryz.checked os 5 .any (Rows.cutsSetsSpec.pre6 enc Tryz.prog Tryz.f5 Rows.cutsSetsRow.domain false) (Rows.cutsSetsSpec.post enc Tryz.prog Tryz.f5 false true false false) := by
 refine returnsInHanded_of_change (C := Tryz.checked) own started (by kernel_rfl) Tryz.func5
  (ChangeSpec.witness6 (enc := enc) (C := Tryz.checked) false ⟨#[], #[.agg #[.int .i64 0, .int .i64 0, .int .i64 0, .int .i64 0, .int .i64 0, .int .i64 0, .int .i64 0], .slice none 0 0, .slice none 0 0], []⟩ 8 (by kernel_rfl) (by kernel_rfl) (by kernel_rfl) (by kernel_rfl)) ?_
 intro W base args ds gs before hval0 hW hcnd _
 have hval : ∀ (j : Nat) t v, Tryz.f5.params[j]? = some t → args[j]? = some v → Value.okWide Tryz.prog W .any base t v := hval0
 have hW' := hW
 obtain ⟨p, q, hA0, hV, rfl, hfz, hnd⟩ := hW
 have hA : DataW.TrodAll enc Tryz.prog W 0 (fun _ => true) true Tryz.f5.params.toList args.toList ds p := hA0
 rw [Tryz.params5] at hA hval
 obtain ⟨v0, vs0, d0, ds0, p0, q0, hargs, rfl, rfl, h0, r0⟩ := trodAll_cons hA
 obtain ⟨v1, vs1, d1, ds1, p1, q1, rfl, rfl, rfl, h1, r1⟩ := trodAll_cons r0
 obtain ⟨v2, vs2, d2, ds2, p2, q2, rfl, rfl, rfl, h2, r2⟩ := trodAll_cons r1
 obtain ⟨rfl, rfl, rfl⟩ := trodAll_nil r2
 obtain rfl : args = #[v0, v1, v2] := by cases args; simp_all
 obtain ⟨rfl, rfl⟩ := trodVars_none hV
 have hlt0 : ∀ x ∈ p0, x.block < W.heap.size := fun x hx => by simpa using hW'.lt x (by simp [hx])
 obtain ⟨g0, rfl, o0⟩ := open_cf (hval 0 24 v0 rfl rfl) h0
 have hlt1 : ∀ x ∈ p1, x.block < W.heap.size := fun x hx => by simpa using hW'.lt x (by simp [hx])
 obtain ⟨l1, s1, bd1⟩ := open_rus (hval 1 56 v1 rfl rfl) h1
 have hlt2 : ∀ x ∈ p2, x.block < W.heap.size := fun x hx => by simpa using hW'.lt x (by simp [hx])
 obtain ⟨l2, s2, bd2⟩ := open_hds (hval 2 47 v2 rfl rfl) h2
 clear hA0 hval0
 simp only [List.append_nil] at hW'
 refine (cutsSets_walk g0 o0 l1 v1 bd1 l2 v2 bd2 W s1 s2).mono fun e W' ⟨he, bel⟩ => ?_
 subst he
 exact ⟨_, rfl, _, _, _, [], _, [], hW', trodAll_mk1 (shut_bool Tryz.underlying4 _), (trodAll_cons_mk (Below.trod laidOut (by kernel_rfl) (of_decide_eq_true (by kernel_rfl)) h0 bel hlt0) (trodAll_cons_mk (Below.trod laidOut (by kernel_rfl) (of_decide_eq_true (by kernel_rfl)) h1 bel hlt1) (trodAll_cons_mk (Below.trod laidOut (by kernel_rfl) (of_decide_eq_true (by kernel_rfl)) h2 bel hlt2) trodAll_mk0))), rfl, bel.frame _, fun h => by cases h⟩

/-- The given statement. -/
theorem cutsSets_holds : Rows.CutsSetsSaid :=
 OpenClaim.holds_of_wide 5 Tryz.f5 rfl rfl rfl rfl rfl rfl rfl ⟨rfl, rfl, rfl, rfl, rfl⟩ rfl rfl rfl rfl rfl (by kernel_rfl) Tryz.func5 (by kernel_rfl)
  (of_decide_eq_true (by kernel_rfl)) (by unfold Func.isWrapper; first | (rw [if_pos (by decide +kernel)]; kernel_rfl) | (rw [if_neg (by decide +kernel)]; exact ⟨rfl, rfl⟩))
  (fun os started H enc _ => cutsSets_lifted os started H enc)
#print axioms cutsSets_holds
end Go.Proofs.YtgokmkholjfhbaaGreat
