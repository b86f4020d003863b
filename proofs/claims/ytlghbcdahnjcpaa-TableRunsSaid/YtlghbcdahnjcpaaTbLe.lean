/-
  quintetkeep.Back; Rules with its capacity.
-/
import Derived.Test.YtlghbcdahnjcpaaTbLd
namespace Go.Proofs.Ytlghbcdahnjcpaa
open Go.RowKit
set_option linter.unusedVariables false
set_option linter.unusedSimpArgs false

theorem rowU_rng {w : World} {b g n cap : Nat} {l : List Ru} (h : RowU w b (.slice (some ⟨g, 0, none⟩) n cap) l) (k : Nat) (hk : k < l.length) : w.rangeAt g (k * 12) (encU (l[k]'hk)) := by
  obtain ⟨_, r⟩ := h.src.rng
  obtain ⟨g', off, e, hr⟩ := r w (Below.refl _ _) k hk
  cases e
  simpa using hr
theorem wpQuiet_load_midG {P : Program} {ops : Array Oper} {C : World → Prop} {Q : Act → Prop} {rest : List Oper} {op : Oper} {a : Act} (hw : Region.wanted op (yielded ops a.tmps) = true) (ty : TypeId) (x : Operand) (ho : op.op = .load ty x)
    (B o : Nat) (cs : Array Value) (hx : a.eval x = .pointer (some ⟨B, o, none⟩)) (h : ∀ w, C w → w.rangeAt B o cs.toList) {d : TypeDesc} (hu : P.underlying ty = some d) (hd : d.isRow = true) (hi : (P.info? ty).map (·.size) = some cs.size)
    (hk : wpQuiet P ops C Q rest (a.put op.dst (.agg cs))) : wpQuiet P ops C Q (op :: rest) a := by
  unfold wpQuiet
  rw [if_pos hw]
  refine ⟨_, fun w hw => ?_, hk⟩
  have hl := run_loadVar_mid (P := P) w B o ty cs.toList d (h w hw) hu hd (by simpa using hi)
  unfold Oper.quietAt execOp
  simp only [ho, hx, Instr.loadAt, Instr.sureAddr, Sem.run_bind, Sem.run_pure, Result.andThen_ok, hl]
  exact ⟨rfl, rfl⟩
set_option maxRecDepth 20000 in
set_option maxHeartbeats 8000000 in
theorem backC (u x : Value) (l : List Ru) (g : Nat) (w : World) (hx : Lent w x l g) (hu : SrcU w u l) (hl : l.length ≤ 200000) :
    Calls Try.prog 36 #[x, u] w fun e w' => e = .returned (.bool true) ∧ w.grownBy w' (some g) := by
  have hM0 : ∀ W, Calls Try.prog 49 #[.int .i64 0] W fun e w' => e = .returned (.agg (encU (mkR 0)).toArray) ∧ Below W.heap.size W w' := fun W => markC 0 (by decide) W
  have hM1 : ∀ W, Calls Try.prog 49 #[.int .i64 1] W fun e w' => e = .returned (.agg (encU (mkR 1)).toArray) ∧ Below W.heap.size W w' := fun W => markC 1 (by decide) W
  have hM : ∀ W, Calls Try.prog 49 #[.int .i64 5] W fun e w' => e = .returned (.agg #[.int .i64 (mkR 5).i, .int .u32 ((mkR 5).s : Int), .int .i64 (mkR 5).sl, .int .u32 ((mkR 5).d : Int), .int .i64 (mkR 5).dl, .int .u16 ((mkR 5).p.1 : Int), .int .u16 ((mkR 5).p.2 : Int), .int .u16 ((mkR 5).q.1 : Int), .int .u16 ((mkR 5).q.2 : Int), .int .u8 ((mkR 5).m.1 : Int), .int .u8 ((mkR 5).m.2 : Int), .int .i64 (mkR 5).act]) ∧ Below W.heap.size W w' := fun W => markC 5 (by decide) W
  have hS : ∀ W, Below w.heap.size w W → Calls Try.prog 26 #[x, u] W fun e w' => e = .returned (.bool true) ∧ Below W.heap.size W w' := fun W hb => keepSame x u l W (hx.src.keep hb) (hu.keep hb) (by omega)
  obtain ⟨rfl, hr⟩ := hx
  have hr0 := rowU_rng hr l.length (by simp)
  have hr1 := rowU_rng hr (l.length + 1) (by simp)
  simp only [List.getElem_append_right (Nat.le_refl l.length), Nat.sub_self, List.getElem_cons_zero] at hr0
  have e1 : (l ++ [mkR 0, mkR 1])[l.length + 1]'(by simp) = mkR 1 := by simp
  rw [e1] at hr1
  have hE0 : ∀ W : World, Sem.run Try.prog (binOp .eql 43 (.agg (encU (mkR 0)).toArray) (.agg (encU (mkR 0)).toArray)) W = .ok (.bool true) W := fun W => eqR_self (mkR 0) W
  have hE1 : ∀ W : World, Sem.run Try.prog (binOp .eql 43 (.agg (encU (mkR 1)).toArray) (.agg (encU (mkR 1)).toArray)) W = .ok (.bool true) W := fun W => eqR_self (mkR 1) W
  have hi0 : (Try.prog.info? 43).map (·.size) = some (encU (mkR 0)).toArray.size := infoXU
  have hi1 : (Try.prog.info? 43).map (·.size) = some (encU (mkR 1)).toArray.size := infoXU
  have hr0' : w.rangeAt g (l.length * 12) (encU (mkR 0)).toArray.toList := hr0
  have hr1' : w.rangeAt g ((l.length + 1) * 12) (encU (mkR 1)).toArray.toList := hr1
  clear hr0 hr1 e1
  obtain ⟨L, hL⟩ : ∃ L, L = l ++ [mkR 0, mkR 1] := ⟨_, rfl⟩
  rw [← hL] at hr
  clear hL
  generalize (encU (mkR 0)).toArray = A0 at *
  generalize (encU (mkR 1)).toArray = A1 at *
  generalize mkR 5 = R at *
  obtain ⟨ad, cap, rfl, hcap, hat⟩ := hu
  clear hat
  generalize l.length = n at *
  have HR : Hid (RowU w 0 (.slice (some ⟨g, 0, none⟩) (n + 2) (n + 2)) L) := hr
  have H1 : Hid _ := hr0'
  have H2 : Hid _ := hr1'
  have Hi0 : Hid _ := hi0
  have Hi1 : Hid _ := hi1
  have hn0 : (n : Int) ≤ 200000 := by omega
  have hw2 : IntKind.i64.wrap ((n : Int) + 2) = (n : Int) + 2 := by rw [IntKind.wrap_i64]; omega
  have hw1 : IntKind.i64.wrap ((n : Int) + 1) = (n : Int) + 1 := by rw [IntKind.wrap_i64]; omega
  clear hr hr0' hr1' hi0 hi1
  have hcz : ∀ W, (Instr.sliceAt 33 (.slice (some ⟨g, 0, none⟩) n (n + 2)) none (some (.int .i64 ((n : Int) + 2))) none).run Try.prog W = .ok (.slice (some ⟨g, 0, none⟩) (n + 2) (n + 2)) W := fun W => cut_h' W _ n (n + 2) (n + 2) _ (by omega) (Nat.le_refl _)
  go_enter Try.func36, Try.ntmps36
  go_upto_region 2 with (fail)
  clear hcz
  have kne : Nonempty (Kin w) := ⟨⟨_, Below.refl _ _⟩⟩
  refine wp_region_kin w (Below.refl _ _) (by kernel_rfl) (by kernel_rfl) ?_
  iterate 4 (go_big_quiet_step (fail))
  refine wpQuiet_load_mid rfl 43 (.tmp 16) rfl g (n * 12) A0 rfl (range_kin H1.out) Try.underlying43 rfl Hi0.out ?_
  simp only [List.getElem_toArray, List.getElem_cons_succ, List.getElem_cons_zero, Act.put, List.setIfInBounds_toArray, List.set_cons_zero, List.set_cons_succ]
  go_big_quiet_step (first | (go_at_call 49; exact kin_call (hM0 _)))
  iterate 7 (go_big_quiet_step (fail))
  refine wpQuiet_load_midG (by rfl) 43 (.tmp 25) rfl g ((n + 1) * 12) A1 rfl (range_kin H2.out) Try.underlying43 rfl Hi1.out ?_
  simp only [List.getElem_toArray, List.getElem_cons_succ, List.getElem_cons_zero, Act.put, List.setIfInBounds_toArray, List.set_cons_zero, List.set_cons_succ]
  go_big_quiet_step (first | (go_at_call 49; exact kin_call (hM1 _)))
  iterate 5 (go_big_quiet_step (fail))
  go_big_quiet_step (first | (go_at_call 26; exact kin_call (hS _ (Kin.is _))))
  iterate 2 (go_big_quiet_step (fail))
  refine wpQuiet_nil ?_
  rintro wq ⟨⟨xq, hxq⟩, hyq⟩
  have hq : Below w.heap.size w wq := by rw [hyq]; exact hxq
  have HRq : Hid (RowU wq 0 (.slice (some ⟨g, 0, none⟩) (n + 2) (n + 2)) L) := HR.out.on hq
  have HGq : Hid (w.grownBy wq (some g)) := grown_on (w := w) ⟨rfl, rfl, rfl, Nat.le_refl _, fun _ _ _ => rfl⟩ hq
  clear hyq hxq xq kne hE0 hE1 hM0 hM1 hS H1 H2 Hi0 Hi1 HR hq
  go_upto_region 4 with (fail)
  go_loopw [7] (fun i wr => ∃ (k : Nat) (L : List Ru), k ≤ n + 2 ∧ i = .int .i64 (k : Int) ∧ Hid (RowU wr 0 (.slice (some ⟨g, 0, none⟩) (n + 2) (n + 2)) L) ∧ Hid (w.grownBy wr (some g))) (fun i _ => n + 2 - (intOf i).toNat)
  case atStart => exact ⟨0, L, Nat.zero_le _, rfl, HRq.out, HGq.out⟩
  case round =>
    clear HRq HGq
    obtain ⟨k, L, hk, rfl, HRr, HG⟩ := hrel
    by_cases hlt : k < n + 2
    · have hlt' : (k : Int) < (n : Int) + 2 := by omega
      go_wp2_with (fail)
      refine (hM _).mono ?_
      rintro e W1 ⟨rfl, hb⟩
      have HR1 : Hid (RowU W1 0 (.slice (some ⟨g, 0, none⟩) (n + 2) (n + 2)) L) := HRr.out.on hb
      have HG1 : Hid (w.grownBy W1 (some g)) := grown_on HG.out hb
      clear hb HRr HG
      go_wp2_with (refine wpList_storeU rfl (.tmp 44) (.tmp 43) rfl 0 g (n + 2) (n + 2) L HR1.out k hlt R rfl rfl ?_; intro w3 hr3 hg3)
      have HR3 : Hid (RowU w3 0 (.slice (some ⟨g, 0, none⟩) (n + 2) (n + 2)) (L.take k ++ [R] ++ L.drop (k + [R].length))) := hr3
      have HG3 : Hid (w.grownBy w3 (some g)) := grown_trans HG1.out hg3
      clear hr3 hg3
      go_roundw
      case rel => exact ⟨k + 1, _, by omega, by go_num, HR3.out, HG3.out⟩
      case measure => simp [intOf]; omega
    · obtain rfl : k = n + 2 := by omega
      go_wp2_with (fail)
      refine bodyPost_ret (v := .bool true) (by simp [results, Try.results36, go_sem]) rfl ?_
      exact ⟨rfl, HG.out⟩
end Go.Proofs.Ytlghbcdahnjcpaa
