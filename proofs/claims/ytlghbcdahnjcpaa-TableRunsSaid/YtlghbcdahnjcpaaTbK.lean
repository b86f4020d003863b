/-
  quintetkeep.Same: two lists of rules that read alike.
-/
import Derived.Test.YtlghbcdahnjcpaaTbE
namespace Go.Proofs.Ytlghbcdahnjcpaa
open Go.RowKit
set_option linter.unusedVariables false
set_option linter.unusedSimpArgs false

theorem wpQuiet_load_mid {P : Program} {ops : Array Oper} {C : World → Prop} {Q : Act → Prop} {rest : List Oper} {op : Oper} {a : Act} (hgd : op.guard = none) (ty : TypeId) (x : Operand) (ho : op.op = .load ty x)
    (B o : Nat) (cs : Array Value) (hx : a.eval x = .pointer (some ⟨B, o, none⟩)) (h : ∀ w, C w → w.rangeAt B o cs.toList) {d : TypeDesc} (hu : P.underlying ty = some d) (hd : d.isRow = true) (hi : (P.info? ty).map (·.size) = some cs.size)
    (hk : wpQuiet P ops C Q rest (a.put op.dst (.agg cs))) : wpQuiet P ops C Q (op :: rest) a := by
  have hw : Region.wanted op (yielded ops a.tmps) = true := by unfold Region.wanted; rw [hgd]
  unfold wpQuiet
  rw [if_pos hw]
  refine ⟨_, fun w hw => ?_, hk⟩
  have hl := run_loadVar_mid (P := P) w B o ty cs.toList d (h w hw) hu hd (by simpa using hi)
  unfold Oper.quietAt execOp
  simp only [ho, hx, Instr.loadAt, Instr.sureAddr, Sem.run_bind, Sem.run_pure, Result.andThen_ok, hl]
  exact ⟨rfl, rfl⟩
theorem range_on {w w1 : World} (hb : Below w.heap.size w w1) {B o : Nat} {cs : List Value} (h : w.rangeAt B o cs) : w1.rangeAt B o cs := fun j v hv => cell_on1 hb (h j v hv)
theorem range_kin {W : World} {B o : Nat} {cs : List Value} (h : W.rangeAt B o cs) : ∀ w', (∃ x : Kin W, w' = x.val) → w'.rangeAt B o cs := fun w' ⟨x, hx⟩ => by rw [hx]; exact range_on x.is h
theorem SrcU.rng {w : World} {ad : Option Addr} {n cap : Nat} {l : List Ru} (h : SrcU w (.slice ad n cap) l) : n = l.length ∧ (∀ W, Below w.heap.size w W → ∀ k (hk : k < l.length), ∃ g off, ad = some ⟨g, off, none⟩ ∧ W.rangeAt g (off + k * 12) (encU (l[k]'hk))) := by
  obtain ⟨ad', cap', e, hc, h2⟩ := h
  obtain ⟨rfl, e2, rfl⟩ : ad = ad' ∧ n = l.length ∧ cap = cap' := by cases e; exact ⟨rfl, rfl, rfl⟩
  refine ⟨e2, fun W hb k hk => ?_⟩
  obtain ⟨g, off, e, h3⟩ := h2 (by omega)
  refine ⟨g, off, e, fun j u hu => ?_⟩
  have hj : j < 12 := by
    have := (List.getElem?_eq_some_iff.1 hu).1
    simpa [encU] using this
  have := h3 k hk j hj
  rw [show off + k * 12 + j = off + (k * 12 + j) by omega]
  exact cell_on1 hb (this.trans hu)
theorem infoXU : (Try.prog.info? 43).map (·.size) = some 12 := by kernel_rfl
set_option maxRecDepth 20000 in
set_option maxHeartbeats 8000000 in
theorem keepSame (v u : Value) (l : List Ru) (w : World) (hv : SrcU w v l) (hu : SrcU w u l) (hl : l.length ≤ 16777216) :
    Calls Try.prog 26 #[v, u] w fun e w' => e = .returned (.bool true) ∧ Below w.heap.size w w' := by
  obtain ⟨ad, cap, rfl, hc1, _⟩ := id hv
  obtain ⟨ad2, cap2, rfl, hc2, _⟩ := id hu
  obtain ⟨_, r1⟩ := hv.rng
  obtain ⟨_, r2⟩ := hu.rng
  have HR1 : Hid _ := r1
  have HR2 : Hid _ := r2
  obtain ⟨n, hn⟩ : ∃ n, n = l.length := ⟨_, rfl⟩
  have Hn : Hid (n = l.length) := hn
  rw [← hn] at hl hc1 hc2 ⊢
  have hn0 : (n : Int) ≤ 16777216 := by omega
  clear hv hu r1 r2 hn
  go_enter Try.func26, Try.ntmps26
  go_upto_region 4 with (fail)
  go_loopw [5] (fun i wr => ∃ k : Nat, k ≤ n ∧ i = .int .i64 (k : Int) ∧ Hid (Below w.heap.size w wr)) (fun i _ => n - (intOf i).toNat)
  case atStart => exact ⟨0, Nat.zero_le _, rfl, Below.refl _ _⟩
  case round =>
    obtain ⟨k, hk, rfl, HB⟩ := hrel
    by_cases hlt : k < n
    · have hkl : k < l.length := by rw [← Hn.out]; exact hlt
      obtain ⟨g, off, rfl, hg⟩ := HR1.out wr HB.out k hkl
      obtain ⟨g2, off2, rfl, hg2⟩ := HR2.out wr HB.out k hkl
      have hlt' : (k : Int) < (n : Int) := by omega
      have hE : ∀ W : World, Sem.run Try.prog (binOp .neq 43 (.agg (encU (l[k]'hkl)).toArray) (.agg (encU (l[k]'hkl)).toArray)) W = .ok (.bool false) W := fun W => by
        exact neR_self (l[k]'hkl) W
      have hi : (Try.prog.info? 43).map (·.size) = some (encU (l[k]'hkl)).toArray.size := infoXU
      have hg' : wr.rangeAt g (off + k * 12) (encU (l[k]'hkl)).toArray.toList := hg
      have hg2' : wr.rangeAt g2 (off2 + k * 12) (encU (l[k]'hkl)).toArray.toList := hg2
      clear hg hg2
      generalize (encU (l[k]'hkl)).toArray = A at *
      have H1 : Hid _ := hg'
      have H2 : Hid _ := hg2'
      have Hi : Hid _ := hi
      clear hg' hg2' hi
      go_upto_region 6 with (fail)
      have kne : Nonempty (Kin wr) := ⟨⟨_, Below.refl _ _⟩⟩
      refine wp_region_kin wr (Below.refl _ _) (by kernel_rfl) (by kernel_rfl) ?_
      iterate 3 (go_big_quiet_step (fail))
      refine wpQuiet_load_mid rfl 43 (.tmp 19) rfl g (off + k * 12) A rfl (range_kin H1.out) Try.underlying43 rfl Hi.out ?_
      simp only [List.getElem_toArray, List.getElem_cons_succ, List.getElem_cons_zero, Act.put, List.setIfInBounds_toArray, List.set_cons_zero, List.set_cons_succ]
      iterate 3 (go_big_quiet_step (fail))
      refine wpQuiet_load_mid rfl 43 (.tmp 23) rfl g2 (off2 + k * 12) A rfl (range_kin H2.out) Try.underlying43 rfl Hi.out ?_
      simp only [List.getElem_toArray, List.getElem_cons_succ, List.getElem_cons_zero, Act.put, List.setIfInBounds_toArray, List.set_cons_zero, List.set_cons_succ]
      go_big_quiet_step (fail)
      refine wpQuiet_nil ?_
      rintro wq ⟨⟨xq, hxq⟩, hyq⟩
      have HQ : Hid (Below w.heap.size w wq) := by show Below _ _ _; rw [hyq]; exact HB.out.trans (hxq.mono HB.out.size)
      clear hyq hxq xq kne HB hE H1 H2 Hi
      go_wp2_with (fail)
      go_roundw
      case rel => exact ⟨k + 1, by omega, by go_num, HQ.out⟩
      case measure => simp [intOf]; omega
    · obtain rfl : k = n := by omega
      go_wp2_with (fail)
      go_ret
      exact ⟨rfl, HB.out⟩
end Go.Proofs.Ytlghbcdahnjcpaa
