/-
  GgGI: GvTe GqRk GqK GqLd GqLe GqRs GqRi, one behind the other (tools/merge.py).
-/
import Derived.Test.YtgidohnikggjfaaGreatGgGE
import Derived.Test.YtgidohnikggjfaaGreatTbRf
/-
  Values compared with themselves.
-/
namespace Go.Proofs.YtgidohnikggjfaaGreat
open Go.RowKit
set_option linter.unusedVariables false
set_option linter.unusedSimpArgs false

set_option maxHeartbeats 2000000 in
theorem eqR_self (a : Ru) (w : World) : Sem.run Tryz.prog (binOp .eql 64 (.agg #[.int .i64 a.i, .int .u32 (a.s : Int), .int .i64 a.sl, .int .u32 (a.d : Int), .int .i64 a.dl, .int .u16 (a.p.1 : Int), .int .u16 (a.p.2 : Int), .int .u16 (a.q.1 : Int), .int .u16 (a.q.2 : Int), .int .u8 (a.m.1 : Int), .int .u8 (a.m.2 : Int), .int .i64 a.act]) (.agg #[.int .i64 a.i, .int .u32 (a.s : Int), .int .i64 a.sl, .int .u32 (a.d : Int), .int .i64 a.dl, .int .u16 (a.p.1 : Int), .int .u16 (a.p.2 : Int), .int .u16 (a.q.1 : Int), .int .u16 (a.q.2 : Int), .int .u8 (a.m.1 : Int), .int .u8 (a.m.2 : Int), .int .i64 a.act])) w = .ok (.bool true) w := by
  simp [go_sem]
set_option maxHeartbeats 2000000 in
theorem neR_self (a : Ru) (w : World) : Sem.run Tryz.prog (binOp .neq 64 (.agg #[.int .i64 a.i, .int .u32 (a.s : Int), .int .i64 a.sl, .int .u32 (a.d : Int), .int .i64 a.dl, .int .u16 (a.p.1 : Int), .int .u16 (a.p.2 : Int), .int .u16 (a.q.1 : Int), .int .u16 (a.q.2 : Int), .int .u8 (a.m.1 : Int), .int .u8 (a.m.2 : Int), .int .i64 a.act]) (.agg #[.int .i64 a.i, .int .u32 (a.s : Int), .int .i64 a.sl, .int .u32 (a.d : Int), .int .i64 a.dl, .int .u16 (a.p.1 : Int), .int .u16 (a.p.2 : Int), .int .u16 (a.q.1 : Int), .int .u16 (a.q.2 : Int), .int .u8 (a.m.1 : Int), .int .u8 (a.m.2 : Int), .int .i64 a.act])) w = .ok (.bool false) w := by
  simp [go_sem]
theorem eqV_self (a : Bool) (b c : Int) (w : World) : Sem.run Tryz.prog (binOp .eql 36 (.agg #[.bool a, .int .i64 b, .int .i64 c]) (.agg #[.bool a, .int .i64 b, .int .i64 c])) w = .ok (.bool true) w := by
  simp [go_sem]
end Go.Proofs.YtgidohnikggjfaaGreat
/-
  The document's Check of configurations. Written by tools/mkTbRk.py.
-/
namespace Go.Proofs.YtgidohnikggjfaaGreat
open Go.RowKit
set_option linter.unusedVariables false
set_option linter.unusedSimpArgs false

theorem amg_no1 {n a b : Int} (h : ¬ a ≤ n) : amg n a b = false := by unfold amg; rw [decide_eq_false h]; rfl
theorem amg_no2 {n a b : Int} (h : ¬ n ≤ b) : amg n a b = false := by unfold amg; rw [decide_eq_false h]; simp
set_option maxRecDepth 20000 in
set_option maxHeartbeats 8000000 in
theorem rcheckCC (c : Cf) (w : World) : Calls Tryz.prog 6 #[.agg #[.int .i64 c.m, .int .i64 c.a, .int .i64 c.p, .int .i64 c.g, .int .i64 c.t, .int .i64 c.b, .int .i64 c.d]] w fun e w' => e = .returned (.int .i64 (errC c)) ∧ Below w.heap.size w w' := by
  obtain ⟨E, hE⟩ : ∃ E, E = errC c := ⟨_, rfl⟩
  rw [← hE]
  have HE : Hid (E = if ((amg c.m 1 64 && amg c.a 1 4) && (amg c.p 0 1048576 && amg c.g 0 1048576 && amg c.t 0 1048576) && (amg c.b 1 16 && amg c.d 0 10)) = true then 0 else 110) := hE
  clear hE
  have HCc := blk_new w (.cells #[.int .i64 c.m, .int .i64 c.a, .int .i64 c.p, .int .i64 c.g, .int .i64 c.t, .int .i64 c.b, .int .i64 c.d] 24)
  have HB : Hid (Below w.heap.size w (w.alloc (.cells #[.int .i64 c.m, .int .i64 c.a, .int .i64 c.p, .int .i64 c.g, .int .i64 c.t, .int .i64 c.b, .int .i64 c.d] 24))) := (Below.refl _ _).alloc (Nat.le_refl _) _
  go_enter Tryz.func6, Tryz.ntmps6
  go_upto_region 1 with (fail)
  generalize w.alloc (.cells #[.int .i64 c.m, .int .i64 c.a, .int .i64 c.p, .int .i64 c.g, .int .i64 c.t, .int .i64 c.b, .int .i64 c.d] 24) = W at *
  have c0 : W.cell? ⟨w.heap.size, 0, none⟩ = some (.int .i64 c.m) := blk_cell HCc rfl
  have c1 : W.cell? ⟨w.heap.size, 1, none⟩ = some (.int .i64 c.a) := blk_cell HCc rfl
  have c2 : W.cell? ⟨w.heap.size, 2, none⟩ = some (.int .i64 c.p) := blk_cell HCc rfl
  have c3 : W.cell? ⟨w.heap.size, 3, none⟩ = some (.int .i64 c.g) := blk_cell HCc rfl
  have c4 : W.cell? ⟨w.heap.size, 4, none⟩ = some (.int .i64 c.t) := blk_cell HCc rfl
  have c5 : W.cell? ⟨w.heap.size, 5, none⟩ = some (.int .i64 c.b) := blk_cell HCc rfl
  have c6 : W.cell? ⟨w.heap.size, 6, none⟩ = some (.int .i64 c.d) := blk_cell HCc rfl
  go_cut [3] (fun s wx => s = .bool (amg c.m 1 64 && amg c.a 1 4) ∧ Hid (wx = W))
  case first =>
    by_cases h4 : 1 ≤ c.m
    · skip
      by_cases h3 : c.m ≤ 64
      · skip
        by_cases h2 : 1 ≤ c.a
        · skip
          by_cases h1 : c.a ≤ 4
          · go_wp2_with (fail)
            go_meet
            case rel => exact ⟨by rw [amg_iff.2 ⟨h4, h3⟩, amg_iff.2 ⟨h2, h1⟩]; simp, rfl⟩
          · go_wp2_with (fail)
            go_meet
            case rel => exact ⟨by rw [amg_no2 (n := c.a) (a := 1) (b := 4) (by omega)]; simp, rfl⟩
        · go_wp2_with (fail)
          go_meet
          case rel => exact ⟨by rw [amg_no1 (n := c.a) (a := 1) (b := 4) (by omega)]; simp, rfl⟩
      · go_wp2_with (fail)
        go_meet
        case rel => exact ⟨by rw [amg_no2 (n := c.m) (a := 1) (b := 64) (by omega)]; simp, rfl⟩
    · go_wp2_with (fail)
      go_meet
      case rel => exact ⟨by rw [amg_no1 (n := c.m) (a := 1) (b := 64) (by omega)]; simp, rfl⟩
  case rest =>
    obtain ⟨rfl, hx⟩ := hcut
    obtain rfl := hx.out.symm
    clear hx
    go_upto_region 2 with (fail)
    generalize (amg c.m 1 64 && amg c.a 1 4) = Q1 at *
    go_cut [4] (fun s wx => s = .bool (amg c.p 0 1048576 && amg c.g 0 1048576 && amg c.t 0 1048576) ∧ Hid (wx = W))
    case first =>
      by_cases h6 : 0 ≤ c.p
      · skip
        by_cases h5 : c.p ≤ 1048576
        · skip
          by_cases h4 : 0 ≤ c.g
          · skip
            by_cases h3 : c.g ≤ 1048576
            · skip
              by_cases h2 : 0 ≤ c.t
              · skip
                by_cases h1 : c.t ≤ 1048576
                · go_wp2_with (fail)
                  go_meet
                  case rel => exact ⟨by rw [amg_iff.2 ⟨h6, h5⟩, amg_iff.2 ⟨h4, h3⟩, amg_iff.2 ⟨h2, h1⟩]; simp, rfl⟩
                · go_wp2_with (fail)
                  go_meet
                  case rel => exact ⟨by rw [amg_no2 (n := c.t) (a := 0) (b := 1048576) (by omega)]; simp, rfl⟩
              · go_wp2_with (fail)
                go_meet
                case rel => exact ⟨by rw [amg_no1 (n := c.t) (a := 0) (b := 1048576) (by omega)]; simp, rfl⟩
            · go_wp2_with (fail)
              go_meet
              case rel => exact ⟨by rw [amg_no2 (n := c.g) (a := 0) (b := 1048576) (by omega)]; simp, rfl⟩
          · go_wp2_with (fail)
            go_meet
            case rel => exact ⟨by rw [amg_no1 (n := c.g) (a := 0) (b := 1048576) (by omega)]; simp, rfl⟩
        · go_wp2_with (fail)
          go_meet
          case rel => exact ⟨by rw [amg_no2 (n := c.p) (a := 0) (b := 1048576) (by omega)]; simp, rfl⟩
      · go_wp2_with (fail)
        go_meet
        case rel => exact ⟨by rw [amg_no1 (n := c.p) (a := 0) (b := 1048576) (by omega)]; simp, rfl⟩
    case rest =>
      obtain ⟨rfl, hx⟩ := hcut
      obtain rfl := hx.out.symm
      clear hx
      generalize (amg c.p 0 1048576 && amg c.g 0 1048576 && amg c.t 0 1048576) = Q2 at *
      cases Q1
      · go_wp2_with (fail)
        go_ret
        exact ⟨ret_int (by rw [HE.out]; simp), HB.out⟩
      · cases Q2
        · go_wp2_with (fail)
          go_ret
          exact ⟨ret_int (by rw [HE.out]; simp), HB.out⟩
        · by_cases h4 : c.b < 1
          · have h4' := amg_no1 (n := c.b) (a := 1) (b := 16) (by omega)
            rw [h4'] at HE
            go_wp2_with (fail)
            go_ret
            exact ⟨ret_int (by rw [HE.out]; simp), HB.out⟩
          · by_cases h3 : 16 < c.b
            · have h3' := amg_no2 (n := c.b) (a := 1) (b := 16) (by omega)
              rw [h3'] at HE
              go_wp2_with (fail)
              go_ret
              exact ⟨ret_int (by rw [HE.out]; simp), HB.out⟩
            · have e4 := amg_iff.2 (show 1 ≤ c.b ∧ c.b ≤ 16 by omega)
              rw [e4] at HE
              by_cases h2 : c.d < 0
              · have h2' := amg_no1 (n := c.d) (a := 0) (b := 10) (by omega)
                rw [h2'] at HE
                go_wp2_with (fail)
                go_ret
                exact ⟨ret_int (by rw [HE.out]; simp), HB.out⟩
              · by_cases h1 : 10 < c.d
                · have h1' := amg_no2 (n := c.d) (a := 0) (b := 10) (by omega)
                  rw [h1'] at HE
                  go_wp2_with (fail)
                  go_ret
                  exact ⟨ret_int (by rw [HE.out]; simp), HB.out⟩
                · have e1 := amg_iff.2 (show 0 ≤ c.d ∧ c.d ≤ 10 by omega)
                  rw [e1] at HE
                  go_wp2_with (fail)
                  go_ret
                  exact ⟨ret_int (by rw [HE.out]; simp), HB.out⟩
end Go.Proofs.YtgidohnikggjfaaGreat
/-
  quintetkeep.Same: two lists of rules that read alike.
-/
namespace Go.Proofs.YtgidohnikggjfaaGreat
open Go.RowKit
set_option linter.unusedVariables false
set_option linter.unusedSimpArgs false

theorem wpQuiet_load_mid {P : Program} {ops : Array Oper} {C : World → Prop} {Q : Act → Prop} {rest : List Oper} {op : Oper} {a : Act} (hgd : op.guard = none) (ty : TypeId) (x : Operand) (ho : op.op = .load ty x)
    (B o : Nat) (cs : Array Value) (hx : a.eval x = .pointer (some ⟨B, o, none⟩)) (h : ∀ w, C w → w.rangeAt B o cs.toList) {d : TypeDesc} (hu : P.underlying ty = some d) (hd : d.isRow = true) (hi : (P.info? ty).map (·.size) = some cs.size)
    (hk : wpQuiet P ops C Q rest (a.put op.dst (.agg cs))) : wpQuiet P ops C Q (op :: rest) a := by
  have hw : Region.wanted op (yielded ops a.tmps) = true := by unfold Region.wanted; rw [hgd]
  unfold wpQuiet
  rw [if_pos hw]
  refine ⟨_, fun w hw => ?_, hk⟩
  have hl := run_loadVar_mid (P := P) w B o ty cs.toList d (h w hw) hu hd (by simpa using hi)
  unfold Oper.quietAt execOp
  simp only [ho, hx, Instr.loadAt, Instr.sureAddr, Sem.run_bind, Sem.run_pure, Result.andThen_ok, hl]
  exact ⟨rfl, rfl⟩
theorem range_on {w w1 : World} (hb : Below w.heap.size w w1) {B o : Nat} {cs : List Value} (h : w.rangeAt B o cs) : w1.rangeAt B o cs := fun j v hv => cell_on1 hb (h j v hv)
theorem range_kin {W : World} {B o : Nat} {cs : List Value} (h : W.rangeAt B o cs) : ∀ w', (∃ x : Kin W, w' = x.val) → w'.rangeAt B o cs := fun w' ⟨x, hx⟩ => by rw [hx]; exact range_on x.is h
theorem SrcU.rng {w : World} {ad : Option Addr} {n cap : Nat} {l : List Ru} (h : SrcU w (.slice ad n cap) l) : n = l.length ∧ (∀ W, Below w.heap.size w W → ∀ k (hk : k < l.length), ∃ g off, ad = some ⟨g, off, none⟩ ∧ W.rangeAt g (off + k * 12) (encU (l[k]'hk))) := by
  obtain ⟨ad', cap', e, hc, h2⟩ := h
  obtain ⟨rfl, e2, rfl⟩ : ad = ad' ∧ n = l.length ∧ cap = cap' := by cases e; exact ⟨rfl, rfl, rfl⟩
  refine ⟨e2, fun W hb k hk => ?_⟩
  obtain ⟨g, off, e, h3⟩ := h2 (by omega)
  refine ⟨g, off, e, fun j u hu => ?_⟩
  have hj : j < 12 := by
    have := (List.getElem?_eq_some_iff.1 hu).1
    simpa [encU] using this
  have := h3 k hk j hj
  rw [show off + k * 12 + j = off + (k * 12 + j) by omega]
  exact cell_on1 hb (this.trans hu)
theorem infoXU : (Tryz.prog.info? 64).map (·.size) = some 12 := by kernel_rfl
set_option maxRecDepth 20000 in
set_option maxHeartbeats 8000000 in
theorem keepSame (v u : Value) (l : List Ru) (w : World) (hv : SrcU w v l) (hu : SrcU w u l) (hl : l.length ≤ 16777216) :
    Calls Tryz.prog 46 #[v, u] w fun e w' => e = .returned (.bool true) ∧ Below w.heap.size w w' := by
  obtain ⟨ad, cap, rfl, hc1, _⟩ := id hv
  obtain ⟨ad2, cap2, rfl, hc2, _⟩ := id hu
  obtain ⟨_, r1⟩ := hv.rng
  obtain ⟨_, r2⟩ := hu.rng
  have HR1 : Hid _ := r1
  have HR2 : Hid _ := r2
  obtain ⟨n, hn⟩ : ∃ n, n = l.length := ⟨_, rfl⟩
  have Hn : Hid (n = l.length) := hn
  rw [← hn] at hl hc1 hc2 ⊢
  have hn0 : (n : Int) ≤ 16777216 := by omega
  clear hv hu r1 r2 hn
  go_enter Tryz.func46, Tryz.ntmps46
  go_upto_region 4 with (fail)
  go_loopw [5] (fun i wr => ∃ k : Nat, k ≤ n ∧ i = .int .i64 (k : Int) ∧ Hid (Below w.heap.size w wr)) (fun i _ => n - (intOf i).toNat)
  case atStart => exact ⟨0, Nat.zero_le _, rfl, Below.refl _ _⟩
  case round =>
    obtain ⟨k, hk, rfl, HB⟩ := hrel
    by_cases hlt : k < n
    · have hkl : k < l.length := by rw [← Hn.out]; exact hlt
      obtain ⟨g, off, rfl, hg⟩ := HR1.out wr HB.out k hkl
      obtain ⟨g2, off2, rfl, hg2⟩ := HR2.out wr HB.out k hkl
      have hlt' : (k : Int) < (n : Int) := by omega
      have hE : ∀ W : World, Sem.run Tryz.prog (binOp .neq 64 (.agg (encU (l[k]'hkl)).toArray) (.agg (encU (l[k]'hkl)).toArray)) W = .ok (.bool false) W := fun W => by
        exact neR_self (l[k]'hkl) W
      have hi : (Tryz.prog.info? 64).map (·.size) = some (encU (l[k]'hkl)).toArray.size := infoXU
      have hg' : wr.rangeAt g (off + k * 12) (encU (l[k]'hkl)).toArray.toList := hg
      have hg2' : wr.rangeAt g2 (off2 + k * 12) (encU (l[k]'hkl)).toArray.toList := hg2
      clear hg hg2
      generalize (encU (l[k]'hkl)).toArray = A at *
      have H1 : Hid _ := hg'
      have H2 : Hid _ := hg2'
      have Hi : Hid _ := hi
      clear hg' hg2' hi
      go_upto_region 6 with (fail)
      have kne : Nonempty (Kin wr) := ⟨⟨_, Below.refl _ _⟩⟩
      refine wp_region_kin wr (Below.refl _ _) (by kernel_rfl) (by kernel_rfl) ?_
      iterate 3 (go_big_quiet_step (fail))
      refine wpQuiet_load_mid rfl 64 (.tmp 19) rfl g (off + k * 12) A rfl (range_kin H1.out) Tryz.underlying64 rfl Hi.out ?_
      simp only [List.getElem_toArray, List.getElem_cons_succ, List.getElem_cons_zero, Act.put, List.setIfInBounds_toArray, List.set_cons_zero, List.set_cons_succ]
      iterate 3 (go_big_quiet_step (fail))
      refine wpQuiet_load_mid rfl 64 (.tmp 23) rfl g2 (off2 + k * 12) A rfl (range_kin H2.out) Tryz.underlying64 rfl Hi.out ?_
      simp only [List.getElem_toArray, List.getElem_cons_succ, List.getElem_cons_zero, Act.put, List.setIfInBounds_toArray, List.set_cons_zero, List.set_cons_succ]
      go_big_quiet_step (fail)
      refine wpQuiet_nil ?_
      rintro wq ⟨⟨xq, hxq⟩, hyq⟩
      have HQ : Hid (Below w.heap.size w wq) := by show Below _ _ _; rw [hyq]; exact HB.out.trans (hxq.mono HB.out.size)
      clear hyq hxq xq kne HB hE H1 H2 Hi
      go_wp2_with (fail)
      go_roundw
      case rel => exact ⟨k + 1, by omega, by go_num, HQ.out⟩
      case measure => simp [intOf]; omega
    · obtain rfl : k = n := by omega
      go_wp2_with (fail)
      go_ret
      exact ⟨rfl, HB.out⟩
end Go.Proofs.YtgidohnikggjfaaGreat
/-
  quintetkeep: mark, Spoil, Lend, Back; Rules with its capacity.
-/
namespace Go.Proofs.YtgidohnikggjfaaGreat
open Go.RowKit
set_option linter.unusedVariables false
set_option linter.unusedSimpArgs false

def mkR (k : Nat) : Ru := ⟨-7 - (k : Int), 0, 0, 0, 0, (0, 0), (0, 0), (0, 0), 77⟩
theorem markC (k : Nat) (hk : k ≤ 100) (w : World) : Calls Tryz.prog 45 #[.int .i64 (k : Int)] w fun e w' => e = .returned (.agg #[.int .i64 (mkR k).i, .int .u32 ((mkR k).s : Int), .int .i64 (mkR k).sl, .int .u32 ((mkR k).d : Int), .int .i64 (mkR k).dl, .int .u16 ((mkR k).p.1 : Int), .int .u16 ((mkR k).p.2 : Int), .int .u16 ((mkR k).q.1 : Int), .int .u16 ((mkR k).q.2 : Int), .int .u8 ((mkR k).m.1 : Int), .int .u8 ((mkR k).m.2 : Int), .int .i64 (mkR k).act]) ∧ Below w.heap.size w w' := by
  have hk0 : (k : Int) ≤ 100 := by omega
  have hw : IntKind.i64.wrap (-7 - (k : Int)) = -7 - (k : Int) := by rw [IntKind.wrap_i64]; omega
  go_enter Tryz.func45, Tryz.ntmps45
  go_wp2_with (fail)
  exact bodyPost_ret (results_blk Tryz.results45 rfl (blk_new w _) Tryz.underlying64 rfl (by kernel_rfl)) rfl ⟨rfl, (Below.refl _ _).alloc (Nat.le_refl _) _⟩
theorem wpList_storeU {ops : Array Oper} {rest : List Oper} {o : Oper} {a : Act} {w : World} {Q : Exit → Act → World → Prop} (hgd : o.guard = none) (x y : Operand) (ho : o.op = .store 64 x y)
    (b g n cap : Nat) (l : List Ru) (hr : RowU w b (.slice (some ⟨g, 0, none⟩) n cap) l) (p : Nat) (hp : p < n) (R : Ru) (hx : a.eval x = .pointer (some ⟨g, p * 12, none⟩)) (hy : a.eval y = .agg #[.int .i64 R.i, .int .u32 (R.s : Int), .int .i64 R.sl, .int .u32 (R.d : Int), .int .i64 R.dl, .int .u16 (R.p.1 : Int), .int .u16 (R.p.2 : Int), .int .u16 (R.q.1 : Int), .int .u16 (R.q.2 : Int), .int .u8 (R.m.1 : Int), .int .u8 (R.m.2 : Int), .int .i64 R.act])
    (hK : ∀ w', RowU w' b (.slice (some ⟨g, 0, none⟩) n cap) (l.take p ++ [R] ++ l.drop (p + [R].length)) → w.grownBy w' (some g) → wpList Tryz.prog ops Q rest (a.put o.dst undef) w') : wpList Tryz.prog ops Q (o :: rest) a w :=
  wpList_plain hgd fun K hK' => wp_storeU x y ho b g n cap l hr p hp R hx hy fun w' h1 h2 => hK' _ _ (hK w' h1 h2)
/-- What is written over one block alone, and made besides. -/
theorem grown_below {w w1 w2 : World} {g : Nat} (hb : Below w.heap.size w w1) (hg : w1.grownBy w2 (some g)) : w.grownBy w2 (some g) :=
  ⟨hg.os.trans hb.os, hg.tape.trans hb.tape, hg.output.trans hb.output, Nat.le_trans hb.size hg.size, fun k hk hne => by rw [hg.block k (Nat.lt_of_lt_of_le hk hb.size) hne, hb.block k hk]⟩
theorem grown_on {w w1 w2 : World} {g : Nat} (hg : w.grownBy w1 (some g)) (hb : Below w1.heap.size w1 w2) : w.grownBy w2 (some g) :=
  ⟨hb.os.trans hg.os, hb.tape.trans hg.tape, hb.output.trans hg.output, Nat.le_trans hg.size hb.size, fun k hk hne => by rw [hb.block k (Nat.lt_of_lt_of_le hk hg.size), hg.block k hk hne]⟩
theorem grown_trans {w w1 w2 : World} {g : Nat} (h1 : w.grownBy w1 (some g)) (h2 : w1.grownBy w2 (some g)) : w.grownBy w2 (some g) := World.grownBy.trans h1 h2
/-- A row that was just made. -/
theorem made_rowU (w : World) (m : Nat) (hm : m ≤ 300000) : RowU (w.alloc (.cells (madeCells #[.int .i64 0, .int .u32 0, .int .i64 0, .int .u32 0, .int .i64 0, .int .u16 0, .int .u16 0, .int .u16 0, .int .u16 0, .int .u8 0, .int .u8 0, .int .i64 0] (m * 12)) 64)) w.heap.size (.slice (some ⟨w.heap.size, 0, none⟩) m m) (List.replicate m ruZ) := by
  have hl : (List.replicate m ruZ).length = m := List.length_replicate
  refine ⟨flatU_length _, .inr ⟨w.heap.size, m, _, by rw [hl], Nat.le_refl _, blk_new w _, by rw [hl]; exact Nat.le_refl _, by unfold maxLen; omega, size_madeCells _ _, ?_⟩⟩
  rw [hl]
  apply List.ext_getElem?
  intro i
  by_cases hi : i < m * 12
  · have h1 : i / 12 < (List.replicate m ruZ).length := by rw [hl]; omega
    have h2 := flatU_at (List.replicate m ruZ) (i / 12) h1 (i % 12) (Nat.mod_lt _ (by decide))
    rw [show i / 12 * 12 + i % 12 = i by omega, List.getElem_replicate] at h2
    rw [h2, List.getElem?_take, if_pos hi]
    have hj : i % 12 < 12 := Nat.mod_lt _ (by decide)
    simp only [madeCells, Array.toList_map, Array.toList_range, List.getElem?_map, List.getElem?_range hi, Option.map_some]
    show some ((#[.int .i64 0, .int .u32 0, .int .i64 0, .int .u32 0, .int .i64 0, .int .u16 0, .int .u16 0, .int .u16 0, .int .u16 0, .int .u8 0, .int .u8 0, .int .i64 0] : Array Value)[i % 12]!) = _
    generalize i % 12 = j at hj
    match j, hj with
    | 0, _ => rfl
    | 1, _ => rfl
    | 2, _ => rfl
    | 3, _ => rfl
    | 4, _ => rfl
    | 5, _ => rfl
    | 6, _ => rfl
    | 7, _ => rfl
    | 8, _ => rfl
    | 9, _ => rfl
    | 10, _ => rfl
    | 11, _ => rfl
  · rw [List.getElem?_eq_none (by rw [List.length_take]; omega), List.getElem?_eq_none (by rw [flatU_length, hl]; omega)]
/-- A list lent: its own row, two marks behind. -/
def Lent (w : World) (x : Value) (l : List Ru) (g : Nat) : Prop := x = .slice (some ⟨g, 0, none⟩) l.length (l.length + 2) ∧ RowU w 0 (.slice (some ⟨g, 0, none⟩) (l.length + 2) (l.length + 2)) (l ++ [mkR 0, mkR 1])
theorem Lent.src {w : World} {x : Value} {l : List Ru} {g : Nat} (h : Lent w x l g) : SrcU w x l := by
  have h1 := h.2.src.cut 0 l.length (Nat.zero_le _) (by simp)
  rw [cutU_zero, List.drop_zero, List.take_left] at h1
  rw [h.1]; exact h1
set_option maxRecDepth 20000 in
set_option maxHeartbeats 4000000 in
theorem lendC (u : Value) (l : List Ru) (w : World) (hs : SrcU w u l) (hl : l.length ≤ 200000) :
    Calls Tryz.prog 28 #[u] w fun e w' => ∃ x g, e = .returned x ∧ Lent w' x l g ∧ w.heap.size ≤ g ∧ g < w'.heap.size ∧ Below w.heap.size w w' := by
  have hM0 : ∀ W, Calls Tryz.prog 45 #[.int .i64 0] W fun e w' => e = .returned (.agg #[.int .i64 (mkR 0).i, .int .u32 ((mkR 0).s : Int), .int .i64 (mkR 0).sl, .int .u32 ((mkR 0).d : Int), .int .i64 (mkR 0).dl, .int .u16 ((mkR 0).p.1 : Int), .int .u16 ((mkR 0).p.2 : Int), .int .u16 ((mkR 0).q.1 : Int), .int .u16 ((mkR 0).q.2 : Int), .int .u8 ((mkR 0).m.1 : Int), .int .u8 ((mkR 0).m.2 : Int), .int .i64 (mkR 0).act]) ∧ Below W.heap.size W w' := fun W => markC 0 (by decide) W
  have hM1 : ∀ W, Calls Tryz.prog 45 #[.int .i64 1] W fun e w' => e = .returned (.agg #[.int .i64 (mkR 1).i, .int .u32 ((mkR 1).s : Int), .int .i64 (mkR 1).sl, .int .u32 ((mkR 1).d : Int), .int .i64 (mkR 1).dl, .int .u16 ((mkR 1).p.1 : Int), .int .u16 ((mkR 1).p.2 : Int), .int .u16 ((mkR 1).q.1 : Int), .int .u16 ((mkR 1).q.2 : Int), .int .u8 ((mkR 1).m.1 : Int), .int .u8 ((mkR 1).m.2 : Int), .int .i64 (mkR 1).act]) ∧ Below W.heap.size W w' := fun W => markC 1 (by decide) W
  obtain ⟨i0, hi, hz0, hz1, hz2⟩ := info_parts infoU
  have hmk := fun W => run_make (P := Tryz.prog) W 56 64 i0 _ Tryz.underlying56 hi hz0 .i64 .i64 ((l.length : Int) + 2) ((l.length : Int) + 2) (by omega) (Int.le_refl _) (by rw [hz2]; omega) (by omega)
  simp only [hz1, show ((l.length : Int) + 2).toNat = l.length + 2 by omega] at hmk
  have hrow := made_rowU w (l.length + 2) (by omega)
  have hs1 := hs.keep ((Below.refl _ _).alloc (Nat.le_refl _) (.cells (madeCells #[.int .i64 0, .int .u32 0, .int .i64 0, .int .u32 0, .int .i64 0, .int .u16 0, .int .u16 0, .int .u16 0, .int .u16 0, .int .u8 0, .int .u8 0, .int .i64 0] ((l.length + 2) * 12)) 64))
  obtain ⟨w1, hr, hrow1, hgr1⟩ := run_copyU _ 3 0 w.heap.size (l.length + 2) (l.length + 2) _ (hrow.base (Nat.zero_le _)) 0 (Nat.zero_le _) u l hs1
  have el : (List.replicate (l.length + 2) ruZ).take 0 ++ l.take (l.length + 2 - 0) ++ (List.replicate (l.length + 2) ruZ).drop (0 + (l.take (l.length + 2 - 0)).length) = l ++ [ruZ, ruZ] := by
    rw [List.take_of_length_le (l := l) (by omega), Nat.zero_add, List.drop_replicate, show l.length + 2 - l.length = 2 by omega]
    rfl
  rw [el] at hrow1
  rw [cutU_zero, show Nat.min l.length (l.length + 2 - 0) = l.length from Nat.min_eq_left (by omega)] at hr
  have HB1 : Hid (Below w.heap.size w w1) := ((Below.refl _ _).alloc (Nat.le_refl _) _).grown hgr1 (by simp) (fun k hk => by simp at hk; omega)
  have HR1 : Hid (RowU w1 0 (.slice (some ⟨w.heap.size, 0, none⟩) (l.length + 2) (l.length + 2)) (l ++ [ruZ, ruZ])) := hrow1
  have Hlt : Hid (w.heap.size < w1.heap.size) := (hrow1.lt w.heap.size rfl).2
  have HL3 : Hid ((l ++ [ruZ, ruZ]).take l.length ++ [mkR 0] ++ (l ++ [ruZ, ruZ]).drop (l.length + [mkR 0].length) = l ++ [mkR 0, ruZ]) := by
    show _ = _
    rw [List.take_left, show l.length + [mkR 0].length = l.length + 1 from rfl, List.drop_append, List.drop_eq_nil_of_le (by omega)]
    simp
  have HL4 : Hid ((l ++ [mkR 0, ruZ]).take (l.length + 1) ++ [mkR 1] ++ (l ++ [mkR 0, ruZ]).drop (l.length + 1 + [mkR 1].length) = l ++ [mkR 0, mkR 1]) := by
    show _ = _
    have hdn : (l ++ [mkR 0, ruZ]).drop (l.length + 2) = [] := List.drop_eq_nil_of_le (by simp)
    rw [show l.length + 1 + [mkR 1].length = l.length + 2 from rfl, List.take_append, List.take_of_length_le (l := l) (by omega), hdn]
    simp
  have HF : Hid (∀ w', RowU w' 0 (.slice (some ⟨w.heap.size, 0, none⟩) (l.length + 2) (l.length + 2)) (l ++ [mkR 0, mkR 1]) → Lent w' (.slice (some ⟨w.heap.size, 0, none⟩) l.length (l.length + 2)) l w.heap.size) := fun w' h => ⟨rfl, h⟩
  obtain ⟨ad, cap, rfl, hcap, hat⟩ := hs
  obtain ⟨n, hn⟩ : ∃ n, n = l.length := ⟨_, rfl⟩
  have Hn : Hid (n = l.length) := hn
  rw [← hn] at hl hcap hmk hr HR1 HL3 HL4 HF
  have hcz : ∀ W, (Instr.sliceAt 56 (.slice (some ⟨w.heap.size, 0, none⟩) (n + 2) (n + 2)) none (some (.int .i64 (n : Int))) none).run Tryz.prog W = .ok (.slice (some ⟨w.heap.size, 0, none⟩) n (n + 2)) W := fun W => cut_h' W _ (n + 2) (n + 2) n _ rfl (by omega)
  rw [← hn]
  clear hat hrow hs1 hrow1 hgr1 el hi hz0 hz1 hz2 hn
  generalize mkR 0 = M0 at *
  generalize mkR 1 = M1 at *
  have hn0 : (n : Int) ≤ 200000 := by omega
  have hw2 : IntKind.i64.wrap ((n : Int) + 2) = (n : Int) + 2 := by rw [IntKind.wrap_i64]; omega
  have hw1 : IntKind.i64.wrap ((n : Int) + 1) = (n : Int) + 1 := by rw [IntKind.wrap_i64]; omega
  go_enter Tryz.func28, Tryz.ntmps28
  go_wp2_with (fail)
  refine (hM0 _).mono ?_
  rintro e W1 ⟨rfl, hb⟩
  have HB2 : Hid (Below w.heap.size w W1) := HB1.out.trans (hb.mono HB1.out.size)
  have HR2 : Hid (RowU W1 0 (.slice (some ⟨w.heap.size, 0, none⟩) (n + 2) (n + 2)) (l ++ [ruZ, ruZ])) := HR1.out.on hb
  have Hlt2 : Hid (w.heap.size < W1.heap.size) := Nat.lt_of_lt_of_le Hlt.out hb.size
  clear hb HB1 HR1 Hlt
  go_wp2_with (refine wpList_storeU rfl (.tmp 15) (.tmp 14) rfl 0 w.heap.size (n + 2) (n + 2) _ HR2.out n (by omega) M0 rfl rfl ?_; intro w3 hr3 hg3)
  rw [HL3.out] at hr3
  have HR3 : Hid (RowU w3 0 (.slice (some ⟨w.heap.size, 0, none⟩) (n + 2) (n + 2)) (l ++ [M0, ruZ])) := hr3
  have HB3 : Hid (Below w.heap.size w w3) := HB2.out.grown hg3 (by have := HB2.out.size; omega) (fun k hk => by simp at hk; omega)
  have Hlt3 : Hid (w.heap.size < w3.heap.size) := Nat.lt_of_lt_of_le Hlt2.out hg3.size
  clear hr3 hg3 HB2 HR2 Hlt2 HL3
  refine (hM1 _).mono ?_
  rintro e W4 ⟨rfl, hb⟩
  have HB4 : Hid (Below w.heap.size w W4) := HB3.out.trans (hb.mono HB3.out.size)
  have HR4 : Hid (RowU W4 0 (.slice (some ⟨w.heap.size, 0, none⟩) (n + 2) (n + 2)) (l ++ [M0, ruZ])) := HR3.out.on hb
  have Hlt4 : Hid (w.heap.size < W4.heap.size) := Nat.lt_of_lt_of_le Hlt3.out hb.size
  clear hb HB3 HR3 Hlt3
  go_wp2_with (refine wpList_storeU rfl (.tmp 21) (.tmp 20) rfl 0 w.heap.size (n + 2) (n + 2) _ HR4.out (n + 1) (by omega) M1 rfl rfl ?_; intro w5 hr5 hg5)
  rw [HL4.out] at hr5
  have HR5 : Hid (RowU w5 0 (.slice (some ⟨w.heap.size, 0, none⟩) (n + 2) (n + 2)) (l ++ [M0, M1])) := hr5
  have HB5 : Hid (Below w.heap.size w w5) := HB4.out.grown hg5 (by have := HB4.out.size; omega) (fun k hk => by simp at hk; omega)
  have Hlt5 : Hid (w.heap.size < w5.heap.size) := Nat.lt_of_lt_of_le Hlt4.out hg5.size
  clear hr5 hg5 HB4 HR4 Hlt4 HL4
  refine bodyPost_ret (v := .slice (some ⟨w.heap.size, 0, none⟩) n (n + 2)) (by simp [results, Tryz.results28, go_sem]) rfl ?_
  exact ⟨_, _, rfl, HF.out _ HR5.out, Nat.le_refl _, Hlt5.out, HB5.out⟩
end Go.Proofs.YtgidohnikggjfaaGreat
/-
  quintetkeep.Back; Rules with its capacity.
-/
namespace Go.Proofs.YtgidohnikggjfaaGreat
open Go.RowKit
set_option linter.unusedVariables false
set_option linter.unusedSimpArgs false

theorem rowU_rng {w : World} {b g n cap : Nat} {l : List Ru} (h : RowU w b (.slice (some ⟨g, 0, none⟩) n cap) l) (k : Nat) (hk : k < l.length) : w.rangeAt g (k * 12) (encU (l[k]'hk)) := by
  obtain ⟨_, r⟩ := h.src.rng
  obtain ⟨g', off, e, hr⟩ := r w (Below.refl _ _) k hk
  cases e
  simpa using hr
theorem wpQuiet_load_midG {P : Program} {ops : Array Oper} {C : World → Prop} {Q : Act → Prop} {rest : List Oper} {op : Oper} {a : Act} (hw : Region.wanted op (yielded ops a.tmps) = true) (ty : TypeId) (x : Operand) (ho : op.op = .load ty x)
    (B o : Nat) (cs : Array Value) (hx : a.eval x = .pointer (some ⟨B, o, none⟩)) (h : ∀ w, C w → w.rangeAt B o cs.toList) {d : TypeDesc} (hu : P.underlying ty = some d) (hd : d.isRow = true) (hi : (P.info? ty).map (·.size) = some cs.size)
    (hk : wpQuiet P ops C Q rest (a.put op.dst (.agg cs))) : wpQuiet P ops C Q (op :: rest) a := by
  unfold wpQuiet
  rw [if_pos hw]
  refine ⟨_, fun w hw => ?_, hk⟩
  have hl := run_loadVar_mid (P := P) w B o ty cs.toList d (h w hw) hu hd (by simpa using hi)
  unfold Oper.quietAt execOp
  simp only [ho, hx, Instr.loadAt, Instr.sureAddr, Sem.run_bind, Sem.run_pure, Result.andThen_ok, hl]
  exact ⟨rfl, rfl⟩
set_option maxRecDepth 20000 in
set_option maxHeartbeats 8000000 in
theorem backC (u x : Value) (l : List Ru) (g : Nat) (w : World) (hx : Lent w x l g) (hu : SrcU w u l) (hl : l.length ≤ 200000) :
    Calls Tryz.prog 29 #[x, u] w fun e w' => e = .returned (.bool true) ∧ w.grownBy w' (some g) := by
  have hM0 : ∀ W, Calls Tryz.prog 45 #[.int .i64 0] W fun e w' => e = .returned (.agg (encU (mkR 0)).toArray) ∧ Below W.heap.size W w' := fun W => markC 0 (by decide) W
  have hM1 : ∀ W, Calls Tryz.prog 45 #[.int .i64 1] W fun e w' => e = .returned (.agg (encU (mkR 1)).toArray) ∧ Below W.heap.size W w' := fun W => markC 1 (by decide) W
  have hM : ∀ W, Calls Tryz.prog 45 #[.int .i64 5] W fun e w' => e = .returned (.agg #[.int .i64 (mkR 5).i, .int .u32 ((mkR 5).s : Int), .int .i64 (mkR 5).sl, .int .u32 ((mkR 5).d : Int), .int .i64 (mkR 5).dl, .int .u16 ((mkR 5).p.1 : Int), .int .u16 ((mkR 5).p.2 : Int), .int .u16 ((mkR 5).q.1 : Int), .int .u16 ((mkR 5).q.2 : Int), .int .u8 ((mkR 5).m.1 : Int), .int .u8 ((mkR 5).m.2 : Int), .int .i64 (mkR 5).act]) ∧ Below W.heap.size W w' := fun W => markC 5 (by decide) W
  have hS : ∀ W, Below w.heap.size w W → Calls Tryz.prog 46 #[x, u] W fun e w' => e = .returned (.bool true) ∧ Below W.heap.size W w' := fun W hb => keepSame x u l W (hx.src.keep hb) (hu.keep hb) (by omega)
  obtain ⟨rfl, hr⟩ := hx
  have hr0 := rowU_rng hr l.length (by simp)
  have hr1 := rowU_rng hr (l.length + 1) (by simp)
  simp only [List.getElem_append_right (Nat.le_refl l.length), Nat.sub_self, List.getElem_cons_zero] at hr0
  have e1 : (l ++ [mkR 0, mkR 1])[l.length + 1]'(by simp) = mkR 1 := by simp
  rw [e1] at hr1
  have hE0 : ∀ W : World, Sem.run Tryz.prog (binOp .eql 64 (.agg (encU (mkR 0)).toArray) (.agg (encU (mkR 0)).toArray)) W = .ok (.bool true) W := fun W => eqR_self (mkR 0) W
  have hE1 : ∀ W : World, Sem.run Tryz.prog (binOp .eql 64 (.agg (encU (mkR 1)).toArray) (.agg (encU (mkR 1)).toArray)) W = .ok (.bool true) W := fun W => eqR_self (mkR 1) W
  have hi0 : (Tryz.prog.info? 64).map (·.size) = some (encU (mkR 0)).toArray.size := infoXU
  have hi1 : (Tryz.prog.info? 64).map (·.size) = some (encU (mkR 1)).toArray.size := infoXU
  have hr0' : w.rangeAt g (l.length * 12) (encU (mkR 0)).toArray.toList := hr0
  have hr1' : w.rangeAt g ((l.length + 1) * 12) (encU (mkR 1)).toArray.toList := hr1
  clear hr0 hr1 e1
  obtain ⟨L, hL⟩ : ∃ L, L = l ++ [mkR 0, mkR 1] := ⟨_, rfl⟩
  rw [← hL] at hr
  clear hL
  generalize (encU (mkR 0)).toArray = A0 at *
  generalize (encU (mkR 1)).toArray = A1 at *
  generalize mkR 5 = R at *
  obtain ⟨ad, cap, rfl, hcap, hat⟩ := hu
  clear hat
  generalize l.length = n at *
  have HR : Hid (RowU w 0 (.slice (some ⟨g, 0, none⟩) (n + 2) (n + 2)) L) := hr
  have H1 : Hid _ := hr0'
  have H2 : Hid _ := hr1'
  have Hi0 : Hid _ := hi0
  have Hi1 : Hid _ := hi1
  have hn0 : (n : Int) ≤ 200000 := by omega
  have hw2 : IntKind.i64.wrap ((n : Int) + 2) = (n : Int) + 2 := by rw [IntKind.wrap_i64]; omega
  have hw1 : IntKind.i64.wrap ((n : Int) + 1) = (n : Int) + 1 := by rw [IntKind.wrap_i64]; omega
  clear hr hr0' hr1' hi0 hi1
  have hcz : ∀ W, (Instr.sliceAt 56 (.slice (some ⟨g, 0, none⟩) n (n + 2)) none (some (.int .i64 ((n : Int) + 2))) none).run Tryz.prog W = .ok (.slice (some ⟨g, 0, none⟩) (n + 2) (n + 2)) W := fun W => cut_h' W _ n (n + 2) (n + 2) _ (by omega) (Nat.le_refl _)
  go_enter Tryz.func29, Tryz.ntmps29
  go_upto_region 2 with (fail)
  clear hcz
  have kne : Nonempty (Kin w) := ⟨⟨_, Below.refl _ _⟩⟩
  refine wp_region_kin w (Below.refl _ _) (by kernel_rfl) (by kernel_rfl) ?_
  iterate 4 (go_big_quiet_step (fail))
  refine wpQuiet_load_mid rfl 64 (.tmp 16) rfl g (n * 12) A0 rfl (range_kin H1.out) Tryz.underlying64 rfl Hi0.out ?_
  simp only [List.getElem_toArray, List.getElem_cons_succ, List.getElem_cons_zero, Act.put, List.setIfInBounds_toArray, List.set_cons_zero, List.set_cons_succ]
  go_big_quiet_step (first | (go_at_call 45; exact kin_call (hM0 _)))
  iterate 7 (go_big_quiet_step (fail))
  refine wpQuiet_load_midG (by rfl) 64 (.tmp 25) rfl g ((n + 1) * 12) A1 rfl (range_kin H2.out) Tryz.underlying64 rfl Hi1.out ?_
  simp only [List.getElem_toArray, List.getElem_cons_succ, List.getElem_cons_zero, Act.put, List.setIfInBounds_toArray, List.set_cons_zero, List.set_cons_succ]
  go_big_quiet_step (first | (go_at_call 45; exact kin_call (hM1 _)))
  iterate 5 (go_big_quiet_step (fail))
  go_big_quiet_step (first | (go_at_call 46; exact kin_call (hS _ (Kin.is _))))
  iterate 2 (go_big_quiet_step (fail))
  refine wpQuiet_nil ?_
  rintro wq ⟨⟨xq, hxq⟩, hyq⟩
  have hq : Below w.heap.size w wq := by rw [hyq]; exact hxq
  have HRq : Hid (RowU wq 0 (.slice (some ⟨g, 0, none⟩) (n + 2) (n + 2)) L) := HR.out.on hq
  have HGq : Hid (w.grownBy wq (some g)) := grown_on (w := w) ⟨rfl, rfl, rfl, Nat.le_refl _, fun _ _ _ => rfl⟩ hq
  clear hyq hxq xq kne hE0 hE1 hM0 hM1 hS H1 H2 Hi0 Hi1 HR hq
  go_upto_region 4 with (fail)
  go_loopw [7] (fun i wr => ∃ (k : Nat) (L : List Ru), k ≤ n + 2 ∧ i = .int .i64 (k : Int) ∧ Hid (RowU wr 0 (.slice (some ⟨g, 0, none⟩) (n + 2) (n + 2)) L) ∧ Hid (w.grownBy wr (some g))) (fun i _ => n + 2 - (intOf i).toNat)
  case atStart => exact ⟨0, L, Nat.zero_le _, rfl, HRq.out, HGq.out⟩
  case round =>
    clear HRq HGq
    obtain ⟨k, L, hk, rfl, HRr, HG⟩ := hrel
    by_cases hlt : k < n + 2
    · have hlt' : (k : Int) < (n : Int) + 2 := by omega
      go_wp2_with (fail)
      refine (hM _).mono ?_
      rintro e W1 ⟨rfl, hb⟩
      have HR1 : Hid (RowU W1 0 (.slice (some ⟨g, 0, none⟩) (n + 2) (n + 2)) L) := HRr.out.on hb
      have HG1 : Hid (w.grownBy W1 (some g)) := grown_on HG.out hb
      clear hb HRr HG
      go_wp2_with (refine wpList_storeU rfl (.tmp 44) (.tmp 43) rfl 0 g (n + 2) (n + 2) L HR1.out k hlt R rfl rfl ?_; intro w3 hr3 hg3)
      have HR3 : Hid (RowU w3 0 (.slice (some ⟨g, 0, none⟩) (n + 2) (n + 2)) (L.take k ++ [R] ++ L.drop (k + [R].length))) := hr3
      have HG3 : Hid (w.grownBy w3 (some g)) := grown_trans HG1.out hg3
      clear hr3 hg3
      go_roundw
      case rel => exact ⟨k + 1, _, by omega, by go_num, HR3.out, HG3.out⟩
      case measure => simp [intOf]; omega
    · obtain rfl : k = n + 2 := by omega
      go_wp2_with (fail)
      refine bodyPost_ret (v := .bool true) (by simp [results, Tryz.results29, go_sem]) rfl ?_
      exact ⟨rfl, HG.out⟩
end Go.Proofs.YtgidohnikggjfaaGreat
/-
  The document's Find, Set and Match over lists of rules. Written by tools/mkTbRs.py.
-/
namespace Go.Proofs.YtgidohnikggjfaaGreat
open Go.RowKit
set_option linter.unusedVariables false
set_option linter.unusedSimpArgs false

set_option maxRecDepth 20000 in
set_option maxHeartbeats 8000000 in
theorem rfindC (v : Value) (l : List Ru) (x : Int) (w : World) (hs : SrcU w v l) (hl : l.length ≤ 200000) :
    Calls Tryz.prog 44 #[v, .int .i64 x] w fun e w' => e = .returned (.int .i64 (fnd l x)) ∧ Below w.heap.size w w' := by
  obtain ⟨ad, cap, rfl, hcap, hat⟩ := hs
  obtain ⟨A, hA⟩ : ∃ A, A = fnd l x := ⟨_, rfl⟩
  rw [← hA]
  have HA : Hid (A = fndK x (l.drop 0) 0) := hA
  clear hA
  obtain ⟨n, hn⟩ : ∃ n, n = l.length := ⟨_, rfl⟩
  have Hn : Hid (n = l.length) := hn
  have HAt : Hid (∀ (W : World), Below w.heap.size w W → ∀ k (hk : k < l.length), ∃ g off, ad = some ⟨g, off, none⟩ ∧ g < W.heap.size ∧ ∀ j, j < 12 → W.cell? ⟨g, off + (k * 12 + j), none⟩ = (encU (l[k]'hk))[j]?) := fun W hb k hk => by
    obtain ⟨g, off, e, h3⟩ := hat (by omega)
    have h0 := h3 k hk 0 (by decide)
    have hg : g < w.heap.size := World.block_lt_of_cell? w _ (h0.trans rfl)
    exact ⟨g, off, e, by have := hb.size; omega, fun j hj => by
      have := h3 k hk j hj
      obtain ⟨u, hu⟩ := encU_some (l[k]'hk) hj
      rw [hb.cell (p := ⟨g, off + (k * 12 + j), none⟩) hg]; exact this⟩
  rw [← hn] at hl hcap ⊢
  have hn0 : (n : Int) ≤ 200000 := by omega
  clear hn hat
  go_enter Tryz.func44, Tryz.ntmps44
  go_wp2_with (fail)
  go_loopw [5] (fun i wr => ∃ k : Nat, k ≤ n ∧ i = .int .i64 (k : Int) ∧ Hid (Below w.heap.size w wr) ∧ Hid (A = fndK x (l.drop k) k)) (fun i _ => n - (intOf i).toNat)
  case atStart => exact ⟨0, Nat.zero_le _, rfl, Below.refl _ _, HA.out⟩
  case round =>
    obtain ⟨k, hk, rfl, HB, HK⟩ := hrel
    by_cases hlt : k < n
    · have hkl : k < l.length := by rw [← Hn.out]; exact hlt
      obtain ⟨g, off, rfl, hg, hc⟩ := HAt.out wr HB.out k hkl
      obtain ⟨p, hp⟩ : ∃ p, p = l[k]'hkl := ⟨_, rfl⟩
      rw [← hp] at hc
      have x0 : wr.cell? ⟨g, off + k * 12, none⟩ = some (.int .i64 p.i) := hc 0 (by decide)
      have hlt' : (k : Int) < (n : Int) := by omega
      clear hc
      by_cases hx : p.i = x
      · have HV : Hid (A = (k : Int)) := HK.out.trans (fndK_hit hkl (by rw [← hp]; exact hx))
        rw [hx] at x0
        clear hp hx HK HA HAt
        go_wp2_with (fail)
        go_ret
        exact ⟨ret_int HV.out.symm, HB.out⟩
      · have HK2 : Hid (A = fndK x (l.drop (k + 1)) (k + 1)) := HK.out.trans (fndK_no hkl (by rw [← hp]; exact hx))
        have hx' : (p.i == x) = false := by simpa using hx
        clear hp HK HA HAt hkl
        go_wp2_with (fail)
        go_roundw
        case rel => exact ⟨k + 1, by omega, by go_num, HB.out, HK2.out⟩
        case measure => simp [intOf]; omega
    · obtain rfl : k = n := by omega
      have HV : Hid (A = -1) := HK.out.trans (fndK_end (by rw [← Hn.out]; exact Nat.le_refl _))
      clear HK HA HAt
      go_wp2_with (fail)
      go_ret
      exact ⟨ret_int HV.out.symm, HB.out⟩
set_option maxRecDepth 20000 in
set_option maxHeartbeats 8000000 in
theorem rsetC (u : Value) (l : List Ru) (M : Int) (w : World) (hs : SrcU w u l) (hl : l.length ≤ 200000) (hbd : ∀ k (hk : k < l.length), BdR (l[k]'hk)) :
    Calls Tryz.prog 31 #[u, .int .i64 M] w fun e w' => e = .returned (.int .i64 (setE l M)) ∧ Below w.heap.size w w' := by
  have HS : Hid (SrcU w u l) := hs
  obtain ⟨E, hE⟩ : ∃ E, E = setE l M := ⟨_, rfl⟩
  rw [← hE]
  have HE : Hid (E = setK M (l.take 0) (l.drop 0)) := hE
  clear hE
  obtain ⟨ad, cap, rfl, hcap, hat⟩ := hs
  obtain ⟨n, hn⟩ : ∃ n, n = l.length := ⟨_, rfl⟩
  have Hn : Hid (n = l.length) := hn
  have HAt : Hid (∀ (W : World), Below w.heap.size w W → ∀ k (hk : k < l.length), ∃ g off, ad = some ⟨g, off, none⟩ ∧ g < W.heap.size ∧ ∀ j, j < 12 → W.cell? ⟨g, off + (k * 12 + j), none⟩ = (encU (l[k]'hk))[j]?) := fun W hb k hk => by
    obtain ⟨g, off, e, h3⟩ := hat (by omega)
    have h0 := h3 k hk 0 (by decide)
    have hg : g < w.heap.size := World.block_lt_of_cell? w _ (h0.trans rfl)
    exact ⟨g, off, e, by have := hb.size; omega, fun j hj => by
      have := h3 k hk j hj
      obtain ⟨u, hu⟩ := encU_some (l[k]'hk) hj
      rw [hb.cell (p := ⟨g, off + (k * 12 + j), none⟩) hg]; exact this⟩
  have HC : Hid (∀ (W : World) (k : Nat) (hk : k < l.length) (p : Ru), p = l[k]'hk → Calls Tryz.prog 43 #[.agg #[.int .i64 p.i, .int .u32 (p.s : Int), .int .i64 p.sl, .int .u32 (p.d : Int), .int .i64 p.dl, .int .u16 (p.p.1 : Int), .int .u16 (p.p.2 : Int), .int .u16 (p.q.1 : Int), .int .u16 (p.q.2 : Int), .int .u8 (p.m.1 : Int), .int .u8 (p.m.2 : Int), .int .i64 p.act]] W fun e w' => e = .returned (.tuple #[.int .i64 (errs p).1, .int .i64 (errs p).2]) ∧ Below W.heap.size W w') := fun W k hk p hp => rcheckR p W (by rw [hp]; exact hbd k hk)
  have HJ : Hid (∀ (W : World) (k : Nat) (hk : k < l.length) (g off : Nat), ad = some ⟨g, off, none⟩ → Below w.heap.size w W → ∀ x : Int, Calls Tryz.prog 44 #[.slice (some ⟨g, off, none⟩) k cap, .int .i64 x] W fun e w' => e = .returned (.int .i64 (fnd (l.take k) x)) ∧ Below W.heap.size W w') := fun W k hk g off e hb x => by
    subst e
    have h1 := (SrcU.cut HS.out 0 k (Nat.zero_le _) (by omega)).keep hb
    rw [cutU_zero, List.drop_zero] at h1
    exact rfindC _ _ x W h1 (by rw [List.length_take]; omega)
  rw [← hn] at hl hcap HS ⊢
  have hn0 : (n : Int) ≤ 200000 := by omega
  clear hn hat HS hbd
  go_enter Tryz.func31, Tryz.ntmps31
  go_wp2_with (fail)
  go_loopw [5] (fun i wr => ∃ k : Nat, k ≤ n ∧ i = .int .i64 (k : Int) ∧ Hid (Below w.heap.size w wr) ∧ Hid (E = setK M (l.take k) (l.drop k))) (fun i _ => n - (intOf i).toNat)
  case atStart => exact ⟨0, Nat.zero_le _, rfl, Below.refl _ _, HE.out⟩
  case round =>
    obtain ⟨k, hk, rfl, HB, HK⟩ := hrel
    by_cases hlt2 : k < n
    · have hkl : k < l.length := by rw [← Hn.out]; exact hlt2
      obtain ⟨g, off, e0, hg, hc⟩ := HAt.out wr HB.out k hkl
      obtain ⟨p, hp⟩ : ∃ p, p = l[k]'hkl := ⟨_, rfl⟩
      have hCk := HC.out wr k hkl p hp
      have hJ := fun W hb => HJ.out W k hkl g off e0 hb p.i
      have HKb : Hid (joinE (l.take k) p ≠ 0 → E = joinE (l.take k) p) := by rw [hp]; exact fun h0 => HK.out.trans (setK_bad hkl h0)
      have HKf : Hid (joinE (l.take k) p = 0 → M ≤ (k : Int) → E = 113) := by rw [hp]; exact fun h0 hm => HK.out.trans (setK_full hkl h0 hm)
      have HKn : Hid (joinE (l.take k) p = 0 → (k : Int) < M → E = setK M (l.take (k + 1)) (l.drop (k + 1))) := by rw [hp]; exact fun h0 hm => HK.out.trans (setK_next hkl h0 hm)
      have hje : joinE (l.take k) p = if (errs p).1 = 0 then (if 0 ≤ fnd (l.take k) p.i then 111 else 0) else (errs p).1 := rfl
      rw [← hp] at hc
      subst e0
      have x0 : wr.cell? ⟨g, off + k * 12, none⟩ = some (.int .i64 p.i) := hc 0 (by decide)
      have x1 : wr.cell? ⟨g, off + k * 12 + 1, none⟩ = some (.int .u32 (p.s : Int)) := hc 1 (by decide)
      have x2 : wr.cell? ⟨g, off + k * 12 + 2, none⟩ = some (.int .i64 p.sl) := hc 2 (by decide)
      have x3 : wr.cell? ⟨g, off + k * 12 + 3, none⟩ = some (.int .u32 (p.d : Int)) := hc 3 (by decide)
      have x4 : wr.cell? ⟨g, off + k * 12 + 4, none⟩ = some (.int .i64 p.dl) := hc 4 (by decide)
      have x5 : wr.cell? ⟨g, off + k * 12 + 5, none⟩ = some (.int .u16 (p.p.1 : Int)) := hc 5 (by decide)
      have x6 : wr.cell? ⟨g, off + k * 12 + 6, none⟩ = some (.int .u16 (p.p.2 : Int)) := hc 6 (by decide)
      have x7 : wr.cell? ⟨g, off + k * 12 + 7, none⟩ = some (.int .u16 (p.q.1 : Int)) := hc 7 (by decide)
      have x8 : wr.cell? ⟨g, off + k * 12 + 8, none⟩ = some (.int .u16 (p.q.2 : Int)) := hc 8 (by decide)
      have x9 : wr.cell? ⟨g, off + k * 12 + 9, none⟩ = some (.int .u8 (p.m.1 : Int)) := hc 9 (by decide)
      have x10 : wr.cell? ⟨g, off + k * 12 + 10, none⟩ = some (.int .u8 (p.m.2 : Int)) := hc 10 (by decide)
      have x11 : wr.cell? ⟨g, off + k * 12 + 11, none⟩ = some (.int .i64 p.act) := hc 11 (by decide)
      have hlt' : (k : Int) < (n : Int) := by omega
      have hcp1 : (k : Int) ≤ (cap : Int) := by omega
      have hcp2 : ¬ cap = 0 := by omega
      clear HAt HJ HK HE hp HC
      generalize (errs p).1 = c at *
      generalize (errs p).2 = d at *
      generalize fnd (l.take k) p.i = fd at *
      rw [hje] at HKb HKf HKn
      clear hje
      go_wp2_with (fail)
      refine hCk.mono ?_
      rintro e W1 ⟨rfl, hb1⟩
      have HB1 : Hid (Below w.heap.size w W1) := HB.out.trans (hb1.mono HB.out.size)
      have z0 : W1.cell? ⟨g, off + k * 12, none⟩ = some (.int .i64 p.i) := cell_on1 hb1 x0
      have hg1 : g < W1.heap.size := by have := hb1.size; omega
      clear hb1 hCk hc HB x0 x1 x2 x3 x4 x5 x6 x7 x8 x9 x10 x11
      by_cases hc0 : c = 0
      · subst hc0
        go_upto_region 7 with (fail)
        have kne : Nonempty (Kin (W1)) := ⟨⟨_, Below.refl _ _⟩⟩
        have kc0 : ∀ y : Kin (W1), y.val.cell? ⟨g, off + k * 12, none⟩ = some (.int .i64 p.i) := fun y => by rw [kin_cell (by first | omega | (simp <;> omega))]; first | assumption | (simp [go_sem]; done) | simp [go_sem, *]
        refine wp_region_kin (W1) (Below.refl _ _) (by kernel_rfl) (by kernel_rfl) ?_
        repeat (go_big_quiet_step (first | (go_at_call 44; exact kin_call (hJ _ (HB1.out.trans (Below.mono (Kin.is _) HB1.out.size))))))
        refine wpQuiet_nil ?_
        rintro wq ⟨⟨xq, hxq⟩, hyq⟩
        have hq : Below (W1).heap.size (W1) wq := by rw [hyq]; exact hxq
        clear hyq hxq xq
        clear kne kc0
        obtain ⟨hcq, hfq⟩ := bcell hq
        have hzq := hq.size
        try simp at hzq
        generalize wq = W3 at *
        have HB3 : Hid (Below w.heap.size w W3) := HB1.out.trans (hq.mono HB1.out.size)
        clear hq hcq hfq hzq hJ z0 HB1 hg1
        clear W1
        by_cases hf : 0 ≤ fd
        · have HV : Hid (E = 111) := by
            have := HKb.out
            simp [hf] at this
            exact this
          clear HKb HKf HKn
          go_wp2_with (fail)
          go_ret
          exact ⟨ret_int HV.out.symm, HB3.out⟩
        · have hf' : ¬ 0 ≤ fd := hf
          by_cases hm : M ≤ (k : Int)
          · have HV : Hid (E = 113) := by
              have := HKf.out
              simp [hf, hm] at this
              exact this
            clear HKb HKf HKn
            go_wp2_with (fail)
            go_ret
            exact ⟨ret_int HV.out.symm, HB3.out⟩
          · have HV : Hid (E = setK M (l.take (k + 1)) (l.drop (k + 1))) := by
              have h2 : (k : Int) < M := by omega
              have := HKn.out
              simp only [if_true, if_neg hf] at this
              exact this trivial h2
            clear HKb HKf HKn
            go_wp2_with (fail)
            go_roundw
            case rel => exact ⟨k + 1, by omega, by go_num, HB3.out, HV.out⟩
            case measure => simp [intOf]; omega
      · have HV : Hid (E = c) := by
          have := HKb.out
          rw [if_neg hc0] at this
          exact this hc0
        have hc' : (c != 0) = true := by simpa using hc0
        clear HKb HKf HKn
        go_wp2_with (fail)
        go_ret
        exact ⟨ret_int HV.out.symm, HB1.out⟩
    · obtain rfl : k = n := by omega
      have HV : Hid (E = 0) := HK.out.trans (setK_end (by rw [← Hn.out]; exact Nat.le_refl _))
      clear HK HE HAt HJ HC
      go_wp2_with (fail)
      go_ret
      exact ⟨ret_int HV.out.symm, HB.out⟩
theorem put3 (V : World) (B : Nat) {a b c : Value} (a' b' c' : Value) {T : TypeId} (h1 : V.heap[B]? = some (.cells #[a, b, c] T (0, 0))) (W : World)
    (hW : W = ((V.setCell ⟨B, 0, none⟩ a').setCell ⟨B, 1, none⟩ b').setCell ⟨B, 2, none⟩ c') : W.heap[B]? = some (.cells #[a', b', c'] T (0, 0)) ∧ ∀ n, n ≤ B → Below n V W := by
  subst hW
  have q1 := blk_set h1 (j := 0) a'
  have q2 := blk_set q1 (j := 1) b'
  have q3 := blk_set q2 (j := 2) c'
  exact ⟨by simpa using q3, fun n hB => Below.setCell (p := ⟨B, 2, none⟩) (Below.setCell (p := ⟨B, 1, none⟩) (Below.setCell (p := ⟨B, 0, none⟩) (Below.refl n V) hB _) hB _) hB _⟩
set_option maxRecDepth 20000 in
set_option maxHeartbeats 8000000 in
theorem rmatchL (u : Value) (l : List Ru) (A : Int) (h : Hd) (w : World) (hs : SrcU w u l) (hl : l.length ≤ 200000) (hbd : ∀ k (hk : k < l.length), BdR (l[k]'hk)) (oh : OkH h) :
    Calls Tryz.prog 47 #[u, .int .i64 A, .agg #[.int .u32 (h.s : Int), .int .u32 (h.d : Int), .int .u16 (h.p : Int), .int .u16 (h.q : Int), .int .u8 (h.r : Int)]] w fun e w' => e = .returned (.tuple #[.agg #[.bool (vdH (mat l h)), .int .i64 (vdI l (mat l h)), .int .i64 (vdA A l (mat l h))], .int .i64 (mat l h)]) ∧ Below w.heap.size w w' := by
  obtain ⟨E, hE⟩ : ∃ E, E = Ending.returned (.tuple #[.agg #[.bool (vdH (mat l h)), .int .i64 (vdI l (mat l h)), .int .i64 (vdA A l (mat l h))], .int .i64 (mat l h)]) := ⟨_, rfl⟩
  rw [← hE]
  have HE : Hid (E = Ending.returned (.tuple #[.agg #[.bool (vdH (mat l h)), .int .i64 (vdI l (mat l h)), .int .i64 (vdA A l (mat l h))], .int .i64 (mat l h)])) := hE
  have HM0 : Hid (mat l h = matK h (l.drop 0) 0) := rfl
  clear hE
  have hS0 : ((w.alloc (.cells #[.int .u32 (h.s : Int), .int .u32 (h.d : Int), .int .u16 (h.p : Int), .int .u16 (h.q : Int), .int .u8 (h.r : Int)] 28)).alloc (.cells #[.bool false, .int .i64 0, .int .i64 0] 36)).heap[w.heap.size]? = some (.cells #[.int .u32 (h.s : Int), .int .u32 (h.d : Int), .int .u16 (h.p : Int), .int .u16 (h.q : Int), .int .u8 (h.r : Int)] 28) := blk_alloc (blk_new w _) _
  have hS1 : ((w.alloc (.cells #[.int .u32 (h.s : Int), .int .u32 (h.d : Int), .int .u16 (h.p : Int), .int .u16 (h.q : Int), .int .u8 (h.r : Int)] 28)).alloc (.cells #[.bool false, .int .i64 0, .int .i64 0] 36)).heap[w.heap.size + 1]? = some (.cells #[.bool false, .int .i64 0, .int .i64 0] 36) := by simpa using blk_new (w.alloc (.cells #[.int .u32 (h.s : Int), .int .u32 (h.d : Int), .int .u16 (h.p : Int), .int .u16 (h.q : Int), .int .u8 (h.r : Int)] 28)) (.cells #[.bool false, .int .i64 0, .int .i64 0] 36)
  have hB0 : Below w.heap.size w ((w.alloc (.cells #[.int .u32 (h.s : Int), .int .u32 (h.d : Int), .int .u16 (h.p : Int), .int .u16 (h.q : Int), .int .u8 (h.r : Int)] 28)).alloc (.cells #[.bool false, .int .i64 0, .int .i64 0] 36)) := bel_a2 w _ _
  obtain ⟨ad, cap, rfl, hcap, hat⟩ := hs
  obtain ⟨n, hn⟩ : ∃ n, n = l.length := ⟨_, rfl⟩
  have Hn : Hid (n = l.length) := hn
  have HAt : Hid (∀ (W : World), Below w.heap.size w W → ∀ k (hk : k < l.length), ∃ g off, ad = some ⟨g, off, none⟩ ∧ g < W.heap.size ∧ ∀ j, j < 12 → W.cell? ⟨g, off + (k * 12 + j), none⟩ = (encU (l[k]'hk))[j]?) := fun W hb k hk => by
    obtain ⟨g, off, e, h3⟩ := hat (by omega)
    have h0 := h3 k hk 0 (by decide)
    have hg : g < w.heap.size := World.block_lt_of_cell? w _ (h0.trans rfl)
    exact ⟨g, off, e, by have := hb.size; omega, fun j hj => by
      have := h3 k hk j hj
      obtain ⟨u, hu⟩ := encU_some (l[k]'hk) hj
      rw [hb.cell (p := ⟨g, off + (k * 12 + j), none⟩) hg]; exact this⟩
  have HC : Hid (∀ (W : World) (k : Nat) (hk : k < l.length) (p : Ru), p = l[k]'hk → Calls Tryz.prog 67 #[.agg #[.int .i64 p.i, .int .u32 (p.s : Int), .int .i64 p.sl, .int .u32 (p.d : Int), .int .i64 p.dl, .int .u16 (p.p.1 : Int), .int .u16 (p.p.2 : Int), .int .u16 (p.q.1 : Int), .int .u16 (p.q.2 : Int), .int .u8 (p.m.1 : Int), .int .u8 (p.m.2 : Int), .int .i64 p.act], .agg #[.int .u32 (h.s : Int), .int .u32 (h.d : Int), .int .u16 (h.p : Int), .int .u16 (h.q : Int), .int .u8 (h.r : Int)]] W fun e w' => e = .returned (.bool (matchR p h)) ∧ Below W.heap.size W w') := fun W k hk p hp => rmatchR p h W (by rw [hp]; exact hbd k hk) oh
  rw [← hn] at hl hcap ⊢
  have hn0 : (n : Int) ≤ 200000 := by omega
  clear hn hat hbd
  go_enter Tryz.func47, Tryz.ntmps47
  go_upto_region 1 with (fail)
  generalize (w.alloc (.cells #[.int .u32 (h.s : Int), .int .u32 (h.d : Int), .int .u16 (h.p : Int), .int .u16 (h.q : Int), .int .u8 (h.r : Int)] 28)).alloc (.cells #[.bool false, .int .i64 0, .int .i64 0] 36) = W0 at *
  have HS0 : Hid _ := hS0
  have HS1 : Hid _ := hS1
  have HB0 : Hid _ := hB0
  clear hS0 hS1 hB0
  go_wp2_with (fail)
  go_loopw [8] (fun i wr => ∃ k : Nat, k ≤ n ∧ i = .int .i64 (k : Int) ∧ Hid (Below w.heap.size w wr) ∧ Hid (wr.heap[w.heap.size]? = some (.cells #[.int .u32 (h.s : Int), .int .u32 (h.d : Int), .int .u16 (h.p : Int), .int .u16 (h.q : Int), .int .u8 (h.r : Int)] 28)) ∧ Hid (wr.heap[w.heap.size + 1]? = some (.cells #[.bool false, .int .i64 0, .int .i64 0] 36)) ∧ Hid (mat l h = matK h (l.drop k) k)) (fun i _ => n - (intOf i).toNat)
  case atStart => exact ⟨0, Nat.zero_le _, rfl, HB0.out, HS0.out, HS1.out, HM0.out⟩
  case round =>
    clear HS0 HS1 HB0 HM0
    obtain ⟨k, hk, rfl, HB, HH, HV, HK⟩ := hrel
    by_cases hlt2 : k < n
    · have hkl : k < l.length := by rw [← Hn.out]; exact hlt2
      obtain ⟨g, off, e0, hg, hc⟩ := HAt.out wr HB.out k hkl
      obtain ⟨p, hp⟩ : ∃ p, p = l[k]'hkl := ⟨_, rfl⟩
      have hM := fun W => HC.out W k hkl p hp
      rw [← hp] at hc
      subst e0
      have x0 : wr.cell? ⟨g, off + k * 12, none⟩ = some (.int .i64 p.i) := hc 0 (by decide)
      have x1 : wr.cell? ⟨g, off + k * 12 + 1, none⟩ = some (.int .u32 (p.s : Int)) := hc 1 (by decide)
      have x2 : wr.cell? ⟨g, off + k * 12 + 2, none⟩ = some (.int .i64 p.sl) := hc 2 (by decide)
      have x3 : wr.cell? ⟨g, off + k * 12 + 3, none⟩ = some (.int .u32 (p.d : Int)) := hc 3 (by decide)
      have x4 : wr.cell? ⟨g, off + k * 12 + 4, none⟩ = some (.int .i64 p.dl) := hc 4 (by decide)
      have x5 : wr.cell? ⟨g, off + k * 12 + 5, none⟩ = some (.int .u16 (p.p.1 : Int)) := hc 5 (by decide)
      have x6 : wr.cell? ⟨g, off + k * 12 + 6, none⟩ = some (.int .u16 (p.p.2 : Int)) := hc 6 (by decide)
      have x7 : wr.cell? ⟨g, off + k * 12 + 7, none⟩ = some (.int .u16 (p.q.1 : Int)) := hc 7 (by decide)
      have x8 : wr.cell? ⟨g, off + k * 12 + 8, none⟩ = some (.int .u16 (p.q.2 : Int)) := hc 8 (by decide)
      have x9 : wr.cell? ⟨g, off + k * 12 + 9, none⟩ = some (.int .u8 (p.m.1 : Int)) := hc 9 (by decide)
      have x10 : wr.cell? ⟨g, off + k * 12 + 10, none⟩ = some (.int .u8 (p.m.2 : Int)) := hc 10 (by decide)
      have x11 : wr.cell? ⟨g, off + k * 12 + 11, none⟩ = some (.int .i64 p.act) := hc 11 (by decide)
      obtain ⟨y0, y1, y2, y3, y4⟩ := blk5 HH.out
      have hlt' : (k : Int) < (n : Int) := by omega
      have hgz : g < wr.heap.size := hg
      have hz1 : w.heap.size < wr.heap.size := blk_lt HH.out
      cases hm : matchR p h
      · have HK2 : Hid (mat l h = matK h (l.drop (k + 1)) (k + 1)) := HK.out.trans (matK_no hkl (by rw [← hp]; exact hm))
        rw [hm] at hM
        clear hc HAt HK hp HC
        go_upto_region 4 with (fail)
        have kne : Nonempty (Kin (wr)) := ⟨⟨_, Below.refl _ _⟩⟩
        have kc0 : ∀ y : Kin (wr), y.val.cell? ⟨g, off + k * 12, none⟩ = some (.int .i64 p.i) := fun y => by rw [kin_cell (by first | omega | (simp <;> omega))]; first | assumption | (simp [go_sem]; done) | simp [go_sem, *]
        have kc1 : ∀ y : Kin (wr), y.val.cell? ⟨g, off + k * 12 + 1, none⟩ = some (.int .u32 (p.s : Int)) := fun y => by rw [kin_cell (by first | omega | (simp <;> omega))]; first | assumption | (simp [go_sem]; done) | simp [go_sem, *]
        have kc2 : ∀ y : Kin (wr), y.val.cell? ⟨g, off + k * 12 + 2, none⟩ = some (.int .i64 p.sl) := fun y => by rw [kin_cell (by first | omega | (simp <;> omega))]; first | assumption | (simp [go_sem]; done) | simp [go_sem, *]
        have kc3 : ∀ y : Kin (wr), y.val.cell? ⟨g, off + k * 12 + 3, none⟩ = some (.int .u32 (p.d : Int)) := fun y => by rw [kin_cell (by first | omega | (simp <;> omega))]; first | assumption | (simp [go_sem]; done) | simp [go_sem, *]
        have kc4 : ∀ y : Kin (wr), y.val.cell? ⟨g, off + k * 12 + 4, none⟩ = some (.int .i64 p.dl) := fun y => by rw [kin_cell (by first | omega | (simp <;> omega))]; first | assumption | (simp [go_sem]; done) | simp [go_sem, *]
        have kc5 : ∀ y : Kin (wr), y.val.cell? ⟨g, off + k * 12 + 5, none⟩ = some (.int .u16 (p.p.1 : Int)) := fun y => by rw [kin_cell (by first | omega | (simp <;> omega))]; first | assumption | (simp [go_sem]; done) | simp [go_sem, *]
        have kc6 : ∀ y : Kin (wr), y.val.cell? ⟨g, off + k * 12 + 6, none⟩ = some (.int .u16 (p.p.2 : Int)) := fun y => by rw [kin_cell (by first | omega | (simp <;> omega))]; first | assumption | (simp [go_sem]; done) | simp [go_sem, *]
        have kc7 : ∀ y : Kin (wr), y.val.cell? ⟨g, off + k * 12 + 7, none⟩ = some (.int .u16 (p.q.1 : Int)) := fun y => by rw [kin_cell (by first | omega | (simp <;> omega))]; first | assumption | (simp [go_sem]; done) | simp [go_sem, *]
        have kc8 : ∀ y : Kin (wr), y.val.cell? ⟨g, off + k * 12 + 8, none⟩ = some (.int .u16 (p.q.2 : Int)) := fun y => by rw [kin_cell (by first | omega | (simp <;> omega))]; first | assumption | (simp [go_sem]; done) | simp [go_sem, *]
        have kc9 : ∀ y : Kin (wr), y.val.cell? ⟨g, off + k * 12 + 9, none⟩ = some (.int .u8 (p.m.1 : Int)) := fun y => by rw [kin_cell (by first | omega | (simp <;> omega))]; first | assumption | (simp [go_sem]; done) | simp [go_sem, *]
        have kc10 : ∀ y : Kin (wr), y.val.cell? ⟨g, off + k * 12 + 10, none⟩ = some (.int .u8 (p.m.2 : Int)) := fun y => by rw [kin_cell (by first | omega | (simp <;> omega))]; first | assumption | (simp [go_sem]; done) | simp [go_sem, *]
        have kc11 : ∀ y : Kin (wr), y.val.cell? ⟨g, off + k * 12 + 11, none⟩ = some (.int .i64 p.act) := fun y => by rw [kin_cell (by first | omega | (simp <;> omega))]; first | assumption | (simp [go_sem]; done) | simp [go_sem, *]
        have kc12 : ∀ y : Kin (wr), y.val.cell? ⟨w.heap.size, 0, none⟩ = some (.int .u32 (h.s : Int)) := fun y => by rw [kin_cell (by first | omega | (simp <;> omega))]; first | assumption | (simp [go_sem]; done) | simp [go_sem, *]
        have kc13 : ∀ y : Kin (wr), y.val.cell? ⟨w.heap.size, 1, none⟩ = some (.int .u32 (h.d : Int)) := fun y => by rw [kin_cell (by first | omega | (simp <;> omega))]; first | assumption | (simp [go_sem]; done) | simp [go_sem, *]
        have kc14 : ∀ y : Kin (wr), y.val.cell? ⟨w.heap.size, 2, none⟩ = some (.int .u16 (h.p : Int)) := fun y => by rw [kin_cell (by first | omega | (simp <;> omega))]; first | assumption | (simp [go_sem]; done) | simp [go_sem, *]
        have kc15 : ∀ y : Kin (wr), y.val.cell? ⟨w.heap.size, 3, none⟩ = some (.int .u16 (h.q : Int)) := fun y => by rw [kin_cell (by first | omega | (simp <;> omega))]; first | assumption | (simp [go_sem]; done) | simp [go_sem, *]
        have kc16 : ∀ y : Kin (wr), y.val.cell? ⟨w.heap.size, 4, none⟩ = some (.int .u8 (h.r : Int)) := fun y => by rw [kin_cell (by first | omega | (simp <;> omega))]; first | assumption | (simp [go_sem]; done) | simp [go_sem, *]
        refine wp_region_kin (wr) (Below.refl _ _) (by kernel_rfl) (by kernel_rfl) ?_
        repeat (go_big_quiet_step (first | (go_at_call 67; exact kin_call (hM _))))
        refine wpQuiet_nil ?_
        rintro wq ⟨⟨xq, hxq⟩, hyq⟩
        have hq : Below (wr).heap.size (wr) wq := by rw [hyq]; exact hxq
        clear hyq hxq xq
        clear kne kc0 kc1 kc2 kc3 kc4 kc5 kc6 kc7 kc8 kc9 kc10 kc11 kc12 kc13 kc14 kc15 kc16
        obtain ⟨hcq, hfq⟩ := bcell hq
        have hzq := hq.size
        try simp at hzq
        generalize wq = W3 at *
        have HB3 : Hid (Below w.heap.size w W3) := HB.out.trans (hq.mono HB.out.size)
        have HH3 : Hid (W3.heap[w.heap.size]? = some (.cells #[.int .u32 (h.s : Int), .int .u32 (h.d : Int), .int .u16 (h.p : Int), .int .u16 (h.q : Int), .int .u8 (h.r : Int)] 28)) := blk_on HH.out hq
        have HV3 : Hid (W3.heap[w.heap.size + 1]? = some (.cells #[.bool false, .int .i64 0, .int .i64 0] 36)) := blk_on HV.out hq
        clear hq hcq hfq hzq hM HB HH HV x0 x1 x2 x3 x4 x5 x6 x7 x8 x9 x10 x11 y0 y1 y2 y3 y4 hgz hz1
        go_wp2_with (fail)
        go_roundw
        case rel => exact ⟨k + 1, by omega, by go_num, HB3.out, HH3.out, HV3.out, HK2.out⟩
        case measure => simp [intOf]; omega
      · have hmk : mat l h = (k : Int) := HK.out.trans (matK_hit hkl (by rw [← hp]; exact hm))
        have HE2 : Hid (E = .returned (.tuple #[.agg #[.bool true, .int .i64 p.i, .int .i64 p.act], .int .i64 (k : Int)])) := by
          show _ = _
          rw [HE.out, hmk, vdI_at hkl, vdA_at hkl, ← hp]
          have : vdH (k : Int) = true := decide_eq_true (by omega)
          rw [this]
        rw [hm] at hM
        clear hc HAt HK hp HC hmk HE
        go_upto_region 4 with (fail)
        have kne : Nonempty (Kin (wr)) := ⟨⟨_, Below.refl _ _⟩⟩
        have kc0 : ∀ y : Kin (wr), y.val.cell? ⟨g, off + k * 12, none⟩ = some (.int .i64 p.i) := fun y => by rw [kin_cell (by first | omega | (simp <;> omega))]; first | assumption | (simp [go_sem]; done) | simp [go_sem, *]
        have kc1 : ∀ y : Kin (wr), y.val.cell? ⟨g, off + k * 12 + 1, none⟩ = some (.int .u32 (p.s : Int)) := fun y => by rw [kin_cell (by first | omega | (simp <;> omega))]; first | assumption | (simp [go_sem]; done) | simp [go_sem, *]
        have kc2 : ∀ y : Kin (wr), y.val.cell? ⟨g, off + k * 12 + 2, none⟩ = some (.int .i64 p.sl) := fun y => by rw [kin_cell (by first | omega | (simp <;> omega))]; first | assumption | (simp [go_sem]; done) | simp [go_sem, *]
        have kc3 : ∀ y : Kin (wr), y.val.cell? ⟨g, off + k * 12 + 3, none⟩ = some (.int .u32 (p.d : Int)) := fun y => by rw [kin_cell (by first | omega | (simp <;> omega))]; first | assumption | (simp [go_sem]; done) | simp [go_sem, *]
        have kc4 : ∀ y : Kin (wr), y.val.cell? ⟨g, off + k * 12 + 4, none⟩ = some (.int .i64 p.dl) := fun y => by rw [kin_cell (by first | omega | (simp <;> omega))]; first | assumption | (simp [go_sem]; done) | simp [go_sem, *]
        have kc5 : ∀ y : Kin (wr), y.val.cell? ⟨g, off + k * 12 + 5, none⟩ = some (.int .u16 (p.p.1 : Int)) := fun y => by rw [kin_cell (by first | omega | (simp <;> omega))]; first | assumption | (simp [go_sem]; done) | simp [go_sem, *]
        have kc6 : ∀ y : Kin (wr), y.val.cell? ⟨g, off + k * 12 + 6, none⟩ = some (.int .u16 (p.p.2 : Int)) := fun y => by rw [kin_cell (by first | omega | (simp <;> omega))]; first | assumption | (simp [go_sem]; done) | simp [go_sem, *]
        have kc7 : ∀ y : Kin (wr), y.val.cell? ⟨g, off + k * 12 + 7, none⟩ = some (.int .u16 (p.q.1 : Int)) := fun y => by rw [kin_cell (by first | omega | (simp <;> omega))]; first | assumption | (simp [go_sem]; done) | simp [go_sem, *]
        have kc8 : ∀ y : Kin (wr), y.val.cell? ⟨g, off + k * 12 + 8, none⟩ = some (.int .u16 (p.q.2 : Int)) := fun y => by rw [kin_cell (by first | omega | (simp <;> omega))]; first | assumption | (simp [go_sem]; done) | simp [go_sem, *]
        have kc9 : ∀ y : Kin (wr), y.val.cell? ⟨g, off + k * 12 + 9, none⟩ = some (.int .u8 (p.m.1 : Int)) := fun y => by rw [kin_cell (by first | omega | (simp <;> omega))]; first | assumption | (simp [go_sem]; done) | simp [go_sem, *]
        have kc10 : ∀ y : Kin (wr), y.val.cell? ⟨g, off + k * 12 + 10, none⟩ = some (.int .u8 (p.m.2 : Int)) := fun y => by rw [kin_cell (by first | omega | (simp <;> omega))]; first | assumption | (simp [go_sem]; done) | simp [go_sem, *]
        have kc11 : ∀ y : Kin (wr), y.val.cell? ⟨g, off + k * 12 + 11, none⟩ = some (.int .i64 p.act) := fun y => by rw [kin_cell (by first | omega | (simp <;> omega))]; first | assumption | (simp [go_sem]; done) | simp [go_sem, *]
        have kc12 : ∀ y : Kin (wr), y.val.cell? ⟨w.heap.size, 0, none⟩ = some (.int .u32 (h.s : Int)) := fun y => by rw [kin_cell (by first | omega | (simp <;> omega))]; first | assumption | (simp [go_sem]; done) | simp [go_sem, *]
        have kc13 : ∀ y : Kin (wr), y.val.cell? ⟨w.heap.size, 1, none⟩ = some (.int .u32 (h.d : Int)) := fun y => by rw [kin_cell (by first | omega | (simp <;> omega))]; first | assumption | (simp [go_sem]; done) | simp [go_sem, *]
        have kc14 : ∀ y : Kin (wr), y.val.cell? ⟨w.heap.size, 2, none⟩ = some (.int .u16 (h.p : Int)) := fun y => by rw [kin_cell (by first | omega | (simp <;> omega))]; first | assumption | (simp [go_sem]; done) | simp [go_sem, *]
        have kc15 : ∀ y : Kin (wr), y.val.cell? ⟨w.heap.size, 3, none⟩ = some (.int .u16 (h.q : Int)) := fun y => by rw [kin_cell (by first | omega | (simp <;> omega))]; first | assumption | (simp [go_sem]; done) | simp [go_sem, *]
        have kc16 : ∀ y : Kin (wr), y.val.cell? ⟨w.heap.size, 4, none⟩ = some (.int .u8 (h.r : Int)) := fun y => by rw [kin_cell (by first | omega | (simp <;> omega))]; first | assumption | (simp [go_sem]; done) | simp [go_sem, *]
        refine wp_region_kin (wr) (Below.refl _ _) (by kernel_rfl) (by kernel_rfl) ?_
        repeat (go_big_quiet_step (first | (go_at_call 67; exact kin_call (hM _))))
        refine wpQuiet_nil ?_
        rintro wq ⟨⟨xq, hxq⟩, hyq⟩
        have hq : Below (wr).heap.size (wr) wq := by rw [hyq]; exact hxq
        clear hyq hxq xq
        clear kne kc0 kc1 kc2 kc3 kc4 kc5 kc6 kc7 kc8 kc9 kc10 kc11 kc12 kc13 kc14 kc15 kc16
        obtain ⟨hcq, hfq⟩ := bcell hq
        have hzq := hq.size
        try simp at hzq
        generalize wq = W3 at *
        have HB3 : Hid (Below w.heap.size w W3) := HB.out.trans (hq.mono HB.out.size)
        have s2 : W3.heap[w.heap.size + 1]? = some (.cells #[.bool false, .int .i64 0, .int .i64 0] 36) := blk_on HV.out hq
        have z0 : W3.cell? ⟨g, off + k * 12, none⟩ = some (.int .i64 p.i) := cell_on1 hq x0
        have z11 : W3.cell? ⟨g, off + k * 12 + 11, none⟩ = some (.int .i64 p.act) := cell_on1 hq x11
        clear hq hcq hfq hzq hM HB HH HV x0 x1 x2 x3 x4 x5 x6 x7 x8 x9 x10 x11 y0 y1 y2 y3 y4 hgz hz1
        obtain ⟨v0, v1, v2⟩ := blk3 s2
        have f0 := blk_free s2 0
        have f1 := blk_free s2 1
        have f2 := blk_free s2 2
        have HV3 : Hid (W3.heap[w.heap.size + 1]? = some (.cells #[.bool false, .int .i64 0, .int .i64 0] 36)) := s2
        clear s2
        go_upto_region 5 with (fail)
        go_region
        go_wp2_with (fail)
        have hP := put3 W3.drew (w.heap.size + 1) (.bool true) (.int .i64 p.i) (.int .i64 p.act) (drew_blk HV3.out) _ rfl
        exact bodyPost_ret (results_blk2 Tryz.results47 rfl hP.1 Tryz.underlying36 rfl (by kernel_rfl)) rfl ⟨HE2.out.symm, (HB3.out.drew).trans (hP.2 _ (Nat.le_succ _))⟩
    · obtain rfl : k = n := by omega
      have hmk : mat l h = -1 := HK.out.trans (matK_end (by rw [← Hn.out]; exact Nat.le_refl _))
      have HE2 : Hid (E = .returned (.tuple #[.agg #[.bool false, .int .i64 0, .int .i64 A], .int .i64 (-1)])) := by
        show _ = _
        rw [HE.out, hmk]; rfl
      have s2 := HV.out
      obtain ⟨v0, v1, v2⟩ := blk3 s2
      have f0 := blk_free s2 0
      have f1 := blk_free s2 1
      have f2 := blk_free s2 2
      clear s2 HK HAt HC hmk HE HH
      go_wp2_with (fail)
      have hP := put3 wr (w.heap.size + 1) (.bool false) (.int .i64 0) (.int .i64 A) HV.out _ rfl
      exact bodyPost_ret (results_blk2 Tryz.results47 rfl hP.1 Tryz.underlying36 rfl (by kernel_rfl)) rfl ⟨HE2.out.symm, HB.out.trans (hP.2 _ (Nat.le_succ _))⟩
end Go.Proofs.YtgidohnikggjfaaGreat
/-
  The document's Insert, Delete, Move and Copy of lists. Written by tools/mkTbRi.py.
-/
namespace Go.Proofs.YtgidohnikggjfaaGreat
open Go.RowKit
set_option linter.unusedVariables false
set_option linter.unusedSimpArgs false

theorem wpList_cut {P : Program} {ops : Array Oper} {rest : List Oper} {op : Oper} {a : Act} {w : World} {Q : Exit → Act → World → Prop} (hgd : op.guard = none) (ty : TypeId) (x : Operand) (lo hi mx : Option Operand) (ho : op.op = .slice ty x lo hi mx) (v : Value)
    (hr : (Instr.sliceAt ty (a.eval x) (lo.map a.eval) (hi.map a.eval) (mx.map a.eval)).run P w = .ok v w) (hk : wpList P ops Q rest (a.put op.dst v) w) : wpList P ops Q (op :: rest) a w := by
  refine wpList_plain hgd fun K hK => ?_
  unfold Oper.wp execOp
  simp only [ho, Sem.run_bind, hr, Result.andThen_ok, Sem.run_pure]
  exact hK _ _ hk
theorem wpList_move {P : Program} {ops : Array Oper} {rest : List Oper} {op : Oper} {a : Act} {w : World} {Q : Exit → Act → World → Prop} (hgd : op.guard = none) (x : Operand) (ho : op.op = .move x) (v : Value) (hx : a.eval x = v)
    (hk : wpList P ops Q rest (a.put op.dst v) w) : wpList P ops Q (op :: rest) a w := by
  refine wpList_plain hgd fun K hK => ?_
  unfold Oper.wp execOp
  simp only [ho, hx, Sem.run_bind, Result.andThen_ok, Sem.run_pure]
  exact hK _ _ hk
theorem wpList_assign {P : Program} {ops : Array Oper} {rest : List Oper} {op : Oper} {a : Act} {w : World} {Q : Exit → Act → World → Prop} (hgd : op.guard = none) (x : Operand) (ho : op.op = .assign x) (v : Value) (hx : a.eval x = v)
    (hk : wpList P ops Q rest (a.put op.dst v) w) : wpList P ops Q (op :: rest) a w := by
  refine wpList_plain hgd fun K hK => ?_
  unfold Oper.wp execOp
  simp only [ho, hx, Sem.run_bind, Result.andThen_ok, Sem.run_pure]
  exact hK _ _ hk
theorem wpList_add1 {ops : Array Oper} {rest : List Oper} {op : Oper} {a : Act} {w : World} {Q : Exit → Act → World → Prop} (hgd : op.guard = none) (x : Operand) (ho : op.op = .binOp .add 3 x (.const (.int .i64 1)) 3) (k : Int) (hx : a.eval x = .int .i64 k) (hw : IntKind.i64.wrap (k + 1) = k + 1)
    (hk : wpList Tryz.prog ops Q rest (a.put op.dst (.int .i64 (k + 1))) w) : wpList Tryz.prog ops Q (op :: rest) a w := by
  refine wpList_plain hgd fun K hK => ?_
  have hc : a.eval (.const (.int .i64 1)) = .int .i64 1 := rfl
  have hb : Sem.run Tryz.prog (binOp .add 3 (.int .i64 k) (.int .i64 1)) w = .ok (.int .i64 (k + 1)) w := by simp [go_sem, hw]
  have hg : Sem.run Tryz.prog (eqGuard BinOp.add 3 x (.const (.int .i64 1)) (.int .i64 k) (.int .i64 1)) w = .ok () w := by simp [eqGuard]
  unfold Oper.wp execOp
  simp only [ho, hx, hc, Sem.run_bind, hg, hb, Result.andThen_ok, Sem.run_pure]
  exact hK _ _ hk
/-- A list that comes back: the one that was handed in, or one of the call's own. -/
def Outc (w w' : World) (u v' : Value) (l' : List Ru) : Prop := SrcU w' v' l' ∧ (v' = u ∨ ∀ k, v'.ownBlock = some k → w.heap.size ≤ k ∧ k < w'.heap.size)
theorem SrcU.cut0 {w : World} {ad : Option Addr} {n cap : Nat} {l : List Ru} (h : SrcU w (.slice ad n cap) l) (p : Nat) (hp : p ≤ l.length) : SrcU w (.slice ad p cap) (l.take p) := by
  have := h.cut 0 p (Nat.zero_le _) hp
  rw [cutU_zero, List.drop_zero] at this
  exact this
theorem SrcU.cutD {w : World} {ad : Option Addr} {n cap : Nat} {l : List Ru} (h : SrcU w (.slice ad n cap) l) (hn : n = l.length) (p : Nat) (hp : p ≤ n) : SrcU w (cutU ad p n cap) (l.drop p) := by
  have := h.cut p n hp (by omega)
  rw [List.take_of_length_le (by omega)] at this
  exact this
set_option maxRecDepth 20000 in
set_option maxHeartbeats 8000000 in
theorem rinsOk (u : Value) (l : List Ru) (M : Int) (p : Nat) (R : Ru) (w : World) (hs : SrcU w u l) (hl : l.length ≤ 200000) (b : BdR R) (hJ0 : joinE l R = 0) (hp : p ≤ l.length) (hm : (l.length : Int) < M) :
    Calls Tryz.prog 25 #[u, .int .i64 M, .int .i64 (p : Int), .agg #[.int .i64 R.i, .int .u32 (R.s : Int), .int .i64 R.sl, .int .u32 (R.d : Int), .int .i64 R.dl, .int .u16 (R.p.1 : Int), .int .u16 (R.p.2 : Int), .int .u16 (R.q.1 : Int), .int .u16 (R.q.2 : Int), .int .u8 (R.m.1 : Int), .int .u8 (R.m.2 : Int), .int .i64 R.act]] w fun e w' => ∃ v', e = .returned (.tuple #[v', .int .i64 0]) ∧ RowU w' w.heap.size v' (putL l p R) ∧ Below w.heap.size w w' := by
  have hC := rcheckR R (w.alloc (.cells #[.int .i64 R.i, .int .u32 (R.s : Int), .int .i64 R.sl, .int .u32 (R.d : Int), .int .i64 R.dl, .int .u16 (R.p.1 : Int), .int .u16 (R.p.2 : Int), .int .u16 (R.q.1 : Int), .int .u16 (R.q.2 : Int), .int .u8 (R.m.1 : Int), .int .u8 (R.m.2 : Int), .int .i64 R.act] 64)) b
  obtain ⟨j1, j2⟩ := joinE_ok.1 hJ0
  rw [j1] at hC
  have HF : Hid (∀ W, Below w.heap.size w W → Calls Tryz.prog 44 #[u, .int .i64 R.i] W fun e w' => e = .returned (.int .i64 (-1)) ∧ Below W.heap.size W w') := fun W hb => by
    have := rfindC u l R.i W (hs.keep hb) hl
    rw [j2] at this
    exact this
  have HL : Hid ((([] ++ l.take p) ++ [R]) ++ l.drop p = putL l p R) := by show _ = _; unfold putL; simp
  have HS : Hid (SrcU w u l) := hs
  generalize (errs R).2 = d at *
  obtain ⟨ad, cap, rfl, hcap, hat⟩ := hs
  obtain ⟨n, hn⟩ : ∃ n, n = l.length := ⟨_, rfl⟩
  have Hn : Hid (n = l.length) := hn
  rw [← hn] at hl hcap HF HS hp hm ⊢
  clear hat hn hJ0 j1 j2 b
  have hn0 : (n : Int) ≤ 200000 := by omega
  have hp1 : ¬ (p : Int) < 0 := by omega
  have hp2 : ¬ (n : Int) < (p : Int) := by omega
  have hm2 : ¬ M ≤ (n : Int) := by omega
  have hpc : p ≤ cap := by omega
  go_enter Tryz.func25, Tryz.ntmps25
  go_wp2_with (fail)
  refine hC.mono ?_
  rintro e W1 ⟨rfl, hb1⟩
  have HB1 : Hid (Below w.heap.size w W1) := ((Below.refl _ _).alloc (Nat.le_refl _) _).trans (hb1.mono (by simp))
  have HQ1 : Hid (W1.heap[w.heap.size]? = some (.cells #[.int .i64 R.i, .int .u32 (R.s : Int), .int .i64 R.sl, .int .u32 (R.d : Int), .int .i64 R.dl, .int .u16 (R.p.1 : Int), .int .u16 (R.p.2 : Int), .int .u16 (R.q.1 : Int), .int .u16 (R.q.2 : Int), .int .u8 (R.m.1 : Int), .int .u8 (R.m.2 : Int), .int .i64 R.act] 64)) := blk_on (blk_new w _) hb1
  obtain ⟨d0, d1, d2, d3, d4, d5, d6, d7, d8, d9, d10, d11⟩ := blk12 HQ1.out
  clear hb1 hC
  go_wp2_with (fail)
  refine (HF.out _ HB1.out).mono ?_
  rintro e W2 ⟨rfl, hb2⟩
  have HB2 : Hid (Below w.heap.size w W2) := HB1.out.trans (hb2.mono HB1.out.size)
  have HQ2 : Hid (W2.heap[w.heap.size]? = some (.cells #[.int .i64 R.i, .int .u32 (R.s : Int), .int .i64 R.sl, .int .u32 (R.d : Int), .int .i64 R.dl, .int .u16 (R.p.1 : Int), .int .u16 (R.p.2 : Int), .int .u16 (R.q.1 : Int), .int .u16 (R.q.2 : Int), .int .u8 (R.m.1 : Int), .int .u8 (R.m.2 : Int), .int .i64 R.act] 64)) := blk_on HQ1.out hb2
  clear hb2 d0 d1 d2 d3 d4 d5 d6 d7 d8 d9 d10 d11 HF HQ1 HB1
  clear W1
  have HSrc : Hid (∀ W, Below W2.heap.size W2 W → SrcU W (.slice ad n cap) l) := fun W hb => (HS.out.keep HB2.out).keep hb
  have HZ0 : Hid (Below W2.heap.size W2 W2) := Below.refl _ _
  go_upto_region 11 with (fail)
  refine wp_region_lit ?_
  refine wpList_move rfl (.tmp 12) rfl (.slice none 0 0) rfl ?_
  simp only [List.getElem_toArray, List.getElem_cons_succ, List.getElem_cons_zero, Act.put, List.setIfInBounds_toArray, List.set_cons_zero, List.set_cons_succ]
  refine wpList_move rfl (.tmp 0) rfl (.slice ad n cap) rfl ?_
  simp only [List.getElem_toArray, List.getElem_cons_succ, List.getElem_cons_zero, Act.put, List.setIfInBounds_toArray, List.set_cons_zero, List.set_cons_succ]
  refine wpList_move rfl (.tmp 2) rfl (.int .i64 (p : Int)) rfl ?_
  simp only [List.getElem_toArray, List.getElem_cons_succ, List.getElem_cons_zero, Act.put, List.setIfInBounds_toArray, List.set_cons_zero, List.set_cons_succ]
  refine wpList_cut rfl 56 (.tmp 47) none (some (.tmp 48)) none rfl (.slice ad (p) cap) (cut_h' _ ad (n) cap (p) _ (rfl) (by omega)) ?_
  simp only [List.getElem_toArray, List.getElem_cons_succ, List.getElem_cons_zero, Act.put, List.setIfInBounds_toArray, List.set_cons_zero, List.set_cons_succ]
  refine wpList_appendSU rfl (.tmp 46) (.tmp 49) rfl W2.heap.size (.slice none 0 0) [] rfl (RowU.nil _ _) (.slice ad p cap) (l.take p) rfl ((HSrc.out _ HZ0.out).cut0 p (by rw [← Hn.out]; exact hp)) (by first | exact Nat.le_refl _ | (have := HZ0.out.size; first | omega | (simp; omega))) (by have := Hn.out; first | (simp; omega) | (simp [List.length_append, List.length_take]; omega)) ?_
  intro v1 w1 hr1 hg1 ha1
  simp only [List.getElem_toArray, List.getElem_cons_succ, List.getElem_cons_zero, Act.put, List.setIfInBounds_toArray, List.set_cons_zero, List.set_cons_succ]
  refine wpList_assign rfl (.tmp 50) rfl (v1) rfl ?_
  simp only [List.getElem_toArray, List.getElem_cons_succ, List.getElem_cons_zero, Act.put, List.setIfInBounds_toArray, List.set_cons_zero, List.set_cons_succ]
  refine wpList_nil ?_
  have HR1 : Hid (RowU w1 W2.heap.size v1 ([] ++ l.take p)) := hr1
  have HZ1 : Hid (Below W2.heap.size W2 w1) := bel_grownU HZ0.out (RowU.nil _ _) hg1 (Nat.le_refl _) (Nat.le_refl _)
  clear hr1 hg1 ha1
  have hz1 := HZ1.out.size
  have HRb : Hid (w1.heap[w.heap.size]? = some (.cells #[.int .i64 R.i, .int .u32 (R.s : Int), .int .i64 R.sl, .int .u32 (R.d : Int), .int .i64 R.dl, .int .u16 (R.p.1 : Int), .int .u16 (R.p.2 : Int), .int .u16 (R.q.1 : Int), .int .u16 (R.q.2 : Int), .int .u8 (R.m.1 : Int), .int .u8 (R.m.2 : Int), .int .i64 R.act] 64)) := by show _ = _; rw [HZ1.out.block _ (blk_lt HQ2.out)]; exact HQ2.out
  obtain ⟨d0, d1, d2, d3, d4, d5, d6, d7, d8, d9, d10, d11⟩ := blk12 HRb.out
  go_upto_region 13 with ((at_builtin; refine wpList_appendSU rfl (.tmp 51) (.tmp 53) rfl W2.heap.size v1 ([] ++ l.take p) rfl (HR1.out.alloc _) _ [R] rfl (RowU.one w1 0 R (Nat.zero_le _)).src (by first | exact Nat.le_refl _ | (have := HZ1.out.size; first | omega | (simp; omega))) (by have := Hn.out; first | (simp; omega) | (simp [List.length_append, List.length_take]; omega)) ?_; intro v2 w2 hr2 hg2 ha2))
  have HZa : Hid (Below W2.heap.size W2 (w1.alloc (.cells #[.int .i64 R.i, .int .u32 (R.s : Int), .int .i64 R.sl, .int .u32 (R.d : Int), .int .i64 R.dl, .int .u16 (R.p.1 : Int), .int .u16 (R.p.2 : Int), .int .u16 (R.q.1 : Int), .int .u16 (R.q.2 : Int), .int .u8 (R.m.1 : Int), .int .u8 (R.m.2 : Int), .int .i64 R.act] 64))) := HZ1.out.alloc hz1 _
  have HR2 : Hid (RowU w2 W2.heap.size v2 (([] ++ l.take p) ++ [R])) := hr2
  have HZ2 : Hid (Below W2.heap.size W2 w2) := bel_grownU HZa.out (HR1.out.alloc _) hg2 (by simp; omega) (Nat.le_refl _)
  clear hr2 hg2 ha2
  clear d0 d1 d2 d3 d4 d5 d6 d7 d8 d9 d10 d11
  have hz2 := HZ2.out.size
  go_upto_region 13 with (fail)
  refine wp_region_lit ?_
  refine wpList_move rfl (.tmp 12) rfl (v2) rfl ?_
  simp only [List.getElem_toArray, List.getElem_cons_succ, List.getElem_cons_zero, Act.put, List.setIfInBounds_toArray, List.set_cons_zero, List.set_cons_succ]
  refine wpList_move rfl (.tmp 0) rfl (.slice ad n cap) rfl ?_
  simp only [List.getElem_toArray, List.getElem_cons_succ, List.getElem_cons_zero, Act.put, List.setIfInBounds_toArray, List.set_cons_zero, List.set_cons_succ]
  refine wpList_move rfl (.tmp 2) rfl (.int .i64 (p : Int)) rfl ?_
  simp only [List.getElem_toArray, List.getElem_cons_succ, List.getElem_cons_zero, Act.put, List.setIfInBounds_toArray, List.set_cons_zero, List.set_cons_succ]
  refine wpList_cut rfl 56 (.tmp 56) (some (.tmp 57)) none none rfl (cutU ad (p) (n) cap) (cut_l' _ ad (n) cap (p) _ (rfl) (by omega)) ?_
  simp only [List.getElem_toArray, List.getElem_cons_succ, List.getElem_cons_zero, Act.put, List.setIfInBounds_toArray, List.set_cons_zero, List.set_cons_succ]
  refine wpList_appendSU rfl (.tmp 55) (.tmp 58) rfl W2.heap.size v2 (([] ++ l.take p) ++ [R]) rfl HR2.out (cutU ad p n cap) (l.drop p) rfl ((HSrc.out _ HZ2.out).cutD Hn.out p hp) (by first | exact Nat.le_refl _ | (have := HZ2.out.size; first | omega | (simp; omega))) (by have := Hn.out; first | (simp; omega) | (simp [List.length_append, List.length_take]; omega)) ?_
  intro v3 w3 hr3 hg3 ha3
  simp only [List.getElem_toArray, List.getElem_cons_succ, List.getElem_cons_zero, Act.put, List.setIfInBounds_toArray, List.set_cons_zero, List.set_cons_succ]
  refine wpList_assign rfl (.tmp 59) rfl (v3) rfl ?_
  simp only [List.getElem_toArray, List.getElem_cons_succ, List.getElem_cons_zero, Act.put, List.setIfInBounds_toArray, List.set_cons_zero, List.set_cons_succ]
  refine wpList_assign rfl (.const (.int .i64 0)) rfl (.int .i64 0) rfl ?_
  simp only [List.getElem_toArray, List.getElem_cons_succ, List.getElem_cons_zero, Act.put, List.setIfInBounds_toArray, List.set_cons_zero, List.set_cons_succ]
  refine wpList_nil ?_
  have HR3 : Hid (RowU w3 W2.heap.size v3 ((([] ++ l.take p) ++ [R]) ++ l.drop p)) := hr3
  have HZ3 : Hid (Below W2.heap.size W2 w3) := bel_grownU HZ2.out HR2.out hg3 hz2 (Nat.le_refl _)
  clear hr3 hg3 ha3
  rw [HL.out] at HR3
  go_wp2_with (fail)
  refine bodyPost_ret (v := .tuple #[v3, .int .i64 0]) (by simp [results, Tryz.results25, go_sem]) rfl ?_
  exact ⟨v3, rfl, HR3.out.base HB2.out.size, HB2.out.trans (HZ3.out.mono HB2.out.size)⟩
set_option maxRecDepth 20000 in
set_option maxHeartbeats 4000000 in
theorem rinsNo (u : Value) (l : List Ru) (M p : Int) (R : Ru) (w : World) (hs : SrcU w u l) (hl : l.length ≤ 200000) (b : BdR R) (E : Int) (hE : insE l M p R = E) (h0 : E ≠ 0) :
    Calls Tryz.prog 25 #[u, .int .i64 M, .int .i64 p, .agg #[.int .i64 R.i, .int .u32 (R.s : Int), .int .i64 R.sl, .int .u32 (R.d : Int), .int .i64 R.dl, .int .u16 (R.p.1 : Int), .int .u16 (R.p.2 : Int), .int .u16 (R.q.1 : Int), .int .u16 (R.q.2 : Int), .int .u8 (R.m.1 : Int), .int .u8 (R.m.2 : Int), .int .i64 R.act]] w fun e w' => e = .returned (.tuple #[u, .int .i64 E]) ∧ Below w.heap.size w w' := by
  have hC := rcheckR R (w.alloc (.cells #[.int .i64 R.i, .int .u32 (R.s : Int), .int .i64 R.sl, .int .u32 (R.d : Int), .int .i64 R.dl, .int .u16 (R.p.1 : Int), .int .u16 (R.p.2 : Int), .int .u16 (R.q.1 : Int), .int .u16 (R.q.2 : Int), .int .u8 (R.m.1 : Int), .int .u8 (R.m.2 : Int), .int .i64 R.act] 64)) b
  have HF : Hid (∀ W, Below w.heap.size w W → Calls Tryz.prog 44 #[u, .int .i64 R.i] W fun e w' => e = .returned (.int .i64 (fnd l R.i)) ∧ Below W.heap.size W w') := fun W hb => rfindC u l R.i W (hs.keep hb) hl
  have HE : Hid (E = if (if (errs R).1 = 0 then (if 0 ≤ fnd l R.i then 111 else 0) else (errs R).1) = 0 then (if 0 ≤ p ∧ p ≤ l.length then (if M ≤ l.length then 113 else 0) else 112) else (if (errs R).1 = 0 then (if 0 ≤ fnd l R.i then 111 else 0) else (errs R).1)) := hE.symm
  generalize (errs R).1 = c at *
  generalize (errs R).2 = d at *
  generalize fnd l R.i = f at *
  obtain ⟨ad, cap, rfl, hcap, hat⟩ := hs
  obtain ⟨n, hn⟩ : ∃ n, n = l.length := ⟨_, rfl⟩
  rw [← hn] at hl hcap HF HE ⊢
  clear hat hn b hE
  have hn0 : (n : Int) ≤ 200000 := by omega
  by_cases hc : c = 0
  · subst hc
    go_enter Tryz.func25, Tryz.ntmps25
    go_wp2_with (fail)
    refine hC.mono ?_
    rintro e W1 ⟨rfl, hb1⟩
    have HB1 : Hid (Below w.heap.size w W1) := ((Below.refl _ _).alloc (Nat.le_refl _) _).trans (hb1.mono (by simp))
    have HQ1 : Hid (W1.heap[w.heap.size]? = some (.cells #[.int .i64 R.i, .int .u32 (R.s : Int), .int .i64 R.sl, .int .u32 (R.d : Int), .int .i64 R.dl, .int .u16 (R.p.1 : Int), .int .u16 (R.p.2 : Int), .int .u16 (R.q.1 : Int), .int .u16 (R.q.2 : Int), .int .u8 (R.m.1 : Int), .int .u8 (R.m.2 : Int), .int .i64 R.act] 64)) := blk_on (blk_new w _) hb1
    obtain ⟨d0, d1, d2, d3, d4, d5, d6, d7, d8, d9, d10, d11⟩ := blk12 HQ1.out
    clear hb1 hC
    go_wp2_with (fail)
    refine (HF.out _ HB1.out).mono ?_
    rintro e W2 ⟨rfl, hb2⟩
    have HB2 : Hid (Below w.heap.size w W2) := HB1.out.trans (hb2.mono HB1.out.size)
    clear hb2 d0 d1 d2 d3 d4 d5 d6 d7 d8 d9 d10 d11 HF HQ1 HB1
    by_cases hf : 0 ≤ f
    · have HV : Hid (E = 111) := by show _ = _; rw [HE.out]; simp [hf]
      clear HE
      go_wp2_with (fail)
      refine bodyPost_ret (v := .tuple #[.slice ad n cap, .int .i64 111]) (by simp [results, Tryz.results25, go_sem]) rfl ?_
      exact ⟨by rw [HV.out], HB2.out⟩
    · by_cases hp1 : p < 0
      · have HV : Hid (E = 112) := by show _ = _; rw [HE.out]; simp [hf]; omega
        clear HE
        go_wp2_with (fail)
        refine bodyPost_ret (v := .tuple #[.slice ad n cap, .int .i64 112]) (by simp [results, Tryz.results25, go_sem]) rfl ?_
        exact ⟨by rw [HV.out], HB2.out⟩
      · by_cases hp2 : (n : Int) < p
        · have HV : Hid (E = 112) := by show _ = _; rw [HE.out]; simp [hf]; omega
          clear HE
          go_wp2_with (fail)
          refine bodyPost_ret (v := .tuple #[.slice ad n cap, .int .i64 112]) (by simp [results, Tryz.results25, go_sem]) rfl ?_
          exact ⟨by rw [HV.out], HB2.out⟩
        · by_cases hm : M ≤ (n : Int)
          · have HV : Hid (E = 113) := by show _ = _; rw [HE.out]; simp [hf, hm]; omega
            clear HE
            go_wp2_with (fail)
            refine bodyPost_ret (v := .tuple #[.slice ad n cap, .int .i64 113]) (by simp [results, Tryz.results25, go_sem]) rfl ?_
            exact ⟨by rw [HV.out], HB2.out⟩
          · exfalso
            apply h0
            rw [HE.out]
            simp [hf, hm]
            omega
  · have HV : Hid (E = c) := by show _ = _; rw [HE.out]; simp [hc]
    have hc' : (c != 0) = true := by simpa using hc
    clear HE HF
    go_enter Tryz.func25, Tryz.ntmps25
    go_wp2_with (fail)
    refine hC.mono ?_
    rintro e W1 ⟨rfl, hb1⟩
    have HB1 : Hid (Below w.heap.size w W1) := ((Below.refl _ _).alloc (Nat.le_refl _) _).trans (hb1.mono (by simp))
    clear hb1 hC
    go_wp2_with (fail)
    refine bodyPost_ret (v := .tuple #[.slice ad n cap, .int .i64 c]) (by simp [results, Tryz.results25, go_sem]) rfl ?_
    exact ⟨by rw [HV.out], HB1.out⟩
theorem rinsC (u : Value) (l : List Ru) (M p : Int) (R : Ru) (w : World) (hs : SrcU w u l) (hl : l.length ≤ 200000) (b : BdR R) :
    Calls Tryz.prog 25 #[u, .int .i64 M, .int .i64 p, .agg #[.int .i64 R.i, .int .u32 (R.s : Int), .int .i64 R.sl, .int .u32 (R.d : Int), .int .i64 R.dl, .int .u16 (R.p.1 : Int), .int .u16 (R.p.2 : Int), .int .u16 (R.q.1 : Int), .int .u16 (R.q.2 : Int), .int .u8 (R.m.1 : Int), .int .u8 (R.m.2 : Int), .int .i64 R.act]] w fun e w' => ∃ v', e = .returned (.tuple #[v', .int .i64 (insE l M p R)]) ∧ Outc w w' u v' (insL l M p R) ∧ Below w.heap.size w w' := by
  by_cases h0 : insE l M p R = 0
  · have e2 : insL l M p R = putL l p.toNat R := if_pos h0
    unfold insE at h0
    split at h0
    · rename_i hJ
      split at h0
      · rename_i hp
        split at h0
        · cases h0
        · rename_i hm
          have := rinsOk u l M p.toNat R w hs hl b hJ (by omega) (by omega)
          rw [Int.toNat_of_nonneg hp.1] at this
          rw [e2, show insE l M p R = 0 by unfold insE; rw [if_pos hJ, if_pos hp, if_neg hm]]
          exact this.mono fun e w' ⟨v', h1, h2, h3⟩ => ⟨v', h1, ⟨h2.src, .inr h2.lt⟩, h3⟩
      · cases h0
    · rename_i hJ; exact absurd h0 hJ
  · have e2 : insL l M p R = l := if_neg h0
    rw [e2]
    exact (rinsNo u l M p R w hs hl b _ rfl h0).mono fun e w' ⟨h1, h2⟩ => ⟨u, h1, ⟨hs.keep h2, .inl rfl⟩, h2⟩
set_option maxRecDepth 20000 in
set_option maxHeartbeats 4000000 in
theorem rdelOk (u : Value) (l : List Ru) (x : Int) (k : Nat) (w : World) (hs : SrcU w u l) (hl : l.length ≤ 200000) (hf : fnd l x = (k : Int)) :
    Calls Tryz.prog 27 #[u, .int .i64 x] w fun e w' => ∃ v', e = .returned (.tuple #[v', .int .i64 0]) ∧ RowU w' w.heap.size v' (outL l k) ∧ Below w.heap.size w w' := by
  have hk : k < l.length := by rcases fnd_range l x with e | e <;> omega
  have hF := rfindC u l x w hs hl
  rw [hf] at hF
  have HL : Hid (([] ++ l.take k) ++ l.drop (k + 1) = outL l k) := by show _ = _; unfold outL; simp
  have HS : Hid (SrcU w u l) := hs
  obtain ⟨ad, cap, rfl, hcap, hat⟩ := hs
  obtain ⟨n, hn⟩ : ∃ n, n = l.length := ⟨_, rfl⟩
  have Hn : Hid (n = l.length) := hn
  rw [← hn] at hl hcap HS hk hF ⊢
  clear hat hn hf
  have hk0 : ¬ (k : Int) < 0 := by omega
  have hwk : IntKind.i64.wrap ((k : Int) + 1) = (k : Int) + 1 := by rw [IntKind.wrap_i64]; omega
  go_enter Tryz.func27, Tryz.ntmps27
  go_wp2_with (fail)
  refine hF.mono ?_
  rintro e W2 ⟨rfl, hb2⟩
  have HB2 : Hid (Below w.heap.size w W2) := hb2
  clear hb2 hF
  have HSrc : Hid (∀ W, Below W2.heap.size W2 W → SrcU W (.slice ad n cap) l) := fun W hb => (HS.out.keep HB2.out).keep hb
  have HZ0 : Hid (Below W2.heap.size W2 W2) := Below.refl _ _
  go_upto_region 5 with (fail)
  refine wp_region_lit ?_
  refine wpList_move rfl (.tmp 7) rfl (.slice none 0 0) rfl ?_
  simp only [List.getElem_toArray, List.getElem_cons_succ, List.getElem_cons_zero, Act.put, List.setIfInBounds_toArray, List.set_cons_zero, List.set_cons_succ]
  refine wpList_move rfl (.tmp 0) rfl (.slice ad n cap) rfl ?_
  simp only [List.getElem_toArray, List.getElem_cons_succ, List.getElem_cons_zero, Act.put, List.setIfInBounds_toArray, List.set_cons_zero, List.set_cons_succ]
  refine wpList_move rfl (.tmp 6) rfl (.int .i64 (k : Int)) rfl ?_
  simp only [List.getElem_toArray, List.getElem_cons_succ, List.getElem_cons_zero, Act.put, List.setIfInBounds_toArray, List.set_cons_zero, List.set_cons_succ]
  refine wpList_cut rfl 56 (.tmp 15) none (some (.tmp 16)) none rfl (.slice ad (k) cap) (cut_h' _ ad (n) cap (k) _ (rfl) (by omega)) ?_
  simp only [List.getElem_toArray, List.getElem_cons_succ, List.getElem_cons_zero, Act.put, List.setIfInBounds_toArray, List.set_cons_zero, List.set_cons_succ]
  refine wpList_appendSU rfl (.tmp 14) (.tmp 17) rfl W2.heap.size (.slice none 0 0) [] rfl (RowU.nil _ _) (.slice ad k cap) (l.take k) rfl ((HSrc.out _ HZ0.out).cut0 k (by rw [← Hn.out]; omega)) (by first | exact Nat.le_refl _ | (have := HZ0.out.size; first | omega | (simp; omega))) (by have := Hn.out; first | (simp; omega) | (simp [List.length_append, List.length_take]; omega)) ?_
  intro v1 w1 hr1 hg1 ha1
  simp only [List.getElem_toArray, List.getElem_cons_succ, List.getElem_cons_zero, Act.put, List.setIfInBounds_toArray, List.set_cons_zero, List.set_cons_succ]
  refine wpList_assign rfl (.tmp 18) rfl (v1) rfl ?_
  simp only [List.getElem_toArray, List.getElem_cons_succ, List.getElem_cons_zero, Act.put, List.setIfInBounds_toArray, List.set_cons_zero, List.set_cons_succ]
  refine wpList_nil ?_
  have HR1 : Hid (RowU w1 W2.heap.size v1 ([] ++ l.take k)) := hr1
  have HZ1 : Hid (Below W2.heap.size W2 w1) := bel_grownU HZ0.out (RowU.nil _ _) hg1 (Nat.le_refl _) (Nat.le_refl _)
  clear hr1 hg1 ha1
  have hz1 := HZ1.out.size
  go_upto_region 6 with (fail)
  refine wp_region_lit ?_
  refine wpList_move rfl (.tmp 7) rfl (v1) rfl ?_
  simp only [List.getElem_toArray, List.getElem_cons_succ, List.getElem_cons_zero, Act.put, List.setIfInBounds_toArray, List.set_cons_zero, List.set_cons_succ]
  refine wpList_move rfl (.tmp 0) rfl (.slice ad n cap) rfl ?_
  simp only [List.getElem_toArray, List.getElem_cons_succ, List.getElem_cons_zero, Act.put, List.setIfInBounds_toArray, List.set_cons_zero, List.set_cons_succ]
  refine wpList_move rfl (.tmp 6) rfl (.int .i64 (k : Int)) rfl ?_
  simp only [List.getElem_toArray, List.getElem_cons_succ, List.getElem_cons_zero, Act.put, List.setIfInBounds_toArray, List.set_cons_zero, List.set_cons_succ]
  refine wpList_add1 rfl (.tmp 21) rfl ((k : Int)) rfl hwk ?_
  simp only [List.getElem_toArray, List.getElem_cons_succ, List.getElem_cons_zero, Act.put, List.setIfInBounds_toArray, List.set_cons_zero, List.set_cons_succ]
  refine wpList_cut rfl 56 (.tmp 20) (some (.tmp 22)) none none rfl (cutU ad (k + 1) (n) cap) (cut_l' _ ad (n) cap (k + 1) _ (by first | rfl | omega) (by omega)) ?_
  simp only [List.getElem_toArray, List.getElem_cons_succ, List.getElem_cons_zero, Act.put, List.setIfInBounds_toArray, List.set_cons_zero, List.set_cons_succ]
  refine wpList_appendSU rfl (.tmp 19) (.tmp 23) rfl W2.heap.size v1 ([] ++ l.take k) rfl HR1.out (cutU ad (k + 1) n cap) (l.drop (k + 1)) rfl ((HSrc.out _ HZ1.out).cutD Hn.out (k + 1) hk) (by first | exact Nat.le_refl _ | (have := HZ1.out.size; first | omega | (simp; omega))) (by have := Hn.out; first | (simp; omega) | (simp [List.length_append, List.length_take]; omega)) ?_
  intro v2 w2 hr2 hg2 ha2
  simp only [List.getElem_toArray, List.getElem_cons_succ, List.getElem_cons_zero, Act.put, List.setIfInBounds_toArray, List.set_cons_zero, List.set_cons_succ]
  refine wpList_assign rfl (.tmp 24) rfl (v2) rfl ?_
  simp only [List.getElem_toArray, List.getElem_cons_succ, List.getElem_cons_zero, Act.put, List.setIfInBounds_toArray, List.set_cons_zero, List.set_cons_succ]
  refine wpList_assign rfl (.const (.int .i64 0)) rfl (.int .i64 0) rfl ?_
  simp only [List.getElem_toArray, List.getElem_cons_succ, List.getElem_cons_zero, Act.put, List.setIfInBounds_toArray, List.set_cons_zero, List.set_cons_succ]
  refine wpList_nil ?_
  have HR2 : Hid (RowU w2 W2.heap.size v2 (([] ++ l.take k) ++ l.drop (k + 1))) := hr2
  have HZ2 : Hid (Below W2.heap.size W2 w2) := bel_grownU HZ1.out HR1.out hg2 hz1 (Nat.le_refl _)
  clear hr2 hg2 ha2
  rw [HL.out] at HR2
  go_wp2_with (fail)
  refine bodyPost_ret (v := .tuple #[v2, .int .i64 0]) (by simp [results, Tryz.results27, go_sem]) rfl ?_
  exact ⟨v2, rfl, HR2.out.base HB2.out.size, HB2.out.trans (HZ2.out.mono HB2.out.size)⟩
theorem rdelC (u : Value) (l : List Ru) (x : Int) (w : World) (hs : SrcU w u l) (hl : l.length ≤ 200000) :
    Calls Tryz.prog 27 #[u, .int .i64 x] w fun e w' => ∃ v', e = .returned (.tuple #[v', .int .i64 (delE l x)]) ∧ Outc w w' u v' (delL l x) ∧ Below w.heap.size w w' := by
  rcases fnd_range l x with e | e
  · have e1 : delE l x = 114 := if_neg (by omega)
    have e2 : delL l x = l := if_neg (by omega)
    rw [e1, e2]
    have hF := rfindC u l x w hs hl
    rw [e] at hF
    have HS : Hid (SrcU w u l) := hs
    obtain ⟨ad, cap, rfl, hcap, hat⟩ := hs
    obtain ⟨n, hn⟩ : ∃ n, n = l.length := ⟨_, rfl⟩
    rw [← hn] at hF HS ⊢
    clear hat hn e e1 e2
    go_enter Tryz.func27, Tryz.ntmps27
    go_wp2_with (fail)
    refine hF.mono ?_
    rintro e W2 ⟨rfl, hb2⟩
    have HB2 : Hid (Below w.heap.size w W2) := hb2
    clear hb2 hF
    go_wp2_with (fail)
    refine bodyPost_ret (v := .tuple #[.slice ad n cap, .int .i64 114]) (by simp [results, Tryz.results27, go_sem]) rfl ?_
    exact ⟨_, rfl, ⟨HS.out.keep HB2.out, .inl rfl⟩, HB2.out⟩
  · have e1 : delE l x = 0 := if_pos e.1
    have e2 : delL l x = outL l (fnd l x).toNat := if_pos e.1
    rw [e1, e2]
    exact (rdelOk u l x (fnd l x).toNat w hs hl (by omega)).mono fun e w' ⟨v', h1, h2, h3⟩ => ⟨v', h1, ⟨h2.src, .inr h2.lt⟩, h3⟩
set_option maxHeartbeats 1000000 in
theorem rcopyC (v : Value) (l : List Ru) (w : World) (hs : SrcU w v l) (hl : l.length ≤ 200000) :
    Calls Tryz.prog 30 #[v] w fun e w' => ∃ v' : Value, e = .returned v' ∧ RowU w' w.heap.size v' l ∧ Below w.heap.size w w' := by
  obtain ⟨i0, hi, hz0, hz1, hz2⟩ := info_parts infoU
  have hmk := fun W => run_make (P := Tryz.prog) W 56 64 i0 _ Tryz.underlying56 hi hz0 .i64 .i64 l.length l.length (by omega) (Int.le_refl _) (by rw [hz2]; omega) (by omega)
  simp only [hz1, Int.toNat_natCast] at hmk
  obtain ⟨w1, hr, HR, HB⟩ := run_fillU w 3 v l hs hl #[.int .i64 0, .int .u32 0, .int .i64 0, .int .u32 0, .int .i64 0, .int .u16 0, .int .u16 0, .int .u16 0, .int .u16 0, .int .u8 0, .int .u8 0, .int .i64 0]
  have HR1 : Hid (RowU w1 w.heap.size (.slice (some ⟨w.heap.size, 0, none⟩) l.length l.length) l) := HR
  have HB1 : Hid (Below w.heap.size w w1) := HB
  obtain ⟨ad, cap, rfl, hcap, hat⟩ := hs
  clear hat HR HB hi hz0 hz1 hz2
  go_enter Tryz.func30, Tryz.ntmps30
  go_wp2_with (fail)
  go_ret
  exact ⟨_, rfl, HR1.out, HB1.out⟩
end Go.Proofs.YtgidohnikggjfaaGreat
