/-
  What a *api.Fault says (Error): a text that hangs on its three numbers alone; strconv.Itoa by the shelf's contract.
-/
import Derived.Test.YtpbbeemlaigimaaDoorLxIs
import Derived.Shelf.Strconv.Itoa3
import Derived.Lib.AppendIntMem
import Derived.Lib.ItoaLen
import Derived.Laws.Concat
import Derived.Deep.DeepCutAuto
namespace Go.Proofs.YtpbbeemlaigimaaDoor
open Go.Shelf Go.RowKit
set_option linter.unusedVariables false
set_option linter.unusedSimpArgs false

def Tryd.laysM171_ren : Go.Shelf.Ren := ⟨fun | 171 => 61 | 243 => 62 | 246 => 63 | 283 => 64 | 284 => 65 | 285 => 66 | 286 => 67 | 129 => 69 | 317 => 68 | 318 => 70 | 319 => 71 | 320 => 72 | 337 => 73 | 338 => 74 | n => n, fun | 3 => 3 | 9 => 9 | 2 => 2 | 4 => 4 | 171 => 126 | 0 => 0 | 53 => 85 | 37 => 113 | 5 => 5 | 173 => 129 | 212 => 133 | 51 => 36 | 20 => 20 | 213 => 134 | 46 => 112 | 232 => 137 | 233 => 138 | n => n, fun | 17 => 4 | 18 => 5 | 19 => 6 | n => n⟩
theorem Tryd.laysM171 : Go.Proofs.LaysM.n171 Tryd.prog Tryd.laysM171_ren := {
  mixed := by kernel_rfl
  f129 := Tryd.func69.trans (congrArg some (by kernel_rfl))
  f171 := Tryd.func61.trans (congrArg some (by kernel_rfl))
  f243 := Tryd.func62.trans (congrArg some (by kernel_rfl))
  f246 := Tryd.func63.trans (congrArg some (by kernel_rfl))
  f283 := Tryd.func64.trans (congrArg some (by kernel_rfl))
  f284 := Tryd.func65.trans (congrArg some (by kernel_rfl))
  f285 := Tryd.func66.trans (congrArg some (by kernel_rfl))
  f286 := Tryd.func67.trans (congrArg some (by kernel_rfl))
  f317 := Tryd.func68.trans (congrArg some (by kernel_rfl))
  f318 := Tryd.func70.trans (congrArg some (by kernel_rfl))
  f319 := Tryd.func71.trans (congrArg some (by kernel_rfl))
  f320 := Tryd.func72.trans (congrArg some (by kernel_rfl))
  f337 := Tryd.func73.trans (congrArg some (by kernel_rfl))
  f338 := Tryd.func74.trans (congrArg some (by kernel_rfl))
  t0 := Tryd.underlying0
  a0 := Tryd.isAgg0
  z0 := Tryd.sizeOf0
  v0 := Tryd.zeroValue0
  t2 := Tryd.underlying2
  a2 := Tryd.isAgg2
  z2 := Tryd.sizeOf2
  v2 := Tryd.zeroValue2
  t3 := Tryd.underlying3
  a3 := Tryd.isAgg3
  z3 := Tryd.sizeOf3
  v3 := Tryd.zeroValue3
  t4 := Tryd.underlying4
  a4 := Tryd.isAgg4
  z4 := Tryd.sizeOf4
  v4 := Tryd.zeroValue4
  t5 := Tryd.underlying5
  a5 := Tryd.isAgg5
  z5 := Tryd.sizeOf5
  v5 := Tryd.zeroValue5
  t9 := Tryd.underlying9
  a9 := Tryd.isAgg9
  z9 := Tryd.sizeOf9
  v9 := Tryd.zeroValue9
  t20 := Tryd.underlying20
  a20 := Tryd.isAgg20
  z20 := Tryd.sizeOf20
  v20 := Tryd.zeroValue20
  t37 := Tryd.underlying113
  a37 := Tryd.isAgg113
  z37 := Tryd.sizeOf113
  v37 := Tryd.zeroValue113
  t46 := Tryd.underlying112
  a46 := Tryd.isAgg112
  z46 := Tryd.sizeOf112
  v46 := Tryd.zeroValue112
  t51 := Tryd.underlying36
  a51 := Tryd.isAgg36
  z51 := Tryd.sizeOf36
  v51 := Tryd.zeroValue36
  t53 := Tryd.underlying85
  a53 := Tryd.isAgg85
  z53 := Tryd.sizeOf85
  v53 := Tryd.zeroValue85
  t171 := Tryd.underlying126
  a171 := Tryd.isAgg126
  z171 := Tryd.sizeOf126
  v171 := Tryd.zeroValue126
  t173 := Tryd.underlying129
  a173 := Tryd.isAgg129
  z173 := Tryd.sizeOf129
  v173 := Tryd.zeroValue129
  t212 := Tryd.underlying133
  a212 := Tryd.isAgg133
  z212 := Tryd.sizeOf133
  v212 := Tryd.zeroValue133
  t213 := Tryd.underlying134
  a213 := Tryd.isAgg134
  z213 := Tryd.sizeOf134
  t232 := Tryd.underlying137
  a232 := Tryd.isAgg137
  z232 := Tryd.sizeOf137
  v232 := Tryd.zeroValue137
  t233 := Tryd.underlying138
  a233 := Tryd.isAgg138
  z233 := Tryd.sizeOf138
  v233 := Tryd.zeroValue138
  g17 := by kernel_rfl
  g18 := by kernel_rfl
  g19 := by kernel_rfl
  i0 := by kernel_rfl
  i2 := by kernel_rfl
  i3 := by kernel_rfl
  i4 := by kernel_rfl
  i5 := by kernel_rfl
  i9 := by kernel_rfl
  i20 := by kernel_rfl
  i37 := by kernel_rfl
  i46 := by kernel_rfl
  i51 := by kernel_rfl
  i53 := by kernel_rfl
  i171 := by kernel_rfl
  i173 := by kernel_rfl
  i212 := by kernel_rfl
  i232 := by kernel_rfl
  i233 := by kernel_rfl
  m17 := by kernel_rfl
  m18 := by kernel_rfl
  m19 := by kernel_rfl }

/-- The table of the powers of ten lies in its variable. -/
def Pw (w : World) : Prop := ∃ t fr, w.heap[4]? = some (.cells (Lib.pow10Tab.map fun z => Value.int .u64 z).toArray t fr)
theorem Pw.on {w w1 : World} (h : Pw w) (hb : Below w.heap.size w w1) : Pw w1 := by
  obtain ⟨t, fr, h⟩ := h
  exact ⟨t, fr, blk_on h hb⟩
theorem Pw.alloc {w : World} (h : Pw w) (o : Obj) : Pw (w.alloc o) := h.on ((Below.refl _ _).alloc (Nat.le_refl _) o)
theorem gPow0 : Tryd.prog.globalNamed "internal/strconv.uint64pow10" = some 4 := by kernel_rfl
theorem Pw.tab {w : World} (h : Pw w) : Lib.TabIs Tryd.prog w "internal/strconv.uint64pow10" .u64 Lib.pow10Tab := by
  obtain ⟨t, fr, h⟩ := h
  unfold Lib.TabIs World.var?
  rw [gPow0]
  simp only [Option.bind_some, h]
def itB (n : Int) : ByteArray := ⟨(Lib.itoa n).toArray⟩
theorem itB_size (n : Int) (h0 : -9223372036854775808 ≤ n) (h1 : n ≤ 9223372036854775807) : (itB n).size ≤ 21 := by
  have := Lib.itoa_length_le n h0 h1
  show (Lib.itoa n).toArray.size ≤ 21
  simpa using this
def eLine : ByteArray := ⟨#[108, 105, 110, 101, 32]⟩
def eCol : ByteArray := ⟨#[44, 32, 99, 111, 108, 117, 109, 110, 32]⟩
def eErr : ByteArray := ⟨#[58, 32, 101, 114, 114, 111, 114, 32]⟩
def errT (c l k : Int) : ByteArray := ((((eLine ++ itB l) ++ eCol) ++ itB k) ++ eErr) ++ itB c
theorem itoaC (n : Int) (h0 : -9223372036854775808 ≤ n) (h1 : n ≤ 9223372036854775807) (w : World) (hp : Pw w) :
    Calls Tryd.prog 61 #[.int .i64 n] w fun e w' => e = .returned (.string (itB n)) ∧ Below w.heap.size w w' :=
  (Any.strconv_Itoa Tryd.laysM171 n h0 h1 w hp.tab).mono fun e w' ⟨he, k, os, hw⟩ => ⟨he, by rw [hw]; exact Lib.below_grow _ w (Nat.le_refl _) k os⟩
theorem addS (a b c : ByteArray) (hc : c = a ++ b) (h : a.size + b.size ≤ 1000) (w : World) : Sem.run Tryd.prog (Op.stringOp .add a b) w = .ok (.string c) w := by
  rw [hc]; exact run_string_add w a b (by omega) (by omega)
set_option maxRecDepth 20000 in
set_option maxHeartbeats 4000000 in
theorem errorC (F : Nat) (c l k : Nat) (w : World) (hc : c ≤ 1000000) (hl : l ≤ 1000000) (hk : k ≤ 1000000) (hF : Flt w F (c : Int) (l : Int) (k : Int)) (hp : Pw w) :
    Calls Tryd.prog 93 #[.pointer (some ⟨F, 0, none⟩)] w fun e w' => e = .returned (.string (errT (c : Int) (l : Int) (k : Int))) ∧ Below w.heap.size w w' := by
  obtain ⟨c0, c1, c2⟩ := hF.cells
  have HP : Hid (Pw w) := hp
  have HF : Hid _ := hF
  have hFl := blk_lt hF
  have i0 := fun (x : Kin w) => itoaC (c : Int) (by omega) (by omega) x.val (HP.out.on x.is)
  have i1 := fun (x : Kin w) => itoaC (l : Int) (by omega) (by omega) x.val (HP.out.on x.is)
  have i2 := fun (x : Kin w) => itoaC (k : Int) (by omega) (by omega) x.val (HP.out.on x.is)
  have z0 := itB_size (c : Int) (by omega) (by omega)
  have z1 := itB_size (l : Int) (by omega) (by omega)
  have z2 := itB_size (k : Int) (by omega) (by omega)
  have y0 : eLine.size = 5 := rfl
  have y1 : eCol.size = 9 := rfl
  have y2 : eErr.size = 8 := rfl
  obtain ⟨t1, ht1⟩ : ∃ t, t = eLine ++ itB (l : Int) := ⟨_, rfl⟩
  obtain ⟨t2, ht2⟩ : ∃ t, t = t1 ++ eCol := ⟨_, rfl⟩
  obtain ⟨t3, ht3⟩ : ∃ t, t = t2 ++ itB (k : Int) := ⟨_, rfl⟩
  obtain ⟨t4, ht4⟩ : ∃ t, t = t3 ++ eErr := ⟨_, rfl⟩
  obtain ⟨t5, ht5⟩ : ∃ t, t = t4 ++ itB (c : Int) := ⟨_, rfl⟩
  have s1 : t1.size ≤ 30 := by rw [ht1, ByteArray.size_append]; omega
  have s2 : t2.size ≤ 40 := by rw [ht2, ByteArray.size_append]; omega
  have s3 : t3.size ≤ 70 := by rw [ht3, ByteArray.size_append]; omega
  have s4 : t4.size ≤ 80 := by rw [ht4, ByteArray.size_append]; omega
  have a1 : ∀ W, Sem.run Tryd.prog (Op.stringOp .add ⟨#[108, 105, 110, 101, 32]⟩ (itB (l : Int))) W = .ok (.string t1) W := fun W => addS eLine _ t1 ht1 (by omega) W
  have a2 : ∀ W, Sem.run Tryd.prog (Op.stringOp .add t1 ⟨#[44, 32, 99, 111, 108, 117, 109, 110, 32]⟩) W = .ok (.string t2) W := fun W => addS t1 eCol t2 ht2 (by omega) W
  have a3 := addS t2 (itB (k : Int)) t3 ht3 (by omega)
  have a4 : ∀ W, Sem.run Tryd.prog (Op.stringOp .add t3 ⟨#[58, 32, 101, 114, 114, 111, 114, 32]⟩) W = .ok (.string t4) W := fun W => addS t3 eErr t4 ht4 (by omega) W
  have a5 := addS t4 (itB (c : Int)) t5 ht5 (by omega)
  have hE : errT (c : Int) (l : Int) (k : Int) = t5 := by unfold errT; rw [ht5, ht4, ht3, ht2, ht1]
  rw [hE]
  generalize itB (c : Int) = b0 at *
  generalize itB (l : Int) = b1 at *
  generalize itB (k : Int) = b2 at *
  clear hF hp hc hl hk ht1 ht2 ht3 ht4 ht5 s1 s2 s3 s4 y0 y1 y2 z0 z1 z2 hE
  go_enter Tryd.func93, Tryd.ntmps93
  go_upto_region 3 with (fail)
  have kne : Nonempty (Kin w) := ⟨⟨_, Below.refl _ _⟩⟩
  have kc0 : ∀ y : Kin w, y.val.cell? ⟨F, 0, none⟩ = some (.int .i64 (c : Int)) := fun y => cell_on1 y.is c0
  have kc1 : ∀ y : Kin w, y.val.cell? ⟨F, 1, none⟩ = some (.int .i64 (l : Int)) := fun y => cell_on1 y.is c1
  have kc2 : ∀ y : Kin w, y.val.cell? ⟨F, 2, none⟩ = some (.int .i64 (k : Int)) := fun y => cell_on1 y.is c2
  refine wp_region_kin w (Below.refl _ _) (by kernel_rfl) (by kernel_rfl) ?_
  repeat (go_big_quiet_step ((go_at_call 61; first | exact kin_call (i0 _) | exact kin_call (i1 _) | exact kin_call (i2 _))))
  refine wpQuiet_nil ?_
  rintro wq ⟨⟨xq, hxq⟩, hyq⟩
  have hq : Below w.heap.size w wq := by rw [hyq]; exact hxq
  have HQ : Hid (Below w.heap.size w wq) := hq
  clear hyq hxq xq kne kc0 kc1 kc2 hq i0 i1 i2 HF
  go_wp2_with (fail)
  go_ret
  exact ⟨rfl, HQ.out⟩
theorem methEr (v : Value) (w : World) : (Go.method 282 59 v "Error").run Tryd.prog w = .ok (93, v) w := by kernel_rfl
end Go.Proofs.YtpbbeemlaigimaaDoor
