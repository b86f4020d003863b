/-
  SyGC: SyO SyP SyQ SyR, one behind the other (tools/merge.py).
-/
import Derived.Test.YtehedlgdencboabGreatDoorSyGA
import Derived.Shelf.Strconv.Itoa3
import Derived.Shelf.Strings.OnBuilder
import Derived.Lib.AppendIntMem
import Derived.Lib.ItoaLen
import Derived.Laws.Concat
import Derived.Deep.Strs
/-
  Numbers and joined parts as texts: strconv.Itoa, strings.Join by the shelf's contracts.
-/
namespace Go.Proofs.YtehedlgdencboabGreatDoor
open Go.Shelf Go.RowKit
set_option linter.unusedVariables false
set_option linter.unusedSimpArgs false

def Tryz.laysM171_ren : Go.Shelf.Ren := ⟨fun | 171 => 40 | 243 => 62 | 246 => 80 | 283 => 87 | 284 => 88 | 285 => 89 | 286 => 90 | 129 => 99 | 317 => 98 | 318 => 100 | 319 => 101 | 320 => 102 | 337 => 106 | 338 => 107 | n => n, fun | 3 => 3 | 9 => 9 | 2 => 2 | 4 => 4 | 171 => 173 | 0 => 0 | 53 => 129 | 37 => 64 | 5 => 5 | 173 => 176 | 212 => 187 | 51 => 42 | 20 => 20 | 213 => 188 | 46 => 171 | 232 => 195 | 233 => 196 | n => n, fun | 17 => 3 | 18 => 5 | 19 => 6 | n => n⟩
theorem Tryz.laysM171 : Go.Proofs.LaysM.n171 Tryz.prog Tryz.laysM171_ren := {
  mixed := by kernel_rfl
  f129 := Tryz.func99.trans (congrArg some (by kernel_rfl))
  f171 := Tryz.func40.trans (congrArg some (by kernel_rfl))
  f243 := Tryz.func62.trans (congrArg some (by kernel_rfl))
  f246 := Tryz.func80.trans (congrArg some (by kernel_rfl))
  f283 := Tryz.func87.trans (congrArg some (by kernel_rfl))
  f284 := Tryz.func88.trans (congrArg some (by kernel_rfl))
  f285 := Tryz.func89.trans (congrArg some (by kernel_rfl))
  f286 := Tryz.func90.trans (congrArg some (by kernel_rfl))
  f317 := Tryz.func98.trans (congrArg some (by kernel_rfl))
  f318 := Tryz.func100.trans (congrArg some (by kernel_rfl))
  f319 := Tryz.func101.trans (congrArg some (by kernel_rfl))
  f320 := Tryz.func102.trans (congrArg some (by kernel_rfl))
  f337 := Tryz.func106.trans (congrArg some (by kernel_rfl))
  f338 := Tryz.func107.trans (congrArg some (by kernel_rfl))
  t0 := Tryz.underlying0
  a0 := Tryz.isAgg0
  z0 := Tryz.sizeOf0
  v0 := Tryz.zeroValue0
  t2 := Tryz.underlying2
  a2 := Tryz.isAgg2
  z2 := Tryz.sizeOf2
  v2 := Tryz.zeroValue2
  t3 := Tryz.underlying3
  a3 := Tryz.isAgg3
  z3 := Tryz.sizeOf3
  v3 := Tryz.zeroValue3
  t4 := Tryz.underlying4
  a4 := Tryz.isAgg4
  z4 := Tryz.sizeOf4
  v4 := Tryz.zeroValue4
  t5 := Tryz.underlying5
  a5 := Tryz.isAgg5
  z5 := Tryz.sizeOf5
  v5 := Tryz.zeroValue5
  t9 := Tryz.underlying9
  a9 := Tryz.isAgg9
  z9 := Tryz.sizeOf9
  v9 := Tryz.zeroValue9
  t20 := Tryz.underlying20
  a20 := Tryz.isAgg20
  z20 := Tryz.sizeOf20
  v20 := Tryz.zeroValue20
  t37 := Tryz.underlying64
  a37 := Tryz.isAgg64
  z37 := Tryz.sizeOf64
  v37 := Tryz.zeroValue64
  t46 := Tryz.underlying171
  a46 := Tryz.isAgg171
  z46 := Tryz.sizeOf171
  v46 := Tryz.zeroValue171
  t51 := Tryz.underlying42
  a51 := Tryz.isAgg42
  z51 := Tryz.sizeOf42
  v51 := Tryz.zeroValue42
  t53 := Tryz.underlying129
  a53 := Tryz.isAgg129
  z53 := Tryz.sizeOf129
  v53 := Tryz.zeroValue129
  t171 := Tryz.underlying173
  a171 := Tryz.isAgg173
  z171 := Tryz.sizeOf173
  v171 := Tryz.zeroValue173
  t173 := Tryz.underlying176
  a173 := Tryz.isAgg176
  z173 := Tryz.sizeOf176
  v173 := Tryz.zeroValue176
  t212 := Tryz.underlying187
  a212 := Tryz.isAgg187
  z212 := Tryz.sizeOf187
  v212 := Tryz.zeroValue187
  t213 := Tryz.underlying188
  a213 := Tryz.isAgg188
  z213 := Tryz.sizeOf188
  t232 := Tryz.underlying195
  a232 := Tryz.isAgg195
  z232 := Tryz.sizeOf195
  v232 := Tryz.zeroValue195
  t233 := Tryz.underlying196
  a233 := Tryz.isAgg196
  z233 := Tryz.sizeOf196
  v233 := Tryz.zeroValue196
  g17 := by kernel_rfl
  g18 := by kernel_rfl
  g19 := by kernel_rfl
  i0 := by kernel_rfl
  i2 := by kernel_rfl
  i3 := by kernel_rfl
  i4 := by kernel_rfl
  i5 := by kernel_rfl
  i9 := by kernel_rfl
  i20 := by kernel_rfl
  i37 := by kernel_rfl
  i46 := by kernel_rfl
  i51 := by kernel_rfl
  i53 := by kernel_rfl
  i171 := by kernel_rfl
  i173 := by kernel_rfl
  i212 := by kernel_rfl
  i232 := by kernel_rfl
  i233 := by kernel_rfl
  m17 := by kernel_rfl
  m18 := by kernel_rfl
  m19 := by kernel_rfl }

def Tryz.lays156_ren : Go.Shelf.Ren := ⟨fun | 156 => 61 | 165 => 77 | 166 => 78 | 169 => 79 | 240 => 85 | 241 => 86 | 276 => 96 | 277 => 97 | n => n, fun | 31 => 130 | 9 => 9 | 3 => 3 | 4 => 4 | 0 => 0 | 20 => 20 | 72 => 162 | 76 => 164 | 70 => 160 | 37 => 64 | 75 => 25 | 127 => 172 | 164 => 109 | 5 => 5 | 80 => 166 | n => n, fun | n => n⟩
theorem Tryz.lays156 : Go.Proofs.Lays.n156 Tryz.prog Tryz.lays156_ren := {
  mixed := by kernel_rfl
  f156 := Tryz.func61.trans (congrArg some (by kernel_rfl))
  f165 := Tryz.func77.trans (congrArg some (by kernel_rfl))
  f166 := Tryz.func78.trans (congrArg some (by kernel_rfl))
  f169 := Tryz.func79.trans (congrArg some (by kernel_rfl))
  f240 := Tryz.func85.trans (congrArg some (by kernel_rfl))
  f241 := Tryz.func86.trans (congrArg some (by kernel_rfl))
  f276 := Tryz.func96.trans (congrArg some (by kernel_rfl))
  f277 := Tryz.func97.trans (congrArg some (by kernel_rfl))
  t0 := Tryz.underlying0
  a0 := Tryz.isAgg0
  z0 := Tryz.sizeOf0
  v0 := Tryz.zeroValue0
  t3 := Tryz.underlying3
  a3 := Tryz.isAgg3
  z3 := Tryz.sizeOf3
  v3 := Tryz.zeroValue3
  t4 := Tryz.underlying4
  a4 := Tryz.isAgg4
  z4 := Tryz.sizeOf4
  v4 := Tryz.zeroValue4
  t9 := Tryz.underlying9
  a9 := Tryz.isAgg9
  z9 := Tryz.sizeOf9
  v9 := Tryz.zeroValue9
  t20 := Tryz.underlying20
  a20 := Tryz.isAgg20
  z20 := Tryz.sizeOf20
  v20 := Tryz.zeroValue20
  t31 := Tryz.underlying130
  a31 := Tryz.isAgg130
  z31 := Tryz.sizeOf130
  v31 := Tryz.zeroValue130
  t37 := Tryz.underlying64
  a37 := Tryz.isAgg64
  z37 := Tryz.sizeOf64
  v37 := Tryz.zeroValue64
  t70 := Tryz.underlying160
  a70 := Tryz.isAgg160
  z70 := Tryz.sizeOf160
  v70 := Tryz.zeroValue160
  t72 := Tryz.underlying162
  a72 := Tryz.isAgg162
  z72 := Tryz.sizeOf162
  v72 := Tryz.zeroValue162
  t75 := Tryz.underlying25
  a75 := Tryz.isAgg25
  z75 := Tryz.sizeOf25
  v75 := Tryz.zeroValue25
  t76 := Tryz.underlying164
  a76 := Tryz.isAgg164
  z76 := Tryz.sizeOf164
  v76 := Tryz.zeroValue164
  t127 := Tryz.underlying172
  a127 := Tryz.isAgg172
  z127 := Tryz.sizeOf172
  v127 := Tryz.zeroValue172
  t164 := Tryz.underlying109
  a164 := Tryz.isAgg109
  z164 := Tryz.sizeOf109
  v164 := Tryz.zeroValue109 }

theorem extraB : Builder.Extra Tryz.prog Tryz.lays156_ren := {
  sizeBuilder := by kernel_rfl
  liesBuilder := by kernel_rfl
  t5 := by kernel_rfl
  a5 := fun w => by kernel_rfl
  z5 := fun w => by kernel_rfl
  v5 := fun w => by kernel_rfl
  infoByte := by kernel_rfl
  cellsByte := by kernel_rfl
  sizeByte := by kernel_rfl
  neB5 := by decide }
/-- The table of the powers of ten lies in its variable. -/
def Pw (w : World) : Prop := ∃ t fr, w.heap[3]? = some (.cells (Lib.pow10Tab.map fun z => Value.int .u64 z).toArray t fr)
theorem Pw.on {w w1 : World} (h : Pw w) (hb : Below w.heap.size w w1) : Pw w1 := by
  obtain ⟨t, fr, h⟩ := h
  exact ⟨t, fr, blk_on h hb⟩
theorem Pw.alloc {w : World} (h : Pw w) (o : Obj) : Pw (w.alloc o) := h.on ((Below.refl _ _).alloc (Nat.le_refl _) o)
theorem gPow0 : Tryz.prog.globalNamed "internal/strconv.uint64pow10" = some 3 := by kernel_rfl
theorem Pw.tab {w : World} (h : Pw w) : Lib.TabIs Tryz.prog w "internal/strconv.uint64pow10" .u64 Lib.pow10Tab := by
  obtain ⟨t, fr, h⟩ := h
  unfold Lib.TabIs World.var?
  rw [gPow0]
  simp only [Option.bind_some, h]
/-- A text of bytes. -/
def mkB (l : List UInt8) : ByteArray := ⟨l.toArray⟩
theorem mkB_list (l : List UInt8) : (mkB l).data.toList = l := by unfold mkB; simp
theorem mkB_size (l : List UInt8) : (mkB l).size = l.length := by unfold mkB; exact mk_size l
theorem mkB_app (l m : List UInt8) : mkB l ++ mkB m = mkB (l ++ m) := by
  apply by_list
  rw [ByteArray.data_append, Array.toList_append, mkB_list, mkB_list, mkB_list]
theorem itoaN (n : Nat) (h1 : n ≤ 9223372036854775807) (w : World) (hp : Pw w) :
    Calls Tryz.prog 40 #[.int .i64 (n : Int)] w fun e w' => e = .returned (.string (mkB (Lib.decDigits n))) ∧ Below w.heap.size w w' := by
  have h := Any.strconv_Itoa Tryz.laysM171 (n : Int) (by omega) (by omega) w hp.tab
  rw [Lib.itoa_nonneg] at h
  exact h.mono fun e w' ⟨he, k, os, hw⟩ => ⟨he, by rw [hw]; exact Lib.below_grow _ w (Nat.le_refl _) k os⟩
theorem addS (a b c : ByteArray) (hc : c = a ++ b) (h : a.size + b.size ≤ 1000) (w : World) : Sem.run Tryz.prog (Op.stringOp .add a b) w = .ok (.string c) w := by
  rw [hc]; exact run_string_add w a b (by omega) (by omega)
theorem joinC (bk o c : Nat) (xs : List ByteArray) (sep : ByteArray) (w : World) (hcells : ∀ (j : Nat) x, xs[j]? = some x → w.cell? ⟨bk, o + j, none⟩ = some (.string x)) (hbk : bk < w.heap.size) (hN : xs.length ≤ 100) (hcap : xs.length ≤ c)
    (hlen : (Lib.join (xs.map (·.data.toList)) sep.data.toList).length ≤ 100000) :
    Calls Tryz.prog 61 #[.slice (some ⟨bk, o, none⟩) xs.length c, .string sep] w fun e w' => e = .returned (.string (mkB (Lib.join (xs.map (·.data.toList)) sep.data.toList))) ∧ Below w.heap.size w w' :=
  Any.strings_Join Tryz.lays156 extraB bk o c xs sep w hcells hbk (by omega) hcap (by omega)
end Go.Proofs.YtehedlgdencboabGreatDoor
/-
  Addresses, prefixes, spans, masks as texts. Written by tools/mkSyP.py.
-/
namespace Go.Proofs.YtehedlgdencboabGreatDoor
open Go.RowKit
set_option linter.unusedVariables false
set_option linter.unusedSimpArgs false

theorem text_addr (x : Nat) : textP (addrP x) = Lib.join [Lib.decDigits (x / 16777216), Lib.decDigits (x / 65536 % 256), Lib.decDigits (x / 256 % 256), Lib.decDigits (x % 256)] [46] := by
  unfold addrP Lib.join
  simp only [text_cons, List.intercalate, List.intersperse]
  simp [nP, sP, textP]
theorem infoStr : (Tryz.prog.info? 9).map (fun i => (i.zero, i.size, i.bytes)) = some (some (.string ⟨#[]⟩), 1, 16) := by kernel_rfl
theorem made4 : madeCells (Value.string ⟨#[]⟩).cells 4 = #[.string ⟨#[]⟩, .string ⟨#[]⟩, .string ⟨#[]⟩, .string ⟨#[]⟩] := by kernel_rfl
theorem mkStr4 (W : World) : (Instr.makeSlice 130 (.int .i64 4) (.int .i64 4)).run Tryz.prog W = .ok (.slice (some ⟨W.heap.size, 0, none⟩) 4 4) (W.alloc (.cells #[.string ⟨#[]⟩, .string ⟨#[]⟩, .string ⟨#[]⟩, .string ⟨#[]⟩] 9)) := by
  obtain ⟨i0, hi, hz0, hz1, hz2⟩ := info_parts infoStr
  have := run_make (P := Tryz.prog) W 130 9 i0 (.string ⟨#[]⟩) Tryz.underlying130 hi hz0 .i64 .i64 4 4 (by omega) (Int.le_refl _) (by rw [hz2]; omega) (by omega)
  rw [this, hz1, ← made4]
  rfl
def aP (x k j : Nat) : Value := .string (if j < k then mkB (Lib.decDigits (x / 256 ^ (3 - j) % 256)) else ⟨#[]⟩)
theorem and255 (y : Nat) (h : y < 4294967296) : bits .and .u32 (y : Int) 255 = ((y % 256 : Nat) : Int) := by
  have := u32_and_nat y 255 h (by decide)
  rw [show ((255 : Nat) : Int) = (255 : Int) from rfl] at this
  rw [this, show (255 : Nat) = 2 ^ 8 - 1 from rfl, Nat.and_two_pow_sub_one_eq_mod]
theorem dec_short {n : Nat} (h : n < 256) : (mkB (Lib.decDigits n)).size ≤ 3 := by rw [mkB_size]; exact dec3 (by omega)

set_option maxRecDepth 20000 in
set_option maxHeartbeats 8000000 in
theorem addressTextC (x : Nat) (hx : x < 4294967296) (w : World) (hp : Pw w) :
    Calls Tryz.prog 56 #[.int .u32 (x : Int)] w fun e w' => e = .returned (.string (mkB (textP (addrP x)))) ∧ Below w.heap.size w w' := by
  have HP : Hid (Pw w) := hp
  have hmk := mkStr4
  clear hp
  go_enter Tryz.func56, Tryz.ntmps56
  go_wp2_with (fail)
  go_loopw [8] (fun i wr => ∃ k : Nat, k ≤ 4 ∧ i = .int .i64 (k : Int) ∧ Hid (wr.heap[w.heap.size]? = some (.cells #[aP x k 0, aP x k 1, aP x k 2, aP x k 3] 9)) ∧ Hid (Below w.heap.size w wr)) (fun i _ => 4 - (intOf i).toNat)
  case atStart => exact ⟨0, Nat.zero_le _, rfl, blk_new w _, (Below.refl _ _).alloc (Nat.le_refl _) _⟩
  case round =>
    obtain ⟨k, hk, rfl, HK, HB⟩ := hrel
    have hc : k = 0 ∨ k = 1 ∨ k = 2 ∨ k = 3 ∨ k = 4 := by omega
    rcases hc with rfl | rfl | rfl | rfl | rfl
    · obtain ⟨d, hd⟩ : ∃ d, d = x / 256 ^ (3 - 0) % 256 := ⟨_, rfl⟩
      have hb : bits .and .u32 ((x : Int) / 16777216) 255 = (d : Int) := by
        have := and255 (x / 16777216) (by omega)
        rw [hd]
        simpa using this
      have hw : wrap64 (d : Int) = (d : Int) := by unfold wrap64; omega
      have HD : Hid (d = x / 256 ^ (3 - 0) % 256) := hd
      have hI := itoaN d (by omega) wr (HP.out.on HB.out)
      have HS : Hid (.string (mkB (Lib.decDigits d)) = aP x 1 0) := by show _ = _; rw [hd]; rfl
      clear hd hk
      go_wp2_with (fail)
      refine hI.mono ?_
      rintro e w1 ⟨rfl, hb1⟩
      have HK1 : Hid (w1.heap[w.heap.size]? = some (.cells #[aP x 0 0, aP x 0 1, aP x 0 2, aP x 0 3] 9)) := blk_on HK.out hb1
      have HB1 : Hid (Below w.heap.size w w1) := HB.out.trans (hb1.mono HB.out.size)
      clear hb1 hI
      go_wp2_with (refine wpList_store_val rfl 9 (.tmp 21) (.tmp 20) rfl w.heap.size 0 (.string (mkB (Lib.decDigits d))) #[.string (mkB (Lib.decDigits d))] #[.string (mkB (Lib.decDigits d)), aP x 0 1, aP x 0 2, aP x 0 3] rfl rfl rfl 9 _ HK1.out (Nat.le_of_ble_eq_true rfl) rfl (by kernel_rfl) rfl ?_; intro w2 hw2 ho2)
      go_roundw
      case rel => exact ⟨0 + 1, by decide, by go_num, by rw [HS.out] at hw2; exact hw2, HB1.out.trans (ho2.below (Nat.le_refl _))⟩
      case measure => simp [intOf]
    · obtain ⟨d, hd⟩ : ∃ d, d = x / 256 ^ (3 - 1) % 256 := ⟨_, rfl⟩
      have hb : bits .and .u32 ((x : Int) / 65536) 255 = (d : Int) := by
        have := and255 (x / 65536) (by omega)
        rw [hd]
        simpa using this
      have hw : wrap64 (d : Int) = (d : Int) := by unfold wrap64; omega
      have HD : Hid (d = x / 256 ^ (3 - 1) % 256) := hd
      have hI := itoaN d (by omega) wr (HP.out.on HB.out)
      have HS : Hid (.string (mkB (Lib.decDigits d)) = aP x 2 1) := by show _ = _; rw [hd]; rfl
      clear hd hk
      go_wp2_with (fail)
      refine hI.mono ?_
      rintro e w1 ⟨rfl, hb1⟩
      have HK1 : Hid (w1.heap[w.heap.size]? = some (.cells #[aP x 1 0, aP x 1 1, aP x 1 2, aP x 1 3] 9)) := blk_on HK.out hb1
      have HB1 : Hid (Below w.heap.size w w1) := HB.out.trans (hb1.mono HB.out.size)
      clear hb1 hI
      go_wp2_with (refine wpList_store_val rfl 9 (.tmp 21) (.tmp 20) rfl w.heap.size 1 (.string (mkB (Lib.decDigits d))) #[.string (mkB (Lib.decDigits d))] #[aP x 1 0, .string (mkB (Lib.decDigits d)), aP x 1 2, aP x 1 3] rfl rfl rfl 9 _ HK1.out (Nat.le_of_ble_eq_true rfl) rfl (by kernel_rfl) rfl ?_; intro w2 hw2 ho2)
      go_roundw
      case rel => exact ⟨1 + 1, by decide, by go_num, by rw [HS.out] at hw2; exact hw2, HB1.out.trans (ho2.below (Nat.le_refl _))⟩
      case measure => simp [intOf]
    · obtain ⟨d, hd⟩ : ∃ d, d = x / 256 ^ (3 - 2) % 256 := ⟨_, rfl⟩
      have hb : bits .and .u32 ((x : Int) / 256) 255 = (d : Int) := by
        have := and255 (x / 256) (by omega)
        rw [hd]
        simpa using this
      have hw : wrap64 (d : Int) = (d : Int) := by unfold wrap64; omega
      have HD : Hid (d = x / 256 ^ (3 - 2) % 256) := hd
      have hI := itoaN d (by omega) wr (HP.out.on HB.out)
      have HS : Hid (.string (mkB (Lib.decDigits d)) = aP x 3 2) := by show _ = _; rw [hd]; rfl
      clear hd hk
      go_wp2_with (fail)
      refine hI.mono ?_
      rintro e w1 ⟨rfl, hb1⟩
      have HK1 : Hid (w1.heap[w.heap.size]? = some (.cells #[aP x 2 0, aP x 2 1, aP x 2 2, aP x 2 3] 9)) := blk_on HK.out hb1
      have HB1 : Hid (Below w.heap.size w w1) := HB.out.trans (hb1.mono HB.out.size)
      clear hb1 hI
      go_wp2_with (refine wpList_store_val rfl 9 (.tmp 21) (.tmp 20) rfl w.heap.size 2 (.string (mkB (Lib.decDigits d))) #[.string (mkB (Lib.decDigits d))] #[aP x 2 0, aP x 2 1, .string (mkB (Lib.decDigits d)), aP x 2 3] rfl rfl rfl 9 _ HK1.out (Nat.le_of_ble_eq_true rfl) rfl (by kernel_rfl) rfl ?_; intro w2 hw2 ho2)
      go_roundw
      case rel => exact ⟨2 + 1, by decide, by go_num, by rw [HS.out] at hw2; exact hw2, HB1.out.trans (ho2.below (Nat.le_refl _))⟩
      case measure => simp [intOf]
    · obtain ⟨d, hd⟩ : ∃ d, d = x / 256 ^ (3 - 3) % 256 := ⟨_, rfl⟩
      have hb : bits .and .u32 (x : Int) 255 = (d : Int) := by
        have := and255 (x / 1) (by omega)
        rw [hd]
        simpa using this
      have hw : wrap64 (d : Int) = (d : Int) := by unfold wrap64; omega
      have HD : Hid (d = x / 256 ^ (3 - 3) % 256) := hd
      have hI := itoaN d (by omega) wr (HP.out.on HB.out)
      have HS : Hid (.string (mkB (Lib.decDigits d)) = aP x 4 3) := by show _ = _; rw [hd]; rfl
      clear hd hk
      go_wp2_with (fail)
      refine hI.mono ?_
      rintro e w1 ⟨rfl, hb1⟩
      have HK1 : Hid (w1.heap[w.heap.size]? = some (.cells #[aP x 3 0, aP x 3 1, aP x 3 2, aP x 3 3] 9)) := blk_on HK.out hb1
      have HB1 : Hid (Below w.heap.size w w1) := HB.out.trans (hb1.mono HB.out.size)
      clear hb1 hI
      go_wp2_with (refine wpList_store_val rfl 9 (.tmp 21) (.tmp 20) rfl w.heap.size 3 (.string (mkB (Lib.decDigits d))) #[.string (mkB (Lib.decDigits d))] #[aP x 3 0, aP x 3 1, aP x 3 2, .string (mkB (Lib.decDigits d))] rfl rfl rfl 9 _ HK1.out (Nat.le_of_ble_eq_true rfl) rfl (by kernel_rfl) rfl ?_; intro w2 hw2 ho2)
      go_roundw
      case rel => exact ⟨3 + 1, by decide, by go_num, by rw [HS.out] at hw2; exact hw2, HB1.out.trans (ho2.below (Nat.le_refl _))⟩
      case measure => simp [intOf]
    · have hJ : Calls Tryz.prog 61 #[.slice (some ⟨w.heap.size, 0, none⟩) 4 4, .string ⟨#[46]⟩] wr _ := joinC w.heap.size 0 4 [mkB (Lib.decDigits (x / 16777216)), mkB (Lib.decDigits (x / 65536 % 256)), mkB (Lib.decDigits (x / 256 % 256)), mkB (Lib.decDigits (x % 256))] ⟨#[46]⟩ wr (fun j y hj => by
          match j, hj with
          | 0, hj => obtain rfl := Option.some.inj hj; rw [show x / 16777216 = x / 256 ^ (3 - 0) % 256 by omega]; exact blk_cell HK.out rfl
          | 1, hj => obtain rfl := Option.some.inj hj; exact blk_cell HK.out rfl
          | 2, hj => obtain rfl := Option.some.inj hj; rw [show x / 256 % 256 = x / 256 ^ (3 - 2) % 256 by omega]; exact blk_cell HK.out rfl
          | 3, hj => obtain rfl := Option.some.inj hj; rw [show x % 256 = x / 256 ^ (3 - 3) % 256 by omega]; exact blk_cell HK.out rfl
          | _ + 4, hj => cases hj) (blk_lt HK.out) (Nat.le_of_ble_eq_true rfl) (Nat.le_of_ble_eq_true rfl) (by
          simp only [List.map_cons, List.map_nil, mkB_list]
          have h1 := text_addr x
          have h2 := (part_addr hx).len
          rw [h1] at h2
          exact Nat.le_trans h2 (by decide))
      have he : mkB (Lib.join (List.map (fun z : ByteArray => z.data.toList) [mkB (Lib.decDigits (x / 16777216)), mkB (Lib.decDigits (x / 65536 % 256)), mkB (Lib.decDigits (x / 256 % 256)), mkB (Lib.decDigits (x % 256))]) (⟨#[46]⟩ : ByteArray).data.toList) = mkB (textP (addrP x)) := by
        rw [text_addr]
        simp only [List.map_cons, List.map_nil, mkB_list]
      rw [he] at hJ
      clear he hk
      go_wp2_with (fail)
      refine hJ.mono ?_
      rintro e w1 ⟨rfl, hb1⟩
      have HB1 : Hid (Below w.heap.size w w1) := HB.out.trans (hb1.mono HB.out.size)
      clear hb1 hJ
      go_wp2_with (fail)
      go_ret
      exact ⟨rfl, HB1.out⟩
theorem text_pair (l : List Pc) (c n : Nat) : textP (l ++ [sP c, nP n]) = textP l ++ [UInt8.ofNat c] ++ Lib.decDigits n := by
  rw [text_app]
  simp [textP, sP, nP]
theorem text_n (n : Nat) : textP [nP n] = Lib.decDigits n := by simp [textP, nP]
theorem text_all : mkB (textP [sP 42]) = ⟨#[42]⟩ := rfl
set_option maxRecDepth 20000 in
set_option maxHeartbeats 8000000 in
theorem prefixTextC (a n : Nat) (ha : a < 4294967296) (hn : n ≤ 32) (w : World) (hp : Pw w) :
    Calls Tryz.prog 47 #[.agg #[.int .u32 (a : Int), .int .i64 (n : Int)]] w fun e w' => e = .returned (.string (mkB (textP (prefP a n)))) ∧ Below w.heap.size w w' := by
  have HP : Hid (Pw w) := hp
  clear hp
  by_cases hq : n = 0
  · have hs : prefP a n = [sP 42] := if_pos hq
    rw [hs, text_all]
    clear hs
    subst hq
    go_enter Tryz.func47, Tryz.ntmps47
    go_wp2_with (fail)
    go_ret
    exact ⟨rfl, (Below.refl _ _).alloc (Nat.le_refl _) _⟩
  by_cases ho : n = 32
  · have hs : prefP a n = addrP a := by unfold prefP; rw [if_neg hq, if_pos ho]
    rw [hs]
    clear hs
    subst ho
    have hI := fun W hW => addressTextC a ha W hW
    clear hq
    go_enter Tryz.func47, Tryz.ntmps47
    go_wp2_with (fail)
    refine (hI _ (HP.out.alloc _)).mono ?_
    rintro e w1 ⟨rfl, hb1⟩
    have HB1 : Hid (Below w.heap.size w w1) := ((Below.refl w.heap.size w).alloc (Nat.le_refl _) _).trans (hb1.mono (by simp))
    clear hb1 hI
    go_wp2_with (fail)
    go_ret
    exact ⟨rfl, HB1.out⟩
  have hs : prefP a n = addrP a ++ [sP 47, nP n] := by unfold prefP; rw [if_neg hq, if_neg ho]
  rw [hs, text_pair]
  clear hs
  obtain ⟨A, hA⟩ : ∃ A, A = mkB (textP (addrP a)) := ⟨_, rfl⟩
  have hAz : A.size ≤ 15 := by rw [hA, mkB_size]; exact (part_addr ha).len
  have hDz : (mkB (Lib.decDigits n)).size ≤ 5 := by rw [mkB_size]; have := dec2 hn; omega
  have hT : mkB (textP (addrP a) ++ [UInt8.ofNat 47] ++ Lib.decDigits n) = (A ++ ⟨#[47]⟩) ++ mkB (Lib.decDigits n) := by rw [hA, show (⟨#[47]⟩ : ByteArray) = mkB [UInt8.ofNat 47] from rfl, mkB_app, mkB_app]
  have HPw : Hid (Pw (w.alloc (.cells #[.int .u32 (a : Int), .int .i64 (n : Int)] 44))) := HP.out.alloc _
  have HB0 : Hid (Below w.heap.size w (w.alloc (.cells #[.int .u32 (a : Int), .int .i64 (n : Int)] 44))) := (Below.refl _ _).alloc (Nat.le_refl _) _
  have HX : Hid ((w.alloc (.cells #[.int .u32 (a : Int), .int .i64 (n : Int)] 44)).heap[w.heap.size]? = some (.cells #[.int .u32 (a : Int), .int .i64 (n : Int)] 44)) := blk_new w _
  generalize hW0 : (w.alloc (.cells #[.int .u32 (a : Int), .int .i64 (n : Int)] 44)) = W0 at *
  obtain ⟨c0, c1⟩ := blk2 HX.out
  have i1 := fun (y : Kin W0) => addressTextC a ha y.val (HPw.out.on y.is)
  have i2 := fun (y : Kin W0) => itoaN n (by omega) y.val (HPw.out.on y.is)
  rw [← hA] at i1
  have e1 : ∀ W, Sem.run Tryz.prog (Op.stringOp .add A ⟨#[47]⟩) W = .ok (.string (A ++ ⟨#[47]⟩)) W := fun W => addS A ⟨#[47]⟩ _ rfl (by show A.size + 1 ≤ 1000; omega) W
  have e2 := addS (A ++ ⟨#[47]⟩) (mkB (Lib.decDigits n)) _ rfl (by rw [ByteArray.size_append]; show A.size + 1 + _ ≤ 1000; omega)
  rw [hT]
  clear hT hA hAz hDz
  generalize A ++ ⟨#[47]⟩ = V1 at *
  generalize mkB (Lib.decDigits n) = D at *
  generalize V1 ++ D = V at *
  have ho1 : ¬ (n : Int) = 0 := by omega
  have ho2 : ¬ (n : Int) = 32 := by omega
  clear ho hq
  go_enter Tryz.func47, Tryz.ntmps47
  go_upto_region 6 with (fail)
  have kne : Nonempty (Kin W0) := ⟨⟨_, Below.refl _ _⟩⟩
  have kc0 : ∀ y : Kin W0, y.val.cell? ⟨w.heap.size, 0, none⟩ = some (.int .u32 (a : Int)) := fun y => cell_on1 y.is c0
  have kc1 : ∀ y : Kin W0, y.val.cell? ⟨w.heap.size, 1, none⟩ = some (.int .i64 (n : Int)) := fun y => cell_on1 y.is c1
  try rw [hW0]
  refine wp_region_kin W0 (Below.refl _ _) (by kernel_rfl) (by kernel_rfl) ?_
  repeat (go_big_quiet_step (first | (go_at_call 56; exact kin_call (i1 _)) | (go_at_call 40; exact kin_call (i2 _))))
  refine wpQuiet_nil ?_
  rintro wq ⟨⟨xq, hxq⟩, hyq⟩
  have HQ : Hid (Below w.heap.size w wq) := by show Below _ _ _; rw [hyq]; exact HB0.out.trans (hxq.mono HB0.out.size)
  clear hyq hxq xq kne kc0 kc1 i1 i2
  go_wp2_with (fail)
  go_ret
  exact ⟨rfl, HQ.out⟩
set_option maxRecDepth 20000 in
set_option maxHeartbeats 8000000 in
theorem spanTextC (a n : Nat) (ha : a ≤ 65535) (hn : n ≤ 65535) (w : World) (hp : Pw w) :
    Calls Tryz.prog 48 #[.agg #[.int .u16 (a : Int), .int .u16 (n : Int)]] w fun e w' => e = .returned (.string (mkB (textP (spanP a n)))) ∧ Below w.heap.size w w' := by
  have HP : Hid (Pw w) := hp
  clear hp
  by_cases hq : a = 0 ∧ n = 65535
  · have hs : spanP a n = [sP 42] := if_pos hq
    rw [hs, text_all]
    clear hs
    obtain ⟨rfl, rfl⟩ := hq
    go_enter Tryz.func48, Tryz.ntmps48
    go_wp2_with (fail)
    go_ret
    exact ⟨rfl, (Below.refl _ _).alloc (Nat.le_refl _) _⟩
  by_cases ho : a = n
  · have hs : spanP a n = [nP a] := by unfold spanP; rw [if_neg hq, if_pos ho]
    rw [hs, text_n]
    clear hs
    subst ho
    by_cases h0 : a = 0
    · subst h0
      have hI : ∀ W : World, Pw W → Calls Tryz.prog 40 #[.int .i64 0] W _ := fun W hW => itoaN 0 (by decide) W hW
      clear hq
      go_enter Tryz.func48, Tryz.ntmps48
      go_wp2_with (fail)
      refine (hI _ (HP.out.alloc _)).mono ?_
      rintro e w1 ⟨rfl, hb1⟩
      have HB1 : Hid (Below w.heap.size w w1) := ((Below.refl w.heap.size w).alloc (Nat.le_refl _) _).trans (hb1.mono (by simp))
      clear hb1 hI
      go_wp2_with (fail)
      go_ret
      exact ⟨rfl, HB1.out⟩
    have h0 : ¬ (a : Int) = 0 := by omega
    have hI := fun W hW => itoaN a (by omega) W hW
    clear hq
    go_enter Tryz.func48, Tryz.ntmps48
    go_wp2_with (fail)
    refine (hI _ (HP.out.alloc _)).mono ?_
    rintro e w1 ⟨rfl, hb1⟩
    have HB1 : Hid (Below w.heap.size w w1) := ((Below.refl w.heap.size w).alloc (Nat.le_refl _) _).trans (hb1.mono (by simp))
    clear hb1 hI
    go_wp2_with (fail)
    go_ret
    exact ⟨rfl, HB1.out⟩
  by_cases h00 : a = 0
  · subst h00
    have hs : spanP 0 n = [nP 0] ++ [sP 58, nP n] := by unfold spanP; rw [if_neg hq, if_neg ho]; rfl
    rw [hs, text_pair, text_n]
    clear hs
    obtain ⟨A, hA⟩ : ∃ A, A = mkB (Lib.decDigits 0) := ⟨_, rfl⟩
    have hAz : A.size ≤ 5 := by rw [hA, mkB_size]; exact dec5 (by decide)
    have hDz : (mkB (Lib.decDigits n)).size ≤ 5 := by rw [mkB_size]; have := dec5 hn; omega
    have hT : mkB (Lib.decDigits 0 ++ [UInt8.ofNat 58] ++ Lib.decDigits n) = (A ++ ⟨#[58]⟩) ++ mkB (Lib.decDigits n) := by rw [hA, show (⟨#[58]⟩ : ByteArray) = mkB [UInt8.ofNat 58] from rfl, mkB_app, mkB_app]
    have HPw : Hid (Pw (w.alloc (.cells #[.int .u16 0, .int .u16 (n : Int)] 47))) := HP.out.alloc _
    have HB0 : Hid (Below w.heap.size w (w.alloc (.cells #[.int .u16 0, .int .u16 (n : Int)] 47))) := (Below.refl _ _).alloc (Nat.le_refl _) _
    have HX : Hid ((w.alloc (.cells #[.int .u16 0, .int .u16 (n : Int)] 47)).heap[w.heap.size]? = some (.cells #[.int .u16 0, .int .u16 (n : Int)] 47)) := blk_new w _
    generalize hW0 : (w.alloc (.cells #[.int .u16 0, .int .u16 (n : Int)] 47)) = W0 at *
    obtain ⟨c0, c1⟩ := blk2 HX.out
    have i1 : ∀ y : Kin W0, Calls Tryz.prog 40 #[.int .i64 0] y.val _ := fun y => itoaN 0 (by decide) y.val (HPw.out.on y.is)
    have i2 := fun (y : Kin W0) => itoaN n (by omega) y.val (HPw.out.on y.is)
    rw [← hA] at i1
    have e1 : ∀ W, Sem.run Tryz.prog (Op.stringOp .add A ⟨#[58]⟩) W = .ok (.string (A ++ ⟨#[58]⟩)) W := fun W => addS A ⟨#[58]⟩ _ rfl (by show A.size + 1 ≤ 1000; omega) W
    have e2 := addS (A ++ ⟨#[58]⟩) (mkB (Lib.decDigits n)) _ rfl (by rw [ByteArray.size_append]; show A.size + 1 + _ ≤ 1000; omega)
    rw [hT]
    clear hT hA hAz hDz
    generalize A ++ ⟨#[58]⟩ = V1 at *
    generalize mkB (Lib.decDigits n) = D at *
    generalize V1 ++ D = V at *
    have ho2 : ¬ (0 : Int) = (n : Int) := by omega
    have h65 : ¬ (n : Int) = 65535 := by omega
    have ho3 : ¬ (n : Int) = 0 := by omega
    clear ho hq
    go_enter Tryz.func48, Tryz.ntmps48
    go_upto_region 5 with (fail)
    have kne : Nonempty (Kin W0) := ⟨⟨_, Below.refl _ _⟩⟩
    have kc0 : ∀ y : Kin W0, y.val.cell? ⟨w.heap.size, 0, none⟩ = some (.int .u16 0) := fun y => cell_on1 y.is c0
    have kc1 : ∀ y : Kin W0, y.val.cell? ⟨w.heap.size, 1, none⟩ = some (.int .u16 (n : Int)) := fun y => cell_on1 y.is c1
    try rw [hW0]
    refine wp_region_kin W0 (Below.refl _ _) (by kernel_rfl) (by kernel_rfl) ?_
    repeat (go_big_quiet_step ((go_at_call 40; first | exact kin_call (i1 _) | exact kin_call (i2 _))))
    refine wpQuiet_nil ?_
    rintro wq ⟨⟨xq, hxq⟩, hyq⟩
    have HQ : Hid (Below w.heap.size w wq) := by show Below _ _ _; rw [hyq]; exact HB0.out.trans (hxq.mono HB0.out.size)
    clear hyq hxq xq kne kc0 kc1 i1 i2
    go_wp2_with (fail)
    go_ret
    exact ⟨rfl, HQ.out⟩
  have hs : spanP a n = [nP a] ++ [sP 58, nP n] := by unfold spanP; rw [if_neg hq, if_neg ho]; rfl
  rw [hs, text_pair, text_n]
  clear hs
  obtain ⟨A, hA⟩ : ∃ A, A = mkB (Lib.decDigits a) := ⟨_, rfl⟩
  have hAz : A.size ≤ 5 := by rw [hA, mkB_size]; exact dec5 ha
  have hDz : (mkB (Lib.decDigits n)).size ≤ 5 := by rw [mkB_size]; have := dec5 hn; omega
  have hT : mkB (Lib.decDigits a ++ [UInt8.ofNat 58] ++ Lib.decDigits n) = (A ++ ⟨#[58]⟩) ++ mkB (Lib.decDigits n) := by rw [hA, show (⟨#[58]⟩ : ByteArray) = mkB [UInt8.ofNat 58] from rfl, mkB_app, mkB_app]
  have HPw : Hid (Pw (w.alloc (.cells #[.int .u16 (a : Int), .int .u16 (n : Int)] 47))) := HP.out.alloc _
  have HB0 : Hid (Below w.heap.size w (w.alloc (.cells #[.int .u16 (a : Int), .int .u16 (n : Int)] 47))) := (Below.refl _ _).alloc (Nat.le_refl _) _
  have HX : Hid ((w.alloc (.cells #[.int .u16 (a : Int), .int .u16 (n : Int)] 47)).heap[w.heap.size]? = some (.cells #[.int .u16 (a : Int), .int .u16 (n : Int)] 47)) := blk_new w _
  generalize hW0 : (w.alloc (.cells #[.int .u16 (a : Int), .int .u16 (n : Int)] 47)) = W0 at *
  obtain ⟨c0, c1⟩ := blk2 HX.out
  have i1 := fun (y : Kin W0) => itoaN a (by omega) y.val (HPw.out.on y.is)
  have i2 := fun (y : Kin W0) => itoaN n (by omega) y.val (HPw.out.on y.is)
  rw [← hA] at i1
  have e1 : ∀ W, Sem.run Tryz.prog (Op.stringOp .add A ⟨#[58]⟩) W = .ok (.string (A ++ ⟨#[58]⟩)) W := fun W => addS A ⟨#[58]⟩ _ rfl (by show A.size + 1 ≤ 1000; omega) W
  have e2 := addS (A ++ ⟨#[58]⟩) (mkB (Lib.decDigits n)) _ rfl (by rw [ByteArray.size_append]; show A.size + 1 + _ ≤ 1000; omega)
  rw [hT]
  clear hT hA hAz hDz
  generalize A ++ ⟨#[58]⟩ = V1 at *
  generalize mkB (Lib.decDigits n) = D at *
  generalize V1 ++ D = V at *
  have ho2 : ¬ (a : Int) = (n : Int) := by omega
  have h0 : ¬ (a : Int) = 0 := by omega
  clear ho hq
  go_enter Tryz.func48, Tryz.ntmps48
  go_upto_region 5 with (fail)
  have kne : Nonempty (Kin W0) := ⟨⟨_, Below.refl _ _⟩⟩
  have kc0 : ∀ y : Kin W0, y.val.cell? ⟨w.heap.size, 0, none⟩ = some (.int .u16 (a : Int)) := fun y => cell_on1 y.is c0
  have kc1 : ∀ y : Kin W0, y.val.cell? ⟨w.heap.size, 1, none⟩ = some (.int .u16 (n : Int)) := fun y => cell_on1 y.is c1
  try rw [hW0]
  refine wp_region_kin W0 (Below.refl _ _) (by kernel_rfl) (by kernel_rfl) ?_
  repeat (go_big_quiet_step ((go_at_call 40; first | exact kin_call (i1 _) | exact kin_call (i2 _))))
  refine wpQuiet_nil ?_
  rintro wq ⟨⟨xq, hxq⟩, hyq⟩
  have HQ : Hid (Below w.heap.size w wq) := by show Below _ _ _; rw [hyq]; exact HB0.out.trans (hxq.mono HB0.out.size)
  clear hyq hxq xq kne kc0 kc1 i1 i2
  go_wp2_with (fail)
  go_ret
  exact ⟨rfl, HQ.out⟩
set_option maxRecDepth 20000 in
set_option maxHeartbeats 8000000 in
theorem maskTextC (a n : Nat) (ha : a ≤ 255) (hn : n ≤ 255) (w : World) (hp : Pw w) :
    Calls Tryz.prog 49 #[.agg #[.int .u8 (a : Int), .int .u8 (n : Int)]] w fun e w' => e = .returned (.string (mkB (textP (maskP a n)))) ∧ Below w.heap.size w w' := by
  have HP : Hid (Pw w) := hp
  clear hp
  by_cases hq : n = 0
  · have hs : maskP a n = [sP 42] := if_pos hq
    rw [hs, text_all]
    clear hs
    subst hq
    go_enter Tryz.func49, Tryz.ntmps49
    go_wp2_with (fail)
    go_ret
    exact ⟨rfl, (Below.refl _ _).alloc (Nat.le_refl _) _⟩
  by_cases ho : n = 255
  · have hs : maskP a n = [nP a] := by unfold maskP; rw [if_neg hq, if_pos ho]
    rw [hs, text_n]
    clear hs
    subst ho
    have hI := fun W hW => itoaN a (by omega) W hW
    clear hq
    go_enter Tryz.func49, Tryz.ntmps49
    go_wp2_with (fail)
    refine (hI _ (HP.out.alloc _)).mono ?_
    rintro e w1 ⟨rfl, hb1⟩
    have HB1 : Hid (Below w.heap.size w w1) := ((Below.refl w.heap.size w).alloc (Nat.le_refl _) _).trans (hb1.mono (by simp))
    clear hb1 hI
    go_wp2_with (fail)
    go_ret
    exact ⟨rfl, HB1.out⟩
  have hs : maskP a n = [nP a] ++ [sP 47, nP n] := by unfold maskP; rw [if_neg hq, if_neg ho]; rfl
  rw [hs, text_pair, text_n]
  clear hs
  obtain ⟨A, hA⟩ : ∃ A, A = mkB (Lib.decDigits a) := ⟨_, rfl⟩
  have hAz : A.size ≤ 3 := by rw [hA, mkB_size]; exact dec3 ha
  have hDz : (mkB (Lib.decDigits n)).size ≤ 5 := by rw [mkB_size]; have := dec3 hn; omega
  have hT : mkB (Lib.decDigits a ++ [UInt8.ofNat 47] ++ Lib.decDigits n) = (A ++ ⟨#[47]⟩) ++ mkB (Lib.decDigits n) := by rw [hA, show (⟨#[47]⟩ : ByteArray) = mkB [UInt8.ofNat 47] from rfl, mkB_app, mkB_app]
  have HPw : Hid (Pw (w.alloc (.cells #[.int .u8 (a : Int), .int .u8 (n : Int)] 49))) := HP.out.alloc _
  have HB0 : Hid (Below w.heap.size w (w.alloc (.cells #[.int .u8 (a : Int), .int .u8 (n : Int)] 49))) := (Below.refl _ _).alloc (Nat.le_refl _) _
  have HX : Hid ((w.alloc (.cells #[.int .u8 (a : Int), .int .u8 (n : Int)] 49)).heap[w.heap.size]? = some (.cells #[.int .u8 (a : Int), .int .u8 (n : Int)] 49)) := blk_new w _
  generalize hW0 : (w.alloc (.cells #[.int .u8 (a : Int), .int .u8 (n : Int)] 49)) = W0 at *
  obtain ⟨c0, c1⟩ := blk2 HX.out
  have i1 := fun (y : Kin W0) => itoaN a (by omega) y.val (HPw.out.on y.is)
  have i2 := fun (y : Kin W0) => itoaN n (by omega) y.val (HPw.out.on y.is)
  rw [← hA] at i1
  have e1 : ∀ W, Sem.run Tryz.prog (Op.stringOp .add A ⟨#[47]⟩) W = .ok (.string (A ++ ⟨#[47]⟩)) W := fun W => addS A ⟨#[47]⟩ _ rfl (by show A.size + 1 ≤ 1000; omega) W
  have e2 := addS (A ++ ⟨#[47]⟩) (mkB (Lib.decDigits n)) _ rfl (by rw [ByteArray.size_append]; show A.size + 1 + _ ≤ 1000; omega)
  rw [hT]
  clear hT hA hAz hDz
  generalize A ++ ⟨#[47]⟩ = V1 at *
  generalize mkB (Lib.decDigits n) = D at *
  generalize V1 ++ D = V at *
  have ho1 : ¬ (n : Int) = 0 := by omega
  have ho2 : ¬ (n : Int) = 255 := by omega
  clear ho hq
  go_enter Tryz.func49, Tryz.ntmps49
  go_upto_region 6 with (fail)
  have kne : Nonempty (Kin W0) := ⟨⟨_, Below.refl _ _⟩⟩
  have kc0 : ∀ y : Kin W0, y.val.cell? ⟨w.heap.size, 0, none⟩ = some (.int .u8 (a : Int)) := fun y => cell_on1 y.is c0
  have kc1 : ∀ y : Kin W0, y.val.cell? ⟨w.heap.size, 1, none⟩ = some (.int .u8 (n : Int)) := fun y => cell_on1 y.is c1
  try rw [hW0]
  refine wp_region_kin W0 (Below.refl _ _) (by kernel_rfl) (by kernel_rfl) ?_
  repeat (go_big_quiet_step ((go_at_call 40; first | exact kin_call (i1 _) | exact kin_call (i2 _))))
  refine wpQuiet_nil ?_
  rintro wq ⟨⟨xq, hxq⟩, hyq⟩
  have HQ : Hid (Below w.heap.size w wq) := by show Below _ _ _; rw [hyq]; exact HB0.out.trans (hxq.mono HB0.out.size)
  clear hyq hxq xq kne kc0 kc1 i1 i2
  go_wp2_with (fail)
  go_ret
  exact ⟨rfl, HQ.out⟩
end Go.Proofs.YtehedlgdencboabGreatDoor
/-
  Rules, headers, commands as texts. Written by tools/mkSyQ.py.
-/
namespace Go.Proofs.YtehedlgdencboabGreatDoor
open Go.RowKit
set_option linter.unusedVariables false
set_option linter.unusedSimpArgs false
variable {zA zC : TypeId × (Nat × Nat)}

theorem blanksC (bk c : Nat) (xs : List ByteArray) (w : World) (hcells : ∀ (j : Nat) x, xs[j]? = some x → w.cell? ⟨bk, j, none⟩ = some (.string x)) (hbk : bk < w.heap.size) (hN : xs.length ≤ 100) (hcap : xs.length ≤ c) (hlen : (Lib.join (xs.map (·.data.toList)) [32]).length ≤ 100000) :
    Calls Tryz.prog 39 #[.slice (some ⟨bk, 0, none⟩) xs.length c] w fun e w' => e = .returned (.string (mkB (Lib.join (xs.map (·.data.toList)) [32]))) ∧ Below w.heap.size w w' := by
  have hJ := joinC bk 0 c xs ⟨#[32]⟩ w (fun j x h => by rw [Nat.zero_add]; exact hcells j x h) hbk hN hcap hlen
  have he : mkB (Lib.join (xs.map (·.data.toList)) (⟨#[32]⟩ : ByteArray).data.toList) = mkB (Lib.join (xs.map (·.data.toList)) [32]) := rfl
  rw [he] at hJ
  clear he
  generalize mkB (Lib.join (xs.map (·.data.toList)) [32]) = V at *
  generalize xs.length = n at *
  clear hcells hlen
  go_enter Tryz.func39, Tryz.ntmps39
  go_wp2_with (fail)
  refine hJ.mono ?_
  rintro e w1 ⟨rfl, hb1⟩
  have HB : Hid (Below w.heap.size w w1) := hb1
  clear hb1 hJ
  go_wp2_with (fail)
  go_ret
  exact ⟨rfl, HB.out⟩
theorem szStr : (Tryz.prog.info? 9).map (·.size) = some 1 := by kernel_rfl
theorem idxAW (g k : Nat) (hk : k < 5) (w : World) : (Instr.indexAt 105 (.pointer (some ⟨g, 0, none⟩)) (.int .i64 (k : Int))).run Tryz.prog w = .ok (.pointer (some ⟨g, k, none⟩)) w := by
  have : k = 0 ∨ k = 1 ∨ k = 2 ∨ k = 3 ∨ k = 4 := by omega
  rcases this with rfl | rfl | rfl | rfl | rfl <;> simp [Instr.indexAt, run_underlying Tryz.underlying105, asIntOf, go_sem, szStr]
theorem idxCW (g k : Nat) (hk : k < 11) (w : World) : (Instr.indexAt 94 (.pointer (some ⟨g, 0, none⟩)) (.int .i64 (k : Int))).run Tryz.prog w = .ok (.pointer (some ⟨g, k, none⟩)) w := by
  have : k = 0 ∨ k = 1 ∨ k = 2 ∨ k = 3 ∨ k = 4 ∨ k = 5 ∨ k = 6 ∨ k = 7 ∨ k = 8 ∨ k = 9 ∨ k = 10 := by omega
  rcases this with rfl | rfl | rfl | rfl | rfl | rfl | rfl | rfl | rfl | rfl | rfl <;> simp [Instr.indexAt, run_underlying Tryz.underlying94, asIntOf, go_sem, szStr]
theorem actCell {w : World} (h : ActAt zA w) {k : Nat} (hk : k < 5) : w.cell? ⟨1, k, none⟩ = some (.string (aW k)) := by
  have : k = 0 ∨ k = 1 ∨ k = 2 ∨ k = 3 ∨ k = 4 := by omega
  rcases this with rfl | rfl | rfl | rfl | rfl <;> exact blk_cell h rfl
theorem cmdCell {w : World} (h : CmdAt zC w) {k : Nat} (hk : k < 11) : w.cell? ⟨0, k, none⟩ = some (.string (cW k)) := by
  have : k = 0 ∨ k = 1 ∨ k = 2 ∨ k = 3 ∨ k = 4 ∨ k = 5 ∨ k = 6 ∨ k = 7 ∨ k = 8 ∨ k = 9 ∨ k = 10 := by omega
  rcases this with rfl | rfl | rfl | rfl | rfl | rfl | rfl | rfl | rfl | rfl | rfl <;> exact blk_cell h rfl
theorem text_sep (l r : List Pc) : textP (l ++ bP :: r) = textP l ++ ([32] ++ textP r) := by rw [text_app, text_cons]; rfl
theorem join2 (a b : List UInt8) : Lib.join [a, b] [32] = a ++ ([32] ++ b) := by simp [Lib.join, List.intercalate]
theorem joinS (a b : List UInt8) (r : List (List UInt8)) : Lib.join (a :: b :: r) [32] = a ++ ([32] ++ Lib.join (b :: r) [32]) := by simp [Lib.join, List.intercalate]
theorem text_w (x : List UInt8) : textP [wP x] = x := by simp [textP, wP]
theorem text_rule (R : Rp) : textP (ruleP R) = Lib.join [Lib.decDigits R.i, actW R.t, textP (prefP R.s.1 R.s.2), textP (prefP R.d.1 R.d.2), textP (spanP R.p.1 R.p.2), textP (spanP R.q.1 R.q.2), textP (maskP R.m.1 R.m.2)] [32] := by
  have e : ruleP R = [nP R.i] ++ bP :: ([wP (actW R.t)] ++ bP :: (prefP R.s.1 R.s.2 ++ bP :: (prefP R.d.1 R.d.2 ++ bP :: (spanP R.p.1 R.p.2 ++ bP :: (spanP R.q.1 R.q.2 ++ bP :: maskP R.m.1 R.m.2))))) := rfl
  rw [e]
  simp only [text_sep, joinS, Lib.join_one, text_n, text_w]
theorem text_head (h : Nat × Nat × Nat × Nat × Nat) : textP (headP h) = Lib.join [textP (addrP h.1), textP (addrP h.2.1), Lib.decDigits h.2.2.1, Lib.decDigits h.2.2.2.1, Lib.decDigits h.2.2.2.2] [32] := by
  have e : headP h = addrP h.1 ++ bP :: (addrP h.2.1 ++ bP :: ([nP h.2.2.1] ++ bP :: ([nP h.2.2.2.1] ++ bP :: [nP h.2.2.2.2]))) := rfl
  rw [e]
  simp only [text_sep, joinS, Lib.join_one, text_n]

set_option maxRecDepth 20000 in
set_option maxHeartbeats 16000000 in
theorem ruleTextC (R : Rp) (ok : OkRp R) (w : World) (hp : Pw w) (hA : ActAt zA w) :
    Calls Tryz.prog 26 #[.agg #[.int .i64 (R.i : Int), .int .u32 (R.s.1 : Int), .int .i64 (R.s.2 : Int), .int .u32 (R.d.1 : Int), .int .i64 (R.d.2 : Int), .int .u16 (R.p.1 : Int), .int .u16 (R.p.2 : Int), .int .u16 (R.q.1 : Int), .int .u16 (R.q.2 : Int), .int .u8 (R.m.1 : Int), .int .u8 (R.m.2 : Int), .int .i64 (R.t : Int)]] w fun e w' => e = .returned (.string (mkB (textP (ruleP R)))) ∧ Below w.heap.size w w' := by
  have HP : Hid (Pw (w.alloc (.cells #[.int .i64 (R.i : Int), .int .u32 (R.s.1 : Int), .int .i64 (R.s.2 : Int), .int .u32 (R.d.1 : Int), .int .i64 (R.d.2 : Int), .int .u16 (R.p.1 : Int), .int .u16 (R.p.2 : Int), .int .u16 (R.q.1 : Int), .int .u16 (R.q.2 : Int), .int .u8 (R.m.1 : Int), .int .u8 (R.m.2 : Int), .int .i64 (R.t : Int)] 52))) := hp.alloc _
  have HA : Hid (ActAt zA (w.alloc (.cells #[.int .i64 (R.i : Int), .int .u32 (R.s.1 : Int), .int .i64 (R.s.2 : Int), .int .u32 (R.d.1 : Int), .int .i64 (R.d.2 : Int), .int .u16 (R.p.1 : Int), .int .u16 (R.p.2 : Int), .int .u16 (R.q.1 : Int), .int .u16 (R.q.2 : Int), .int .u8 (R.m.1 : Int), .int .u8 (R.m.2 : Int), .int .i64 (R.t : Int)] 52))) := blk_alloc hA _
  have HB0 : Hid (Below w.heap.size w (w.alloc (.cells #[.int .i64 (R.i : Int), .int .u32 (R.s.1 : Int), .int .i64 (R.s.2 : Int), .int .u32 (R.d.1 : Int), .int .i64 (R.d.2 : Int), .int .u16 (R.p.1 : Int), .int .u16 (R.p.2 : Int), .int .u16 (R.q.1 : Int), .int .u16 (R.q.2 : Int), .int .u8 (R.m.1 : Int), .int .u8 (R.m.2 : Int), .int .i64 (R.t : Int)] 52))) := (Below.refl _ _).alloc (Nat.le_refl _) _
  have HX : Hid ((w.alloc (.cells #[.int .i64 (R.i : Int), .int .u32 (R.s.1 : Int), .int .i64 (R.s.2 : Int), .int .u32 (R.d.1 : Int), .int .i64 (R.d.2 : Int), .int .u16 (R.p.1 : Int), .int .u16 (R.p.2 : Int), .int .u16 (R.q.1 : Int), .int .u16 (R.q.2 : Int), .int .u8 (R.m.1 : Int), .int .u8 (R.m.2 : Int), .int .i64 (R.t : Int)] 52)).heap[w.heap.size]? = some (.cells #[.int .i64 (R.i : Int), .int .u32 (R.s.1 : Int), .int .i64 (R.s.2 : Int), .int .u32 (R.d.1 : Int), .int .i64 (R.d.2 : Int), .int .u16 (R.p.1 : Int), .int .u16 (R.p.2 : Int), .int .u16 (R.q.1 : Int), .int .u16 (R.q.2 : Int), .int .u8 (R.m.1 : Int), .int .u8 (R.m.2 : Int), .int .i64 (R.t : Int)] 52)) := blk_new w _
  generalize hW0 : (w.alloc (.cells #[.int .i64 (R.i : Int), .int .u32 (R.s.1 : Int), .int .i64 (R.s.2 : Int), .int .u32 (R.d.1 : Int), .int .i64 (R.d.2 : Int), .int .u16 (R.p.1 : Int), .int .u16 (R.p.2 : Int), .int .u16 (R.q.1 : Int), .int .u16 (R.q.2 : Int), .int .u8 (R.m.1 : Int), .int .u8 (R.m.2 : Int), .int .i64 (R.t : Int)] 52)) = W0 at *
  have k0 := fun (W : World) (hW : Below W0.heap.size W0 W) => itoaN R.i (by have := ok.i; omega) W (HP.out.on hW)
  have k2 := fun (W : World) (hW : Below W0.heap.size W0 W) => prefixTextC R.s.1 R.s.2 ok.s.1 ok.s.2.1 W (HP.out.on hW)
  have k3 := fun (W : World) (hW : Below W0.heap.size W0 W) => prefixTextC R.d.1 R.d.2 ok.d.1 ok.d.2.1 W (HP.out.on hW)
  have k4 := fun (W : World) (hW : Below W0.heap.size W0 W) => spanTextC R.p.1 R.p.2 ok.p.1 ok.p.2 W (HP.out.on hW)
  have k5 := fun (W : World) (hW : Below W0.heap.size W0 W) => spanTextC R.q.1 R.q.2 ok.q.1 ok.q.2 W (HP.out.on hW)
  have k6 := fun (W : World) (hW : Below W0.heap.size W0 W) => maskTextC R.m.1 R.m.2 ok.m.1 ok.m.2.1 W (HP.out.on hW)
  have hBlank : ∀ (k : Nat) (W : World), W.heap[k]? = some (.cells #[.string (mkB (Lib.decDigits R.i)), .string (aW R.t), .string (mkB (textP (prefP R.s.1 R.s.2))), .string (mkB (textP (prefP R.d.1 R.d.2))), .string (mkB (textP (spanP R.p.1 R.p.2))), .string (mkB (textP (spanP R.q.1 R.q.2))), .string (mkB (textP (maskP R.m.1 R.m.2)))] 9) → Calls Tryz.prog 39 #[.slice (some ⟨k, 0, none⟩) 7 7] W fun e w' => e = .returned (.string (mkB (textP (ruleP R)))) ∧ Below W.heap.size W w' := fun k W hW => by
    have hJn := blanksC k 7 [(mkB (Lib.decDigits R.i)), (aW R.t), (mkB (textP (prefP R.s.1 R.s.2))), (mkB (textP (prefP R.d.1 R.d.2))), (mkB (textP (spanP R.p.1 R.p.2))), (mkB (textP (spanP R.q.1 R.q.2))), (mkB (textP (maskP R.m.1 R.m.2)))] W (fun j x hj => by
      match j, hj with
      | 0, hj => obtain rfl := Option.some.inj hj; exact blk_cell hW rfl
      | 1, hj => obtain rfl := Option.some.inj hj; exact blk_cell hW rfl
      | 2, hj => obtain rfl := Option.some.inj hj; exact blk_cell hW rfl
      | 3, hj => obtain rfl := Option.some.inj hj; exact blk_cell hW rfl
      | 4, hj => obtain rfl := Option.some.inj hj; exact blk_cell hW rfl
      | 5, hj => obtain rfl := Option.some.inj hj; exact blk_cell hW rfl
      | 6, hj => obtain rfl := Option.some.inj hj; exact blk_cell hW rfl
      | _ + 7, hj => cases hj) (blk_lt hW) (Nat.le_of_ble_eq_true rfl) (Nat.le_of_ble_eq_true rfl) (by simp only [List.map_cons, List.map_nil, mkB_list, aW_list, cW_list]; exact Nat.le_trans (Nat.le_of_eq (congrArg List.length (text_rule R).symm)) (Nat.le_trans (part_rule ok).len (by decide)))
    rw [show mkB (Lib.join (List.map (fun z : ByteArray => z.data.toList) [(mkB (Lib.decDigits R.i)), (aW R.t), (mkB (textP (prefP R.s.1 R.s.2))), (mkB (textP (prefP R.d.1 R.d.2))), (mkB (textP (spanP R.p.1 R.p.2))), (mkB (textP (spanP R.q.1 R.q.2))), (mkB (textP (maskP R.m.1 R.m.2)))]) [32]) = mkB (textP (ruleP R)) by simp only [List.map_cons, List.map_nil, mkB_list, aW_list, cW_list]; rw [(text_rule R)]] at hJn
    exact hJn
  obtain ⟨c0, c1, c2, c3, c4, c5, c6, c7, c8, c9, c10, c11⟩ := blk12 HX.out
  have ca := actCell HA.out (show R.t < 5 by have := ok.t; omega)
  have hix := fun W => idxAW 1 R.t (by have := ok.t; omega) W
  generalize (mkB (Lib.decDigits R.i)) = x0 at *
  generalize (aW R.t) = x1 at *
  generalize (mkB (textP (prefP R.s.1 R.s.2))) = x2 at *
  generalize (mkB (textP (prefP R.d.1 R.d.2))) = x3 at *
  generalize (mkB (textP (spanP R.p.1 R.p.2))) = x4 at *
  generalize (mkB (textP (spanP R.q.1 R.q.2))) = x5 at *
  generalize (mkB (textP (maskP R.m.1 R.m.2))) = x6 at *
  generalize hV : mkB (textP (ruleP R)) = V at *
  clear hV
  go_enter Tryz.func26, Tryz.ntmps26
  go_upto_region 1 with (fail)
  try rw [hW0]
  clear hW0
  refine wp_region_held_drew (S := fun w' => Below W0.heap.size W0 w') (by kernel_rfl) (Below.refl _ _).drew (fun hS0 => ?_)
  show wpAnyH _ _ _ _ _ 25 _ _ _
  refine wpAnyH_take (i := 0) (v := .pointer (some ⟨w.heap.size, 0, none⟩)) rfl (by kernel_rfl) (by kernel_rfl) (by kernel_rfl) (fun _ _ _ h => h) (.inl ⟨rfl, fun _ _ => by simp [execOp, go_sem]⟩) hS0 ?_
  simp only [List.getElem_toArray, List.getElem_cons_succ, List.getElem_cons_zero, Act.put, List.setIfInBounds_toArray, List.set_cons_zero, List.set_cons_succ]
  refine wpAnyH_take (i := 1) (v := .int .i64 (R.i : Int)) rfl (by kernel_rfl) (by kernel_rfl) (by kernel_rfl) (fun _ _ _ h => h) ((.inl ⟨rfl, fun w' hw' => by have := cell_on1 hw' c0; simp [execOp, go_sem, this]⟩)) hS0 ?_
  simp only [List.getElem_toArray, List.getElem_cons_succ, List.getElem_cons_zero, Act.put, List.setIfInBounds_toArray, List.set_cons_zero, List.set_cons_succ]
  refine wpAnyH_take (i := 3) (v := .pointer (some ⟨w.heap.size, 11, none⟩)) rfl (by kernel_rfl) (by kernel_rfl) (by kernel_rfl) (fun _ _ _ h => h) (.inl ⟨rfl, fun _ _ => by simp [execOp, go_sem]⟩) hS0 ?_
  simp only [List.getElem_toArray, List.getElem_cons_succ, List.getElem_cons_zero, Act.put, List.setIfInBounds_toArray, List.set_cons_zero, List.set_cons_succ]
  refine wpAnyH_take (i := 4) (v := .int .i64 (R.t : Int)) rfl (by kernel_rfl) (by kernel_rfl) (by kernel_rfl) (fun _ _ _ h => h) ((.inl ⟨rfl, fun w' hw' => by have := cell_on1 hw' c11; simp [execOp, go_sem, this]⟩)) hS0 ?_
  simp only [List.getElem_toArray, List.getElem_cons_succ, List.getElem_cons_zero, Act.put, List.setIfInBounds_toArray, List.set_cons_zero, List.set_cons_succ]
  refine wpAnyH_take (i := 5) (v := .pointer (some ⟨1, R.t, none⟩)) rfl (by kernel_rfl) (by kernel_rfl) (by kernel_rfl) (fun _ _ _ h => h) (yieldsIf_index rfl 105 (.global 1) (.tmp 7) rfl _ (fun W => hix W)) hS0 ?_
  simp only [List.getElem_toArray, List.getElem_cons_succ, List.getElem_cons_zero, Act.put, List.setIfInBounds_toArray, List.set_cons_zero, List.set_cons_succ]
  refine wpAnyH_take (i := 6) (v := .string x1) rfl (by kernel_rfl) (by kernel_rfl) (by kernel_rfl) (fun _ _ _ h => h) ((.inl ⟨rfl, fun w' hw' => by have := cell_on1 hw' ca; simp [execOp, go_sem, this]⟩)) hS0 ?_
  simp only [List.getElem_toArray, List.getElem_cons_succ, List.getElem_cons_zero, Act.put, List.setIfInBounds_toArray, List.set_cons_zero, List.set_cons_succ]
  refine wpAnyH_take (i := 7) (v := .pointer (some ⟨w.heap.size, 1, none⟩)) rfl (by kernel_rfl) (by kernel_rfl) (by kernel_rfl) (fun _ _ _ h => h) (.inl ⟨rfl, fun _ _ => by simp [execOp, go_sem]⟩) hS0 ?_
  simp only [List.getElem_toArray, List.getElem_cons_succ, List.getElem_cons_zero, Act.put, List.setIfInBounds_toArray, List.set_cons_zero, List.set_cons_succ]
  refine wpAnyH_take (i := 8) rfl (by kernel_rfl) (by kernel_rfl) (by kernel_rfl) (fun _ _ _ h => h) (yieldsIf_load_mid rfl 44 (.tmp 10) rfl w.heap.size 1 rfl [.int .u32 (R.s.1 : Int), .int .i64 (R.s.2 : Int)] _ (fun w' hw' => range2 (cell_on1 hw' c1) (cell_on1 hw' c2)) Tryz.underlying44 rfl (by kernel_rfl)) hS0 ?_
  simp only [List.getElem_toArray, List.getElem_cons_succ, List.getElem_cons_zero, Act.put, List.setIfInBounds_toArray, List.set_cons_zero, List.set_cons_succ]
  refine wpAnyH_take (i := 10) (v := .pointer (some ⟨w.heap.size, 3, none⟩)) rfl (by kernel_rfl) (by kernel_rfl) (by kernel_rfl) (fun _ _ _ h => h) (.inl ⟨rfl, fun _ _ => by simp [execOp, go_sem]⟩) hS0 ?_
  simp only [List.getElem_toArray, List.getElem_cons_succ, List.getElem_cons_zero, Act.put, List.setIfInBounds_toArray, List.set_cons_zero, List.set_cons_succ]
  refine wpAnyH_take (i := 11) rfl (by kernel_rfl) (by kernel_rfl) (by kernel_rfl) (fun _ _ _ h => h) (yieldsIf_load_mid rfl 44 (.tmp 13) rfl w.heap.size 3 rfl [.int .u32 (R.d.1 : Int), .int .i64 (R.d.2 : Int)] _ (fun w' hw' => range2 (cell_on1 hw' c3) (cell_on1 hw' c4)) Tryz.underlying44 rfl (by kernel_rfl)) hS0 ?_
  simp only [List.getElem_toArray, List.getElem_cons_succ, List.getElem_cons_zero, Act.put, List.setIfInBounds_toArray, List.set_cons_zero, List.set_cons_succ]
  refine wpAnyH_take (i := 13) (v := .pointer (some ⟨w.heap.size, 5, none⟩)) rfl (by kernel_rfl) (by kernel_rfl) (by kernel_rfl) (fun _ _ _ h => h) (.inl ⟨rfl, fun _ _ => by simp [execOp, go_sem]⟩) hS0 ?_
  simp only [List.getElem_toArray, List.getElem_cons_succ, List.getElem_cons_zero, Act.put, List.setIfInBounds_toArray, List.set_cons_zero, List.set_cons_succ]
  refine wpAnyH_take (i := 14) rfl (by kernel_rfl) (by kernel_rfl) (by kernel_rfl) (fun _ _ _ h => h) (yieldsIf_load_mid rfl 47 (.tmp 16) rfl w.heap.size 5 rfl [.int .u16 (R.p.1 : Int), .int .u16 (R.p.2 : Int)] _ (fun w' hw' => range2 (cell_on1 hw' c5) (cell_on1 hw' c6)) Tryz.underlying47 rfl (by kernel_rfl)) hS0 ?_
  simp only [List.getElem_toArray, List.getElem_cons_succ, List.getElem_cons_zero, Act.put, List.setIfInBounds_toArray, List.set_cons_zero, List.set_cons_succ]
  refine wpAnyH_take (i := 16) (v := .pointer (some ⟨w.heap.size, 7, none⟩)) rfl (by kernel_rfl) (by kernel_rfl) (by kernel_rfl) (fun _ _ _ h => h) (.inl ⟨rfl, fun _ _ => by simp [execOp, go_sem]⟩) hS0 ?_
  simp only [List.getElem_toArray, List.getElem_cons_succ, List.getElem_cons_zero, Act.put, List.setIfInBounds_toArray, List.set_cons_zero, List.set_cons_succ]
  refine wpAnyH_take (i := 17) rfl (by kernel_rfl) (by kernel_rfl) (by kernel_rfl) (fun _ _ _ h => h) (yieldsIf_load_mid rfl 47 (.tmp 19) rfl w.heap.size 7 rfl [.int .u16 (R.q.1 : Int), .int .u16 (R.q.2 : Int)] _ (fun w' hw' => range2 (cell_on1 hw' c7) (cell_on1 hw' c8)) Tryz.underlying47 rfl (by kernel_rfl)) hS0 ?_
  simp only [List.getElem_toArray, List.getElem_cons_succ, List.getElem_cons_zero, Act.put, List.setIfInBounds_toArray, List.set_cons_zero, List.set_cons_succ]
  refine wpAnyH_take (i := 19) (v := .pointer (some ⟨w.heap.size, 9, none⟩)) rfl (by kernel_rfl) (by kernel_rfl) (by kernel_rfl) (fun _ _ _ h => h) (.inl ⟨rfl, fun _ _ => by simp [execOp, go_sem]⟩) hS0 ?_
  simp only [List.getElem_toArray, List.getElem_cons_succ, List.getElem_cons_zero, Act.put, List.setIfInBounds_toArray, List.set_cons_zero, List.set_cons_succ]
  refine wpAnyH_take (i := 20) rfl (by kernel_rfl) (by kernel_rfl) (by kernel_rfl) (fun _ _ _ h => h) (yieldsIf_load_mid rfl 49 (.tmp 22) rfl w.heap.size 9 rfl [.int .u8 (R.m.1 : Int), .int .u8 (R.m.2 : Int)] _ (fun w' hw' => range2 (cell_on1 hw' c9) (cell_on1 hw' c10)) Tryz.underlying49 rfl (by kernel_rfl)) hS0 ?_
  simp only [List.getElem_toArray, List.getElem_cons_succ, List.getElem_cons_zero, Act.put, List.setIfInBounds_toArray, List.set_cons_zero, List.set_cons_succ]
  refine wpAnyH_all (rs := [2]) (by kernel_rfl) (by simp) ?_
  intro i hi
  simp only [List.mem_cons, List.not_mem_nil, or_false] at hi
  subst hi
  refine wpOp_of_wp rfl rfl (fun K' hK' => ?_)
  go_wp2_with (fail)
  refine (k0 _ (hS0)).mono ?_
  rintro e w1 ⟨rfl, hb⟩
  have S1 : Below W0.heap.size W0 w1 := (hS0).trans (hb.mono (hS0).size)
  refine hK' _ _ ⟨S1, ?_⟩
  clear hb
  refine wpAnyH_all (rs := [9]) (by kernel_rfl) (by simp) ?_
  intro i hi
  simp only [List.mem_cons, List.not_mem_nil, or_false] at hi
  subst hi
  refine wpOp_of_wp rfl rfl (fun K' hK' => ?_)
  go_wp2_with (fail)
  refine (k2 _ (S1)).mono ?_
  rintro e w2 ⟨rfl, hb⟩
  have S2 : Below W0.heap.size W0 w2 := (S1).trans (hb.mono (S1).size)
  refine hK' _ _ ⟨S2, ?_⟩
  clear hb
  refine wpAnyH_all (rs := [12]) (by kernel_rfl) (by simp) ?_
  intro i hi
  simp only [List.mem_cons, List.not_mem_nil, or_false] at hi
  subst hi
  refine wpOp_of_wp rfl rfl (fun K' hK' => ?_)
  go_wp2_with (fail)
  refine (k3 _ (S2)).mono ?_
  rintro e w3 ⟨rfl, hb⟩
  have S3 : Below W0.heap.size W0 w3 := (S2).trans (hb.mono (S2).size)
  refine hK' _ _ ⟨S3, ?_⟩
  clear hb
  refine wpAnyH_all (rs := [15]) (by kernel_rfl) (by simp) ?_
  intro i hi
  simp only [List.mem_cons, List.not_mem_nil, or_false] at hi
  subst hi
  refine wpOp_of_wp rfl rfl (fun K' hK' => ?_)
  go_wp2_with (fail)
  refine (k4 _ (S3)).mono ?_
  rintro e w4 ⟨rfl, hb⟩
  have S4 : Below W0.heap.size W0 w4 := (S3).trans (hb.mono (S3).size)
  refine hK' _ _ ⟨S4, ?_⟩
  clear hb
  refine wpAnyH_all (rs := [18]) (by kernel_rfl) (by simp) ?_
  intro i hi
  simp only [List.mem_cons, List.not_mem_nil, or_false] at hi
  subst hi
  refine wpOp_of_wp rfl rfl (fun K' hK' => ?_)
  go_wp2_with (fail)
  refine (k5 _ (S4)).mono ?_
  rintro e w5 ⟨rfl, hb⟩
  have S5 : Below W0.heap.size W0 w5 := (S4).trans (hb.mono (S4).size)
  refine hK' _ _ ⟨S5, ?_⟩
  clear hb
  refine wpAnyH_all (rs := [21]) (by kernel_rfl) (by simp) ?_
  intro i hi
  simp only [List.mem_cons, List.not_mem_nil, or_false] at hi
  subst hi
  refine wpOp_of_wp rfl rfl (fun K' hK' => ?_)
  go_wp2_with (fail)
  refine (k6 _ (S5)).mono ?_
  rintro e w6 ⟨rfl, hb⟩
  have S6 : Below W0.heap.size W0 w6 := (S5).trans (hb.mono (S5).size)
  refine hK' _ _ ⟨S6, ?_⟩
  clear hb
  refine wpAnyH_all (rs := [22]) (by kernel_rfl) (by simp) ?_
  intro i hi
  simp only [List.mem_cons, List.not_mem_nil, or_false] at hi
  subst hi
  refine wpOp_of_wp rfl rfl (fun K' hK' => ?_)
  go_wp2_with (fail)
  have Sb : Below W0.heap.size W0 (w6.alloc (.cells #[.string x0, .string x1, .string x2, .string x3, .string x4, .string x5, .string x6] 9)) := S6.alloc S6.size _
  refine ⟨Sb, ?_⟩
  have hBk : (w6.alloc (.cells #[.string x0, .string x1, .string x2, .string x3, .string x4, .string x5, .string x6] 9)).heap[w6.heap.size]? = some (.cells #[.string x0, .string x1, .string x2, .string x3, .string x4, .string x5, .string x6] 9) := blk_new w6 _
  have hBl := hBlank w6.heap.size (w6.alloc (.cells #[.string x0, .string x1, .string x2, .string x3, .string x4, .string x5, .string x6] 9)) hBk
  refine wpAnyH_all (rs := [23]) (by kernel_rfl) (by simp) ?_
  intro i hi
  simp only [List.mem_cons, List.not_mem_nil, or_false] at hi
  subst hi
  refine wpOp_of_wp rfl rfl (fun K' hK' => ?_)
  go_wp2_with (fail)
  refine hBl.mono ?_
  rintro e wf ⟨rfl, hb⟩
  have Sf : Below W0.heap.size W0 wf := Sb.trans (hb.mono Sb.size)
  refine hK' _ _ ⟨Sf, ?_⟩
  refine wpAnyH_all (rs := [24]) (by kernel_rfl) (by simp) ?_
  intro i hi
  simp only [List.mem_cons, List.not_mem_nil, or_false] at hi
  subst hi
  refine wpOp_of_wp rfl rfl (fun K' hK' => ?_)
  go_wp2_with (fail)
  refine ⟨Sf, ?_⟩
  refine wpAnyH_done (by kernel_rfl) ?_ _
  try simp only [List.getElem_toArray, List.getElem_cons_succ, List.getElem_cons_zero, Act.put, List.setIfInBounds_toArray, List.set_cons_zero, List.set_cons_succ]
  have HF : Hid (Below w.heap.size w wf) := HB0.out.trans (Sf.mono HB0.out.size)
  clear hBl hBk Sb Sf hb hBlank S1 S2 S3 S4 S5 S6 hS0
  go_wp2_with (fail)
  go_ret
  exact ⟨rfl, HF.out⟩
set_option maxRecDepth 20000 in
set_option maxHeartbeats 16000000 in
theorem headerTextC (h : Nat × Nat × Nat × Nat × Nat) (ok : OkHd h) (w : World) (hp : Pw w) :
    Calls Tryz.prog 29 #[.agg #[.int .u32 (h.1 : Int), .int .u32 (h.2.1 : Int), .int .u16 (h.2.2.1 : Int), .int .u16 (h.2.2.2.1 : Int), .int .u8 (h.2.2.2.2 : Int)]] w fun e w' => e = .returned (.string (mkB (textP (headP h)))) ∧ Below w.heap.size w w' := by
  have HP : Hid (Pw (w.alloc (.cells #[.int .u32 (h.1 : Int), .int .u32 (h.2.1 : Int), .int .u16 (h.2.2.1 : Int), .int .u16 (h.2.2.2.1 : Int), .int .u8 (h.2.2.2.2 : Int)] 56))) := hp.alloc _
  have HB0 : Hid (Below w.heap.size w (w.alloc (.cells #[.int .u32 (h.1 : Int), .int .u32 (h.2.1 : Int), .int .u16 (h.2.2.1 : Int), .int .u16 (h.2.2.2.1 : Int), .int .u8 (h.2.2.2.2 : Int)] 56))) := (Below.refl _ _).alloc (Nat.le_refl _) _
  have HX : Hid ((w.alloc (.cells #[.int .u32 (h.1 : Int), .int .u32 (h.2.1 : Int), .int .u16 (h.2.2.1 : Int), .int .u16 (h.2.2.2.1 : Int), .int .u8 (h.2.2.2.2 : Int)] 56)).heap[w.heap.size]? = some (.cells #[.int .u32 (h.1 : Int), .int .u32 (h.2.1 : Int), .int .u16 (h.2.2.1 : Int), .int .u16 (h.2.2.2.1 : Int), .int .u8 (h.2.2.2.2 : Int)] 56)) := blk_new w _
  generalize hW0 : (w.alloc (.cells #[.int .u32 (h.1 : Int), .int .u32 (h.2.1 : Int), .int .u16 (h.2.2.1 : Int), .int .u16 (h.2.2.2.1 : Int), .int .u8 (h.2.2.2.2 : Int)] 56)) = W0 at *
  have k0 := fun (W : World) (hW : Below W0.heap.size W0 W) => addressTextC h.1 ok.s W (HP.out.on hW)
  have k1 := fun (W : World) (hW : Below W0.heap.size W0 W) => addressTextC h.2.1 ok.d W (HP.out.on hW)
  have k2 := fun (W : World) (hW : Below W0.heap.size W0 W) => itoaN h.2.2.1 (by have := ok.p; omega) W (HP.out.on hW)
  have k3 := fun (W : World) (hW : Below W0.heap.size W0 W) => itoaN h.2.2.2.1 (by have := ok.q; omega) W (HP.out.on hW)
  have k4 := fun (W : World) (hW : Below W0.heap.size W0 W) => itoaN h.2.2.2.2 (by have := ok.m; omega) W (HP.out.on hW)
  have hcv0 : IntKind.i64.wrap (h.2.2.1 : Int) = (h.2.2.1 : Int) := by have := ok.p; rw [IntKind.wrap_i64]; omega
  have hcv1 : IntKind.i64.wrap (h.2.2.2.1 : Int) = (h.2.2.2.1 : Int) := by have := ok.q; rw [IntKind.wrap_i64]; omega
  have hcv2 : IntKind.i64.wrap (h.2.2.2.2 : Int) = (h.2.2.2.2 : Int) := by have := ok.m; rw [IntKind.wrap_i64]; omega
  have hBlank : ∀ (k : Nat) (W : World), W.heap[k]? = some (.cells #[.string (mkB (textP (addrP h.1))), .string (mkB (textP (addrP h.2.1))), .string (mkB (Lib.decDigits h.2.2.1)), .string (mkB (Lib.decDigits h.2.2.2.1)), .string (mkB (Lib.decDigits h.2.2.2.2))] 9) → Calls Tryz.prog 39 #[.slice (some ⟨k, 0, none⟩) 5 5] W fun e w' => e = .returned (.string (mkB (textP (headP h)))) ∧ Below W.heap.size W w' := fun k W hW => by
    have hJn := blanksC k 5 [(mkB (textP (addrP h.1))), (mkB (textP (addrP h.2.1))), (mkB (Lib.decDigits h.2.2.1)), (mkB (Lib.decDigits h.2.2.2.1)), (mkB (Lib.decDigits h.2.2.2.2))] W (fun j x hj => by
      match j, hj with
      | 0, hj => obtain rfl := Option.some.inj hj; exact blk_cell hW rfl
      | 1, hj => obtain rfl := Option.some.inj hj; exact blk_cell hW rfl
      | 2, hj => obtain rfl := Option.some.inj hj; exact blk_cell hW rfl
      | 3, hj => obtain rfl := Option.some.inj hj; exact blk_cell hW rfl
      | 4, hj => obtain rfl := Option.some.inj hj; exact blk_cell hW rfl
      | _ + 5, hj => cases hj) (blk_lt hW) (Nat.le_of_ble_eq_true rfl) (Nat.le_of_ble_eq_true rfl) (by simp only [List.map_cons, List.map_nil, mkB_list, aW_list, cW_list]; exact Nat.le_trans (Nat.le_of_eq (congrArg List.length (text_head h).symm)) (Nat.le_trans (part_head ok).len (by decide)))
    rw [show mkB (Lib.join (List.map (fun z : ByteArray => z.data.toList) [(mkB (textP (addrP h.1))), (mkB (textP (addrP h.2.1))), (mkB (Lib.decDigits h.2.2.1)), (mkB (Lib.decDigits h.2.2.2.1)), (mkB (Lib.decDigits h.2.2.2.2))]) [32]) = mkB (textP (headP h)) by simp only [List.map_cons, List.map_nil, mkB_list, aW_list, cW_list]; rw [(text_head h)]] at hJn
    exact hJn
  obtain ⟨c0, c1, c2, c3, c4⟩ := blk5 HX.out
  generalize (mkB (textP (addrP h.1))) = x0 at *
  generalize (mkB (textP (addrP h.2.1))) = x1 at *
  generalize (mkB (Lib.decDigits h.2.2.1)) = x2 at *
  generalize (mkB (Lib.decDigits h.2.2.2.1)) = x3 at *
  generalize (mkB (Lib.decDigits h.2.2.2.2)) = x4 at *
  generalize hV : mkB (textP (headP h)) = V at *
  clear hV
  go_enter Tryz.func29, Tryz.ntmps29
  go_upto_region 1 with (fail)
  try rw [hW0]
  clear hW0
  refine wp_region_held_drew (S := fun w' => Below W0.heap.size W0 w') (by kernel_rfl) (Below.refl _ _).drew (fun hS0 => ?_)
  show wpAnyH _ _ _ _ _ 21 _ _ _
  refine wpAnyH_take (i := 0) (v := .pointer (some ⟨w.heap.size, 0, none⟩)) rfl (by kernel_rfl) (by kernel_rfl) (by kernel_rfl) (fun _ _ _ h => h) (.inl ⟨rfl, fun _ _ => by simp [execOp, go_sem]⟩) hS0 ?_
  simp only [List.getElem_toArray, List.getElem_cons_succ, List.getElem_cons_zero, Act.put, List.setIfInBounds_toArray, List.set_cons_zero, List.set_cons_succ]
  refine wpAnyH_take (i := 1) (v := .int .u32 (h.1 : Int)) rfl (by kernel_rfl) (by kernel_rfl) (by kernel_rfl) (fun _ _ _ h => h) ((.inl ⟨rfl, fun w' hw' => by have := cell_on1 hw' c0; simp [execOp, go_sem, this]⟩)) hS0 ?_
  simp only [List.getElem_toArray, List.getElem_cons_succ, List.getElem_cons_zero, Act.put, List.setIfInBounds_toArray, List.set_cons_zero, List.set_cons_succ]
  refine wpAnyH_take (i := 3) (v := .pointer (some ⟨w.heap.size, 1, none⟩)) rfl (by kernel_rfl) (by kernel_rfl) (by kernel_rfl) (fun _ _ _ h => h) (.inl ⟨rfl, fun _ _ => by simp [execOp, go_sem]⟩) hS0 ?_
  simp only [List.getElem_toArray, List.getElem_cons_succ, List.getElem_cons_zero, Act.put, List.setIfInBounds_toArray, List.set_cons_zero, List.set_cons_succ]
  refine wpAnyH_take (i := 4) (v := .int .u32 (h.2.1 : Int)) rfl (by kernel_rfl) (by kernel_rfl) (by kernel_rfl) (fun _ _ _ h => h) ((.inl ⟨rfl, fun w' hw' => by have := cell_on1 hw' c1; simp [execOp, go_sem, this]⟩)) hS0 ?_
  simp only [List.getElem_toArray, List.getElem_cons_succ, List.getElem_cons_zero, Act.put, List.setIfInBounds_toArray, List.set_cons_zero, List.set_cons_succ]
  refine wpAnyH_take (i := 6) (v := .pointer (some ⟨w.heap.size, 2, none⟩)) rfl (by kernel_rfl) (by kernel_rfl) (by kernel_rfl) (fun _ _ _ h => h) (.inl ⟨rfl, fun _ _ => by simp [execOp, go_sem]⟩) hS0 ?_
  simp only [List.getElem_toArray, List.getElem_cons_succ, List.getElem_cons_zero, Act.put, List.setIfInBounds_toArray, List.set_cons_zero, List.set_cons_succ]
  refine wpAnyH_take (i := 7) (v := .int .u16 (h.2.2.1 : Int)) rfl (by kernel_rfl) (by kernel_rfl) (by kernel_rfl) (fun _ _ _ h => h) ((.inl ⟨rfl, fun w' hw' => by have := cell_on1 hw' c2; simp [execOp, go_sem, this]⟩)) hS0 ?_
  simp only [List.getElem_toArray, List.getElem_cons_succ, List.getElem_cons_zero, Act.put, List.setIfInBounds_toArray, List.set_cons_zero, List.set_cons_succ]
  refine wpAnyH_take (i := 8) (v := .int .i64 (h.2.2.1 : Int)) rfl (by kernel_rfl) (by kernel_rfl) (by kernel_rfl) (fun _ _ _ h => h) (.inl ⟨rfl, fun w' _ => by simp [execOp, go_sem, hcv0]⟩) hS0 ?_
  simp only [List.getElem_toArray, List.getElem_cons_succ, List.getElem_cons_zero, Act.put, List.setIfInBounds_toArray, List.set_cons_zero, List.set_cons_succ]
  refine wpAnyH_take (i := 10) (v := .pointer (some ⟨w.heap.size, 3, none⟩)) rfl (by kernel_rfl) (by kernel_rfl) (by kernel_rfl) (fun _ _ _ h => h) (.inl ⟨rfl, fun _ _ => by simp [execOp, go_sem]⟩) hS0 ?_
  simp only [List.getElem_toArray, List.getElem_cons_succ, List.getElem_cons_zero, Act.put, List.setIfInBounds_toArray, List.set_cons_zero, List.set_cons_succ]
  refine wpAnyH_take (i := 11) (v := .int .u16 (h.2.2.2.1 : Int)) rfl (by kernel_rfl) (by kernel_rfl) (by kernel_rfl) (fun _ _ _ h => h) ((.inl ⟨rfl, fun w' hw' => by have := cell_on1 hw' c3; simp [execOp, go_sem, this]⟩)) hS0 ?_
  simp only [List.getElem_toArray, List.getElem_cons_succ, List.getElem_cons_zero, Act.put, List.setIfInBounds_toArray, List.set_cons_zero, List.set_cons_succ]
  refine wpAnyH_take (i := 12) (v := .int .i64 (h.2.2.2.1 : Int)) rfl (by kernel_rfl) (by kernel_rfl) (by kernel_rfl) (fun _ _ _ h => h) (.inl ⟨rfl, fun w' _ => by simp [execOp, go_sem, hcv1]⟩) hS0 ?_
  simp only [List.getElem_toArray, List.getElem_cons_succ, List.getElem_cons_zero, Act.put, List.setIfInBounds_toArray, List.set_cons_zero, List.set_cons_succ]
  refine wpAnyH_take (i := 14) (v := .pointer (some ⟨w.heap.size, 4, none⟩)) rfl (by kernel_rfl) (by kernel_rfl) (by kernel_rfl) (fun _ _ _ h => h) (.inl ⟨rfl, fun _ _ => by simp [execOp, go_sem]⟩) hS0 ?_
  simp only [List.getElem_toArray, List.getElem_cons_succ, List.getElem_cons_zero, Act.put, List.setIfInBounds_toArray, List.set_cons_zero, List.set_cons_succ]
  refine wpAnyH_take (i := 15) (v := .int .u8 (h.2.2.2.2 : Int)) rfl (by kernel_rfl) (by kernel_rfl) (by kernel_rfl) (fun _ _ _ h => h) ((.inl ⟨rfl, fun w' hw' => by have := cell_on1 hw' c4; simp [execOp, go_sem, this]⟩)) hS0 ?_
  simp only [List.getElem_toArray, List.getElem_cons_succ, List.getElem_cons_zero, Act.put, List.setIfInBounds_toArray, List.set_cons_zero, List.set_cons_succ]
  refine wpAnyH_take (i := 16) (v := .int .i64 (h.2.2.2.2 : Int)) rfl (by kernel_rfl) (by kernel_rfl) (by kernel_rfl) (fun _ _ _ h => h) (.inl ⟨rfl, fun w' _ => by simp [execOp, go_sem, hcv2]⟩) hS0 ?_
  simp only [List.getElem_toArray, List.getElem_cons_succ, List.getElem_cons_zero, Act.put, List.setIfInBounds_toArray, List.set_cons_zero, List.set_cons_succ]
  refine wpAnyH_all (rs := [2]) (by kernel_rfl) (by simp) ?_
  intro i hi
  simp only [List.mem_cons, List.not_mem_nil, or_false] at hi
  subst hi
  refine wpOp_of_wp rfl rfl (fun K' hK' => ?_)
  go_wp2_with (fail)
  refine (k0 _ (hS0)).mono ?_
  rintro e w1 ⟨rfl, hb⟩
  have S1 : Below W0.heap.size W0 w1 := (hS0).trans (hb.mono (hS0).size)
  refine hK' _ _ ⟨S1, ?_⟩
  clear hb
  refine wpAnyH_all (rs := [5]) (by kernel_rfl) (by simp) ?_
  intro i hi
  simp only [List.mem_cons, List.not_mem_nil, or_false] at hi
  subst hi
  refine wpOp_of_wp rfl rfl (fun K' hK' => ?_)
  go_wp2_with (fail)
  refine (k1 _ (S1)).mono ?_
  rintro e w2 ⟨rfl, hb⟩
  have S2 : Below W0.heap.size W0 w2 := (S1).trans (hb.mono (S1).size)
  refine hK' _ _ ⟨S2, ?_⟩
  clear hb
  refine wpAnyH_all (rs := [9]) (by kernel_rfl) (by simp) ?_
  intro i hi
  simp only [List.mem_cons, List.not_mem_nil, or_false] at hi
  subst hi
  refine wpOp_of_wp rfl rfl (fun K' hK' => ?_)
  go_wp2_with (fail)
  refine (k2 _ (S2)).mono ?_
  rintro e w3 ⟨rfl, hb⟩
  have S3 : Below W0.heap.size W0 w3 := (S2).trans (hb.mono (S2).size)
  refine hK' _ _ ⟨S3, ?_⟩
  clear hb
  refine wpAnyH_all (rs := [13]) (by kernel_rfl) (by simp) ?_
  intro i hi
  simp only [List.mem_cons, List.not_mem_nil, or_false] at hi
  subst hi
  refine wpOp_of_wp rfl rfl (fun K' hK' => ?_)
  go_wp2_with (fail)
  refine (k3 _ (S3)).mono ?_
  rintro e w4 ⟨rfl, hb⟩
  have S4 : Below W0.heap.size W0 w4 := (S3).trans (hb.mono (S3).size)
  refine hK' _ _ ⟨S4, ?_⟩
  clear hb
  refine wpAnyH_all (rs := [17]) (by kernel_rfl) (by simp) ?_
  intro i hi
  simp only [List.mem_cons, List.not_mem_nil, or_false] at hi
  subst hi
  refine wpOp_of_wp rfl rfl (fun K' hK' => ?_)
  go_wp2_with (fail)
  refine (k4 _ (S4)).mono ?_
  rintro e w5 ⟨rfl, hb⟩
  have S5 : Below W0.heap.size W0 w5 := (S4).trans (hb.mono (S4).size)
  refine hK' _ _ ⟨S5, ?_⟩
  clear hb
  refine wpAnyH_all (rs := [18]) (by kernel_rfl) (by simp) ?_
  intro i hi
  simp only [List.mem_cons, List.not_mem_nil, or_false] at hi
  subst hi
  refine wpOp_of_wp rfl rfl (fun K' hK' => ?_)
  go_wp2_with (fail)
  have Sb : Below W0.heap.size W0 (w5.alloc (.cells #[.string x0, .string x1, .string x2, .string x3, .string x4] 9)) := S5.alloc S5.size _
  refine ⟨Sb, ?_⟩
  have hBk : (w5.alloc (.cells #[.string x0, .string x1, .string x2, .string x3, .string x4] 9)).heap[w5.heap.size]? = some (.cells #[.string x0, .string x1, .string x2, .string x3, .string x4] 9) := blk_new w5 _
  have hBl := hBlank w5.heap.size (w5.alloc (.cells #[.string x0, .string x1, .string x2, .string x3, .string x4] 9)) hBk
  refine wpAnyH_all (rs := [19]) (by kernel_rfl) (by simp) ?_
  intro i hi
  simp only [List.mem_cons, List.not_mem_nil, or_false] at hi
  subst hi
  refine wpOp_of_wp rfl rfl (fun K' hK' => ?_)
  go_wp2_with (fail)
  refine hBl.mono ?_
  rintro e wf ⟨rfl, hb⟩
  have Sf : Below W0.heap.size W0 wf := Sb.trans (hb.mono Sb.size)
  refine hK' _ _ ⟨Sf, ?_⟩
  refine wpAnyH_all (rs := [20]) (by kernel_rfl) (by simp) ?_
  intro i hi
  simp only [List.mem_cons, List.not_mem_nil, or_false] at hi
  subst hi
  refine wpOp_of_wp rfl rfl (fun K' hK' => ?_)
  go_wp2_with (fail)
  refine ⟨Sf, ?_⟩
  refine wpAnyH_done (by kernel_rfl) ?_ _
  try simp only [List.getElem_toArray, List.getElem_cons_succ, List.getElem_cons_zero, Act.put, List.setIfInBounds_toArray, List.set_cons_zero, List.set_cons_succ]
  have HF : Hid (Below w.heap.size w wf) := HB0.out.trans (Sf.mono HB0.out.size)
  clear hBl hBk Sb Sf hb hBlank S1 S2 S3 S4 S5 hS0
  go_wp2_with (fail)
  go_ret
  exact ⟨rfl, HF.out⟩
end Go.Proofs.YtehedlgdencboabGreatDoor
/-
  A command as text. Written by tools/mkSyR.py.
-/
namespace Go.Proofs.YtehedlgdencboabGreatDoor
open Go.RowKit
set_option linter.unusedVariables false
set_option linter.unusedSimpArgs false
variable {zA zC : TypeId × (Nat × Nat)}

theorem text_c1 (C : Cm) (h : C.k = 1) : textP (cmdP C) = Lib.join [cmdW 1, Lib.decDigits C.n, textP (ruleP C.r)] [32] := by
  have e : cmdP C = [wP (cmdW 1)] ++ bP :: ([nP C.n] ++ bP :: ruleP C.r) := by unfold cmdP; rw [if_pos h]; rfl
  rw [e]; simp only [text_sep, joinS, Lib.join_one, text_n, text_w]
theorem text_c2 (C : Cm) (h : C.k = 2) : textP (cmdP C) = Lib.join [cmdW 2, Lib.decDigits C.i] [32] := by
  have e : cmdP C = [wP (cmdW 2)] ++ bP :: [nP C.i] := by unfold cmdP; rw [if_neg (by omega), if_pos h]; rfl
  rw [e]; simp only [text_sep, joinS, Lib.join_one, text_n, text_w]
theorem text_c3 (C : Cm) (h : C.k = 3) : textP (cmdP C) = Lib.join [cmdW 3, Lib.decDigits C.i, Lib.decDigits C.n] [32] := by
  have e : cmdP C = [wP (cmdW 3)] ++ bP :: ([nP C.i] ++ bP :: [nP C.n]) := by unfold cmdP; rw [if_neg (by omega), if_neg (by omega), if_pos h]; rfl
  rw [e]; simp only [text_sep, joinS, Lib.join_one, text_n, text_w]
theorem text_c4 (C : Cm) (h : C.k = 4) : textP (cmdP C) = Lib.join [cmdW 4, textP (headP C.h)] [32] := by
  have e : cmdP C = [wP (cmdW 4)] ++ bP :: headP C.h := by unfold cmdP; rw [if_neg (by omega), if_neg (by omega), if_neg (by omega), if_pos h]; rfl
  rw [e]; simp only [text_sep, joinS, Lib.join_one, text_w]
theorem text_c5 (C : Cm) (h : 5 ≤ C.k) : textP (cmdP C) = cmdW C.k := by
  have e : cmdP C = [wP (cmdW C.k)] := by unfold cmdP; rw [if_neg (by omega), if_neg (by omega), if_neg (by omega), if_neg (by omega)]
  rw [e, text_w]
theorem range12 {w : World} {b o : Nat} {v0 v1 v2 v3 v4 v5 v6 v7 v8 v9 v10 v11 : Value} (h0 : w.cell? ⟨b, o, none⟩ = some v0) (h1 : w.cell? ⟨b, o + 1, none⟩ = some v1) (h2 : w.cell? ⟨b, o + 2, none⟩ = some v2) (h3 : w.cell? ⟨b, o + 3, none⟩ = some v3) (h4 : w.cell? ⟨b, o + 4, none⟩ = some v4) (h5 : w.cell? ⟨b, o + 5, none⟩ = some v5) (h6 : w.cell? ⟨b, o + 6, none⟩ = some v6) (h7 : w.cell? ⟨b, o + 7, none⟩ = some v7) (h8 : w.cell? ⟨b, o + 8, none⟩ = some v8) (h9 : w.cell? ⟨b, o + 9, none⟩ = some v9) (h10 : w.cell? ⟨b, o + 10, none⟩ = some v10) (h11 : w.cell? ⟨b, o + 11, none⟩ = some v11) : w.rangeAt b o [v0, v1, v2, v3, v4, v5, v6, v7, v8, v9, v10, v11]
  | 0, _, e => by cases e; exact h0
  | 1, _, e => by cases e; exact h1
  | 2, _, e => by cases e; exact h2
  | 3, _, e => by cases e; exact h3
  | 4, _, e => by cases e; exact h4
  | 5, _, e => by cases e; exact h5
  | 6, _, e => by cases e; exact h6
  | 7, _, e => by cases e; exact h7
  | 8, _, e => by cases e; exact h8
  | 9, _, e => by cases e; exact h9
  | 10, _, e => by cases e; exact h10
  | 11, _, e => by cases e; exact h11
  | _ + 12, _, e => by cases e
set_option maxRecDepth 20000 in
set_option maxHeartbeats 16000000 in
theorem commandText1 (C : Cm) (ok : OkCm C) (w : World) (hp : Pw w) (hA : ActAt zA w) (hC : CmdAt zC w) (hk : C.k = 1) :
    Calls Tryz.prog 21 #[.agg #[.int .i64 (C.k : Int), .int .i64 (C.n : Int), .int .i64 (C.i : Int), .int .i64 (C.r.i : Int), .int .u32 (C.r.s.1 : Int), .int .i64 (C.r.s.2 : Int), .int .u32 (C.r.d.1 : Int), .int .i64 (C.r.d.2 : Int), .int .u16 (C.r.p.1 : Int), .int .u16 (C.r.p.2 : Int), .int .u16 (C.r.q.1 : Int), .int .u16 (C.r.q.2 : Int), .int .u8 (C.r.m.1 : Int), .int .u8 (C.r.m.2 : Int), .int .i64 (C.r.t : Int), .int .u32 (C.h.1 : Int), .int .u32 (C.h.2.1 : Int), .int .u16 (C.h.2.2.1 : Int), .int .u16 (C.h.2.2.2.1 : Int), .int .u8 (C.h.2.2.2.2 : Int)]] w fun e w' => e = .returned (.string (mkB (textP (cmdP C)))) ∧ Below w.heap.size w w' := by
  have hk10 := ok.k
  have HP : Hid (Pw (w.alloc (.cells #[.int .i64 (C.k : Int), .int .i64 (C.n : Int), .int .i64 (C.i : Int), .int .i64 (C.r.i : Int), .int .u32 (C.r.s.1 : Int), .int .i64 (C.r.s.2 : Int), .int .u32 (C.r.d.1 : Int), .int .i64 (C.r.d.2 : Int), .int .u16 (C.r.p.1 : Int), .int .u16 (C.r.p.2 : Int), .int .u16 (C.r.q.1 : Int), .int .u16 (C.r.q.2 : Int), .int .u8 (C.r.m.1 : Int), .int .u8 (C.r.m.2 : Int), .int .i64 (C.r.t : Int), .int .u32 (C.h.1 : Int), .int .u32 (C.h.2.1 : Int), .int .u16 (C.h.2.2.1 : Int), .int .u16 (C.h.2.2.2.1 : Int), .int .u8 (C.h.2.2.2.2 : Int)] 61))) := hp.alloc _
  have HA : Hid (ActAt zA (w.alloc (.cells #[.int .i64 (C.k : Int), .int .i64 (C.n : Int), .int .i64 (C.i : Int), .int .i64 (C.r.i : Int), .int .u32 (C.r.s.1 : Int), .int .i64 (C.r.s.2 : Int), .int .u32 (C.r.d.1 : Int), .int .i64 (C.r.d.2 : Int), .int .u16 (C.r.p.1 : Int), .int .u16 (C.r.p.2 : Int), .int .u16 (C.r.q.1 : Int), .int .u16 (C.r.q.2 : Int), .int .u8 (C.r.m.1 : Int), .int .u8 (C.r.m.2 : Int), .int .i64 (C.r.t : Int), .int .u32 (C.h.1 : Int), .int .u32 (C.h.2.1 : Int), .int .u16 (C.h.2.2.1 : Int), .int .u16 (C.h.2.2.2.1 : Int), .int .u8 (C.h.2.2.2.2 : Int)] 61))) := blk_alloc hA _
  have HC : Hid (CmdAt zC (w.alloc (.cells #[.int .i64 (C.k : Int), .int .i64 (C.n : Int), .int .i64 (C.i : Int), .int .i64 (C.r.i : Int), .int .u32 (C.r.s.1 : Int), .int .i64 (C.r.s.2 : Int), .int .u32 (C.r.d.1 : Int), .int .i64 (C.r.d.2 : Int), .int .u16 (C.r.p.1 : Int), .int .u16 (C.r.p.2 : Int), .int .u16 (C.r.q.1 : Int), .int .u16 (C.r.q.2 : Int), .int .u8 (C.r.m.1 : Int), .int .u8 (C.r.m.2 : Int), .int .i64 (C.r.t : Int), .int .u32 (C.h.1 : Int), .int .u32 (C.h.2.1 : Int), .int .u16 (C.h.2.2.1 : Int), .int .u16 (C.h.2.2.2.1 : Int), .int .u8 (C.h.2.2.2.2 : Int)] 61))) := blk_alloc hC _
  have HB0 : Hid (Below w.heap.size w (w.alloc (.cells #[.int .i64 (C.k : Int), .int .i64 (C.n : Int), .int .i64 (C.i : Int), .int .i64 (C.r.i : Int), .int .u32 (C.r.s.1 : Int), .int .i64 (C.r.s.2 : Int), .int .u32 (C.r.d.1 : Int), .int .i64 (C.r.d.2 : Int), .int .u16 (C.r.p.1 : Int), .int .u16 (C.r.p.2 : Int), .int .u16 (C.r.q.1 : Int), .int .u16 (C.r.q.2 : Int), .int .u8 (C.r.m.1 : Int), .int .u8 (C.r.m.2 : Int), .int .i64 (C.r.t : Int), .int .u32 (C.h.1 : Int), .int .u32 (C.h.2.1 : Int), .int .u16 (C.h.2.2.1 : Int), .int .u16 (C.h.2.2.2.1 : Int), .int .u8 (C.h.2.2.2.2 : Int)] 61))) := (Below.refl _ _).alloc (Nat.le_refl _) _
  have HX : Hid ((w.alloc (.cells #[.int .i64 (C.k : Int), .int .i64 (C.n : Int), .int .i64 (C.i : Int), .int .i64 (C.r.i : Int), .int .u32 (C.r.s.1 : Int), .int .i64 (C.r.s.2 : Int), .int .u32 (C.r.d.1 : Int), .int .i64 (C.r.d.2 : Int), .int .u16 (C.r.p.1 : Int), .int .u16 (C.r.p.2 : Int), .int .u16 (C.r.q.1 : Int), .int .u16 (C.r.q.2 : Int), .int .u8 (C.r.m.1 : Int), .int .u8 (C.r.m.2 : Int), .int .i64 (C.r.t : Int), .int .u32 (C.h.1 : Int), .int .u32 (C.h.2.1 : Int), .int .u16 (C.h.2.2.1 : Int), .int .u16 (C.h.2.2.2.1 : Int), .int .u8 (C.h.2.2.2.2 : Int)] 61)).heap[w.heap.size]? = some (.cells #[.int .i64 (C.k : Int), .int .i64 (C.n : Int), .int .i64 (C.i : Int), .int .i64 (C.r.i : Int), .int .u32 (C.r.s.1 : Int), .int .i64 (C.r.s.2 : Int), .int .u32 (C.r.d.1 : Int), .int .i64 (C.r.d.2 : Int), .int .u16 (C.r.p.1 : Int), .int .u16 (C.r.p.2 : Int), .int .u16 (C.r.q.1 : Int), .int .u16 (C.r.q.2 : Int), .int .u8 (C.r.m.1 : Int), .int .u8 (C.r.m.2 : Int), .int .i64 (C.r.t : Int), .int .u32 (C.h.1 : Int), .int .u32 (C.h.2.1 : Int), .int .u16 (C.h.2.2.1 : Int), .int .u16 (C.h.2.2.2.1 : Int), .int .u8 (C.h.2.2.2.2 : Int)] 61)) := blk_new w _
  generalize hW0 : (w.alloc (.cells #[.int .i64 (C.k : Int), .int .i64 (C.n : Int), .int .i64 (C.i : Int), .int .i64 (C.r.i : Int), .int .u32 (C.r.s.1 : Int), .int .i64 (C.r.s.2 : Int), .int .u32 (C.r.d.1 : Int), .int .i64 (C.r.d.2 : Int), .int .u16 (C.r.p.1 : Int), .int .u16 (C.r.p.2 : Int), .int .u16 (C.r.q.1 : Int), .int .u16 (C.r.q.2 : Int), .int .u8 (C.r.m.1 : Int), .int .u8 (C.r.m.2 : Int), .int .i64 (C.r.t : Int), .int .u32 (C.h.1 : Int), .int .u32 (C.h.2.1 : Int), .int .u16 (C.h.2.2.1 : Int), .int .u16 (C.h.2.2.2.1 : Int), .int .u8 (C.h.2.2.2.2 : Int)] 61)) = W0 at *
  have ca : W0.cell? ⟨0, 1, none⟩ = some (.string (cW 1)) := cmdCell HC.out (by omega)
  have hix : ∀ W : World, (Instr.indexAt 94 (.pointer (some ⟨0, 0, none⟩)) (.int .i64 1)).run Tryz.prog W = .ok (.pointer (some ⟨0, 1, none⟩)) W := fun W => idxCW 0 1 (by omega) W
  have c0 : W0.cell? ⟨w.heap.size, 0, none⟩ = some (.int .i64 1) := by have := blk_cell (j := 0) HX.out rfl; rw [hk] at this; exact this
  have c1 : W0.cell? ⟨w.heap.size, 1, none⟩ = some (.int .i64 (C.n : Int)) := blk_cell HX.out rfl
  have c3 : W0.cell? ⟨w.heap.size, 3, none⟩ = some (.int .i64 (C.r.i : Int)) := blk_cell HX.out rfl
  have c4 : W0.cell? ⟨w.heap.size, 4, none⟩ = some (.int .u32 (C.r.s.1 : Int)) := blk_cell HX.out rfl
  have c5 : W0.cell? ⟨w.heap.size, 5, none⟩ = some (.int .i64 (C.r.s.2 : Int)) := blk_cell HX.out rfl
  have c6 : W0.cell? ⟨w.heap.size, 6, none⟩ = some (.int .u32 (C.r.d.1 : Int)) := blk_cell HX.out rfl
  have c7 : W0.cell? ⟨w.heap.size, 7, none⟩ = some (.int .i64 (C.r.d.2 : Int)) := blk_cell HX.out rfl
  have c8 : W0.cell? ⟨w.heap.size, 8, none⟩ = some (.int .u16 (C.r.p.1 : Int)) := blk_cell HX.out rfl
  have c9 : W0.cell? ⟨w.heap.size, 9, none⟩ = some (.int .u16 (C.r.p.2 : Int)) := blk_cell HX.out rfl
  have c10 : W0.cell? ⟨w.heap.size, 10, none⟩ = some (.int .u16 (C.r.q.1 : Int)) := blk_cell HX.out rfl
  have c11 : W0.cell? ⟨w.heap.size, 11, none⟩ = some (.int .u16 (C.r.q.2 : Int)) := blk_cell HX.out rfl
  have c12 : W0.cell? ⟨w.heap.size, 12, none⟩ = some (.int .u8 (C.r.m.1 : Int)) := blk_cell HX.out rfl
  have c13 : W0.cell? ⟨w.heap.size, 13, none⟩ = some (.int .u8 (C.r.m.2 : Int)) := blk_cell HX.out rfl
  have c14 : W0.cell? ⟨w.heap.size, 14, none⟩ = some (.int .i64 (C.r.t : Int)) := blk_cell HX.out rfl
  have hBlank : ∀ (k : Nat) (W : World), W.heap[k]? = some (.cells #[.string (cW 1), .string (mkB (Lib.decDigits C.n)), .string (mkB (textP (ruleP C.r)))] 9) → Calls Tryz.prog 39 #[.slice (some ⟨k, 0, none⟩) 3 3] W fun e w' => e = .returned (.string (mkB (textP (cmdP C)))) ∧ Below W.heap.size W w' := fun k W hW => by
    have hJn := blanksC k 3 [(cW 1), (mkB (Lib.decDigits C.n)), (mkB (textP (ruleP C.r)))] W (fun j x hj => by
      match j, hj with
      | 0, hj => obtain rfl := Option.some.inj hj; exact blk_cell hW rfl
      | 1, hj => obtain rfl := Option.some.inj hj; exact blk_cell hW rfl
      | 2, hj => obtain rfl := Option.some.inj hj; exact blk_cell hW rfl
      | _ + 3, hj => cases hj) (blk_lt hW) (Nat.le_of_ble_eq_true rfl) (Nat.le_of_ble_eq_true rfl) (by simp only [List.map_cons, List.map_nil, mkB_list, aW_list, cW_list]; exact Nat.le_trans (Nat.le_of_eq (congrArg List.length (text_c1 C hk).symm)) (Nat.le_trans (part_cm ok).len (by decide)))
    rw [show mkB (Lib.join (List.map (fun z : ByteArray => z.data.toList) [(cW 1), (mkB (Lib.decDigits C.n)), (mkB (textP (ruleP C.r)))]) [32]) = mkB (textP (cmdP C)) by simp only [List.map_cons, List.map_nil, mkB_list, aW_list, cW_list]; rw [(text_c1 C hk)]] at hJn
    exact hJn
  have k0 := fun (W : World) (hW : Below W0.heap.size W0 W) => itoaN C.n (by have := ok.n; omega) W (HP.out.on hW)
  have k1 := fun (W : World) (hW : Below W0.heap.size W0 W) => ruleTextC C.r (ok.r1 hk) W (HP.out.on hW) (blk_on HA.out hW)
  generalize (cW 1) = x0 at *
  generalize (mkB (Lib.decDigits C.n)) = x1 at *
  generalize (mkB (textP (ruleP C.r))) = x2 at *
  generalize hV : mkB (textP (cmdP C)) = V at *
  clear hV
  clear hk
  go_enter Tryz.func21, Tryz.ntmps21
  go_upto_region 1 with (fail)
  try rw [hW0]
  clear hW0
  go_upto_region 4 with (fail)
  refine wp_region_held_drew (S := fun w' => Below W0.heap.size W0 w') (by kernel_rfl) (Below.refl _ _).drew (fun hS0 => ?_)
  show wpAnyH _ _ _ _ _ 10 _ _ _
  refine wpAnyH_take (i := 0) (v := .string x0) rfl (by kernel_rfl) (by kernel_rfl) (by kernel_rfl) (fun _ _ _ h => h) (.inl ⟨rfl, fun _ _ => by simp [execOp, go_sem]⟩) hS0 ?_
  simp only [List.getElem_toArray, List.getElem_cons_succ, List.getElem_cons_zero, Act.put, List.setIfInBounds_toArray, List.set_cons_zero, List.set_cons_succ]
  refine wpAnyH_take (i := 1) (v := .pointer (some ⟨w.heap.size, 1, none⟩)) rfl (by kernel_rfl) (by kernel_rfl) (by kernel_rfl) (fun _ _ _ h => h) (.inl ⟨rfl, fun _ _ => by simp [execOp, go_sem]⟩) hS0 ?_
  simp only [List.getElem_toArray, List.getElem_cons_succ, List.getElem_cons_zero, Act.put, List.setIfInBounds_toArray, List.set_cons_zero, List.set_cons_succ]
  refine wpAnyH_take (i := 2) (v := .int .i64 (C.n : Int)) rfl (by kernel_rfl) (by kernel_rfl) (by kernel_rfl) (fun _ _ _ h => h) ((.inl ⟨rfl, fun w' hw' => by have := cell_on1 hw' c1; simp [execOp, go_sem, this]⟩)) hS0 ?_
  simp only [List.getElem_toArray, List.getElem_cons_succ, List.getElem_cons_zero, Act.put, List.setIfInBounds_toArray, List.set_cons_zero, List.set_cons_succ]
  refine wpAnyH_take (i := 4) (v := .pointer (some ⟨w.heap.size, 3, none⟩)) rfl (by kernel_rfl) (by kernel_rfl) (by kernel_rfl) (fun _ _ _ h => h) (.inl ⟨rfl, fun _ _ => by simp [execOp, go_sem]⟩) hS0 ?_
  simp only [List.getElem_toArray, List.getElem_cons_succ, List.getElem_cons_zero, Act.put, List.setIfInBounds_toArray, List.set_cons_zero, List.set_cons_succ]
  refine wpAnyH_take (i := 5) rfl (by kernel_rfl) (by kernel_rfl) (by kernel_rfl) (fun _ _ _ h => h) (yieldsIf_load_mid rfl 52 (.tmp 16) rfl w.heap.size 3 rfl [.int .i64 (C.r.i : Int), .int .u32 (C.r.s.1 : Int), .int .i64 (C.r.s.2 : Int), .int .u32 (C.r.d.1 : Int), .int .i64 (C.r.d.2 : Int), .int .u16 (C.r.p.1 : Int), .int .u16 (C.r.p.2 : Int), .int .u16 (C.r.q.1 : Int), .int .u16 (C.r.q.2 : Int), .int .u8 (C.r.m.1 : Int), .int .u8 (C.r.m.2 : Int), .int .i64 (C.r.t : Int)] _ (fun w' hw' => range12 (cell_on1 hw' c3) (cell_on1 hw' c4) (cell_on1 hw' c5) (cell_on1 hw' c6) (cell_on1 hw' c7) (cell_on1 hw' c8) (cell_on1 hw' c9) (cell_on1 hw' c10) (cell_on1 hw' c11) (cell_on1 hw' c12) (cell_on1 hw' c13) (cell_on1 hw' c14)) Tryz.underlying52 rfl (by kernel_rfl)) hS0 ?_
  simp only [List.getElem_toArray, List.getElem_cons_succ, List.getElem_cons_zero, Act.put, List.setIfInBounds_toArray, List.set_cons_zero, List.set_cons_succ]
  refine wpAnyH_all (rs := [3]) (by kernel_rfl) (by simp) ?_
  intro i hi
  simp only [List.mem_cons, List.not_mem_nil, or_false] at hi
  subst hi
  refine wpOp_of_wp rfl rfl (fun K' hK' => ?_)
  go_wp2_with (fail)
  refine (k0 _ (hS0)).mono ?_
  rintro e w1 ⟨rfl, hb⟩
  have S1 : Below W0.heap.size W0 w1 := (hS0).trans (hb.mono (hS0).size)
  refine hK' _ _ ⟨S1, ?_⟩
  clear hb
  refine wpAnyH_all (rs := [6]) (by kernel_rfl) (by simp) ?_
  intro i hi
  simp only [List.mem_cons, List.not_mem_nil, or_false] at hi
  subst hi
  refine wpOp_of_wp rfl rfl (fun K' hK' => ?_)
  go_wp2_with (fail)
  refine (k1 _ (S1)).mono ?_
  rintro e w2 ⟨rfl, hb⟩
  have S2 : Below W0.heap.size W0 w2 := (S1).trans (hb.mono (S1).size)
  refine hK' _ _ ⟨S2, ?_⟩
  clear hb
  refine wpAnyH_all (rs := [7]) (by kernel_rfl) (by simp) ?_
  intro i hi
  simp only [List.mem_cons, List.not_mem_nil, or_false] at hi
  subst hi
  refine wpOp_of_wp rfl rfl (fun K' hK' => ?_)
  go_wp2_with (fail)
  have Sb : Below W0.heap.size W0 (w2.alloc (.cells #[.string x0, .string x1, .string x2] 9)) := S2.alloc S2.size _
  refine ⟨Sb, ?_⟩
  have hBk : (w2.alloc (.cells #[.string x0, .string x1, .string x2] 9)).heap[w2.heap.size]? = some (.cells #[.string x0, .string x1, .string x2] 9) := blk_new w2 _
  have hBl := hBlank w2.heap.size (w2.alloc (.cells #[.string x0, .string x1, .string x2] 9)) hBk
  refine wpAnyH_all (rs := [8]) (by kernel_rfl) (by simp) ?_
  intro i hi
  simp only [List.mem_cons, List.not_mem_nil, or_false] at hi
  subst hi
  refine wpOp_of_wp rfl rfl (fun K' hK' => ?_)
  go_wp2_with (fail)
  refine hBl.mono ?_
  rintro e wf ⟨rfl, hb⟩
  have Sf : Below W0.heap.size W0 wf := Sb.trans (hb.mono Sb.size)
  refine hK' _ _ ⟨Sf, ?_⟩
  refine wpAnyH_all (rs := [9]) (by kernel_rfl) (by simp) ?_
  intro i hi
  simp only [List.mem_cons, List.not_mem_nil, or_false] at hi
  subst hi
  refine wpOp_of_wp rfl rfl (fun K' hK' => ?_)
  go_wp2_with (fail)
  refine ⟨Sf, ?_⟩
  refine wpAnyH_done (by kernel_rfl) ?_ _
  try simp only [List.getElem_toArray, List.getElem_cons_succ, List.getElem_cons_zero, Act.put, List.setIfInBounds_toArray, List.set_cons_zero, List.set_cons_succ]
  have HF : Hid (Below w.heap.size w wf) := HB0.out.trans (Sf.mono HB0.out.size)
  clear hBl hBk Sb Sf hb hBlank S1 S2 hS0
  go_wp2_with (fail)
  go_ret
  exact ⟨rfl, HF.out⟩
set_option maxRecDepth 20000 in
set_option maxHeartbeats 16000000 in
theorem commandText2 (C : Cm) (ok : OkCm C) (w : World) (hp : Pw w) (hA : ActAt zA w) (hC : CmdAt zC w) (hk : C.k = 2) :
    Calls Tryz.prog 21 #[.agg #[.int .i64 (C.k : Int), .int .i64 (C.n : Int), .int .i64 (C.i : Int), .int .i64 (C.r.i : Int), .int .u32 (C.r.s.1 : Int), .int .i64 (C.r.s.2 : Int), .int .u32 (C.r.d.1 : Int), .int .i64 (C.r.d.2 : Int), .int .u16 (C.r.p.1 : Int), .int .u16 (C.r.p.2 : Int), .int .u16 (C.r.q.1 : Int), .int .u16 (C.r.q.2 : Int), .int .u8 (C.r.m.1 : Int), .int .u8 (C.r.m.2 : Int), .int .i64 (C.r.t : Int), .int .u32 (C.h.1 : Int), .int .u32 (C.h.2.1 : Int), .int .u16 (C.h.2.2.1 : Int), .int .u16 (C.h.2.2.2.1 : Int), .int .u8 (C.h.2.2.2.2 : Int)]] w fun e w' => e = .returned (.string (mkB (textP (cmdP C)))) ∧ Below w.heap.size w w' := by
  have hk10 := ok.k
  have HP : Hid (Pw (w.alloc (.cells #[.int .i64 (C.k : Int), .int .i64 (C.n : Int), .int .i64 (C.i : Int), .int .i64 (C.r.i : Int), .int .u32 (C.r.s.1 : Int), .int .i64 (C.r.s.2 : Int), .int .u32 (C.r.d.1 : Int), .int .i64 (C.r.d.2 : Int), .int .u16 (C.r.p.1 : Int), .int .u16 (C.r.p.2 : Int), .int .u16 (C.r.q.1 : Int), .int .u16 (C.r.q.2 : Int), .int .u8 (C.r.m.1 : Int), .int .u8 (C.r.m.2 : Int), .int .i64 (C.r.t : Int), .int .u32 (C.h.1 : Int), .int .u32 (C.h.2.1 : Int), .int .u16 (C.h.2.2.1 : Int), .int .u16 (C.h.2.2.2.1 : Int), .int .u8 (C.h.2.2.2.2 : Int)] 61))) := hp.alloc _
  have HA : Hid (ActAt zA (w.alloc (.cells #[.int .i64 (C.k : Int), .int .i64 (C.n : Int), .int .i64 (C.i : Int), .int .i64 (C.r.i : Int), .int .u32 (C.r.s.1 : Int), .int .i64 (C.r.s.2 : Int), .int .u32 (C.r.d.1 : Int), .int .i64 (C.r.d.2 : Int), .int .u16 (C.r.p.1 : Int), .int .u16 (C.r.p.2 : Int), .int .u16 (C.r.q.1 : Int), .int .u16 (C.r.q.2 : Int), .int .u8 (C.r.m.1 : Int), .int .u8 (C.r.m.2 : Int), .int .i64 (C.r.t : Int), .int .u32 (C.h.1 : Int), .int .u32 (C.h.2.1 : Int), .int .u16 (C.h.2.2.1 : Int), .int .u16 (C.h.2.2.2.1 : Int), .int .u8 (C.h.2.2.2.2 : Int)] 61))) := blk_alloc hA _
  have HC : Hid (CmdAt zC (w.alloc (.cells #[.int .i64 (C.k : Int), .int .i64 (C.n : Int), .int .i64 (C.i : Int), .int .i64 (C.r.i : Int), .int .u32 (C.r.s.1 : Int), .int .i64 (C.r.s.2 : Int), .int .u32 (C.r.d.1 : Int), .int .i64 (C.r.d.2 : Int), .int .u16 (C.r.p.1 : Int), .int .u16 (C.r.p.2 : Int), .int .u16 (C.r.q.1 : Int), .int .u16 (C.r.q.2 : Int), .int .u8 (C.r.m.1 : Int), .int .u8 (C.r.m.2 : Int), .int .i64 (C.r.t : Int), .int .u32 (C.h.1 : Int), .int .u32 (C.h.2.1 : Int), .int .u16 (C.h.2.2.1 : Int), .int .u16 (C.h.2.2.2.1 : Int), .int .u8 (C.h.2.2.2.2 : Int)] 61))) := blk_alloc hC _
  have HB0 : Hid (Below w.heap.size w (w.alloc (.cells #[.int .i64 (C.k : Int), .int .i64 (C.n : Int), .int .i64 (C.i : Int), .int .i64 (C.r.i : Int), .int .u32 (C.r.s.1 : Int), .int .i64 (C.r.s.2 : Int), .int .u32 (C.r.d.1 : Int), .int .i64 (C.r.d.2 : Int), .int .u16 (C.r.p.1 : Int), .int .u16 (C.r.p.2 : Int), .int .u16 (C.r.q.1 : Int), .int .u16 (C.r.q.2 : Int), .int .u8 (C.r.m.1 : Int), .int .u8 (C.r.m.2 : Int), .int .i64 (C.r.t : Int), .int .u32 (C.h.1 : Int), .int .u32 (C.h.2.1 : Int), .int .u16 (C.h.2.2.1 : Int), .int .u16 (C.h.2.2.2.1 : Int), .int .u8 (C.h.2.2.2.2 : Int)] 61))) := (Below.refl _ _).alloc (Nat.le_refl _) _
  have HX : Hid ((w.alloc (.cells #[.int .i64 (C.k : Int), .int .i64 (C.n : Int), .int .i64 (C.i : Int), .int .i64 (C.r.i : Int), .int .u32 (C.r.s.1 : Int), .int .i64 (C.r.s.2 : Int), .int .u32 (C.r.d.1 : Int), .int .i64 (C.r.d.2 : Int), .int .u16 (C.r.p.1 : Int), .int .u16 (C.r.p.2 : Int), .int .u16 (C.r.q.1 : Int), .int .u16 (C.r.q.2 : Int), .int .u8 (C.r.m.1 : Int), .int .u8 (C.r.m.2 : Int), .int .i64 (C.r.t : Int), .int .u32 (C.h.1 : Int), .int .u32 (C.h.2.1 : Int), .int .u16 (C.h.2.2.1 : Int), .int .u16 (C.h.2.2.2.1 : Int), .int .u8 (C.h.2.2.2.2 : Int)] 61)).heap[w.heap.size]? = some (.cells #[.int .i64 (C.k : Int), .int .i64 (C.n : Int), .int .i64 (C.i : Int), .int .i64 (C.r.i : Int), .int .u32 (C.r.s.1 : Int), .int .i64 (C.r.s.2 : Int), .int .u32 (C.r.d.1 : Int), .int .i64 (C.r.d.2 : Int), .int .u16 (C.r.p.1 : Int), .int .u16 (C.r.p.2 : Int), .int .u16 (C.r.q.1 : Int), .int .u16 (C.r.q.2 : Int), .int .u8 (C.r.m.1 : Int), .int .u8 (C.r.m.2 : Int), .int .i64 (C.r.t : Int), .int .u32 (C.h.1 : Int), .int .u32 (C.h.2.1 : Int), .int .u16 (C.h.2.2.1 : Int), .int .u16 (C.h.2.2.2.1 : Int), .int .u8 (C.h.2.2.2.2 : Int)] 61)) := blk_new w _
  generalize hW0 : (w.alloc (.cells #[.int .i64 (C.k : Int), .int .i64 (C.n : Int), .int .i64 (C.i : Int), .int .i64 (C.r.i : Int), .int .u32 (C.r.s.1 : Int), .int .i64 (C.r.s.2 : Int), .int .u32 (C.r.d.1 : Int), .int .i64 (C.r.d.2 : Int), .int .u16 (C.r.p.1 : Int), .int .u16 (C.r.p.2 : Int), .int .u16 (C.r.q.1 : Int), .int .u16 (C.r.q.2 : Int), .int .u8 (C.r.m.1 : Int), .int .u8 (C.r.m.2 : Int), .int .i64 (C.r.t : Int), .int .u32 (C.h.1 : Int), .int .u32 (C.h.2.1 : Int), .int .u16 (C.h.2.2.1 : Int), .int .u16 (C.h.2.2.2.1 : Int), .int .u8 (C.h.2.2.2.2 : Int)] 61)) = W0 at *
  have ca : W0.cell? ⟨0, 2, none⟩ = some (.string (cW 2)) := cmdCell HC.out (by omega)
  have hix : ∀ W : World, (Instr.indexAt 94 (.pointer (some ⟨0, 0, none⟩)) (.int .i64 2)).run Tryz.prog W = .ok (.pointer (some ⟨0, 2, none⟩)) W := fun W => idxCW 0 2 (by omega) W
  have c0 : W0.cell? ⟨w.heap.size, 0, none⟩ = some (.int .i64 2) := by have := blk_cell (j := 0) HX.out rfl; rw [hk] at this; exact this
  have c2 : W0.cell? ⟨w.heap.size, 2, none⟩ = some (.int .i64 (C.i : Int)) := blk_cell HX.out rfl
  have hBlank : ∀ (k : Nat) (W : World), W.heap[k]? = some (.cells #[.string (cW 2), .string (mkB (Lib.decDigits C.i))] 9) → Calls Tryz.prog 39 #[.slice (some ⟨k, 0, none⟩) 2 2] W fun e w' => e = .returned (.string (mkB (textP (cmdP C)))) ∧ Below W.heap.size W w' := fun k W hW => by
    have hJn := blanksC k 2 [(cW 2), (mkB (Lib.decDigits C.i))] W (fun j x hj => by
      match j, hj with
      | 0, hj => obtain rfl := Option.some.inj hj; exact blk_cell hW rfl
      | 1, hj => obtain rfl := Option.some.inj hj; exact blk_cell hW rfl
      | _ + 2, hj => cases hj) (blk_lt hW) (Nat.le_of_ble_eq_true rfl) (Nat.le_of_ble_eq_true rfl) (by simp only [List.map_cons, List.map_nil, mkB_list, aW_list, cW_list]; exact Nat.le_trans (Nat.le_of_eq (congrArg List.length (text_c2 C hk).symm)) (Nat.le_trans (part_cm ok).len (by decide)))
    rw [show mkB (Lib.join (List.map (fun z : ByteArray => z.data.toList) [(cW 2), (mkB (Lib.decDigits C.i))]) [32]) = mkB (textP (cmdP C)) by simp only [List.map_cons, List.map_nil, mkB_list, aW_list, cW_list]; rw [(text_c2 C hk)]] at hJn
    exact hJn
  have k0 := fun (W : World) (hW : Below W0.heap.size W0 W) => itoaN C.i (by have := ok.i; omega) W (HP.out.on hW)
  generalize (cW 2) = x0 at *
  generalize (mkB (Lib.decDigits C.i)) = x1 at *
  generalize hV : mkB (textP (cmdP C)) = V at *
  clear hV
  clear hk
  go_enter Tryz.func21, Tryz.ntmps21
  go_upto_region 1 with (fail)
  try rw [hW0]
  clear hW0
  go_wp2_with (fail)
  refine (k0 _ (Below.refl _ _)).mono ?_
  rintro e w1 ⟨rfl, hb⟩
  have S1 : Hid (Below W0.heap.size W0 w1) := hb
  have hBl := hBlank w1.heap.size (w1.alloc (.cells #[.string x0, .string x1] 9)) (blk_new w1 _)
  clear hb hBlank k0
  go_wp2_with (fail)
  refine hBl.mono ?_
  rintro e wf ⟨rfl, hb⟩
  have HF : Hid (Below w.heap.size w wf) := HB0.out.trans (((S1.out.alloc S1.out.size _).trans (hb.mono (by have := S1.out.size; simp; omega))).mono HB0.out.size)
  clear hb hBl
  go_wp2_with (fail)
  go_ret
  exact ⟨rfl, HF.out⟩
set_option maxRecDepth 20000 in
set_option maxHeartbeats 16000000 in
theorem commandText3 (C : Cm) (ok : OkCm C) (w : World) (hp : Pw w) (hA : ActAt zA w) (hC : CmdAt zC w) (hk : C.k = 3) :
    Calls Tryz.prog 21 #[.agg #[.int .i64 (C.k : Int), .int .i64 (C.n : Int), .int .i64 (C.i : Int), .int .i64 (C.r.i : Int), .int .u32 (C.r.s.1 : Int), .int .i64 (C.r.s.2 : Int), .int .u32 (C.r.d.1 : Int), .int .i64 (C.r.d.2 : Int), .int .u16 (C.r.p.1 : Int), .int .u16 (C.r.p.2 : Int), .int .u16 (C.r.q.1 : Int), .int .u16 (C.r.q.2 : Int), .int .u8 (C.r.m.1 : Int), .int .u8 (C.r.m.2 : Int), .int .i64 (C.r.t : Int), .int .u32 (C.h.1 : Int), .int .u32 (C.h.2.1 : Int), .int .u16 (C.h.2.2.1 : Int), .int .u16 (C.h.2.2.2.1 : Int), .int .u8 (C.h.2.2.2.2 : Int)]] w fun e w' => e = .returned (.string (mkB (textP (cmdP C)))) ∧ Below w.heap.size w w' := by
  have hk10 := ok.k
  have HP : Hid (Pw (w.alloc (.cells #[.int .i64 (C.k : Int), .int .i64 (C.n : Int), .int .i64 (C.i : Int), .int .i64 (C.r.i : Int), .int .u32 (C.r.s.1 : Int), .int .i64 (C.r.s.2 : Int), .int .u32 (C.r.d.1 : Int), .int .i64 (C.r.d.2 : Int), .int .u16 (C.r.p.1 : Int), .int .u16 (C.r.p.2 : Int), .int .u16 (C.r.q.1 : Int), .int .u16 (C.r.q.2 : Int), .int .u8 (C.r.m.1 : Int), .int .u8 (C.r.m.2 : Int), .int .i64 (C.r.t : Int), .int .u32 (C.h.1 : Int), .int .u32 (C.h.2.1 : Int), .int .u16 (C.h.2.2.1 : Int), .int .u16 (C.h.2.2.2.1 : Int), .int .u8 (C.h.2.2.2.2 : Int)] 61))) := hp.alloc _
  have HA : Hid (ActAt zA (w.alloc (.cells #[.int .i64 (C.k : Int), .int .i64 (C.n : Int), .int .i64 (C.i : Int), .int .i64 (C.r.i : Int), .int .u32 (C.r.s.1 : Int), .int .i64 (C.r.s.2 : Int), .int .u32 (C.r.d.1 : Int), .int .i64 (C.r.d.2 : Int), .int .u16 (C.r.p.1 : Int), .int .u16 (C.r.p.2 : Int), .int .u16 (C.r.q.1 : Int), .int .u16 (C.r.q.2 : Int), .int .u8 (C.r.m.1 : Int), .int .u8 (C.r.m.2 : Int), .int .i64 (C.r.t : Int), .int .u32 (C.h.1 : Int), .int .u32 (C.h.2.1 : Int), .int .u16 (C.h.2.2.1 : Int), .int .u16 (C.h.2.2.2.1 : Int), .int .u8 (C.h.2.2.2.2 : Int)] 61))) := blk_alloc hA _
  have HC : Hid (CmdAt zC (w.alloc (.cells #[.int .i64 (C.k : Int), .int .i64 (C.n : Int), .int .i64 (C.i : Int), .int .i64 (C.r.i : Int), .int .u32 (C.r.s.1 : Int), .int .i64 (C.r.s.2 : Int), .int .u32 (C.r.d.1 : Int), .int .i64 (C.r.d.2 : Int), .int .u16 (C.r.p.1 : Int), .int .u16 (C.r.p.2 : Int), .int .u16 (C.r.q.1 : Int), .int .u16 (C.r.q.2 : Int), .int .u8 (C.r.m.1 : Int), .int .u8 (C.r.m.2 : Int), .int .i64 (C.r.t : Int), .int .u32 (C.h.1 : Int), .int .u32 (C.h.2.1 : Int), .int .u16 (C.h.2.2.1 : Int), .int .u16 (C.h.2.2.2.1 : Int), .int .u8 (C.h.2.2.2.2 : Int)] 61))) := blk_alloc hC _
  have HB0 : Hid (Below w.heap.size w (w.alloc (.cells #[.int .i64 (C.k : Int), .int .i64 (C.n : Int), .int .i64 (C.i : Int), .int .i64 (C.r.i : Int), .int .u32 (C.r.s.1 : Int), .int .i64 (C.r.s.2 : Int), .int .u32 (C.r.d.1 : Int), .int .i64 (C.r.d.2 : Int), .int .u16 (C.r.p.1 : Int), .int .u16 (C.r.p.2 : Int), .int .u16 (C.r.q.1 : Int), .int .u16 (C.r.q.2 : Int), .int .u8 (C.r.m.1 : Int), .int .u8 (C.r.m.2 : Int), .int .i64 (C.r.t : Int), .int .u32 (C.h.1 : Int), .int .u32 (C.h.2.1 : Int), .int .u16 (C.h.2.2.1 : Int), .int .u16 (C.h.2.2.2.1 : Int), .int .u8 (C.h.2.2.2.2 : Int)] 61))) := (Below.refl _ _).alloc (Nat.le_refl _) _
  have HX : Hid ((w.alloc (.cells #[.int .i64 (C.k : Int), .int .i64 (C.n : Int), .int .i64 (C.i : Int), .int .i64 (C.r.i : Int), .int .u32 (C.r.s.1 : Int), .int .i64 (C.r.s.2 : Int), .int .u32 (C.r.d.1 : Int), .int .i64 (C.r.d.2 : Int), .int .u16 (C.r.p.1 : Int), .int .u16 (C.r.p.2 : Int), .int .u16 (C.r.q.1 : Int), .int .u16 (C.r.q.2 : Int), .int .u8 (C.r.m.1 : Int), .int .u8 (C.r.m.2 : Int), .int .i64 (C.r.t : Int), .int .u32 (C.h.1 : Int), .int .u32 (C.h.2.1 : Int), .int .u16 (C.h.2.2.1 : Int), .int .u16 (C.h.2.2.2.1 : Int), .int .u8 (C.h.2.2.2.2 : Int)] 61)).heap[w.heap.size]? = some (.cells #[.int .i64 (C.k : Int), .int .i64 (C.n : Int), .int .i64 (C.i : Int), .int .i64 (C.r.i : Int), .int .u32 (C.r.s.1 : Int), .int .i64 (C.r.s.2 : Int), .int .u32 (C.r.d.1 : Int), .int .i64 (C.r.d.2 : Int), .int .u16 (C.r.p.1 : Int), .int .u16 (C.r.p.2 : Int), .int .u16 (C.r.q.1 : Int), .int .u16 (C.r.q.2 : Int), .int .u8 (C.r.m.1 : Int), .int .u8 (C.r.m.2 : Int), .int .i64 (C.r.t : Int), .int .u32 (C.h.1 : Int), .int .u32 (C.h.2.1 : Int), .int .u16 (C.h.2.2.1 : Int), .int .u16 (C.h.2.2.2.1 : Int), .int .u8 (C.h.2.2.2.2 : Int)] 61)) := blk_new w _
  generalize hW0 : (w.alloc (.cells #[.int .i64 (C.k : Int), .int .i64 (C.n : Int), .int .i64 (C.i : Int), .int .i64 (C.r.i : Int), .int .u32 (C.r.s.1 : Int), .int .i64 (C.r.s.2 : Int), .int .u32 (C.r.d.1 : Int), .int .i64 (C.r.d.2 : Int), .int .u16 (C.r.p.1 : Int), .int .u16 (C.r.p.2 : Int), .int .u16 (C.r.q.1 : Int), .int .u16 (C.r.q.2 : Int), .int .u8 (C.r.m.1 : Int), .int .u8 (C.r.m.2 : Int), .int .i64 (C.r.t : Int), .int .u32 (C.h.1 : Int), .int .u32 (C.h.2.1 : Int), .int .u16 (C.h.2.2.1 : Int), .int .u16 (C.h.2.2.2.1 : Int), .int .u8 (C.h.2.2.2.2 : Int)] 61)) = W0 at *
  have ca : W0.cell? ⟨0, 3, none⟩ = some (.string (cW 3)) := cmdCell HC.out (by omega)
  have hix : ∀ W : World, (Instr.indexAt 94 (.pointer (some ⟨0, 0, none⟩)) (.int .i64 3)).run Tryz.prog W = .ok (.pointer (some ⟨0, 3, none⟩)) W := fun W => idxCW 0 3 (by omega) W
  have c0 : W0.cell? ⟨w.heap.size, 0, none⟩ = some (.int .i64 3) := by have := blk_cell (j := 0) HX.out rfl; rw [hk] at this; exact this
  have c1 : W0.cell? ⟨w.heap.size, 1, none⟩ = some (.int .i64 (C.n : Int)) := blk_cell HX.out rfl
  have c2 : W0.cell? ⟨w.heap.size, 2, none⟩ = some (.int .i64 (C.i : Int)) := blk_cell HX.out rfl
  have hBlank : ∀ (k : Nat) (W : World), W.heap[k]? = some (.cells #[.string (cW 3), .string (mkB (Lib.decDigits C.i)), .string (mkB (Lib.decDigits C.n))] 9) → Calls Tryz.prog 39 #[.slice (some ⟨k, 0, none⟩) 3 3] W fun e w' => e = .returned (.string (mkB (textP (cmdP C)))) ∧ Below W.heap.size W w' := fun k W hW => by
    have hJn := blanksC k 3 [(cW 3), (mkB (Lib.decDigits C.i)), (mkB (Lib.decDigits C.n))] W (fun j x hj => by
      match j, hj with
      | 0, hj => obtain rfl := Option.some.inj hj; exact blk_cell hW rfl
      | 1, hj => obtain rfl := Option.some.inj hj; exact blk_cell hW rfl
      | 2, hj => obtain rfl := Option.some.inj hj; exact blk_cell hW rfl
      | _ + 3, hj => cases hj) (blk_lt hW) (Nat.le_of_ble_eq_true rfl) (Nat.le_of_ble_eq_true rfl) (by simp only [List.map_cons, List.map_nil, mkB_list, aW_list, cW_list]; exact Nat.le_trans (Nat.le_of_eq (congrArg List.length (text_c3 C hk).symm)) (Nat.le_trans (part_cm ok).len (by decide)))
    rw [show mkB (Lib.join (List.map (fun z : ByteArray => z.data.toList) [(cW 3), (mkB (Lib.decDigits C.i)), (mkB (Lib.decDigits C.n))]) [32]) = mkB (textP (cmdP C)) by simp only [List.map_cons, List.map_nil, mkB_list, aW_list, cW_list]; rw [(text_c3 C hk)]] at hJn
    exact hJn
  have k0 := fun (W : World) (hW : Below W0.heap.size W0 W) => itoaN C.i (by have := ok.i; omega) W (HP.out.on hW)
  have k1 := fun (W : World) (hW : Below W0.heap.size W0 W) => itoaN C.n (by have := ok.n; omega) W (HP.out.on hW)
  generalize (cW 3) = x0 at *
  generalize (mkB (Lib.decDigits C.i)) = x1 at *
  generalize (mkB (Lib.decDigits C.n)) = x2 at *
  generalize hV : mkB (textP (cmdP C)) = V at *
  clear hV
  clear hk
  go_enter Tryz.func21, Tryz.ntmps21
  go_upto_region 1 with (fail)
  try rw [hW0]
  clear hW0
  go_upto_region 8 with (fail)
  refine wp_region_held_drew (S := fun w' => Below W0.heap.size W0 w') (by kernel_rfl) (Below.refl _ _).drew (fun hS0 => ?_)
  show wpAnyH _ _ _ _ _ 10 _ _ _
  refine wpAnyH_take (i := 0) (v := .string x0) rfl (by kernel_rfl) (by kernel_rfl) (by kernel_rfl) (fun _ _ _ h => h) (.inl ⟨rfl, fun _ _ => by simp [execOp, go_sem]⟩) hS0 ?_
  simp only [List.getElem_toArray, List.getElem_cons_succ, List.getElem_cons_zero, Act.put, List.setIfInBounds_toArray, List.set_cons_zero, List.set_cons_succ]
  refine wpAnyH_take (i := 1) (v := .pointer (some ⟨w.heap.size, 2, none⟩)) rfl (by kernel_rfl) (by kernel_rfl) (by kernel_rfl) (fun _ _ _ h => h) (.inl ⟨rfl, fun _ _ => by simp [execOp, go_sem]⟩) hS0 ?_
  simp only [List.getElem_toArray, List.getElem_cons_succ, List.getElem_cons_zero, Act.put, List.setIfInBounds_toArray, List.set_cons_zero, List.set_cons_succ]
  refine wpAnyH_take (i := 2) (v := .int .i64 (C.i : Int)) rfl (by kernel_rfl) (by kernel_rfl) (by kernel_rfl) (fun _ _ _ h => h) ((.inl ⟨rfl, fun w' hw' => by have := cell_on1 hw' c2; simp [execOp, go_sem, this]⟩)) hS0 ?_
  simp only [List.getElem_toArray, List.getElem_cons_succ, List.getElem_cons_zero, Act.put, List.setIfInBounds_toArray, List.set_cons_zero, List.set_cons_succ]
  refine wpAnyH_take (i := 4) (v := .pointer (some ⟨w.heap.size, 1, none⟩)) rfl (by kernel_rfl) (by kernel_rfl) (by kernel_rfl) (fun _ _ _ h => h) (.inl ⟨rfl, fun _ _ => by simp [execOp, go_sem]⟩) hS0 ?_
  simp only [List.getElem_toArray, List.getElem_cons_succ, List.getElem_cons_zero, Act.put, List.setIfInBounds_toArray, List.set_cons_zero, List.set_cons_succ]
  refine wpAnyH_take (i := 5) (v := .int .i64 (C.n : Int)) rfl (by kernel_rfl) (by kernel_rfl) (by kernel_rfl) (fun _ _ _ h => h) ((.inl ⟨rfl, fun w' hw' => by have := cell_on1 hw' c1; simp [execOp, go_sem, this]⟩)) hS0 ?_
  simp only [List.getElem_toArray, List.getElem_cons_succ, List.getElem_cons_zero, Act.put, List.setIfInBounds_toArray, List.set_cons_zero, List.set_cons_succ]
  refine wpAnyH_all (rs := [3]) (by kernel_rfl) (by simp) ?_
  intro i hi
  simp only [List.mem_cons, List.not_mem_nil, or_false] at hi
  subst hi
  refine wpOp_of_wp rfl rfl (fun K' hK' => ?_)
  go_wp2_with (fail)
  refine (k0 _ (hS0)).mono ?_
  rintro e w1 ⟨rfl, hb⟩
  have S1 : Below W0.heap.size W0 w1 := (hS0).trans (hb.mono (hS0).size)
  refine hK' _ _ ⟨S1, ?_⟩
  clear hb
  refine wpAnyH_all (rs := [6]) (by kernel_rfl) (by simp) ?_
  intro i hi
  simp only [List.mem_cons, List.not_mem_nil, or_false] at hi
  subst hi
  refine wpOp_of_wp rfl rfl (fun K' hK' => ?_)
  go_wp2_with (fail)
  refine (k1 _ (S1)).mono ?_
  rintro e w2 ⟨rfl, hb⟩
  have S2 : Below W0.heap.size W0 w2 := (S1).trans (hb.mono (S1).size)
  refine hK' _ _ ⟨S2, ?_⟩
  clear hb
  refine wpAnyH_all (rs := [7]) (by kernel_rfl) (by simp) ?_
  intro i hi
  simp only [List.mem_cons, List.not_mem_nil, or_false] at hi
  subst hi
  refine wpOp_of_wp rfl rfl (fun K' hK' => ?_)
  go_wp2_with (fail)
  have Sb : Below W0.heap.size W0 (w2.alloc (.cells #[.string x0, .string x1, .string x2] 9)) := S2.alloc S2.size _
  refine ⟨Sb, ?_⟩
  have hBk : (w2.alloc (.cells #[.string x0, .string x1, .string x2] 9)).heap[w2.heap.size]? = some (.cells #[.string x0, .string x1, .string x2] 9) := blk_new w2 _
  have hBl := hBlank w2.heap.size (w2.alloc (.cells #[.string x0, .string x1, .string x2] 9)) hBk
  refine wpAnyH_all (rs := [8]) (by kernel_rfl) (by simp) ?_
  intro i hi
  simp only [List.mem_cons, List.not_mem_nil, or_false] at hi
  subst hi
  refine wpOp_of_wp rfl rfl (fun K' hK' => ?_)
  go_wp2_with (fail)
  refine hBl.mono ?_
  rintro e wf ⟨rfl, hb⟩
  have Sf : Below W0.heap.size W0 wf := Sb.trans (hb.mono Sb.size)
  refine hK' _ _ ⟨Sf, ?_⟩
  refine wpAnyH_all (rs := [9]) (by kernel_rfl) (by simp) ?_
  intro i hi
  simp only [List.mem_cons, List.not_mem_nil, or_false] at hi
  subst hi
  refine wpOp_of_wp rfl rfl (fun K' hK' => ?_)
  go_wp2_with (fail)
  refine ⟨Sf, ?_⟩
  refine wpAnyH_done (by kernel_rfl) ?_ _
  try simp only [List.getElem_toArray, List.getElem_cons_succ, List.getElem_cons_zero, Act.put, List.setIfInBounds_toArray, List.set_cons_zero, List.set_cons_succ]
  have HF : Hid (Below w.heap.size w wf) := HB0.out.trans (Sf.mono HB0.out.size)
  clear hBl hBk Sb Sf hb hBlank S1 S2 hS0
  go_wp2_with (fail)
  go_ret
  exact ⟨rfl, HF.out⟩
set_option maxRecDepth 20000 in
set_option maxHeartbeats 16000000 in
theorem commandText4 (C : Cm) (ok : OkCm C) (w : World) (hp : Pw w) (hA : ActAt zA w) (hC : CmdAt zC w) (hk : C.k = 4) :
    Calls Tryz.prog 21 #[.agg #[.int .i64 (C.k : Int), .int .i64 (C.n : Int), .int .i64 (C.i : Int), .int .i64 (C.r.i : Int), .int .u32 (C.r.s.1 : Int), .int .i64 (C.r.s.2 : Int), .int .u32 (C.r.d.1 : Int), .int .i64 (C.r.d.2 : Int), .int .u16 (C.r.p.1 : Int), .int .u16 (C.r.p.2 : Int), .int .u16 (C.r.q.1 : Int), .int .u16 (C.r.q.2 : Int), .int .u8 (C.r.m.1 : Int), .int .u8 (C.r.m.2 : Int), .int .i64 (C.r.t : Int), .int .u32 (C.h.1 : Int), .int .u32 (C.h.2.1 : Int), .int .u16 (C.h.2.2.1 : Int), .int .u16 (C.h.2.2.2.1 : Int), .int .u8 (C.h.2.2.2.2 : Int)]] w fun e w' => e = .returned (.string (mkB (textP (cmdP C)))) ∧ Below w.heap.size w w' := by
  have hk10 := ok.k
  have HP : Hid (Pw (w.alloc (.cells #[.int .i64 (C.k : Int), .int .i64 (C.n : Int), .int .i64 (C.i : Int), .int .i64 (C.r.i : Int), .int .u32 (C.r.s.1 : Int), .int .i64 (C.r.s.2 : Int), .int .u32 (C.r.d.1 : Int), .int .i64 (C.r.d.2 : Int), .int .u16 (C.r.p.1 : Int), .int .u16 (C.r.p.2 : Int), .int .u16 (C.r.q.1 : Int), .int .u16 (C.r.q.2 : Int), .int .u8 (C.r.m.1 : Int), .int .u8 (C.r.m.2 : Int), .int .i64 (C.r.t : Int), .int .u32 (C.h.1 : Int), .int .u32 (C.h.2.1 : Int), .int .u16 (C.h.2.2.1 : Int), .int .u16 (C.h.2.2.2.1 : Int), .int .u8 (C.h.2.2.2.2 : Int)] 61))) := hp.alloc _
  have HA : Hid (ActAt zA (w.alloc (.cells #[.int .i64 (C.k : Int), .int .i64 (C.n : Int), .int .i64 (C.i : Int), .int .i64 (C.r.i : Int), .int .u32 (C.r.s.1 : Int), .int .i64 (C.r.s.2 : Int), .int .u32 (C.r.d.1 : Int), .int .i64 (C.r.d.2 : Int), .int .u16 (C.r.p.1 : Int), .int .u16 (C.r.p.2 : Int), .int .u16 (C.r.q.1 : Int), .int .u16 (C.r.q.2 : Int), .int .u8 (C.r.m.1 : Int), .int .u8 (C.r.m.2 : Int), .int .i64 (C.r.t : Int), .int .u32 (C.h.1 : Int), .int .u32 (C.h.2.1 : Int), .int .u16 (C.h.2.2.1 : Int), .int .u16 (C.h.2.2.2.1 : Int), .int .u8 (C.h.2.2.2.2 : Int)] 61))) := blk_alloc hA _
  have HC : Hid (CmdAt zC (w.alloc (.cells #[.int .i64 (C.k : Int), .int .i64 (C.n : Int), .int .i64 (C.i : Int), .int .i64 (C.r.i : Int), .int .u32 (C.r.s.1 : Int), .int .i64 (C.r.s.2 : Int), .int .u32 (C.r.d.1 : Int), .int .i64 (C.r.d.2 : Int), .int .u16 (C.r.p.1 : Int), .int .u16 (C.r.p.2 : Int), .int .u16 (C.r.q.1 : Int), .int .u16 (C.r.q.2 : Int), .int .u8 (C.r.m.1 : Int), .int .u8 (C.r.m.2 : Int), .int .i64 (C.r.t : Int), .int .u32 (C.h.1 : Int), .int .u32 (C.h.2.1 : Int), .int .u16 (C.h.2.2.1 : Int), .int .u16 (C.h.2.2.2.1 : Int), .int .u8 (C.h.2.2.2.2 : Int)] 61))) := blk_alloc hC _
  have HB0 : Hid (Below w.heap.size w (w.alloc (.cells #[.int .i64 (C.k : Int), .int .i64 (C.n : Int), .int .i64 (C.i : Int), .int .i64 (C.r.i : Int), .int .u32 (C.r.s.1 : Int), .int .i64 (C.r.s.2 : Int), .int .u32 (C.r.d.1 : Int), .int .i64 (C.r.d.2 : Int), .int .u16 (C.r.p.1 : Int), .int .u16 (C.r.p.2 : Int), .int .u16 (C.r.q.1 : Int), .int .u16 (C.r.q.2 : Int), .int .u8 (C.r.m.1 : Int), .int .u8 (C.r.m.2 : Int), .int .i64 (C.r.t : Int), .int .u32 (C.h.1 : Int), .int .u32 (C.h.2.1 : Int), .int .u16 (C.h.2.2.1 : Int), .int .u16 (C.h.2.2.2.1 : Int), .int .u8 (C.h.2.2.2.2 : Int)] 61))) := (Below.refl _ _).alloc (Nat.le_refl _) _
  have HX : Hid ((w.alloc (.cells #[.int .i64 (C.k : Int), .int .i64 (C.n : Int), .int .i64 (C.i : Int), .int .i64 (C.r.i : Int), .int .u32 (C.r.s.1 : Int), .int .i64 (C.r.s.2 : Int), .int .u32 (C.r.d.1 : Int), .int .i64 (C.r.d.2 : Int), .int .u16 (C.r.p.1 : Int), .int .u16 (C.r.p.2 : Int), .int .u16 (C.r.q.1 : Int), .int .u16 (C.r.q.2 : Int), .int .u8 (C.r.m.1 : Int), .int .u8 (C.r.m.2 : Int), .int .i64 (C.r.t : Int), .int .u32 (C.h.1 : Int), .int .u32 (C.h.2.1 : Int), .int .u16 (C.h.2.2.1 : Int), .int .u16 (C.h.2.2.2.1 : Int), .int .u8 (C.h.2.2.2.2 : Int)] 61)).heap[w.heap.size]? = some (.cells #[.int .i64 (C.k : Int), .int .i64 (C.n : Int), .int .i64 (C.i : Int), .int .i64 (C.r.i : Int), .int .u32 (C.r.s.1 : Int), .int .i64 (C.r.s.2 : Int), .int .u32 (C.r.d.1 : Int), .int .i64 (C.r.d.2 : Int), .int .u16 (C.r.p.1 : Int), .int .u16 (C.r.p.2 : Int), .int .u16 (C.r.q.1 : Int), .int .u16 (C.r.q.2 : Int), .int .u8 (C.r.m.1 : Int), .int .u8 (C.r.m.2 : Int), .int .i64 (C.r.t : Int), .int .u32 (C.h.1 : Int), .int .u32 (C.h.2.1 : Int), .int .u16 (C.h.2.2.1 : Int), .int .u16 (C.h.2.2.2.1 : Int), .int .u8 (C.h.2.2.2.2 : Int)] 61)) := blk_new w _
  generalize hW0 : (w.alloc (.cells #[.int .i64 (C.k : Int), .int .i64 (C.n : Int), .int .i64 (C.i : Int), .int .i64 (C.r.i : Int), .int .u32 (C.r.s.1 : Int), .int .i64 (C.r.s.2 : Int), .int .u32 (C.r.d.1 : Int), .int .i64 (C.r.d.2 : Int), .int .u16 (C.r.p.1 : Int), .int .u16 (C.r.p.2 : Int), .int .u16 (C.r.q.1 : Int), .int .u16 (C.r.q.2 : Int), .int .u8 (C.r.m.1 : Int), .int .u8 (C.r.m.2 : Int), .int .i64 (C.r.t : Int), .int .u32 (C.h.1 : Int), .int .u32 (C.h.2.1 : Int), .int .u16 (C.h.2.2.1 : Int), .int .u16 (C.h.2.2.2.1 : Int), .int .u8 (C.h.2.2.2.2 : Int)] 61)) = W0 at *
  have ca : W0.cell? ⟨0, 4, none⟩ = some (.string (cW 4)) := cmdCell HC.out (by omega)
  have hix : ∀ W : World, (Instr.indexAt 94 (.pointer (some ⟨0, 0, none⟩)) (.int .i64 4)).run Tryz.prog W = .ok (.pointer (some ⟨0, 4, none⟩)) W := fun W => idxCW 0 4 (by omega) W
  have c0 : W0.cell? ⟨w.heap.size, 0, none⟩ = some (.int .i64 4) := by have := blk_cell (j := 0) HX.out rfl; rw [hk] at this; exact this
  have c15 : W0.cell? ⟨w.heap.size, 15, none⟩ = some (.int .u32 (C.h.1 : Int)) := blk_cell HX.out rfl
  have c16 : W0.cell? ⟨w.heap.size, 16, none⟩ = some (.int .u32 (C.h.2.1 : Int)) := blk_cell HX.out rfl
  have c17 : W0.cell? ⟨w.heap.size, 17, none⟩ = some (.int .u16 (C.h.2.2.1 : Int)) := blk_cell HX.out rfl
  have c18 : W0.cell? ⟨w.heap.size, 18, none⟩ = some (.int .u16 (C.h.2.2.2.1 : Int)) := blk_cell HX.out rfl
  have c19 : W0.cell? ⟨w.heap.size, 19, none⟩ = some (.int .u8 (C.h.2.2.2.2 : Int)) := blk_cell HX.out rfl
  have hBlank : ∀ (k : Nat) (W : World), W.heap[k]? = some (.cells #[.string (cW 4), .string (mkB (textP (headP C.h)))] 9) → Calls Tryz.prog 39 #[.slice (some ⟨k, 0, none⟩) 2 2] W fun e w' => e = .returned (.string (mkB (textP (cmdP C)))) ∧ Below W.heap.size W w' := fun k W hW => by
    have hJn := blanksC k 2 [(cW 4), (mkB (textP (headP C.h)))] W (fun j x hj => by
      match j, hj with
      | 0, hj => obtain rfl := Option.some.inj hj; exact blk_cell hW rfl
      | 1, hj => obtain rfl := Option.some.inj hj; exact blk_cell hW rfl
      | _ + 2, hj => cases hj) (blk_lt hW) (Nat.le_of_ble_eq_true rfl) (Nat.le_of_ble_eq_true rfl) (by simp only [List.map_cons, List.map_nil, mkB_list, aW_list, cW_list]; exact Nat.le_trans (Nat.le_of_eq (congrArg List.length (text_c4 C hk).symm)) (Nat.le_trans (part_cm ok).len (by decide)))
    rw [show mkB (Lib.join (List.map (fun z : ByteArray => z.data.toList) [(cW 4), (mkB (textP (headP C.h)))]) [32]) = mkB (textP (cmdP C)) by simp only [List.map_cons, List.map_nil, mkB_list, aW_list, cW_list]; rw [(text_c4 C hk)]] at hJn
    exact hJn
  have k0 := fun (W : World) (hW : Below W0.heap.size W0 W) => headerTextC C.h ok.h1 W (HP.out.on hW)
  generalize (cW 4) = x0 at *
  generalize (mkB (textP (headP C.h))) = x1 at *
  generalize hV : mkB (textP (cmdP C)) = V at *
  clear hV
  clear hk
  go_enter Tryz.func21, Tryz.ntmps21
  go_upto_region 1 with (fail)
  try rw [hW0]
  clear hW0
  go_wp2_with (fail)
  refine (k0 _ (Below.refl _ _)).mono ?_
  rintro e w1 ⟨rfl, hb⟩
  have S1 : Hid (Below W0.heap.size W0 w1) := hb
  have hBl := hBlank w1.heap.size (w1.alloc (.cells #[.string x0, .string x1] 9)) (blk_new w1 _)
  clear hb hBlank k0
  go_wp2_with (fail)
  refine hBl.mono ?_
  rintro e wf ⟨rfl, hb⟩
  have HF : Hid (Below w.heap.size w wf) := HB0.out.trans (((S1.out.alloc S1.out.size _).trans (hb.mono (by have := S1.out.size; simp; omega))).mono HB0.out.size)
  clear hb hBl
  go_wp2_with (fail)
  go_ret
  exact ⟨rfl, HF.out⟩
set_option maxRecDepth 20000 in
set_option maxHeartbeats 16000000 in
theorem commandText5 (C : Cm) (ok : OkCm C) (w : World) (hp : Pw w) (hA : ActAt zA w) (hC : CmdAt zC w) (hk : 5 ≤ C.k) :
    Calls Tryz.prog 21 #[.agg #[.int .i64 (C.k : Int), .int .i64 (C.n : Int), .int .i64 (C.i : Int), .int .i64 (C.r.i : Int), .int .u32 (C.r.s.1 : Int), .int .i64 (C.r.s.2 : Int), .int .u32 (C.r.d.1 : Int), .int .i64 (C.r.d.2 : Int), .int .u16 (C.r.p.1 : Int), .int .u16 (C.r.p.2 : Int), .int .u16 (C.r.q.1 : Int), .int .u16 (C.r.q.2 : Int), .int .u8 (C.r.m.1 : Int), .int .u8 (C.r.m.2 : Int), .int .i64 (C.r.t : Int), .int .u32 (C.h.1 : Int), .int .u32 (C.h.2.1 : Int), .int .u16 (C.h.2.2.1 : Int), .int .u16 (C.h.2.2.2.1 : Int), .int .u8 (C.h.2.2.2.2 : Int)]] w fun e w' => e = .returned (.string (mkB (textP (cmdP C)))) ∧ Below w.heap.size w w' := by
  have hk10 := ok.k
  have HP : Hid (Pw (w.alloc (.cells #[.int .i64 (C.k : Int), .int .i64 (C.n : Int), .int .i64 (C.i : Int), .int .i64 (C.r.i : Int), .int .u32 (C.r.s.1 : Int), .int .i64 (C.r.s.2 : Int), .int .u32 (C.r.d.1 : Int), .int .i64 (C.r.d.2 : Int), .int .u16 (C.r.p.1 : Int), .int .u16 (C.r.p.2 : Int), .int .u16 (C.r.q.1 : Int), .int .u16 (C.r.q.2 : Int), .int .u8 (C.r.m.1 : Int), .int .u8 (C.r.m.2 : Int), .int .i64 (C.r.t : Int), .int .u32 (C.h.1 : Int), .int .u32 (C.h.2.1 : Int), .int .u16 (C.h.2.2.1 : Int), .int .u16 (C.h.2.2.2.1 : Int), .int .u8 (C.h.2.2.2.2 : Int)] 61))) := hp.alloc _
  have HA : Hid (ActAt zA (w.alloc (.cells #[.int .i64 (C.k : Int), .int .i64 (C.n : Int), .int .i64 (C.i : Int), .int .i64 (C.r.i : Int), .int .u32 (C.r.s.1 : Int), .int .i64 (C.r.s.2 : Int), .int .u32 (C.r.d.1 : Int), .int .i64 (C.r.d.2 : Int), .int .u16 (C.r.p.1 : Int), .int .u16 (C.r.p.2 : Int), .int .u16 (C.r.q.1 : Int), .int .u16 (C.r.q.2 : Int), .int .u8 (C.r.m.1 : Int), .int .u8 (C.r.m.2 : Int), .int .i64 (C.r.t : Int), .int .u32 (C.h.1 : Int), .int .u32 (C.h.2.1 : Int), .int .u16 (C.h.2.2.1 : Int), .int .u16 (C.h.2.2.2.1 : Int), .int .u8 (C.h.2.2.2.2 : Int)] 61))) := blk_alloc hA _
  have HC : Hid (CmdAt zC (w.alloc (.cells #[.int .i64 (C.k : Int), .int .i64 (C.n : Int), .int .i64 (C.i : Int), .int .i64 (C.r.i : Int), .int .u32 (C.r.s.1 : Int), .int .i64 (C.r.s.2 : Int), .int .u32 (C.r.d.1 : Int), .int .i64 (C.r.d.2 : Int), .int .u16 (C.r.p.1 : Int), .int .u16 (C.r.p.2 : Int), .int .u16 (C.r.q.1 : Int), .int .u16 (C.r.q.2 : Int), .int .u8 (C.r.m.1 : Int), .int .u8 (C.r.m.2 : Int), .int .i64 (C.r.t : Int), .int .u32 (C.h.1 : Int), .int .u32 (C.h.2.1 : Int), .int .u16 (C.h.2.2.1 : Int), .int .u16 (C.h.2.2.2.1 : Int), .int .u8 (C.h.2.2.2.2 : Int)] 61))) := blk_alloc hC _
  have HB0 : Hid (Below w.heap.size w (w.alloc (.cells #[.int .i64 (C.k : Int), .int .i64 (C.n : Int), .int .i64 (C.i : Int), .int .i64 (C.r.i : Int), .int .u32 (C.r.s.1 : Int), .int .i64 (C.r.s.2 : Int), .int .u32 (C.r.d.1 : Int), .int .i64 (C.r.d.2 : Int), .int .u16 (C.r.p.1 : Int), .int .u16 (C.r.p.2 : Int), .int .u16 (C.r.q.1 : Int), .int .u16 (C.r.q.2 : Int), .int .u8 (C.r.m.1 : Int), .int .u8 (C.r.m.2 : Int), .int .i64 (C.r.t : Int), .int .u32 (C.h.1 : Int), .int .u32 (C.h.2.1 : Int), .int .u16 (C.h.2.2.1 : Int), .int .u16 (C.h.2.2.2.1 : Int), .int .u8 (C.h.2.2.2.2 : Int)] 61))) := (Below.refl _ _).alloc (Nat.le_refl _) _
  have HX : Hid ((w.alloc (.cells #[.int .i64 (C.k : Int), .int .i64 (C.n : Int), .int .i64 (C.i : Int), .int .i64 (C.r.i : Int), .int .u32 (C.r.s.1 : Int), .int .i64 (C.r.s.2 : Int), .int .u32 (C.r.d.1 : Int), .int .i64 (C.r.d.2 : Int), .int .u16 (C.r.p.1 : Int), .int .u16 (C.r.p.2 : Int), .int .u16 (C.r.q.1 : Int), .int .u16 (C.r.q.2 : Int), .int .u8 (C.r.m.1 : Int), .int .u8 (C.r.m.2 : Int), .int .i64 (C.r.t : Int), .int .u32 (C.h.1 : Int), .int .u32 (C.h.2.1 : Int), .int .u16 (C.h.2.2.1 : Int), .int .u16 (C.h.2.2.2.1 : Int), .int .u8 (C.h.2.2.2.2 : Int)] 61)).heap[w.heap.size]? = some (.cells #[.int .i64 (C.k : Int), .int .i64 (C.n : Int), .int .i64 (C.i : Int), .int .i64 (C.r.i : Int), .int .u32 (C.r.s.1 : Int), .int .i64 (C.r.s.2 : Int), .int .u32 (C.r.d.1 : Int), .int .i64 (C.r.d.2 : Int), .int .u16 (C.r.p.1 : Int), .int .u16 (C.r.p.2 : Int), .int .u16 (C.r.q.1 : Int), .int .u16 (C.r.q.2 : Int), .int .u8 (C.r.m.1 : Int), .int .u8 (C.r.m.2 : Int), .int .i64 (C.r.t : Int), .int .u32 (C.h.1 : Int), .int .u32 (C.h.2.1 : Int), .int .u16 (C.h.2.2.1 : Int), .int .u16 (C.h.2.2.2.1 : Int), .int .u8 (C.h.2.2.2.2 : Int)] 61)) := blk_new w _
  generalize hW0 : (w.alloc (.cells #[.int .i64 (C.k : Int), .int .i64 (C.n : Int), .int .i64 (C.i : Int), .int .i64 (C.r.i : Int), .int .u32 (C.r.s.1 : Int), .int .i64 (C.r.s.2 : Int), .int .u32 (C.r.d.1 : Int), .int .i64 (C.r.d.2 : Int), .int .u16 (C.r.p.1 : Int), .int .u16 (C.r.p.2 : Int), .int .u16 (C.r.q.1 : Int), .int .u16 (C.r.q.2 : Int), .int .u8 (C.r.m.1 : Int), .int .u8 (C.r.m.2 : Int), .int .i64 (C.r.t : Int), .int .u32 (C.h.1 : Int), .int .u32 (C.h.2.1 : Int), .int .u16 (C.h.2.2.1 : Int), .int .u16 (C.h.2.2.2.1 : Int), .int .u8 (C.h.2.2.2.2 : Int)] 61)) = W0 at *
  have ca : W0.cell? ⟨0, C.k, none⟩ = some (.string (cW C.k)) := cmdCell HC.out (by omega)
  have hix : ∀ W : World, (Instr.indexAt 94 (.pointer (some ⟨0, 0, none⟩)) (.int .i64 (C.k : Int))).run Tryz.prog W = .ok (.pointer (some ⟨0, C.k, none⟩)) W := fun W => idxCW 0 C.k (by omega) W
  have c0 : W0.cell? ⟨w.heap.size, 0, none⟩ = some (.int .i64 (C.k : Int)) := blk_cell HX.out rfl
  have hV5 : mkB (textP (cmdP C)) = cW C.k := by rw [text_c5 C hk]; rfl
  rw [hV5]
  clear hV5
  generalize hx : cW C.k = x0 at *
  clear hx
  have n1 : ¬ (C.k : Int) = 1 := by omega
  have n2 : ¬ (C.k : Int) = 2 := by omega
  have n3 : ¬ (C.k : Int) = 3 := by omega
  have n4 : ¬ (C.k : Int) = 4 := by omega
  have hk10 := ok.k.2
  go_enter Tryz.func21, Tryz.ntmps21
  go_upto_region 1 with (fail)
  try rw [hW0]
  clear hW0
  have HF : Hid (Below w.heap.size w W0) := HB0.out
  go_wp2_with (fail)
  go_ret
  exact ⟨rfl, HF.out⟩
theorem commandTextC (C : Cm) (ok : OkCm C) (w : World) (hp : Pw w) (hA : ActAt zA w) (hC : CmdAt zC w) :
    Calls Tryz.prog 21 #[.agg #[.int .i64 (C.k : Int), .int .i64 (C.n : Int), .int .i64 (C.i : Int), .int .i64 (C.r.i : Int), .int .u32 (C.r.s.1 : Int), .int .i64 (C.r.s.2 : Int), .int .u32 (C.r.d.1 : Int), .int .i64 (C.r.d.2 : Int), .int .u16 (C.r.p.1 : Int), .int .u16 (C.r.p.2 : Int), .int .u16 (C.r.q.1 : Int), .int .u16 (C.r.q.2 : Int), .int .u8 (C.r.m.1 : Int), .int .u8 (C.r.m.2 : Int), .int .i64 (C.r.t : Int), .int .u32 (C.h.1 : Int), .int .u32 (C.h.2.1 : Int), .int .u16 (C.h.2.2.1 : Int), .int .u16 (C.h.2.2.2.1 : Int), .int .u8 (C.h.2.2.2.2 : Int)]] w fun e w' => e = .returned (.string (mkB (textP (cmdP C)))) ∧ Below w.heap.size w w' := by
  have hk := ok.k
  have hc : C.k = 1 ∨ C.k = 2 ∨ C.k = 3 ∨ C.k = 4 ∨ 5 ≤ C.k := by omega
  rcases hc with c | c | c | c | c
  · exact commandText1 C ok w hp hA hC c
  · exact commandText2 C ok w hp hA hC c
  · exact commandText3 C ok w hp hA hC c
  · exact commandText4 C ok w hp hA hC c
  · exact commandText5 C ok w hp hA hC c
end Go.Proofs.YtehedlgdencboabGreatDoor
