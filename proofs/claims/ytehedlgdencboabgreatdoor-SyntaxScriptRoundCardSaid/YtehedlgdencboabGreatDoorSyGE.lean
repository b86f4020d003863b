/-
  SyGE: SyX SyZa SyZb SyK SyFr, one behind the other (tools/merge.py).
-/
import Derived.Test.YtehedlgdencboabGreatDoorSyGD
import Derived.Test.YtehedlgdencboabGreatDoorSyGC
import Derived.Test.YtehedlgdencboabGreatDoorLxPlE
import Derived.Test.YtehedlgdencboabGreatDoorSyGF
import Derived.Test.YtehedlgdencboabGreatDoorLxIs
import Derived.Test.YtehedlgdencboabGreatDoorRows
import Derived.ProofKit
import Derived.LaidMore
import Derived.LaidLaws
import Derived.LaidHandle
import Derived.Lib.LaidTab
import Derived.OpenShut
import Derived.Stop.Joined
/-
  What is printed of commands: a script; the first error; PrintScript. Written by tools/mkSyX.py.
-/
namespace Go.Proofs.YtehedlgdencboabGreatDoor
open Go.RowKit
set_option linter.unusedVariables false
set_option linter.unusedSimpArgs false
variable {zA zC : TypeId × (Nat × Nat)}

/-- The slice v of w reads as the list of commands. -/
def SrcV (w : World) (v : Value) (l : List Cv) : Prop :=
  ∃ (ad : Option Addr) (cap : Nat), v = .slice ad l.length cap ∧ l.length ≤ cap ∧ (0 < l.length → ∃ g off, ad = some ⟨g, off, none⟩ ∧ ∀ k (hk : k < l.length) j, j < 20 → w.cell? ⟨g, off + (k * 20 + j), none⟩ = (encV (l[k]'hk))[j]?)
theorem encV_some (R : Cv) {j : Nat} (h : j < 20) : ∃ v, (encV R)[j]? = some v := ⟨(encV R)[j]'(by simp [encV]; omega), List.getElem?_eq_getElem _⟩
theorem SrcV.keep {w w1 : World} {v : Value} {l : List Cv} (h : SrcV w v l) (hb : Below w.heap.size w w1) : SrcV w1 v l := by
  obtain ⟨ad, cap, rfl, hc, h2⟩ := h
  refine ⟨ad, cap, rfl, hc, fun h0 => ?_⟩
  obtain ⟨g, off, rfl, h3⟩ := h2 h0
  exact ⟨g, off, rfl, fun k hk j hj => by
    have := h3 k hk j hj
    obtain ⟨u, hu⟩ := encV_some (l[k]'hk) hj
    rw [hb.cell (World.block_lt_of_cell? w _ (this.trans hu))]; exact this⟩
theorem RowV.src {w : World} {b : Nat} {v : Value} {l : List Cv} (h : RowV w b v l) : SrcV w v l := by
  obtain ⟨ad, cap, hv, hc, h2⟩ := h.form
  refine ⟨ad, cap, hv, hc, fun h0 => ?_⟩
  obtain ⟨g, e, _, _, h3⟩ := h2 h0
  exact ⟨g, 0, e, fun k hk j hj => by rw [Nat.zero_add]; exact h3 k hk j hj⟩

def cmOf (C : Cv) : Cm := ⟨C.k.toNat, C.n.toNat, C.i.toNat, rpOf C.r, C.h⟩
theorem cm_cv (C : Cm) : cmOf (cvOf C) = C := by
  obtain ⟨k, n, i, r, h⟩ := C
  simp [cmOf, cvOf, rp_ru]
theorem ru_rp0 : ruOf rp0 = ru0 := rfl
theorem rp_ru0 : rpOf ru0 = rp0 := rfl
theorem isN_iff (n : Int) : isN n = true ↔ 0 ≤ n ∧ n ≤ 4294967295 := by unfold isN; simp
/-- What a command that may be printed has. -/
structure ShV (C : Cv) : Prop where
  k : 1 ≤ C.k ∧ C.k ≤ 10
  n : 0 ≤ C.n ∧ C.n ≤ 4294967295
  i : 0 ≤ C.i ∧ C.i ≤ 4294967295
  n0 : C.k ≠ 1 → C.k ≠ 3 → C.n = 0
  i0 : C.k ≠ 2 → C.k ≠ 3 → C.i = 0
  r0 : C.k ≠ 1 → C.r = ru0
  h0 : C.k ≠ 4 → C.h = (0, 0, 0, 0, 0)
  r1 : C.k = 1 → (errs C.r).1 = 0
theorem un_iff (C : Cv) : unV C = kindV C.k ↔ (C.k ≠ 1 → C.k ≠ 3 → C.n = 0) ∧ (C.k ≠ 2 → C.k ≠ 3 → C.i = 0) ∧ (C.k ≠ 1 → C.r = ru0) ∧ (C.k ≠ 4 → C.h = (0, 0, 0, 0, 0)) := by
  obtain ⟨k, n, i, r, h⟩ := C
  unfold unV kindV
  simp only
  by_cases h1 : k = 1
  · subst h1; simp
  by_cases h2 : k = 2
  · subst h2; simp
  by_cases h3 : k = 3
  · subst h3; simp
  by_cases h4 : k = 4
  · subst h4; simp
  simp [h1, h2, h3, h4]
theorem errV_iff (C : Cv) : errV C = 0 ↔ ShV C := by
  unfold errV
  by_cases hk : C.k < 1 ∨ 10 < C.k
  · rw [if_pos hk]
    exact ⟨fun h => (by cases h), fun h => (by have := h.k; omega)⟩
  · rw [if_neg hk]
    cases ho : okF C
    · rw [if_neg (by decide)]
      refine ⟨fun h => (by cases h), fun h => ?_⟩
      exfalso
      have : okF C = true := by
        unfold okF
        rw [Bool.and_eq_true, Bool.and_eq_true, eqCv_iff, un_iff, isN_iff, isN_iff]
        exact ⟨⟨h.n0, h.i0, h.r0, h.h0⟩, h.n, h.i⟩
      rw [ho] at this; cases this
    · rw [if_pos rfl]
      unfold okF at ho
      rw [Bool.and_eq_true, Bool.and_eq_true, eqCv_iff, un_iff, isN_iff, isN_iff] at ho
      obtain ⟨⟨a, b, c, d⟩, e, f⟩ := ho
      by_cases h1 : C.k = 1
      · rw [if_pos h1]
        exact ⟨fun h => ⟨by omega, e, f, a, b, c, d, fun _ => h⟩, fun h => h.r1 h1⟩
      · rw [if_neg h1]
        exact ⟨fun _ => ⟨by omega, e, f, a, b, c, d, fun h => absurd h h1⟩, fun _ => rfl⟩
theorem ShV.cv {C : Cv} (h : ShV C) : cvOf (cmOf C) = C := by
  have hr : ruOf (rpOf C.r) = C.r := by
    by_cases h1 : C.k = 1
    · exact ru_rp (h.r1 h1)
    · rw [h.r0 h1]; rfl
  obtain ⟨h1, h2, h3, _⟩ := h
  obtain ⟨k, n, i, r, hd⟩ := C
  simp only at h1 h2 h3 hr
  simp only [cmOf, cvOf, hr, Cv.mk.injEq, and_true]
  omega
theorem ShV.bd {C : Cv} (h : ShV C) (b : BdV C) : BdCm (cmOf C) := by
  have hk : ((cmOf C).k : Int) = C.k := congrArg Cv.k h.cv
  obtain ⟨_, _, _, br, bh⟩ := b
  refine ⟨by have := h.k; omega, ?_, ?_, fun a b => ?_, fun a b => ?_, fun a => ?_, fun a => ?_, ?_, ?_⟩
  · have := h.n; simp only [cmOf]; omega
  · have := h.i; simp only [cmOf]; omega
  · have := h.n0 (by omega) (by omega); simp only [cmOf, this]; rfl
  · have := h.i0 (by omega) (by omega); simp only [cmOf, this]; rfl
  · have := h.r0 (by omega); simp only [cmOf, this]; rfl
  · have := h.h0 (by omega); simp only [cmOf, this]
  · by_cases h1 : C.k = 1
    · exact ru_bd br (h.r1 h1)
    · have := h.r0 h1; simp only [cmOf, this]; exact bd_rp0
  · obtain ⟨a, b, c, d, e⟩ := bh
    exact ⟨a, b, by simp only [cmOf]; omega, by simp only [cmOf]; omega, by simp only [cmOf]; omega⟩
theorem ShV.chk {C : Cv} (h : ShV C) : (cmOf C).k = 1 → (chkN (cmOf C).r).1 = 0 := fun e => by
  have hk : ((cmOf C).k : Int) = C.k := congrArg Cv.k h.cv
  exact ru_chk (h.r1 (by omega))
theorem ShV.ok {C : Cv} (h : ShV C) (b : BdV C) : OkCm (cmOf C) := (h.bd b).ok chk_okRp h.chk
theorem sh_of {C : Cm} (b : BdCm C) (h : C.k = 1 → (chkN C.r).1 = 0) : ShV (cvOf C) := by
  obtain ⟨b1, b2, b3, b4, b5, b6, b7, b8, b9⟩ := b
  refine ⟨by simp only [cvOf]; omega, by simp only [cvOf]; omega, by simp only [cvOf]; omega, fun x y => ?_, fun x y => ?_, fun x => ?_, fun x => ?_, fun x => ?_⟩
  · simp only [cvOf] at x y ⊢; rw [b4 (by omega) (by omega)]; rfl
  · simp only [cvOf] at x y ⊢; rw [b5 (by omega) (by omega)]; rfl
  · simp only [cvOf] at x ⊢; rw [b6 (by omega)]; rfl
  · simp only [cvOf] at x ⊢; exact b7 (by omega)
  · simp only [cvOf] at x ⊢; exact chk_err (h (by omega))
/-- The first error of a list of commands. -/
def prV : List Cv → Int
  | [] => 0
  | C :: l => if errV C = 0 then prV l else errV C
def errC (l : List Cv) : Int := if 1000 < l.length then 2 else if prV l = 0 then (if 65536 < (scrB (l.map cmOf)).length then 2 else 0) else prV l
def ctx (l : List Cv) : List UInt8 := if errC l = 0 then scrB (l.map cmOf) else []
theorem prV_step {l : List Cv} {k : Nat} (hk : k < l.length) : prV (l.drop k) = if errV (l[k]'hk) = 0 then prV (l.drop (k + 1)) else errV (l[k]'hk) := by
  rw [List.drop_eq_getElem_cons hk]
  rfl
theorem prV_end {l : List Cv} : prV (l.drop l.length) = 0 := by rw [List.drop_length]; rfl
theorem scrB_step {l : List Cv} {k : Nat} (hk : k < l.length) : scrB ((l.take (k + 1)).map cmOf) = scrB ((l.take k).map cmOf) ++ textP (cmdP (cmOf (l[k]'hk))) ++ [10] := by
  rw [List.take_succ_eq_append_getElem hk]
  simp only [scrB, textL, lineB, List.map_append, List.map_cons, List.map_nil, List.flatMap_append, List.flatMap_cons, List.flatMap_nil, List.append_nil, List.append_assoc]
theorem prV_iff : ∀ (l : List Cv), prV l = 0 ↔ ∀ C ∈ l, ShV C
  | [] => ⟨fun _ _ h => (by cases h), fun _ => rfl⟩
  | C :: l => by
    unfold prV
    by_cases c : errV C = 0
    · rw [if_pos c, prV_iff l]
      refine ⟨fun h D hD => ?_, fun h D hD => h D (List.mem_cons_of_mem _ hD)⟩
      rcases List.mem_cons.1 hD with rfl | hD
      · exact (errV_iff _).1 c
      · exact h D hD
    · rw [if_neg c]
      exact ⟨fun h => absurd h c, fun h => absurd ((errV_iff C).2 (h C (List.mem_cons_self ..))) c⟩
theorem map_cv {l : List Cv} (h : ∀ C ∈ l, ShV C) : (l.map cmOf).map cvOf = l := by
  rw [List.map_map]
  conv => rhs; rw [← List.map_id l]
  exact List.map_congr_left fun C hC => (h C hC).cv
theorem map_cm (l : List Cm) : (l.map cvOf).map cmOf = l := by
  rw [List.map_map]
  conv => rhs; rw [← List.map_id l]
  exact List.map_congr_left fun C hC => cm_cv C
/-- A script that is printed may be. -/
theorem errC_ok {l : List Cv} (b : ∀ C ∈ l, BdV C) (h : errC l = 0) : GoodC chkN (l.map cmOf) ∧ (l.map cmOf).map cvOf = l ∧ (scrB (l.map cmOf)).length ≤ 65536 := by
  unfold errC at h
  by_cases c : 1000 < l.length
  · rw [if_pos c] at h; cases h
  · rw [if_neg c] at h
    by_cases d : prV l = 0
    · rw [if_pos d] at h
      by_cases e : 65536 < (scrB (l.map cmOf)).length
      · rw [if_pos e] at h; cases h
      · have h1 := (prV_iff l).1 d
        refine ⟨⟨fun C hC => ?_, by rw [List.length_map]; omega⟩, map_cv h1, by omega⟩
        obtain ⟨D, hD, rfl⟩ := List.mem_map.1 hC
        exact ⟨(h1 D hD).bd (b D hD), (h1 D hD).chk⟩
    · rw [if_neg d] at h; exact absurd h d
theorem errC_good {l : List Cm} (g : GoodC chkN l) : errC (l.map cvOf) = if 65536 < (scrB l).length then 2 else 0 := by
  unfold errC
  rw [if_neg (by rw [List.length_map]; have := g.len; omega), map_cm, if_pos]
  rw [prV_iff]
  intro C hC
  obtain ⟨D, hD, rfl⟩ := List.mem_map.1 hC
  exact sh_of (g.all D hD).1 (g.all D hD).2
theorem commandTextV (C : Cv) (b : BdV C) (h : ShV C) (w : World) (hp : Pw w) (hA : ActAt zA w) (hC : CmdAt zC w) :
    Calls Tryz.prog 21 #[.agg #[.int .i64 C.k, .int .i64 C.n, .int .i64 C.i, .int .i64 C.r.i, .int .u32 (C.r.s : Int), .int .i64 C.r.sl, .int .u32 (C.r.d : Int), .int .i64 C.r.dl, .int .u16 (C.r.p.1 : Int), .int .u16 (C.r.p.2 : Int), .int .u16 (C.r.q.1 : Int), .int .u16 (C.r.q.2 : Int), .int .u8 (C.r.m.1 : Int), .int .u8 (C.r.m.2 : Int), .int .i64 C.r.act, .int .u32 (C.h.1 : Int), .int .u32 (C.h.2.1 : Int), .int .u16 (C.h.2.2.1 : Int), .int .u16 (C.h.2.2.2.1 : Int), .int .u8 (C.h.2.2.2.2 : Int)]] w fun e w' => e = .returned (.string (mkB (textP (cmdP (cmOf C))))) ∧ Below w.heap.size w w' := by
  have hT := commandTextC (cmOf C) (h.ok b) w hp hA hC
  have e := h.cv
  generalize cmOf C = Q at *
  subst e
  exact hT
theorem wpList_load_mid {P : Program} {ops : Array Oper} {rest : List Oper} {op : Oper} {a : Act} {w : World} {Q : Exit → Act → World → Prop} (hgd : op.guard = none) (ty : TypeId) (x : Operand) (ho : op.op = .load ty x)
    (B o : Nat) (cs : Array Value) (hx : a.eval x = .pointer (some ⟨B, o, none⟩)) (h : w.rangeAt B o cs.toList) {d : TypeDesc} (hu : P.underlying ty = some d) (hd : d.isRow = true) (hi : (P.info? ty).map (·.size) = some cs.size)
    (hk : wpList P ops Q rest (a.put op.dst (.agg cs)) w) : wpList P ops Q (op :: rest) a w := by
  refine wpList_plain hgd fun K hK => ?_
  have hl := run_loadVar_mid (P := P) w B o ty cs.toList d h hu hd (by simpa using hi)
  unfold Oper.wp execOp
  simp only [ho, hx, Instr.loadAt, Instr.sureAddr, Sem.run_bind, Sem.run_pure, Result.andThen_ok, hl]
  exact hK _ _ hk
theorem fill0 {E : Array Value} (h : E.size = 20) : (#[.int .i64 0, .int .i64 0, .int .i64 0, .int .i64 0, .int .u32 0, .int .i64 0, .int .u32 0, .int .i64 0, .int .u16 0, .int .u16 0, .int .u16 0, .int .u16 0, .int .u8 0, .int .u8 0, .int .i64 0, .int .u32 0, .int .u32 0, .int .u16 0, .int .u16 0, .int .u8 0] : Array Value).toList.take 0 ++ E.toList ++ (#[.int .i64 0, .int .i64 0, .int .i64 0, .int .i64 0, .int .u32 0, .int .i64 0, .int .u32 0, .int .i64 0, .int .u16 0, .int .u16 0, .int .u16 0, .int .u16 0, .int .u8 0, .int .u8 0, .int .i64 0, .int .u32 0, .int .u32 0, .int .u16 0, .int .u16 0, .int .u8 0] : Array Value).toList.drop (0 + E.size) = E.toList := by
  rw [h]; simp
theorem infoSz : (Tryz.prog.info? 61).map (·.size) = some 20 := by kernel_rfl
set_option maxRecDepth 20000 in
set_option maxHeartbeats 16000000 in
theorem printScriptC (v : Value) (l : List Cv) (w : World) (hs : SrcV w v l) (hl : l.length ≤ 16777216) (bd : ∀ C ∈ l, BdV C) (hp : Pw w) (hA : ActAt zA w) (hC : CmdAt zC w) :
    Calls Tryz.prog 9 #[v] w fun e w' => e = .returned (.tuple #[.string (mkB (ctx l)), .int .i64 (errC l)]) ∧ Below w.heap.size w w' := by
  obtain ⟨ad, cap, rfl, hcap, hat⟩ := hs
  obtain ⟨n, hn⟩ : ∃ n, n = l.length := ⟨_, rfl⟩
  have Hn : Hid (n = l.length) := hn
  have hn0 : (n : Int) ≤ 16777216 := by omega
  have HP : Hid (Pw w) := hp
  have HA : Hid (ActAt zA w) := hA
  have HC : Hid (CmdAt zC w) := hC
  have HBd : Hid (∀ k (hk : k < l.length), BdV (l[k]'hk)) := fun k hk => bd _ (List.getElem_mem hk)
  have HAt : Hid (∀ (W : World), Below w.heap.size w W → ∀ k (hk : k < l.length), ∃ g off, ad = some ⟨g, off, none⟩ ∧ g < W.heap.size ∧ W.rangeAt g (off + k * 20) (encV (l[k]'hk))) := fun W hb k hk => by
    obtain ⟨g, off, e, h3⟩ := hat (by omega)
    have h0 := h3 k hk 0 (by decide)
    have hg : g < w.heap.size := World.block_lt_of_cell? w _ (h0.trans rfl)
    refine ⟨g, off, e, by have := hb.size; omega, fun j u hu => ?_⟩
    have hj : j < 20 := by
      have := (List.getElem?_eq_some_iff.1 hu).1
      simpa [encV] using this
    have := h3 k hk j hj
    rw [show off + k * 20 + j = off + (k * 20 + j) by omega, hb.cell (p := ⟨g, off + (k * 20 + j), none⟩) hg, this]; exact hu
  rw [← hn] at hcap ⊢
  by_cases hc : 1000 < n
  · have he : errC l = 2 := if_pos (by omega)
    have ht : ctx l = [] := if_neg (by rw [he]; decide)
    rw [he, ht]
    have hc' : (1000 : Int) < (n : Int) := by omega
    clear HAt HBd HA HP HC bd hat he ht hn Hn
    go_enter Tryz.func9, Tryz.ntmps9
    go_wp2_with (fail)
    go_ret2
    exact ⟨rfl, Below.refl _ _⟩
  · have he : errC l = if prV l = 0 then (if 65536 < (scrB (l.map cmOf)).length then 2 else 0) else prV l := if_neg (by omega)
    have HE : Hid (prV l = 0 → errC l = if 65536 < (scrB ((l.take l.length).map cmOf)).length then 2 else 0) := fun h => by rw [he, if_pos h, List.take_length]
    have HE0 : Hid (prV l ≠ 0 → errC l = prV l) := fun h => by rw [he, if_neg h]
    have HK0 : Hid (prV l = prV (l.drop 0)) := rfl
    have HT : Hid (errC l = 0 → ctx l = scrB ((l.take l.length).map cmOf)) := fun h => by rw [List.take_length]; exact if_pos h
    have HT0 : Hid (errC l ≠ 0 → ctx l = []) := fun h => if_neg h
    have hc' : (n : Int) ≤ 1000 := by omega
    clear he hat bd hn
    generalize errC l = E at *
    generalize ctx l = T at *
    generalize prV l = PE at *
    go_enter Tryz.func9, Tryz.ntmps9
    go_upto_region 5 with (fail)
    go_loopw [13, 4] (fun i out wr => ∃ k : Nat, k ≤ n ∧ i = .int .i64 (k : Int) ∧ Hid (Below w.heap.size w wr) ∧ Hid (RowY wr w.heap.size out (scrB ((l.take k).map cmOf))) ∧ Hid (PE = prV (l.drop k)) ∧ Hid ((scrB ((l.take k).map cmOf)).length ≤ 107 * k)) (fun i _ _ => n - (intOf i).toNat)
    case atStart => exact ⟨0, Nat.zero_le _, rfl, Below.refl _ _, RowY.nil _ _, HK0.out, Nat.le_refl _⟩
    case round =>
      obtain ⟨k, hk, rfl, HB, HR, HK, HL⟩ := hrel
      by_cases hlt : k < n
      · have hkl : k < l.length := by rw [← Hn.out]; exact hlt
        have Hst := prV_step hkl
        have Hbs := scrB_step hkl
        have hbk := HBd.out k hkl
        obtain ⟨g, off, rfl, hg, hrg⟩ := HAt.out wr HB.out k hkl
        generalize l[k]'hkl = p at *
        have kC := fun (W : World) => checkCommandC p hbk W
        have hlt' : (k : Int) < (n : Int) := by omega
        have hzr : w.heap.size ≤ wr.heap.size := HB.out.size
        have h1c : (encV p).all (·.oneCell') = true := rfl
        have hsz : (encV p).toArray.size = 20 := rfl
        by_cases he : errV p = 0
        · have hT := fun (W : World) h1 (h2 : ActAt zA W) (h3 : CmdAt zC W) => commandTextV p hbk ((errV_iff p).1 he) W h1 h2 h3
          have hlen : Hid ((mkB (textP (cmdP (cmOf p)))).size ≤ 106) := by show _ ≤ _; rw [mkB_size]; exact (part_cm (((errV_iff p).1 he).ok hbk)).len
          have hml := mkB_list (textP (cmdP (cmOf p)))
          rw [← hml] at Hbs
          rw [if_pos he] at Hst
          have HBs : Hid (_ = _) := Hbs
          have HSt : Hid (_ = _) := Hst
          rw [he] at kC
          clear Hbs Hst he hml
          generalize mkB (textP (cmdP (cmOf p))) = t at *
          have kC' : ∀ W : World, Calls Tryz.prog 20 #[.agg (encV p).toArray] W _ := kC
          have hT' : ∀ W : World, Pw W → ActAt zA W → CmdAt zC W → Calls Tryz.prog 21 #[.agg (encV p).toArray] W _ := hT
          have hrg' : wr.rangeAt g (off + k * 20) (encV p).toArray.toList := hrg
          clear kC hT hrg hbk
          have h1c' : (encV p).toArray.toList.all (·.oneCell') = true := h1c
          generalize (encV p).toArray = A at *
          clear h1c
          have HF := fill0 hsz
          have hi : (Tryz.prog.info? 61).map (·.size) = some A.size := by rw [hsz]; exact infoSz
          have HF' : Hid _ := HF
          have Hi : Hid _ := hi
          have Hsz : Hid _ := hsz
          have Hoc : Hid _ := h1c'
          have Hrg : Hid _ := hrg'
          clear HF hi hsz h1c' hrg'
          have HZ : Hid ((wr.alloc (.cells #[.int .i64 0, .int .i64 0, .int .i64 0, .int .i64 0, .int .u32 0, .int .i64 0, .int .u32 0, .int .i64 0, .int .u16 0, .int .u16 0, .int .u16 0, .int .u16 0, .int .u8 0, .int .u8 0, .int .i64 0, .int .u32 0, .int .u32 0, .int .u16 0, .int .u16 0, .int .u8 0] 61)).heap[wr.heap.size]? = some (.cells #[.int .i64 0, .int .i64 0, .int .i64 0, .int .i64 0, .int .u32 0, .int .i64 0, .int .u32 0, .int .i64 0, .int .u16 0, .int .u16 0, .int .u16 0, .int .u16 0, .int .u8 0, .int .u8 0, .int .i64 0, .int .u32 0, .int .u32 0, .int .u16 0, .int .u16 0, .int .u8 0] 61)) := blk_new wr _
          go_upto_region 7 with (first | (refine wpList_load_mid rfl 61 (.tmp 15) rfl g (off + k * 20) A rfl Hrg.out Tryz.underlying61 rfl Hi.out ?_) | (refine wpList_store_blk rfl 61 (.tmp 6) (.tmp 16) rfl wr.heap.size 0 A A rfl rfl 61 _ HZ.out (by rw [Hsz.out]; decide) HF'.out Hi.out Hoc.out ?_; intro w2 hw2 ho2))
          have hb2 : Below wr.heap.size wr w2 := ((Below.refl _ _).alloc (Nat.le_refl _) _).trans (ho2.below (Nat.le_refl _))
          have HB2 : Hid (Below w.heap.size w w2) := HB.out.trans (hb2.mono hzr)
          have HR2 : Hid (RowY w2 w.heap.size _ (scrB ((l.take k).map cmOf))) := HR.out.on hb2
          have HX2 : Hid (w2.heap[wr.heap.size]? = some (.cells A 61)) := hw2
          clear hw2 ho2 HR HZ Hrg HF' Hoc Hsz hg hb2
          go_wp2_with (refine wpList_load_blk rfl 61 (.tmp 6) rfl wr.heap.size A rfl HX2.out Tryz.underlying61 rfl Hi.out ?_)
          refine (kC' _).mono ?_
          rintro e w3 ⟨rfl, hb3⟩
          have HB3 : Hid (Below w.heap.size w w3) := HB2.out.trans (hb3.mono HB2.out.size)
          have HR3 : Hid (RowY w3 w.heap.size _ (scrB ((l.take k).map cmOf))) := HR2.out.on hb3
          have HX3 : Hid (w3.heap[wr.heap.size]? = some (.cells A 61)) := blk_on HX2.out hb3
          clear hb3 HB2 HR2 HX2 kC'
          go_wp2_with (refine wpList_load_blk rfl 61 (.tmp 6) rfl wr.heap.size A rfl HX3.out Tryz.underlying61 rfl Hi.out ?_)
          refine (hT' _ (HP.out.on HB3.out) (blk_on HA.out HB3.out) (blk_on HC.out HB3.out)).mono ?_
          rintro e w4 ⟨rfl, hb4⟩
          have HB4 : Hid (Below w.heap.size w w4) := HB3.out.trans (hb4.mono HB3.out.size)
          have HR4 : Hid (RowY w4 w.heap.size _ (scrB ((l.take k).map cmOf))) := HR3.out.on hb4
          have hz4 : w.heap.size ≤ w4.heap.size := HB4.out.size
          have hsz : (scrB ((l.take k).map cmOf)).length + t.size ≤ 200000 := by have := HL.out; have := hlen.out; omega
          clear hb4 HB3 HR3 HX3 hT' HP HA HC HBd HAt HT HT0 HE HE0 HK0 Hi
          generalize scrB ((l.take k).map cmOf) = B0 at *
          go_upto_region 11 with (at_builtin; refine wpList_appendYS rfl (.tmp 22) (.tmp 24) rfl w.heap.size _ B0 rfl HR4.out t rfl hz4 (by omega) ?_; intro v5 w5 hrow5 hgr5)
          have HB5 : Hid (Below w.heap.size w w5) := bel_grownY HB4.out HR4.out hgr5 hz4 (Nat.le_refl _)
          have HR5 : Hid (RowY w5 w.heap.size v5 (B0 ++ t.data.toList)) := hrow5
          have hz5 : w.heap.size ≤ w5.heap.size := HB5.out.size
          have hs5 : (B0 ++ t.data.toList).length ≤ 200000 := by rw [List.length_append, size_len]; omega
          clear hgr5 hrow5 HR4 HB4
          generalize hB5 : B0 ++ t.data.toList = B5 at *
          have H5 : Hid (B0 ++ t.data.toList = B5) := hB5
          clear hB5
          go_wp2_with (at_builtin; refine wpList_appendY rfl (.tmp 26) (.tmp 27) rfl w.heap.size _ B5 rfl (HR5.out.alloc _) w5.heap.size 1 [10] rfl w.heap.size (RowY.one w5 w.heap.size 10 hz5) (by simp; omega) (by simp; omega) ?_; intro v6 w6 hrow6 hgr6)
          have HB6 : Hid (Below w.heap.size w w6) := bel_grownY (HB5.out.alloc hz5 _) (HR5.out.alloc _) hgr6 (by simp; omega) (Nat.le_refl _)
          have HR6 : Hid (RowY w6 w.heap.size v6 (scrB ((l.take (k + 1)).map cmOf))) := by show RowY _ _ _ _; rw [HBs.out]; exact hrow6
          have HL6 : Hid ((scrB ((l.take (k + 1)).map cmOf)).length ≤ 107 * (k + 1)) := by
            show _ ≤ _
            have e1 := HL.out
            have e2 := hlen.out
            rw [HBs.out, ← H5.out, List.length_append, List.length_append, size_len]
            simp only [List.length_cons, List.length_nil]
            omega
          have HK6 : Hid (PE = prV (l.drop (k + 1))) := HK.out.trans HSt.out
          clear hrow6 hgr6 HR5 HB5 HBs H5 HL hlen HK HSt
          go_wp2_with (fail)
          go_roundw
          case rel => exact ⟨k + 1, by omega, by go_num, HB6.out, HR6.out, HK6.out, HL6.out⟩
          case measure => simp [intOf]; omega
        · rw [if_neg he] at Hst
          have HV : Hid (PE = errV p) := by show _ = _; rw [HK.out]; exact Hst
          have HV2 : Hid (E = errV p) := by show _ = _; rw [HE0.out (by rw [HV.out]; exact he), HV.out]
          have HT1 : Hid (T = []) := HT0.out (by rw [HV2.out]; exact he)
          have hne : (errV p == 0) = false := by simpa using he
          clear Hst Hbs he
          generalize errV p = V at *
          have kC' : ∀ W : World, Calls Tryz.prog 20 #[.agg (encV p).toArray] W _ := kC
          have hrg' : wr.rangeAt g (off + k * 20) (encV p).toArray.toList := hrg
          clear kC hrg hbk
          have h1c' : (encV p).toArray.toList.all (·.oneCell') = true := h1c
          generalize (encV p).toArray = A at *
          clear h1c
          have HF := fill0 hsz
          have hi : (Tryz.prog.info? 61).map (·.size) = some A.size := by rw [hsz]; exact infoSz
          have HF' : Hid _ := HF
          have Hi : Hid _ := hi
          have Hsz : Hid _ := hsz
          have Hoc : Hid _ := h1c'
          have Hrg : Hid _ := hrg'
          clear HF hi hsz h1c' hrg'
          have HZ : Hid ((wr.alloc (.cells #[.int .i64 0, .int .i64 0, .int .i64 0, .int .i64 0, .int .u32 0, .int .i64 0, .int .u32 0, .int .i64 0, .int .u16 0, .int .u16 0, .int .u16 0, .int .u16 0, .int .u8 0, .int .u8 0, .int .i64 0, .int .u32 0, .int .u32 0, .int .u16 0, .int .u16 0, .int .u8 0] 61)).heap[wr.heap.size]? = some (.cells #[.int .i64 0, .int .i64 0, .int .i64 0, .int .i64 0, .int .u32 0, .int .i64 0, .int .u32 0, .int .i64 0, .int .u16 0, .int .u16 0, .int .u16 0, .int .u16 0, .int .u8 0, .int .u8 0, .int .i64 0, .int .u32 0, .int .u32 0, .int .u16 0, .int .u16 0, .int .u8 0] 61)) := blk_new wr _
          go_upto_region 7 with (first | (refine wpList_load_mid rfl 61 (.tmp 15) rfl g (off + k * 20) A rfl Hrg.out Tryz.underlying61 rfl Hi.out ?_) | (refine wpList_store_blk rfl 61 (.tmp 6) (.tmp 16) rfl wr.heap.size 0 A A rfl rfl 61 _ HZ.out (by rw [Hsz.out]; decide) HF'.out Hi.out Hoc.out ?_; intro w2 hw2 ho2))
          have hb2 : Below wr.heap.size wr w2 := ((Below.refl _ _).alloc (Nat.le_refl _) _).trans (ho2.below (Nat.le_refl _))
          have HB2 : Hid (Below w.heap.size w w2) := HB.out.trans (hb2.mono hzr)
          have HX2 : Hid (w2.heap[wr.heap.size]? = some (.cells A 61)) := hw2
          clear hw2 ho2 HR HZ Hrg HF' Hoc Hsz hg hb2
          go_wp2_with (refine wpList_load_blk rfl 61 (.tmp 6) rfl wr.heap.size A rfl HX2.out Tryz.underlying61 rfl Hi.out ?_)
          refine (kC' _).mono ?_
          rintro e w3 ⟨rfl, hb3⟩
          have HB3 : Hid (Below w.heap.size w w3) := HB2.out.trans (hb3.mono HB2.out.size)
          clear hb3 HB2 HX2 kC'
          go_wp2_with (fail)
          go_ret2
          exact ⟨by rw [HV2.out, HT1.out]; rfl, HB3.out⟩
      · obtain rfl : k = n := by omega
        have hP0 : PE = 0 := by rw [HK.out, Hn.out]; exact prV_end
        have HE1 : Hid (E = if 65536 < (scrB ((l.take k).map cmOf)).length then 2 else 0) := by show _ = _; rw [HE.out hP0, Hn.out]
        have HT1 : Hid (E = 0 → T = scrB ((l.take k).map cmOf)) := fun h => by rw [HT.out h, Hn.out]
        have hlB := HL.out
        clear HT HE HE0 HK HK0 HAt HBd HA HP HC HL
        generalize scrB ((l.take k).map cmOf) = B0 at *
        obtain ⟨ad0, cap0, hv0, hc0, _⟩ := HR.out.form
        obtain ⟨m, hm⟩ : ∃ m, m = B0.length := ⟨_, rfl⟩
        rw [← hm] at hv0 hlB hc0
        subst hv0
        by_cases hgt : 65536 < m
        · have HE2 : Hid (E = 2) := by show _ = _; rw [HE1.out, ← hm, if_pos hgt]
          have HT2 : Hid (T = []) := HT0.out (by rw [HE2.out]; decide)
          have hgt' : (65536 : Int) < (m : Int) := by omega
          have Hm : Hid (m = B0.length) := hm
          clear hm HE1 HT1 HT0
          go_wp2_with (fail)
          go_ret2
          exact ⟨by rw [HE2.out, HT2.out]; rfl, HB.out⟩
        · have HE2 : Hid (E = 0) := by show _ = _; rw [HE1.out, ← hm, if_neg hgt]
          have HT2 : Hid (T = B0) := HT1.out HE2.out
          have hgt' : (m : Int) ≤ 65536 := by omega
          have hcv := HR.out.str
          have Hm : Hid (m = B0.length) := hm
          clear hm HE1 HT1 HT0
          go_wp2_with (fail)
          go_ret2
          exact ⟨by rw [HE2.out, HT2.out]; rfl, HB.out⟩
end Go.Proofs.YtehedlgdencboabGreatDoor
/-
  The document's examples, reckoned.
-/
namespace Go.Proofs.YtehedlgdencboabGreatDoor
set_option linter.unusedVariables false

def flatRp (R : Rp) : List Nat := [R.i, R.t, R.s.1, R.s.2, R.d.1, R.d.2, R.p.1, R.p.2, R.q.1, R.q.2, R.m.1, R.m.2]
def flatCm (C : Cm) : List Nat := [C.k, C.n, C.i, C.r.i, C.r.t, C.r.s.1, C.r.s.2, C.r.d.1, C.r.d.2, C.r.p.1, C.r.p.2, C.r.q.1, C.r.q.2, C.r.m.1, C.r.m.2, C.h.1, C.h.2.1, C.h.2.2.1, C.h.2.2.2.1, C.h.2.2.2.2]
def exR : ByteArray := ⟨#[55, 32, 112, 101, 114, 109, 105, 116, 32, 49, 48, 46, 48, 46, 48, 46, 48, 47, 56, 32, 42, 32, 42, 32, 56, 48, 58, 56, 49, 32, 54]⟩
def exD : ByteArray := ⟨#[49, 32, 100, 114, 111, 112]⟩
def exS : ByteArray := ⟨#[100, 101, 108, 101, 116, 101, 32, 55, 10, 116, 104, 105, 110]⟩
def rulesE (s : ByteArray) : List Rp × Wr := if (allF s s.size 1 0).2.e ≠ 0 then ([], (allF s s.size 1 0).2) else rulesF chkN (allF s s.size 1 0).1 ((allF s s.size 1 0).1.length + 1) [] 0
def scrE (s : ByteArray) : List Cm × Wr := if (allF s s.size 1 0).2.e ≠ 0 then ([], (allF s s.size 1 0).2) else scrF chkN (allF s s.size 1 0).1 ((allF s s.size 1 0).1.length + 1) [] 0
theorem rulesE_is (s : ByteArray) (h : s.size ≤ 65536) : rulesT chkN s = rulesE s := by unfold rulesT rulesE; rw [lexT_is s h]
theorem scrE_is (s : ByteArray) (h : s.size ≤ 65536) : scrT chkN s = scrE s := by unfold scrT scrE; rw [lexT_is s h]
theorem exR_nums : (rulesE exR).1.map flatRp = [[7, 2, 167772160, 8, 0, 0, 0, 65535, 80, 81, 6, 255]] ∧ (rulesE exR).2.e = 0 := by decide +kernel
theorem exD_nums : (rulesE exD).2.e = 100 ∧ (rulesE exD).2.l = 1 ∧ (rulesE exD).2.c = 3 := by decide +kernel
theorem exS_nums : (scrE exS).1.map flatCm = [[2, 0, 7, 0, 0, 0, 0, 0, 0, 0, 0, 0, 0, 0, 0, 0, 0, 0, 0, 0], [5, 0, 0, 0, 0, 0, 0, 0, 0, 0, 0, 0, 0, 0, 0, 0, 0, 0, 0, 0]] ∧ (scrE exS).2.e = 0 := by decide +kernel
def rpR : Rp := ⟨7, 2, (167772160, 8), (0, 0), (0, 65535), (80, 81), (6, 255)⟩
theorem decS1 {u : Nat} (h : u < 10) : Lib.decDigits u = [UInt8.ofNat (48 + u)] := by rw [Lib.decDigits, dif_pos h]
theorem decS2 {u : Nat} (h : 10 ≤ u) (h' : u / 10 < 10) : Lib.decDigits u = [UInt8.ofNat (48 + u / 10), UInt8.ofNat (48 + u % 10)] := by rw [Lib.decDigits, dif_neg (by omega), decS1 h']; rfl
theorem d10 : Lib.decDigits 10 = [49, 48] := decS2 (by decide) (by decide)
theorem d80 : Lib.decDigits 80 = [56, 48] := decS2 (by decide) (by decide)
theorem d81 : Lib.decDigits 81 = [56, 49] := decS2 (by decide) (by decide)
theorem txR : textP (ruleP rpR) = exR.data.toList := by
  rw [text_rule]
  simp [rpR, textP, prefP, spanP, maskP, addrP, nP, sP, actW, Lib.join, List.intercalate, d10, d80, d81, decS1, exR]
theorem txS : scrB [{ cm0 2 with i := 7 }, cm0 5] = [100, 101, 108, 101, 116, 101, 32, 55, 10, 116, 104, 105, 110, 10] := by decide +kernel
theorem txH : textP (headP (1, 0, 0, 0, 6)) = [48, 46, 48, 46, 48, 46, 49, 32, 48, 46, 48, 46, 48, 46, 48, 32, 48, 32, 48, 32, 54] := by decide +kernel
theorem rp_flat {R : Rp} {a b c d e f g h i j k l : Nat} (x : flatRp R = [a, b, c, d, e, f, g, h, i, j, k, l]) : R = ⟨a, b, (c, d), (e, f), (g, h), (i, j), (k, l)⟩ := by
  obtain ⟨i, t, ⟨_, _⟩, ⟨_, _⟩, ⟨_, _⟩, ⟨_, _⟩, ⟨_, _⟩⟩ := R
  simp only [flatRp, List.cons.injEq] at x
  obtain ⟨rfl, rfl, rfl, rfl, rfl, rfl, rfl, rfl, rfl, rfl, rfl, rfl, _⟩ := x
  rfl
theorem cm_flat {C : Cm} {k n i : Nat} (x : flatCm C = [k, n, i, 0, 0, 0, 0, 0, 0, 0, 0, 0, 0, 0, 0, 0, 0, 0, 0, 0]) : C = ⟨k, n, i, rp0, (0, 0, 0, 0, 0)⟩ := by
  obtain ⟨_, _, _, ⟨_, _, ⟨_, _⟩, ⟨_, _⟩, ⟨_, _⟩, ⟨_, _⟩, ⟨_, _⟩⟩, ⟨_, _, _, _, _⟩⟩ := C
  simp only [flatCm, List.cons.injEq] at x
  obtain ⟨rfl, rfl, rfl, rfl, rfl, rfl, rfl, rfl, rfl, rfl, rfl, rfl, rfl, rfl, rfl, rfl, rfl, rfl, rfl, rfl, _⟩ := x
  rfl
theorem map_one {A : Type} {f : A → List Nat} {l : List A} {x : List Nat} (h : l.map f = [x]) : ∃ a, l = [a] ∧ f a = x := by
  match l, h with
  | [a], h => exact ⟨a, rfl, by simpa using h⟩
theorem map_two {A : Type} {f : A → List Nat} {l : List A} {x y : List Nat} (h : l.map f = [x, y]) : ∃ a b, l = [a, b] ∧ f a = x ∧ f b = y := by
  match l, h with
  | [a, b], h => exact ⟨a, b, rfl, by simpa using h⟩
theorem exR_is : (rulesT chkN exR).1 = [rpR] ∧ (rulesT chkN exR).2.e = 0 := by
  rw [rulesE_is exR (by decide)]
  obtain ⟨R, h1, h2⟩ := map_one exR_nums.1
  exact ⟨by rw [h1, rp_flat h2]; rfl, exR_nums.2⟩
theorem exD_is : (rulesT chkN exD).2.e = 100 ∧ (rulesT chkN exD).2.l = 1 ∧ (rulesT chkN exD).2.c = 3 := by
  rw [rulesE_is exD (by decide)]; exact exD_nums
def cmA : Cm := ⟨2, 0, 7, rp0, (0, 0, 0, 0, 0)⟩
def cmB : Cm := ⟨5, 0, 0, rp0, (0, 0, 0, 0, 0)⟩
theorem exS_is : (scrT chkN exS).1 = [cmA, cmB] ∧ (scrT chkN exS).2.e = 0 := by
  rw [scrE_is exS (by decide)]
  obtain ⟨A, B, h1, h2, h3⟩ := map_two exS_nums.1
  exact ⟨by rw [h1, cm_flat h2, cm_flat h3]; rfl, exS_nums.2⟩
end Go.Proofs.YtehedlgdencboabGreatDoor
/-
  Some answers that the document fixes: awake.
-/
namespace Go.Proofs.YtehedlgdencboabGreatDoor
open Go.RowKit
set_option linter.unusedVariables false
set_option linter.unusedSimpArgs false

/-- What the contracts ask of the world. -/
structure Env (w : World) : Prop where
  g : Hnd w
  p : Pw w
  a : ∃ z, ActAt z w
  c : ∃ z, CmdAt z w
theorem Env.on {w w1 : World} (h : Env w) (hb : Below w.heap.size w w1) : Env w1 := ⟨h.g.on hb, h.p.on hb, ⟨_, blk_on h.a.choose_spec hb⟩, ⟨_, blk_on h.c.choose_spec hb⟩⟩
theorem Env.alloc {w : World} (h : Env w) (o : Obj) : Env (w.alloc o) := h.on ((Below.refl _ _).alloc (Nat.le_refl _) o)
theorem bd_rpR : BdRp rpR := ⟨by decide, by decide, by decide, by decide, by decide, by decide, by decide⟩
theorem er_rpR : (errs (ruOf rpR)).1 = 0 := by decide +kernel
theorem tx_rpR : rtx (ruOf rpR) = exR.data.toList := by unfold rtx; rw [if_pos er_rpR, rp_ru, txR]
theorem bd_cm (C : Cm) (h : BdCm C) : BdV (cvOf C) := by
  obtain ⟨h1, h2, h3, _, _, _, _, h8, h9⟩ := h
  obtain ⟨a, b, c, d, e⟩ := h9
  refine ⟨?_, ?_, ?_, h8.bd, a, b, ?_, ?_, ?_⟩
  · unfold I64; simp only [cvOf]; omega
  · unfold I64; simp only [cvOf]; omega
  · unfold I64; simp only [cvOf]; omega
  · simp only [cvOf]; omega
  · simp only [cvOf]; omega
  · simp only [cvOf]; omega
theorem bd_cmA : BdCm cmA := ⟨by decide, by decide, by decide, fun _ _ => rfl, fun h => absurd rfl h, fun _ => rfl, fun _ => rfl, bd_rp0, ok_h0⟩
theorem bd_cmB : BdCm cmB := ⟨by decide, by decide, by decide, fun _ _ => rfl, fun _ _ => rfl, fun _ => rfl, fun _ => rfl, bd_rp0, ok_h0⟩
theorem good_AB : GoodC chkN [cmA, cmB] := ⟨fun C hC => by
  simp only [List.mem_cons, List.not_mem_nil, or_false] at hC
  rcases hC with rfl | rfl
  · exact ⟨bd_cmA, fun h => by cases h⟩
  · exact ⟨bd_cmB, fun h => by cases h⟩, by decide⟩
theorem er_AB : errC ([cmA, cmB].map cvOf) = 0 := by
  rw [errC_good good_AB, if_neg]
  rw [show scrB [cmA, cmB] = _ from txS]; decide
theorem tx_AB : ctx ([cmA, cmB].map cvOf) = [100, 101, 108, 101, 116, 101, 32, 55, 10, 116, 104, 105, 110, 10] := by
  unfold ctx; rw [if_pos er_AB, map_cm]; exact txS
set_option maxRecDepth 20000 in
set_option maxHeartbeats 8000000 in
theorem awakeC (w : World) (hE : Env w) : Calls Tryz.prog 7 #[] w fun e w' => e = .returned (.bool true) ∧ Below w.heap.size w w' := by
  have kR : ∀ W, Env W → Calls Tryz.prog 12 #[.string ⟨#[55, 32, 112, 101, 114, 109, 105, 116, 32, 49, 48, 46, 48, 46, 48, 46, 48, 47, 56, 32, 42, 32, 42, 32, 56, 48, 58, 56, 49, 32, 54]⟩] W fun e w' => ∃ u : Value, e = .returned (.tuple #[u, .nilIface]) ∧ RowU w' W.heap.size u [ruOf rpR] ∧ Below W.heap.size W w' := fun W h => by
    have := RulesOk exR W (by decide) h.g h.a.choose_spec h.c.choose_spec exR_is.2
    rw [exR_is.1] at this
    exact this
  have kD : ∀ W, Env W → Calls Tryz.prog 12 #[.string ⟨#[49, 32, 100, 114, 111, 112]⟩] W fun e w' => ∃ F : Nat, e = .returned (.tuple #[.slice none 0 0, .iface 72 (.pointer (some ⟨F, 0, none⟩))]) ∧ Flt w' F 100 1 3 ∧ W.heap.size ≤ F ∧ Below W.heap.size W w' := fun W h => by
    have := RulesBad exD W (by decide) h.g h.a.choose_spec h.c.choose_spec (by rw [exD_is.1]; decide)
    rw [exD_is.1, exD_is.2.1, exD_is.2.2] at this
    exact this
  have kS : ∀ W, Env W → Calls Tryz.prog 8 #[.string ⟨#[100, 101, 108, 101, 116, 101, 32, 55, 10, 116, 104, 105, 110]⟩] W fun e w' => ∃ u : Value, e = .returned (.tuple #[u, .nilIface]) ∧ RowV w' W.heap.size u ([cmA, cmB].map cvOf) ∧ Below W.heap.size W w' := fun W h => by
    have := ScriptOk exS W (by decide) h.g h.a.choose_spec h.c.choose_spec exS_is.2
    rw [exS_is.1] at this
    exact this
  have kP : ∀ W, Env W → Calls Tryz.prog 14 #[.agg #[.int .i64 7, .int .u32 167772160, .int .i64 8, .int .u32 0, .int .i64 0, .int .u16 0, .int .u16 65535, .int .u16 80, .int .u16 81, .int .u8 6, .int .u8 255, .int .i64 2]] W fun e w' => e = .returned (.tuple #[.string ⟨#[55, 32, 112, 101, 114, 109, 105, 116, 32, 49, 48, 46, 48, 46, 48, 46, 48, 47, 56, 32, 42, 32, 42, 32, 56, 48, 58, 56, 49, 32, 54]⟩, .int .i64 0]) ∧ Below W.heap.size W w' := fun W h => by
    have := printC (ruOf rpR) bd_rpR.bd W h.p h.a.choose_spec
    rw [er_rpR, tx_rpR] at this
    exact this
  have kPS : ∀ (W : World) (v : Value), Env W → SrcV W v ([cmA, cmB].map cvOf) → Calls Tryz.prog 9 #[v] W fun e w' => e = .returned (.tuple #[.string ⟨#[100, 101, 108, 101, 116, 101, 32, 55, 10, 116, 104, 105, 110, 10]⟩, .int .i64 0]) ∧ Below W.heap.size W w' := fun W v h hs => by
    have := printScriptC v _ W hs (by decide) (fun C hC => by
      obtain ⟨D, hD, rfl⟩ := List.mem_map.1 hC
      exact bd_cm D (good_AB.all D hD).1) h.p h.a.choose_spec h.c.choose_spec
    rw [er_AB, tx_AB] at this
    exact this
  have kH : ∀ W, Env W → Calls Tryz.prog 16 #[.agg #[.int .u32 1, .int .u32 0, .int .u16 0, .int .u16 0, .int .u8 6]] W fun e w' => e = .returned (.string ⟨#[48, 46, 48, 46, 48, 46, 49, 32, 48, 46, 48, 46, 48, 46, 48, 32, 48, 32, 48, 32, 54]⟩) ∧ Below W.heap.size W w' := fun W h => by
    have := printHeaderC (1, 0, 0, 0, 6) ⟨by decide, by decide, by decide, by decide, by decide⟩ W h.p
    rw [txH] at this
    exact this
  have kI := fun (F : Nat) (W : World) (h : Env W) (hF : Flt W F 100 1 3) => keepIs F 100 1 3 W (by decide) h.g hF
  have H0 : Hid (Env w) := hE
  clear hE
  go_enter Tryz.func7, Tryz.ntmps7
  go_wp2_with (fail)
  refine (kR _ H0.out).mono ?_
  rintro e w1 ⟨u1, rfl, hr1, hb1⟩
  obtain ⟨ad, cap, rfl, hcap, hat⟩ := hr1.form
  obtain ⟨g, rfl, hat1⟩ : ∃ g, ad = some ⟨g, 0, none⟩ ∧ ∀ j, j < 12 → w1.cell? ⟨g, j, none⟩ = (encU (ruOf rpR))[j]? := by
    obtain ⟨g, e, _, _, h⟩ := hat (by decide)
    exact ⟨g, e, fun j hj => by simpa using h 0 (by decide) j hj⟩
  have HE1 : Hid (Env w1) := H0.out.on hb1
  have HB1 : Hid (Below w.heap.size w w1) := hb1
  have HA1 : Hid _ := hat1
  clear hr1 hb1 hat hat1 kR H0 hcap
  go_wp2_with (fail)
  refine (kD _ HE1.out).mono ?_
  rintro e w2 ⟨F, rfl, hF, hle, hb2⟩
  have HE2 : Hid (Env w2) := HE1.out.on hb2
  have HB2 : Hid (Below w.heap.size w w2) := HB1.out.trans (hb2.mono HB1.out.size)
  have HA2 : Hid (∀ j, j < 12 → w2.cell? ⟨g, j, none⟩ = (encU (ruOf rpR))[j]?) := fun j hj => by
    obtain ⟨u, hu⟩ := encU_some (ruOf rpR) hj
    rw [hu]; exact cell_on1 hb2 ((HA1.out j hj).trans hu)
  have HF2 : Hid (Flt w2 F 100 1 3) := hF
  clear hb2 kD HE1 HB1 HA1 hF hle
  go_wp2_with (fail)
  refine (kS _ HE2.out).mono ?_
  rintro e w3 ⟨u3, rfl, hr3, hb3⟩
  have HE3 : Hid (Env w3) := HE2.out.on hb3
  have HB3 : Hid (Below w.heap.size w w3) := HB2.out.trans (hb3.mono HB2.out.size)
  have HA3 : Hid (∀ j, j < 12 → w3.cell? ⟨g, j, none⟩ = (encU (ruOf rpR))[j]?) := fun j hj => by
    obtain ⟨u, hu⟩ := encU_some (ruOf rpR) hj
    rw [hu]; exact cell_on1 hb3 ((HA2.out j hj).trans hu)
  have HF3 : Hid (Flt w3 F 100 1 3) := blk_on HF2.out hb3
  have hs3 := hr3.src
  obtain ⟨ad3, cap3, rfl, _, _⟩ := hr3.form
  have HS3 : Hid (SrcV w3 (.slice ad3 2 cap3) ([cmA, cmB].map cvOf)) := hs3
  have hl2 : ([cmA, cmB].map cvOf).length = 2 := rfl
  rw [hl2]
  clear hb3 kS HE2 HB2 HA2 HF2 hr3 hs3 hl2
  have x0 : w3.cell? ⟨g, 0, none⟩ = some (.int .i64 7) := HA3.out 0 (by decide)
  have x1 : w3.cell? ⟨g, 1, none⟩ = some (.int .u32 167772160) := HA3.out 1 (by decide)
  have x2 : w3.cell? ⟨g, 2, none⟩ = some (.int .i64 8) := HA3.out 2 (by decide)
  have x3 : w3.cell? ⟨g, 3, none⟩ = some (.int .u32 0) := HA3.out 3 (by decide)
  have x4 : w3.cell? ⟨g, 4, none⟩ = some (.int .i64 0) := HA3.out 4 (by decide)
  have x5 : w3.cell? ⟨g, 5, none⟩ = some (.int .u16 0) := HA3.out 5 (by decide)
  have x6 : w3.cell? ⟨g, 6, none⟩ = some (.int .u16 65535) := HA3.out 6 (by decide)
  have x7 : w3.cell? ⟨g, 7, none⟩ = some (.int .u16 80) := HA3.out 7 (by decide)
  have x8 : w3.cell? ⟨g, 8, none⟩ = some (.int .u16 81) := HA3.out 8 (by decide)
  have x9 : w3.cell? ⟨g, 9, none⟩ = some (.int .u8 6) := HA3.out 9 (by decide)
  have x10 : w3.cell? ⟨g, 10, none⟩ = some (.int .u8 255) := HA3.out 10 (by decide)
  have x11 : w3.cell? ⟨g, 11, none⟩ = some (.int .i64 2) := HA3.out 11 (by decide)
  clear HA3
  go_wp2_with (fail)
  refine (kP _ HE3.out).mono ?_
  rintro e w4 ⟨rfl, hb4⟩
  have HE4 : Hid (Env w4) := HE3.out.on hb4
  have HB4 : Hid (Below w.heap.size w w4) := HB3.out.trans (hb4.mono HB3.out.size)
  have HF4 : Hid (Flt w4 F 100 1 3) := blk_on HF3.out hb4
  have HS4 : Hid (SrcV w4 (.slice ad3 2 cap3) ([cmA, cmB].map cvOf)) := HS3.out.keep hb4
  clear hb4 kP HE3 HB3 HF3 HS3 x0 x1 x2 x3 x4 x5 x6 x7 x8 x9 x10 x11
  go_wp2_with (fail)
  refine (kPS _ _ HE4.out HS4.out).mono ?_
  rintro e w5 ⟨rfl, hb5⟩
  have HE5 : Hid (Env w5) := HE4.out.on hb5
  have HB5 : Hid (Below w.heap.size w w5) := HB4.out.trans (hb5.mono HB4.out.size)
  have HF5 : Hid (Flt w5 F 100 1 3) := blk_on HF4.out hb5
  clear hb5 kPS HE4 HB4 HF4 HS4
  go_wp2_with (fail)
  refine (kI _ _ HE5.out HF5.out).mono ?_
  rintro e w6 ⟨rfl, hb6⟩
  have HE6 : Hid (Env w6) := HE5.out.on hb6
  have HB6 : Hid (Below w.heap.size w w6) := HB5.out.trans (hb6.mono HB5.out.size)
  clear hb6 kI HE5 HB5 HF5
  go_wp2_with (fail)
  refine (kH _ HE6.out).mono ?_
  rintro e w7 ⟨rfl, hb7⟩
  have HB7 : Hid (Below w.heap.size w w7) := HB6.out.trans (hb7.mono HB6.out.size)
  clear hb7 kH HE6 HB6
  go_wp2_with (fail)
  go_ret
  exact ⟨rfl, HB7.out⟩
end Go.Proofs.YtehedlgdencboabGreatDoor
/-
  Two lists that read alike are the same: quintetkeep.Same, the law's same. Written by tools/mkSyK.py.
-/
namespace Go.Proofs.YtehedlgdencboabGreatDoor
open Go.RowKit
set_option linter.unusedVariables false
set_option linter.unusedSimpArgs false

theorem wpQuiet_load_mid {P : Program} {ops : Array Oper} {C : World → Prop} {Q : Act → Prop} {rest : List Oper} {op : Oper} {a : Act} (hgd : op.guard = none) (ty : TypeId) (x : Operand) (ho : op.op = .load ty x)
    (B o : Nat) (cs : Array Value) (hx : a.eval x = .pointer (some ⟨B, o, none⟩)) (h : ∀ w, C w → w.rangeAt B o cs.toList) {d : TypeDesc} (hu : P.underlying ty = some d) (hd : d.isRow = true) (hi : (P.info? ty).map (·.size) = some cs.size)
    (hk : wpQuiet P ops C Q rest (a.put op.dst (.agg cs))) : wpQuiet P ops C Q (op :: rest) a := by
  have hw : Region.wanted op (yielded ops a.tmps) = true := by unfold Region.wanted; rw [hgd]
  unfold wpQuiet
  rw [if_pos hw]
  refine ⟨_, fun w hw => ?_, hk⟩
  have hl := run_loadVar_mid (P := P) w B o ty cs.toList d (h w hw) hu hd (by simpa using hi)
  unfold Oper.quietAt execOp
  simp only [ho, hx, Instr.loadAt, Instr.sureAddr, Sem.run_bind, Sem.run_pure, Result.andThen_ok, hl]
  exact ⟨rfl, rfl⟩
theorem range_on {w w1 : World} (hb : Below w.heap.size w w1) {B o : Nat} {cs : List Value} (h : w.rangeAt B o cs) : w1.rangeAt B o cs := fun j v hv => cell_on1 hb (h j v hv)
theorem range_kin {W : World} {B o : Nat} {cs : List Value} (h : W.rangeAt B o cs) : ∀ w', (∃ x : Kin W, w' = x.val) → w'.rangeAt B o cs := fun w' ⟨x, hx⟩ => by rw [hx]; exact range_on x.is h
theorem SrcU.rng {w : World} {ad : Option Addr} {n cap : Nat} {l : List Ru} (h : SrcU w (.slice ad n cap) l) : n = l.length ∧ (∀ W, Below w.heap.size w W → ∀ k (hk : k < l.length), ∃ g off, ad = some ⟨g, off, none⟩ ∧ W.rangeAt g (off + k * 12) (encU (l[k]'hk))) := by
  obtain ⟨ad', cap', e, hc, h2⟩ := h
  obtain ⟨rfl, e2, rfl⟩ : ad = ad' ∧ n = l.length ∧ cap = cap' := by cases e; exact ⟨rfl, rfl, rfl⟩
  refine ⟨e2, fun W hb k hk => ?_⟩
  obtain ⟨g, off, e, h3⟩ := h2 (by omega)
  refine ⟨g, off, e, fun j u hu => ?_⟩
  have hj : j < 12 := by
    have := (List.getElem?_eq_some_iff.1 hu).1
    simpa [encU] using this
  have := h3 k hk j hj
  rw [show off + k * 12 + j = off + (k * 12 + j) by omega]
  exact cell_on1 hb (this.trans hu)
theorem infoXU : (Tryz.prog.info? 52).map (·.size) = some 12 := by kernel_rfl
set_option maxRecDepth 20000 in
set_option maxHeartbeats 8000000 in
theorem keepSame (v u : Value) (l : List Ru) (w : World) (hv : SrcU w v l) (hu : SrcU w u l) (hl : l.length ≤ 16777216) :
    Calls Tryz.prog 13 #[v, u] w fun e w' => e = .returned (.bool true) ∧ Below w.heap.size w w' := by
  obtain ⟨ad, cap, rfl, hc1, _⟩ := id hv
  obtain ⟨ad2, cap2, rfl, hc2, _⟩ := id hu
  obtain ⟨_, r1⟩ := hv.rng
  obtain ⟨_, r2⟩ := hu.rng
  have HR1 : Hid _ := r1
  have HR2 : Hid _ := r2
  obtain ⟨n, hn⟩ : ∃ n, n = l.length := ⟨_, rfl⟩
  have Hn : Hid (n = l.length) := hn
  rw [← hn] at hl hc1 hc2 ⊢
  have hn0 : (n : Int) ≤ 16777216 := by omega
  clear hv hu r1 r2 hn
  go_enter Tryz.func13, Tryz.ntmps13
  go_upto_region 4 with (fail)
  go_loopw [5] (fun i wr => ∃ k : Nat, k ≤ n ∧ i = .int .i64 (k : Int) ∧ Hid (Below w.heap.size w wr)) (fun i _ => n - (intOf i).toNat)
  case atStart => exact ⟨0, Nat.zero_le _, rfl, Below.refl _ _⟩
  case round =>
    obtain ⟨k, hk, rfl, HB⟩ := hrel
    by_cases hlt : k < n
    · have hkl : k < l.length := by rw [← Hn.out]; exact hlt
      obtain ⟨g, off, rfl, hg⟩ := HR1.out wr HB.out k hkl
      obtain ⟨g2, off2, rfl, hg2⟩ := HR2.out wr HB.out k hkl
      have hlt' : (k : Int) < (n : Int) := by omega
      have hE : ∀ W : World, Sem.run Tryz.prog (binOp .neq 52 (.agg (encU (l[k]'hkl)).toArray) (.agg (encU (l[k]'hkl)).toArray)) W = .ok (.bool false) W := fun W => by
        have := neRu_any (l[k]'hkl) (l[k]'hkl) W
        rw [eqRu_self] at this
        exact this
      have hi : (Tryz.prog.info? 52).map (·.size) = some (encU (l[k]'hkl)).toArray.size := infoXU
      have hg' : wr.rangeAt g (off + k * 12) (encU (l[k]'hkl)).toArray.toList := hg
      have hg2' : wr.rangeAt g2 (off2 + k * 12) (encU (l[k]'hkl)).toArray.toList := hg2
      clear hg hg2
      generalize (encU (l[k]'hkl)).toArray = A at *
      have H1 : Hid _ := hg'
      have H2 : Hid _ := hg2'
      have Hi : Hid _ := hi
      clear hg' hg2' hi
      go_upto_region 6 with (fail)
      have kne : Nonempty (Kin wr) := ⟨⟨_, Below.refl _ _⟩⟩
      refine wp_region_kin wr (Below.refl _ _) (by kernel_rfl) (by kernel_rfl) ?_
      iterate 3 (go_big_quiet_step (fail))
      refine wpQuiet_load_mid rfl 52 (.tmp 19) rfl g (off + k * 12) A rfl (range_kin H1.out) Tryz.underlying52 rfl Hi.out ?_
      simp only [List.getElem_toArray, List.getElem_cons_succ, List.getElem_cons_zero, Act.put, List.setIfInBounds_toArray, List.set_cons_zero, List.set_cons_succ]
      iterate 3 (go_big_quiet_step (fail))
      refine wpQuiet_load_mid rfl 52 (.tmp 23) rfl g2 (off2 + k * 12) A rfl (range_kin H2.out) Tryz.underlying52 rfl Hi.out ?_
      simp only [List.getElem_toArray, List.getElem_cons_succ, List.getElem_cons_zero, Act.put, List.setIfInBounds_toArray, List.set_cons_zero, List.set_cons_succ]
      go_big_quiet_step (fail)
      refine wpQuiet_nil ?_
      rintro wq ⟨⟨xq, hxq⟩, hyq⟩
      have HQ : Hid (Below w.heap.size w wq) := by show Below _ _ _; rw [hyq]; exact HB.out.trans (hxq.mono HB.out.size)
      clear hyq hxq xq kne HB hE H1 H2 Hi
      go_wp2_with (fail)
      go_roundw
      case rel => exact ⟨k + 1, by omega, by go_num, HQ.out⟩
      case measure => simp [intOf]; omega
    · obtain rfl : k = n := by omega
      go_wp2_with (fail)
      go_ret
      exact ⟨rfl, HB.out⟩
theorem SrcV.rng {w : World} {ad : Option Addr} {n cap : Nat} {l : List Cv} (h : SrcV w (.slice ad n cap) l) : n = l.length ∧ (∀ W, Below w.heap.size w W → ∀ k (hk : k < l.length), ∃ g off, ad = some ⟨g, off, none⟩ ∧ W.rangeAt g (off + k * 20) (encV (l[k]'hk))) := by
  obtain ⟨ad', cap', e, hc, h2⟩ := h
  obtain ⟨rfl, e2, rfl⟩ : ad = ad' ∧ n = l.length ∧ cap = cap' := by cases e; exact ⟨rfl, rfl, rfl⟩
  refine ⟨e2, fun W hb k hk => ?_⟩
  obtain ⟨g, off, e, h3⟩ := h2 (by omega)
  refine ⟨g, off, e, fun j u hu => ?_⟩
  have hj : j < 20 := by
    have := (List.getElem?_eq_some_iff.1 hu).1
    simpa [encV] using this
  have := h3 k hk j hj
  rw [show off + k * 20 + j = off + (k * 20 + j) by omega]
  exact cell_on1 hb (this.trans hu)
theorem infoXV : (Tryz.prog.info? 61).map (·.size) = some 20 := by kernel_rfl
set_option maxRecDepth 20000 in
set_option maxHeartbeats 8000000 in
theorem lawSame (v u : Value) (l : List Cv) (w : World) (hv : SrcV w v l) (hu : SrcV w u l) (hl : l.length ≤ 16777216) :
    Calls Tryz.prog 10 #[v, u] w fun e w' => e = .returned (.bool true) ∧ Below w.heap.size w w' := by
  obtain ⟨ad, cap, rfl, hc1, _⟩ := id hv
  obtain ⟨ad2, cap2, rfl, hc2, _⟩ := id hu
  obtain ⟨_, r1⟩ := hv.rng
  obtain ⟨_, r2⟩ := hu.rng
  have HR1 : Hid _ := r1
  have HR2 : Hid _ := r2
  obtain ⟨n, hn⟩ : ∃ n, n = l.length := ⟨_, rfl⟩
  have Hn : Hid (n = l.length) := hn
  rw [← hn] at hl hc1 hc2 ⊢
  have hn0 : (n : Int) ≤ 16777216 := by omega
  clear hv hu r1 r2 hn
  go_enter Tryz.func10, Tryz.ntmps10
  go_upto_region 4 with (fail)
  go_loopw [5] (fun i wr => ∃ k : Nat, k ≤ n ∧ i = .int .i64 (k : Int) ∧ Hid (Below w.heap.size w wr)) (fun i _ => n - (intOf i).toNat)
  case atStart => exact ⟨0, Nat.zero_le _, rfl, Below.refl _ _⟩
  case round =>
    obtain ⟨k, hk, rfl, HB⟩ := hrel
    by_cases hlt : k < n
    · have hkl : k < l.length := by rw [← Hn.out]; exact hlt
      obtain ⟨g, off, rfl, hg⟩ := HR1.out wr HB.out k hkl
      obtain ⟨g2, off2, rfl, hg2⟩ := HR2.out wr HB.out k hkl
      have hlt' : (k : Int) < (n : Int) := by omega
      have hE : ∀ W : World, Sem.run Tryz.prog (binOp .neq 61 (.agg (encV (l[k]'hkl)).toArray) (.agg (encV (l[k]'hkl)).toArray)) W = .ok (.bool false) W := fun W => by
        have := neCv_any (l[k]'hkl) (l[k]'hkl) W
        rw [eqCv_self] at this
        exact this
      have hi : (Tryz.prog.info? 61).map (·.size) = some (encV (l[k]'hkl)).toArray.size := infoXV
      have hg' : wr.rangeAt g (off + k * 20) (encV (l[k]'hkl)).toArray.toList := hg
      have hg2' : wr.rangeAt g2 (off2 + k * 20) (encV (l[k]'hkl)).toArray.toList := hg2
      clear hg hg2
      generalize (encV (l[k]'hkl)).toArray = A at *
      have H1 : Hid _ := hg'
      have H2 : Hid _ := hg2'
      have Hi : Hid _ := hi
      clear hg' hg2' hi
      go_upto_region 6 with (fail)
      have kne : Nonempty (Kin wr) := ⟨⟨_, Below.refl _ _⟩⟩
      refine wp_region_kin wr (Below.refl _ _) (by kernel_rfl) (by kernel_rfl) ?_
      iterate 3 (go_big_quiet_step (fail))
      refine wpQuiet_load_mid rfl 61 (.tmp 19) rfl g (off + k * 20) A rfl (range_kin H1.out) Tryz.underlying61 rfl Hi.out ?_
      simp only [List.getElem_toArray, List.getElem_cons_succ, List.getElem_cons_zero, Act.put, List.setIfInBounds_toArray, List.set_cons_zero, List.set_cons_succ]
      iterate 3 (go_big_quiet_step (fail))
      refine wpQuiet_load_mid rfl 61 (.tmp 23) rfl g2 (off2 + k * 20) A rfl (range_kin H2.out) Tryz.underlying61 rfl Hi.out ?_
      simp only [List.getElem_toArray, List.getElem_cons_succ, List.getElem_cons_zero, Act.put, List.setIfInBounds_toArray, List.set_cons_zero, List.set_cons_succ]
      go_big_quiet_step (fail)
      refine wpQuiet_nil ?_
      rintro wq ⟨⟨xq, hxq⟩, hyq⟩
      have HQ : Hid (Below w.heap.size w wq) := by show Below _ _ _; rw [hyq]; exact HB.out.trans (hxq.mono HB.out.size)
      clear hyq hxq xq kne HB hE H1 H2 Hi
      go_wp2_with (fail)
      go_roundw
      case rel => exact ⟨k + 1, by omega, by go_num, HQ.out⟩
      case measure => simp [intOf]; omega
    · obtain rfl : k = n := by omega
      go_wp2_with (fail)
      go_ret
      exact ⟨rfl, HB.out⟩
end Go.Proofs.YtehedlgdencboabGreatDoor
/-
  From the rows' condition (what the listed variables hold) to what the contracts ask.
-/
namespace Go.Proofs.YtehedlgdencboabGreatDoor
open Go.ChangeShapes Go.WideShapes Go.ChangeAt Go.RowKit
set_option linter.unusedVariables false

theorem own : ownKnob Tryz.prog.godebug = none := by kernel_rfl
def laidList : List (String × DataW Unit) := [("math/bits.deBruijn32tab", Rows.laid_math_bits_deBruijn32tab), ("math/bits.deBruijn64tab", Rows.laid_math_bits_deBruijn64tab), ("internal/strconv.uint64pow10", Rows.laid_internal_strconv_uint64pow10), ("errors.errorType", Rows.laid_errors_errorType), ("strconv.ErrRange", Rows.laid_strconv_ErrRange), ("strconv.ErrSyntax", Rows.laid_strconv_ErrSyntax), ("quintet/syntax.actionWords", Rows.laid_quintet_syntax_actionWords), ("quintet/syntax.commandWords", Rows.laid_quintet_syntax_commandWords)]
theorem gHnd : Tryz.prog.globalNamed "errors.errorType" = some 2 := by kernel_rfl
theorem rtHnd : (Tryz.prog.cutTypes.find? (·.1 == "internal/reflectlite.rtype")).map (·.2) = some 138 := by kernel_rfl
theorem rowHnd : ((List.range 233).filter fun t => Tryz.prog.rowNamed t [101, 114, 114, 111, 114]) = [25] := by kernel_rfl
theorem szHnd : Tryz.prog.types.size = 233 := by kernel_rfl
theorem gPow : Tryz.prog.globalNamed "internal/strconv.uint64pow10" = some 3 := by kernel_rfl
theorem tPow : (Tryz.prog.globals[3]?).map (·.type) = some 187 := by kernel_rfl
theorem cU64 : Tryz.prog.cellsOf 129 = 1 := by kernel_rfl
theorem cPow : Tryz.prog.cellsOf 187 = 20 := by kernel_rfl
theorem gErr : Tryz.prog.globalNamed "strconv.ErrRange" = some 8 := by kernel_rfl
theorem tErr : (Tryz.prog.globals[8]?).map (·.type) = some 25 := by kernel_rfl
theorem gAct : Tryz.prog.globalNamed "quintet/syntax.actionWords" = some 1 := by kernel_rfl
theorem tAct : (Tryz.prog.globals[1]?).map (·.type) = some 105 := by kernel_rfl
theorem gCmd : Tryz.prog.globalNamed "quintet/syntax.commandWords" = some 0 := by kernel_rfl
theorem tCmd : (Tryz.prog.globals[0]?).map (·.type) = some 94 := by kernel_rfl
theorem cStr : Tryz.prog.cellsOf 9 = 1 := by kernel_rfl
theorem cAct : Tryz.prog.cellsOf 105 = 5 := by kernel_rfl
theorem cCmd : Tryz.prog.cellsOf 94 = 11 := by kernel_rfl
def pows : List Int := [1, 10, 100, 1000, 10000, 100000, 1000000, 10000000, 100000000, 1000000000, 10000000000, 100000000000, 1000000000000, 10000000000000, 100000000000000, 1000000000000000, 10000000000000000, 100000000000000000, 1000000000000000000, 10000000000000000000]
theorem pows_at : ∀ x, x < 20 → pows.getD x 0 = ((10 ^ x : Nat) : Int) := by decide +kernel
theorem pows_is : pows = Lib.pow10Tab := by decide +kernel
/-- An array of texts that reads as the list holds its texts, cell for cell. -/
theorem cells_of_texts {H : Type} {enc : TypeId × Value → H} {P : Program} {w : World} {base : Nat} {sp : Nat → Bool} {held : Bool} {fuel : Nat} {t e : TypeId} {n : Nat} {cs : List Value} {zs : List (List UInt8)} {p : List MemPlace}
    (ht : P.underlying t = some (.array n e)) (he : P.underlying e = some .string) (hce : P.cellsOf e = 1) (hct : P.cellsOf t = n)
    (h : DataW.trod enc P w base sp held fuel t cs = some (.agg (zs.map fun z => .lit (.string z)), p)) : cs = zs.map fun z => Value.string ⟨z.toArray⟩ := by
  cases fuel with
  | zero => simp [DataW.trod] at h
  | succ fuel =>
    simp only [DataW.trod, ht, hce, hct, Nat.mul_one] at h
    split at h
    · rename_i hl
      obtain ⟨xs, hm, hx⟩ := Option.map_eq_some_iff.1 h
      have hxs : xs.map (·.1) = zs.map fun z => (DataW.lit (.string z) : DataW H) := by
        have := congrArg Prod.fst hx
        simpa using this
      have hxl : xs.length = n := by simpa using Lib.mapM_length hm
      have hzl : zs.length = n := by
        have := congrArg List.length hxs
        simp at this
        omega
      apply List.ext_getElem?
      intro i
      by_cases hi : i < n
      · obtain ⟨b, hb, hf⟩ := Lib.mapM_at hm i i (by simp [hi])
        obtain ⟨z, hc, rfl, _⟩ := DataW.trod_string he hf
        have h1 : cs[i]? = some (.string z) := by
          have := congrArg (·[0]?) hc
          simpa [List.getElem?_take, List.getElem?_drop] using this
        have h2 : (xs.map (·.1))[i]? = some (DataW.lit (.string z.data.toList) : DataW H) := by simp [hb]
        rw [hxs] at h2
        simp only [List.getElem?_map, Option.map_eq_some_iff, DataW.lit.injEq, Lit.string.injEq] at h2
        obtain ⟨z', hz', rfl⟩ := h2
        simp [h1, hz']
      · rw [List.getElem?_eq_none (by omega), List.getElem?_eq_none (by simp; omega)]
    · cases h
theorem door_met (os : Os) (args : Array Value) : laidMetH Tryz.prog laidList ((World.doorLaid Tryz.prog 400 os).forCall (fun _ _ => 0) ⟨#[], args, []⟩).memory :=
  laidMetH_of_parts (laidMet_of_run' 8 (by kernel_rfl) (by kernel_rfl)) (by kernel_rfl)
theorem var_blk {P : Program} {w : World} {name : String} {g : Nat} {cs : Array Value} (hg : P.globalNamed name = some g) (hv : w.var? P name = some cs) : ∃ t fr, w.heap[g]? = some (.cells cs t fr) := by
  unfold World.var? at hv
  rw [hg] at hv
  simp only [Option.bind_some] at hv
  split at hv
  · rename_i cs' t' fr' hh
    obtain rfl := Option.some.inj hv
    exact ⟨t', fr', hh⟩
  · cases hv
theorem env_of_laid {W : World} (h : laidMetH Tryz.prog laidList W) : Env W := by
  have h' : laidMet Tryz.prog [("math/bits.deBruijn32tab", Rows.laid_math_bits_deBruijn32tab), ("math/bits.deBruijn64tab", Rows.laid_math_bits_deBruijn64tab), ("internal/strconv.uint64pow10", Rows.laid_internal_strconv_uint64pow10), ("strconv.ErrRange", Rows.laid_strconv_ErrRange), ("strconv.ErrSyntax", Rows.laid_strconv_ErrSyntax), ("quintet/syntax.actionWords", Rows.laid_quintet_syntax_actionWords), ("quintet/syntax.commandWords", Rows.laid_quintet_syntax_commandWords)] W ∧ handlesMet Tryz.prog [("errors.errorType", Rows.laid_errors_errorType)] W := h
  obtain ⟨h1, h2⟩ := h'
  obtain ⟨ps, ⟨_, _, _, _, _, _, _, _, _, _, ⟨_, _, _, _, _, _, _, _, _, _, ⟨gp, tp, csp, fuelp, pp, qp, hgp, htp, hvp, hdp, ⟨ge, te, cse, fuele, pe, qe, hge, hte, hve, hde, ⟨_, _, _, _, _, _, _, _, _, _, ⟨ga, ta, csa, fuela, pa, qa, hga, hta, hva, hda, ⟨gc, tc, csc, fuelc, pc, qc, hgc, htc, hvc, hdc, _, _⟩, _⟩, _⟩, _⟩, _⟩, _⟩, _⟩, _⟩ := h1
  obtain rfl := Option.some.inj (gPow.symm.trans hgp)
  obtain rfl := Option.some.inj (tPow.symm.trans htp)
  obtain rfl := Option.some.inj (gErr.symm.trans hge)
  obtain rfl := Option.some.inj (tErr.symm.trans hte)
  obtain rfl := Option.some.inj (gAct.symm.trans hga)
  obtain rfl := Option.some.inj (tAct.symm.trans hta)
  obtain rfl := Option.some.inj (gCmd.symm.trans hgc)
  obtain rfl := Option.some.inj (tCmd.symm.trans htc)
  have hd' : DataW.trod _ Tryz.prog W 0 _ false fuelp 187 csp.toList = some (Lib.tabData .u64 pows, pp) := hdp
  have hcs := Lib.cells_of_tab Tryz.underlying187 Tryz.underlying129 cU64 cPow hd'
  refine ⟨⟨?_, ?_, ?_⟩, ?_, ?_, ?_⟩
  · obtain ⟨name, u, ty, e1, e2, e3, e4, e5⟩ := h2 _ (List.mem_singleton.2 rfl)
    have en : name = [101, 114, 114, 111, 114] := (Option.some.inj e1).symm
    subst en
    obtain rfl := Option.some.inj (rtHnd.symm.trans e2)
    have hm : ty ∈ (List.range 233).filter fun t => Tryz.prog.rowNamed t [101, 114, 114, 111, 114] := List.mem_filter.2 ⟨List.mem_range.2 (by rw [← szHnd]; exact e3), e4⟩
    rw [rowHnd] at hm
    obtain rfl := List.mem_singleton.1 hm
    have hh : typeHandle Tryz.prog 25 = .pointer (some ⟨9, 25, none⟩) := by kernel_rfl
    rw [hh] at e5
    simpa using World.var?_cell gHnd e5 0
  · obtain ⟨f1, u, v, hcs, _, _⟩ := iface_of_trod Tryz.underlying25 hde
    refine ⟨u, v, ?_⟩
    have := World.var?_cell hge hve 0
    rw [Array.eq_one_of_toList hcs] at this
    simpa using this
  · have hT : Lib.TabIs Tryz.prog W "internal/strconv.uint64pow10" .u64 pows := by
      unfold Lib.TabIs
      rw [hvp, ← hcs]
    intro x hx
    rw [← pows_at x hx]
    exact hT.cell gPow x hx
  · obtain ⟨t, fr, hb⟩ := var_blk gPow hvp
    refine ⟨t, fr, ?_⟩
    rw [hb, ← pows_is, ← hcs]
  · obtain ⟨t, fr, hb⟩ := var_blk gAct hva
    have hda' : DataW.trod _ Tryz.prog W 0 _ false fuela 105 csa.toList = some (.agg ([[], [100, 101, 110, 121], [112, 101, 114, 109, 105, 116], [108, 111, 103], [113, 117, 101, 117, 101]].map fun z => .lit (.string z)), pa) := hda
    have hc := cells_of_texts Tryz.underlying105 Tryz.underlying9 cStr cAct hda'
    have hc' : csa = #[.string (aW 0), .string (aW 1), .string (aW 2), .string (aW 3), .string (aW 4)] := Array.toList_inj.1 hc
    rw [hc'] at hb
    exact ⟨(t, fr), hb⟩
  · obtain ⟨t, fr, hb⟩ := var_blk gCmd hvc
    have hda' : DataW.trod _ Tryz.prog W 0 _ false fuelc 94 csc.toList = some (.agg (((List.range 11).map cmdW).map fun z => .lit (.string z)), pc) := hdc
    have hc := cells_of_texts Tryz.underlying94 Tryz.underlying9 cStr cCmd hda'
    have hc' : csc = #[.string (cW 0), .string (cW 1), .string (cW 2), .string (cW 3), .string (cW 4), .string (cW 5), .string (cW 6), .string (cW 7), .string (cW 8), .string (cW 9), .string (cW 10)] := Array.toList_inj.1 hc
    rw [hc'] at hb
    exact ⟨(t, fr), hb⟩
end Go.Proofs.YtehedlgdencboabGreatDoor
