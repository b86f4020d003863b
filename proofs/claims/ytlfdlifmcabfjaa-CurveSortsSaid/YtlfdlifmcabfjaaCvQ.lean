/-
  Sort of curve.
-/
import Derived.Test.YtlfdlifmcabfjaaCvT
namespace Go.Proofs.Ytlfdlifmcabfjaa
open Go.RowKit Go.Sort
set_option linter.unusedVariables false
set_option linter.unusedSimpArgs false

/-- A row of numbers. -/
def arrI (n : Nat) (f : Nat → Int) : Array Value := ((List.range n).map fun k => Value.int .i64 (f k)).toArray
theorem arrI_at {n k : Nat} {f : Nat → Int} (h : k < n) : (arrI n f)[k]? = some (.int .i64 (f k)) := by simp [arrI, h]
theorem arrI_set {n i : Nat} {f : Nat → Int} {u : Int} : (arrI n f).setIfInBounds i (.int .i64 u) = arrI n (fun k => if k = i then u else f k) := by
  apply Array.ext_getElem?
  intro k
  rw [Array.getElem?_setIfInBounds]
  by_cases hk : k < n
  · by_cases e : i = k
    · subst e; rw [if_pos rfl, if_pos (by simpa [arrI] using hk), arrI_at hk, if_pos rfl]
    · rw [if_neg e, arrI_at hk, arrI_at hk, if_neg (Ne.symm e)]
  · have h1 : (arrI n fun k => if k = i then u else f k)[k]? = none := Array.getElem?_eq_none (by simp [arrI]; omega)
    have h2 : (arrI n f)[k]? = none := Array.getElem?_eq_none (by simp [arrI]; omega)
    rw [h1, h2]
    by_cases e : i = k
    · subst e; rw [if_pos rfl, if_neg (by simp [arrI]; omega)]
    · rw [if_neg e]
theorem arrI_congr {n : Nat} {f g : Nat → Int} (h : ∀ k, k < n → f k = g k) : arrI n f = arrI n g := by
  unfold arrI
  congr 1
  apply List.map_congr_left
  intro k hk
  rw [h k (List.mem_range.1 hk)]
theorem madeI (n : Nat) : madeCells #[.int .i64 0] n = arrI n (fun _ => 0) := by
  apply Array.toList_inj.1
  rw [toList_madeCells_one]
  simp [arrI, List.map_const']
theorem wpList_load_mid {P : Program} {ops : Array Oper} {rest : List Oper} {op : Oper} {a : Act} {w : World} {Q : Exit → Act → World → Prop} (hgd : op.guard = none) (ty : TypeId) (x : Operand) (ho : op.op = .load ty x)
    (B o : Nat) (cs : Array Value) (hx : a.eval x = .pointer (some ⟨B, o, none⟩)) (h : w.rangeAt B o cs.toList) {d : TypeDesc} (hu : P.underlying ty = some d) (hd : d.isRow = true) (hi : (P.info? ty).map (·.size) = some cs.size)
    (hk : wpList P ops Q rest (a.put op.dst (.agg cs)) w) : wpList P ops Q (op :: rest) a w := by
  refine wpList_plain hgd fun K hK => ?_
  have hl := run_loadVar_mid (P := P) w B o ty cs.toList d h hu hd (by simpa using hi)
  unfold Oper.wp execOp
  simp only [ho, hx, Instr.loadAt, Instr.sureAddr, Sem.run_bind, Sem.run_pure, Result.andThen_ok, hl]
  exact hK _ _ hk
theorem fill12 {E : Array Value} (h : E.size = 12) : (#[.int .i64 0, .int .u32 0, .int .i64 0, .int .u32 0, .int .i64 0, .int .u16 0, .int .u16 0, .int .u16 0, .int .u16 0, .int .u8 0, .int .u8 0, .int .i64 0] : Array Value).toList.take 0 ++ E.toList ++ (#[.int .i64 0, .int .u32 0, .int .i64 0, .int .u32 0, .int .i64 0, .int .u16 0, .int .u16 0, .int .u16 0, .int .u16 0, .int .u8 0, .int .u8 0, .int .i64 0] : Array Value).toList.drop (0 + E.size) = E.toList := by
  rw [h]; simp
theorem infoI : (Try.prog.info? 3).map (fun i => (i.zero, i.size, i.bytes)) = some (some (.int .i64 0), 1, 8) := by kernel_rfl
/-- The keys of the places. -/
def ksL (L : List Ru) (x : Int) : Int := keyR (L.getD x.toNat ruZ)
/-- What stands while the rows are filled. -/
structure Sx (w : World) (L : List Ru) (n i : Nat) (V : World) : Prop where
  p : V.heap[w.heap.size]? = some (.cells (arrI n (fun k => if k < i then (k : Int) else 0)) 3)
  a : V.heap[w.heap.size + 1]? = some (.cells (arrI n (fun k => if k < i then ksL L (k : Int) else 0)) 3)
  b : V.heap[w.heap.size + 1 + 1]? = some (.cells #[.slice (some ⟨w.heap.size + 1, 0, none⟩) n n] 46)
  bl : Below w.heap.size w V
theorem Sx.on {w V V' : World} {L : List Ru} {n i : Nat} (h : Sx w L n i V) (hb : Below V.heap.size V V') : Sx w L n i V' := ⟨blk_on h.p hb, blk_on h.a hb, blk_on h.b hb, h.bl.trans (hb.mono h.bl.size)⟩
set_option maxRecDepth 20000 in
set_option maxHeartbeats 8000000 in
theorem sortC (v : Value) (L : List Ru) (w : World) (hs : SrcU w v L) (hl : L.length ≤ 2000) (bd : ∀ R ∈ L, R.s < 4294967296 ∧ R.d < 4294967296) :
    Calls Try.prog 19 #[v] w fun e w' => ∃ d' : Array Int, e = .returned (.slice (some ⟨w.heap.size, 0, none⟩) L.length L.length) ∧ d'.size = L.length ∧ (∀ k, k < L.length → w'.cell? ⟨w.heap.size, k, none⟩ = some (.int .i64 d'[k]!)) ∧ (∀ i, i < L.length → ∃ j, j < L.length ∧ d'[i]! = (j : Int)) ∧ (∀ i, i < L.length → ∃ j, j < L.length ∧ (i : Int) = d'[j]!) ∧ So (ksL L) d' 0 L.length ∧ Below w.heap.size w w' := by
  have HS : Hid (SrcU w v L) := hs
  have HBd : Hid (∀ R ∈ L, R.s < 4294967296 ∧ R.d < 4294967296) := bd
  obtain ⟨ad, cap, rfl, hcap, hat⟩ := hs
  obtain ⟨n, hn⟩ : ∃ n, n = L.length := ⟨_, rfl⟩
  rw [← hn] at hl hcap ⊢
  have Hn : Hid (n = L.length) := hn
  obtain ⟨i0, hi, hz0, hz1, hz2⟩ := info_parts infoI
  have hmk := fun W => run_make (P := Try.prog) W 46 3 i0 _ Try.underlying46 hi hz0 .i64 .i64 (n : Int) (n : Int) (by omega) (Int.le_refl _) (by rw [hz2]; omega) (by omega)
  simp only [hz1, Int.toNat_natCast, Nat.mul_one, Value.cells, madeI] at hmk
  have bA : Below w.heap.size w (((w.alloc (.cells (arrI n (fun _ => 0)) 3)).alloc (.cells (arrI n (fun _ => 0)) 3)).alloc (.cells #[.slice (some ⟨w.heap.size + 1, 0, none⟩) n n] 46)) := (((Below.refl _ _).alloc (Nat.le_refl _) _).alloc (by simp) _).alloc (by simp; omega) _
  have e0 : ∀ f : Nat → Int, arrI n (fun k => if k < 0 then f k else 0) = arrI n (fun _ => 0) := fun f => arrI_congr (fun k _ => by rw [if_neg (by omega)])
  have HX0 : Hid (Sx w L n 0 (((w.alloc (.cells (arrI n (fun _ => 0)) 3)).alloc (.cells (arrI n (fun _ => 0)) 3)).alloc (.cells #[.slice (some ⟨w.heap.size + 1, 0, none⟩) n n] 46))) :=
    ⟨by rw [e0]; exact blk_alloc (blk_alloc (blk_new w _) _) _, by rw [e0]; exact blk_alloc (by simpa using blk_new (w.alloc (.cells (arrI n (fun _ => 0)) 3)) (.cells (arrI n (fun _ => 0)) 3)) _, by simpa using blk_new ((w.alloc (.cells (arrI n (fun _ => 0)) 3)).alloc (.cells (arrI n (fun _ => 0)) 3)) (.cells #[.slice (some ⟨w.heap.size + 1, 0, none⟩) n n] 46), bA⟩
  clear bA e0 hat hn hi hz0 hz1 hz2
  have hn0 : (n : Int) ≤ 2000 := by omega
  generalize hZ0 : arrI n (fun _ => 0) = Z0 at *
  go_enter Try.func19, Try.ntmps19
  go_upto_region 4 with (fail)
  clear hmk hZ0
  go_loopw [15] (fun vi wr => ∃ i : Nat, i ≤ n ∧ vi = .int .i64 (i : Int) ∧ Hid (Sx w L n i wr)) (fun vi _ => n - (intOf vi).toNat)
  case atStart => exact ⟨0, Nat.zero_le _, rfl, HX0.out⟩
  case round =>
    obtain ⟨i, hi, rfl, hx⟩ := hrel
    clear HX0
    by_cases hlt : i < n
    · have hlti : (i : Int) < (n : Int) := by omega
      have hltL : i < L.length := by rw [← Hn.out]; exact hlt
      obtain ⟨p, hp⟩ : ∃ p, p = L[i]'hltL := ⟨_, rfl⟩
      obtain ⟨b1, b2⟩ := HBd.out p (by rw [hp]; exact List.getElem_mem hltL)
      have hrg := (HS.out.keep hx.out.bl).rng.2 wr (Below.refl _ _) i hltL
      rw [← hp] at hrg
      obtain ⟨g, off, rfl, hrg⟩ := hrg
      have hkey : keyR p = ksL L (i : Int) := by unfold ksL; rw [Int.toNat_natCast, List.getD_eq_getElem?_getD, List.getElem?_eq_getElem hltL, hp]; rfl
      have hPt : ∀ W, Calls Try.prog 22 #[.agg (encU p).toArray] W _ := fun W => pointC p b1 b2 W
      have hPc := fun W => placeP p b1 b2 W
      obtain ⟨kv, hkv⟩ : ∃ kv, kv = keyR p := ⟨_, rfl⟩
      rw [← hkv] at hPc hkey
      have Hkv : Hid (kv = ksL L (i : Int)) := hkey
      have hrg' : wr.rangeAt g (off + i * 12) (encU p).toArray.toList := hrg
      have h1c : (encU p).toArray.toList.all (·.oneCell') = true := by simp [encU, Value.oneCell']
      have hsz : (encU p).toArray.size = 12 := by simp [encU]
      clear hrg hp hkey hkv b1 b2
      generalize (encU p).toArray = A at *
      generalize CX (ptR p).1 (ptR p).2 = cz at *
      have hiA : (Try.prog.info? 60).map (·.size) = some A.size := by rw [hsz]; exact infoXU
      have HF := fill12 hsz
      have HF' : Hid _ := HF
      have Hi : Hid _ := hiA
      have Hsz : Hid _ := hsz
      have Hoc : Hid _ := h1c
      have Hrg : Hid _ := hrg'
      clear HF hiA hsz h1c hrg'
      have HZ : Hid ((wr.alloc (.cells #[.int .i64 0, .int .u32 0, .int .i64 0, .int .u32 0, .int .i64 0, .int .u16 0, .int .u16 0, .int .u16 0, .int .u16 0, .int .u8 0, .int .u8 0, .int .i64 0] 60)).heap[wr.heap.size]? = some (.cells #[.int .i64 0, .int .u32 0, .int .i64 0, .int .u32 0, .int .i64 0, .int .u16 0, .int .u16 0, .int .u16 0, .int .u16 0, .int .u8 0, .int .u8 0, .int .i64 0] 60)) := blk_new wr _
      go_upto_region 6 with (first | (refine wpList_load_mid rfl 60 (.tmp 18) rfl g (off + i * 12) A rfl Hrg.out Try.underlying60 rfl Hi.out ?_) | (refine wpList_store_blk rfl 60 (.tmp 6) (.tmp 19) rfl wr.heap.size 0 A A rfl rfl 60 _ HZ.out (by rw [Hsz.out]; decide) HF'.out Hi.out Hoc.out ?_; intro w2 hw2 ho2))
      have hb2 : Below wr.heap.size wr w2 := ((Below.refl _ _).alloc (Nat.le_refl _) _).trans (ho2.below (Nat.le_refl _))
      have hx2 := hx.out.on hb2
      have HX2 : Hid (w2.heap[wr.heap.size]? = some (.cells A 60)) := hw2
      have hzr : w.heap.size + 1 + 1 < wr.heap.size := blk_lt hx.out.b
      clear hw2 ho2 hb2 HZ Hrg HF' Hoc
      have cP := blk_cell hx2.p (arrI_at hlt)
      have fP := blk_free hx2.p i
      have HX3 : Hid ((w2.setCell ⟨w.heap.size, i, none⟩ (.int .i64 (i : Int))).heap[wr.heap.size]? = some (.cells A 60)) := blk_far HX2.out (by omega) _
      have HB3 : Hid ((w2.setCell ⟨w.heap.size, i, none⟩ (.int .i64 (i : Int))).heap[w.heap.size + 1 + 1]? = some (.cells #[.slice (some ⟨w.heap.size + 1, 0, none⟩) n n] 46)) := blk_far hx2.b (by omega) _
      have HA3 : Hid ((w2.setCell ⟨w.heap.size, i, none⟩ (.int .i64 (i : Int))).heap[w.heap.size + 1]? = some (.cells (arrI n (fun k => if k < i then ksL L (k : Int) else 0)) 3)) := blk_far hx2.a (by omega) _
      have HP3 : Hid ((w2.setCell ⟨w.heap.size, i, none⟩ (.int .i64 (i : Int))).heap[w.heap.size]? = some (.cells (arrI n (fun k => if k < i + 1 then (k : Int) else 0)) 3)) := by
        show _ = _
        have := blk_set hx2.p (j := i) (.int .i64 (i : Int))
        rw [arrI_set] at this
        rw [this]
        congr 2
        exact arrI_congr (fun k hk => by
          by_cases e : k = i
          · rw [if_pos e, if_pos (by omega), e]
          · rw [if_neg e]
            by_cases e2 : k < i
            · rw [if_pos e2, if_pos (by omega)]
            · rw [if_neg e2, if_neg (by omega)])
      have HB3' : Hid (Below w.heap.size w (w2.setCell ⟨w.heap.size, i, none⟩ (.int .i64 (i : Int)))) := hx2.bl.setCell (p := ⟨w.heap.size, i, none⟩) (Nat.le_refl _) _
      clear hx2 HX2 hx
      go_upto_region 7 with (fail)
      clear cP fP
      generalize w2.setCell ⟨w.heap.size, i, none⟩ _ = w3 at *
      have cB := blk_cell HB3.out (j := 0) rfl
      have hrX : w3.rangeAt wr.heap.size 0 A.toList := by
        have := World.rangeAt_of_block HX3.out 0 12
        have e : A.extract 0 (0 + 12) = A := by rw [Nat.zero_add, ← Hsz.out]; exact Array.extract_size
        rwa [e] at this
      have hix : ∀ W, (Instr.indexAt 46 (.slice (some ⟨w.heap.size + 1, 0, none⟩) n n) (.int .i64 (i : Int))).run Try.prog W = .ok (.pointer (some ⟨w.heap.size + 1, i, none⟩)) W := fun W => by simp [Instr.indexAt, go_sem, hlti]; omega
      refine wp_region_held_drew (S := fun w' => w'.cell? ⟨w.heap.size + 1 + 1, 0, none⟩ = some (.slice (some ⟨w.heap.size + 1, 0, none⟩) n n) ∧ w'.rangeAt wr.heap.size 0 A.toList) (by kernel_rfl) ⟨cB, hrX⟩ (fun hS0 => ?_)
      show wpAnyH _ _ _ _ _ 10 _ _ _
      refine wpAnyH_take (i := 0) (v := .slice (some ⟨w.heap.size + 1, 0, none⟩) n n) rfl (by kernel_rfl) (by kernel_rfl) (by kernel_rfl) (fun _ _ _ h => h) (.inl ⟨rfl, fun w' hw' => by have hcc := hw'.1; simp [execOp, go_sem, hcc]⟩) hS0 ?_
      simp only [List.getElem_toArray, List.getElem_cons_succ, List.getElem_cons_zero, Act.put, List.setIfInBounds_toArray, List.set_cons_zero, List.set_cons_succ]
      refine wpAnyH_take (i := 1) (v := .int .i64 (i : Int)) rfl (by kernel_rfl) (by kernel_rfl) (by kernel_rfl) (fun _ _ _ h => h) (.inl ⟨rfl, fun _ _ => by simp [execOp, go_sem]⟩) hS0 ?_
      simp only [List.getElem_toArray, List.getElem_cons_succ, List.getElem_cons_zero, Act.put, List.setIfInBounds_toArray, List.set_cons_zero, List.set_cons_succ]
      refine wpAnyH_take (i := 2) (v := .agg A) rfl (by kernel_rfl) (by kernel_rfl) (by kernel_rfl) (fun _ _ _ h => h) (yieldsIf_load_mid rfl 60 (.tmp 6) rfl wr.heap.size 0 rfl A.toList _ (fun w' hw' => hw'.2) Try.underlying60 rfl (by rw [Array.length_toList]; exact Hi.out)) hS0 ?_
      simp only [List.getElem_toArray, List.getElem_cons_succ, List.getElem_cons_zero, Act.put, List.setIfInBounds_toArray, List.set_cons_zero, List.set_cons_succ]
      refine wpAnyH_all (rs := [3]) (by kernel_rfl) (by simp) ?_
      intro i hi
      simp only [List.mem_cons, List.not_mem_nil, or_false] at hi
      subst hi
      refine wpOp_of_wp rfl rfl (fun K' hK' => ?_)
      go_wp2_with (fail)
      refine (hPt _).mono ?_
      rintro e w4 ⟨rfl, hb4⟩
      have hb4' : Below w3.heap.size w3 w4 := (Below.drew (Below.refl _ _)).trans hb4
      have hS4 : w4.cell? ⟨w.heap.size + 1 + 1, 0, none⟩ = some (.slice (some ⟨w.heap.size + 1, 0, none⟩) n n) ∧ w4.rangeAt wr.heap.size 0 A.toList := ⟨cell_on1 hb4' cB, range_on hb4' hrX⟩
      refine hK' _ _ ⟨hS4, ?_⟩
      clear hK'
      first | simp only [List.getElem_toArray, List.getElem_cons_succ, List.getElem_cons_zero, Act.put, List.setIfInBounds_toArray, List.set_cons_zero, List.set_cons_succ] | skip
      refine wpAnyH_all (rs := [4]) (by kernel_rfl) (by simp) ?_
      intro i hi
      simp only [List.mem_cons, List.not_mem_nil, or_false] at hi
      subst hi
      refine wpOp_of_wp rfl rfl (fun K' hK' => ?_)
      go_wp2_with (fail)
      refine (hPc _).mono ?_
      rintro e w9 ⟨rfl, hw9⟩
      obtain rfl := hw9.symm
      clear hw9
      refine hK' _ _ ⟨hS4, ?_⟩
      clear hK'
      first | simp only [List.getElem_toArray, List.getElem_cons_succ, List.getElem_cons_zero, Act.put, List.setIfInBounds_toArray, List.set_cons_zero, List.set_cons_succ] | skip
      refine wpAnyH_take (i := 5) (v := .tuple #[.int .i64 kv, .int .i64 0]) rfl (by kernel_rfl) (by kernel_rfl) (by kernel_rfl) (fun _ _ _ h => h) (.inl ⟨rfl, fun _ _ => by simp [execOp, go_sem]⟩) hS4 ?_
      simp only [List.getElem_toArray, List.getElem_cons_succ, List.getElem_cons_zero, Act.put, List.setIfInBounds_toArray, List.set_cons_zero, List.set_cons_succ]
      refine wpAnyH_take (i := 6) (v := .int .i64 kv) rfl (by kernel_rfl) (by kernel_rfl) (by kernel_rfl) (fun _ _ _ h => h) (.inl ⟨rfl, fun _ _ => by simp [execOp, go_sem]⟩) hS4 ?_
      simp only [List.getElem_toArray, List.getElem_cons_succ, List.getElem_cons_zero, Act.put, List.setIfInBounds_toArray, List.set_cons_zero, List.set_cons_succ]
      refine wpAnyH_take (i := 7) (v := .int .i64 0) rfl (by kernel_rfl) (by kernel_rfl) (by kernel_rfl) (fun _ _ _ h => h) (.inl ⟨rfl, fun _ _ => by simp [execOp, go_sem]⟩) hS4 ?_
      simp only [List.getElem_toArray, List.getElem_cons_succ, List.getElem_cons_zero, Act.put, List.setIfInBounds_toArray, List.set_cons_zero, List.set_cons_succ]
      refine wpAnyH_take (i := 8) (v := .pointer (some ⟨w.heap.size + 1, i, none⟩)) rfl (by kernel_rfl) (by kernel_rfl) (by kernel_rfl) (fun _ _ _ h => h) (yieldsIf_index rfl 46 (.tmp 25) (.tmp 26) rfl _ (fun W => hix W)) hS4 ?_
      simp only [List.getElem_toArray, List.getElem_cons_succ, List.getElem_cons_zero, Act.put, List.setIfInBounds_toArray, List.set_cons_zero, List.set_cons_succ]
      refine wpAnyH_all (rs := [9]) (by kernel_rfl) (by simp) ?_
      intro i hi
      simp only [List.mem_cons, List.not_mem_nil, or_false] at hi
      subst hi
      refine wpOp_of_wp rfl rfl (fun K' hK' => ?_)
      have HA4 : Hid (w4.heap[w.heap.size + 1]? = some (.cells (arrI n (fun k => if k < i then ksL L (k : Int) else 0)) 3)) := blk_on HA3.out hb4'
      have cA := blk_cell HA4.out (arrI_at hlt)
      have rng9 : (w4.setCell ⟨w.heap.size + 1, i, none⟩ (.int .i64 kv)).rangeAt wr.heap.size 0 A.toList := by
        have := World.rangeAt_of_block (blk_far (blk_on HX3.out hb4') (j := i) (B := w.heap.size + 1) (by show wr.heap.size ≠ w.heap.size + 1; omega) (.int .i64 kv)) 0 12
        have e : A.extract 0 (0 + 12) = A := by rw [Nat.zero_add, ← Hsz.out]; exact Array.extract_size
        rwa [e] at this
      have fA := blk_free HA4.out i
      go_wp2_with (fail)
      refine ⟨⟨blk_cell (blk_far (blk_on HB3.out hb4') (by omega) _) (j := 0) rfl, rng9⟩, ?_⟩
      refine wpAnyH_done (by kernel_rfl) ?_ _
      have HF9 : Hid (Sx w L n (i + 1) (w4.setCell ⟨w.heap.size + 1, i, none⟩ (.int .i64 kv))) := by
        refine ⟨blk_far (blk_on HP3.out hb4') (by omega) _, ?_, blk_far (blk_on HB3.out hb4') (by omega) _, (HB3'.out.trans (hb4'.mono HB3'.out.size)).setCell (p := ⟨w.heap.size + 1, i, none⟩) (by show w.heap.size ≤ w.heap.size + 1; omega) _⟩
        have := blk_set HA4.out (j := i) (.int .i64 kv)
        rw [arrI_set, Hkv.out] at this
        rw [Hkv.out, this]
        congr 2
        exact arrI_congr (fun k hk => by
          by_cases e : k = i
          · rw [if_pos e, if_pos (by omega), e]
          · rw [if_neg e]
            by_cases e2 : k < i
            · rw [if_pos e2, if_pos (by omega)]
            · rw [if_neg e2, if_neg (by omega)])
      clear hS4 hS0 hb4 hb4' HA4 cA fA cB hrX HX3 HB3 HA3 HP3 HB3' hPt hPc
      go_wp2_with (fail)
      go_roundw
      case rel => exact ⟨i + 1, by omega, by go_num, HF9.out⟩
      case measure => simp [intOf]; omega
    · obtain rfl : i = n := by omega
      have hni : ¬ (i : Int) < (i : Int) := by omega
      obtain ⟨d0, hd0⟩ : ∃ d0 : Array Int, d0 = ((List.range i).map fun k : Nat => (k : Int)).toArray := ⟨_, rfl⟩
      have hsz0 : d0.size = i := by rw [hd0]; simp
      have hid0 : ∀ k, k < i → d0[k]! = (k : Int) := fun k hk => by rw [hd0, getElem!_pos _ k (by simpa using hk)]; simp
      have hH : Holds eI wr w.heap.size 0 d0 := fun j hj => by
        rw [hsz0] at hj
        have h1 := blk_cell hx.out.p (arrI_at hj)
        rw [if_pos hj] at h1
        exact ⟨by rw [Nat.zero_add, hid0 j hj]; exact h1, by rw [Nat.zero_add]; exact blk_free hx.out.p j⟩
      have hAl : Al wr (w.heap.size + 1 + 1) (w.heap.size + 1) d0.size (ksL L) := ⟨by rw [hsz0]; exact hx.out.b, fun k hk => by
        rw [hsz0] at hk
        have h1 := blk_cell hx.out.a (arrI_at hk)
        rw [if_pos hk] at h1
        exact h1⟩
      have S := sortStableC w.heap.size i (w.heap.size + 1 + 1) (w.heap.size + 1) (ksL L) d0 wr hH hAl (by omega) (by omega) (by omega) (fun k hk => hid0 k (by rw [← hsz0]; exact hk))
      rw [hsz0] at S
      have HH : Hid (Holds eI wr w.heap.size 0 d0) := hH
      have HI0 : Hid (∀ k, k < i → d0[k]! = (k : Int)) := hid0
      have HZ0 : Hid (d0.size = i) := hsz0
      clear hd0 hsz0 hid0 hH hAl
      go_wp2_with (fail)
      refine S.mono ?_
      rintro e w' ⟨rfl, q, d', hw', hs', ho'⟩
      have HE : Hid (w' = putRow eI (Sort.ahead wr q) w.heap.size 0 d' ∧ Sm 0 i d0 d' ∧ So (ksL L) d' 0 i) := ⟨hw', hs', ho'⟩
      clear S hw' hs' ho'
      go_wp2_with (fail)
      go_ret
      obtain ⟨hw', hs', ho'⟩ := HE.out
      have hz' : d'.size = d0.size := hs'.1
      refine ⟨d', rfl, by rw [hz']; exact HZ0.out, fun k hk => ?_, fun k hk => ?_, fun k hk => ?_, ho', ?_⟩
      · rw [hw']
        have := cell?_putRow eI (Sort.ahead wr q) w.heap.size 0 d0 d' (holds_ahead _ _ _ _ _ _ HH.out) hz' k (by rw [hz', HZ0.out]; exact hk)
        rw [Nat.zero_add] at this
        exact this
      · obtain ⟨j, _, j2, j3⟩ := hs'.2.2.1 k (Nat.zero_le _) hk
        exact ⟨j, j2, by rw [j3]; exact HI0.out j j2⟩
      · obtain ⟨j, _, j2, j3⟩ := hs'.2.2.2 k (Nat.zero_le _) hk
        exact ⟨j, j2, by rw [← j3]; exact (HI0.out k hk).symm⟩
      · rw [hw']
        exact ⟨hx.out.bl.os, hx.out.bl.tape, hx.out.bl.output, by rw [size_putRow]; exact hx.out.bl.size, fun k hk => by rw [pr_other wr q w.heap.size 0 d' k (by omega)]; exact hx.out.bl.block k hk⟩
end Go.Proofs.Ytlfdlifmcabfjaa
