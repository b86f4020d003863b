/-
  Loops over an iterator of entries; Longest.
-/
import Derived.Test.YtfbkjghipahipaaTrW
namespace Go.Proofs.Ytfbkjghipahipaa
open Go.RowKit Go.Shelf
set_option linter.unusedVariables false
set_option linter.unusedSimpArgs false
attribute [local go_sem] Oper.semAt_some

/-- A loop over an iterator of entries at the top: handed in slot s, laid in a block that slot d shows. -/
theorem itr_top (s d : Nat) (U : World → Nat → Prop) {gf : Nat} {g : Operand} {assign body : Code} {Q : Exit → Act → World → Prop} {a : Act} {w : World} {lb : Array Value} (hU : Stab w.heap.size U) (hUw : ∀ k, U w k → k < w.heap.size) (hg : a.eval g = .func (.func gf) #[] lb)
    {P : Nat → Prop} {D : List En} (hseq : Itr gf lb P D w)
    (I : List En → World → Prop) (Ix : Code → List En → World → Prop) (hI : OwnFrom w.heap.size I) (hIx : ∀ c, OwnFrom w.heap.size (Ix c)) (h0 : I [] w)
    (hassign : ∀ (l : Nat) (x : En) (V : World) (K : Act → World → Prop),
      (K { tmps := (a.tmps.setIfInBounds s (.agg #[.int .u32 (x.k : Int), .int .i64 (x.n : Int), .int .i64 x.v])).setIfInBounds d (.pointer (some ⟨V.heap.size, 0, none⟩)), defers := [] } (V.alloc (.cells #[.int .u32 (x.k : Int), .int .i64 (x.n : Int), .int .i64 x.v] 45))) →
      assign.wpIn (Fence.wide.inRound l) 7 Try.prog (Exit.then K (fun _ _ _ => False)) { tmps := a.tmps.setIfInBounds s (.agg #[.int .u32 (x.k : Int), .int .i64 (x.n : Int), .int .i64 x.v]), defers := [] } V)
    (hbody : ∀ (l : Nat) (pre : List En) (x : En) (b : Nat) (V : World), w.heap.size ≤ l → (∃ r, V.heap[l]? = some (.loop r)) → w.heap.size ≤ V.heap.size → w.heap.size ≤ b → V.heap[b]? = some (.cells #[.int .u32 (x.k : Int), .int .i64 (x.n : Int), .int .i64 x.v] 45) → I pre V → pre.length ≤ 1048577 →
      body.wpIn (Fence.wide.inRound l) 7 Try.prog (ownPostU w.heap.size U (Kpt P) I Ix (pre ++ [x]) V) { tmps := (a.tmps.setIfInBounds s (.agg #[.int .u32 (x.k : Int), .int .i64 (x.n : Int), .int .i64 x.v])).setIfInBounds d (.pointer (some ⟨b, 0, none⟩)), defers := [] } V)
    (hdone : ∀ (C : Nat) (V : World), w.heap.size ≤ C → I D V → V.heap[C]? = some (.deferred (some [])) → Q .normal { a with defers := { target := .collected C, args := #[] } :: a.defers } V)
    (hstop : ∀ (C : Nat) (c : Code) (pre : List En) (V : World), w.heap.size ≤ C → pre <+: D → Ix c pre V → V.heap[C]? = some (.deferred (some [])) → c.wpIn Fence.wide 9 Try.prog Q { a with defers := { target := .collected C, args := #[] } :: a.defers } V) :
    (Code.rangeFunc g #[s] assign body).wpIn Fence.wide 9 Try.prog Q a w := by
  obtain ⟨eg, hP, N, hN, hN2, hs⟩ := hseq
  refine range_topX (F := Fence.wide) (n := 9) (nn := 7) U hU hUw rfl rfl hg trivial eg hs kpt_t (kpt_b hP) (Below.refl _ _) (fun _ => rfl) I Ix hI hIx h0
    (fun x a' V => ∃ b, w.heap.size ≤ b ∧ V.heap[b]? = some (.cells #[.int .u32 (x.k : Int), .int .i64 (x.n : Int), .int .i64 x.v] 45) ∧ a' = { tmps := (a.tmps.setIfInBounds s (.agg #[.int .u32 (x.k : Int), .int .i64 (x.n : Int), .int .i64 x.v])).setIfInBounds d (.pointer (some ⟨b, 0, none⟩)), defers := [] })
    ?_ ?_ ?_ (fun C xs V h1 h2 h3 h4 => hdone C V h1 (h2 ▸ h3) h4) hstop
  · rintro x a' _ A C row ⟨b, h1, h2, h3⟩ hg hr
    exact ⟨b, h1, blk_kept h2 hg (fun r e => (hr r e).2), h3⟩
  · intro l pre x V K hi hz hK
    have hfold : Array.foldl (fun (t : Array Value) (x : Nat × Value) => match x with | (p, v) => t.setIfInBounds p v) a.tmps ((#[s] : Array Nat).zip (encY x)) = a.tmps.setIfInBounds s (.agg #[.int .u32 (x.k : Int), .int .i64 (x.n : Int), .int .i64 x.v]) := by simp [encY]
    have hb : Below V.heap.size V (V.alloc (.cells #[.int .u32 (x.k : Int), .int .i64 (x.n : Int), .int .i64 x.v] 45)) := (Below.refl _ _).alloc (Nat.le_refl _) _
    have hgo := hassign l x V K (hK _ _ (RK.below hU hz hb) (kpt_on hP hz hb) (hI _ _ _ none hi (grown_of_below hb) (fun r e => by cases e)) ⟨_, hz, blk_new V _, rfl⟩)
    rw [← hfold] at hgo; exact hgo
  · rintro l pre x a' V hl hr hz hi ⟨b, h1, h2, rfl⟩ hN3
    exact hbody l pre x b V hl hr hz h1 h2 hi (by omega)
/-- The same within a round of another loop. -/
theorem itr_in (s d : Nat) (U : World → Nat → Prop) {gf l₀ : Nat} {g : Operand} {assign body : Code} {Q : Exit → Act → World → Prop} {a : Act} {w : World} {lb : Array Value} (hU : Stab w.heap.size U) (hUw : ∀ k, U w k → k < w.heap.size) (hl₀ : ∃ r, w.heap[l₀]? = some (.loop r)) (hg : a.eval g = .func (.func gf) #[] lb)
    {P : Nat → Prop} {D : List En} (hseq : Itr gf lb P D w)
    (I : List En → World → Prop) (Ix : Code → List En → World → Prop) (hI : OwnFrom w.heap.size I) (hIx : ∀ c, OwnFrom w.heap.size (Ix c)) (h0 : I [] w)
    (hassign : ∀ (l : Nat) (x : En) (V : World) (K : Act → World → Prop),
      (K { tmps := (a.tmps.setIfInBounds s (.agg #[.int .u32 (x.k : Int), .int .i64 (x.n : Int), .int .i64 x.v])).setIfInBounds d (.pointer (some ⟨V.heap.size, 0, none⟩)), defers := [] } (V.alloc (.cells #[.int .u32 (x.k : Int), .int .i64 (x.n : Int), .int .i64 x.v] 45))) →
      assign.wpIn (Fence.wide.inRound l) 7 Try.prog (Exit.then K (fun _ _ _ => False)) { tmps := a.tmps.setIfInBounds s (.agg #[.int .u32 (x.k : Int), .int .i64 (x.n : Int), .int .i64 x.v]), defers := [] } V)
    (hbody : ∀ (l : Nat) (pre : List En) (x : En) (b : Nat) (V : World), w.heap.size ≤ l → (∃ r, V.heap[l]? = some (.loop r)) → w.heap.size ≤ V.heap.size → w.heap.size ≤ b → V.heap[b]? = some (.cells #[.int .u32 (x.k : Int), .int .i64 (x.n : Int), .int .i64 x.v] 45) → I pre V → pre.length ≤ 1048577 →
      body.wpIn (Fence.wide.inRound l) 7 Try.prog (ownPostU w.heap.size U (Kpt P) I Ix (pre ++ [x]) V) { tmps := (a.tmps.setIfInBounds s (.agg #[.int .u32 (x.k : Int), .int .i64 (x.n : Int), .int .i64 x.v])).setIfInBounds d (.pointer (some ⟨b, 0, none⟩)), defers := [] } V)
    (hdone : ∀ (V : World), I D V → Q .normal a V)
    (hstop : ∀ (c : Code) (pre : List En) (V : World), pre <+: D → Ix c pre V → c.wpIn (Fence.wide.inRound l₀) 7 Try.prog Q a V) :
    (Code.rangeFunc g #[s] assign body).wpIn (Fence.wide.inRound l₀) 7 Try.prog Q a w := by
  obtain ⟨eg, hP, N, hN, hN2, hs⟩ := hseq
  obtain ⟨r₀, hl₀⟩ := hl₀
  refine range_inX (F := Fence.wide.inRound l₀) (n := 7) (nn := 7) (l₀ := l₀) U hU hUw rfl rfl hl₀ hg trivial eg hs kpt_t (kpt_b hP) (Below.refl _ _) (fun _ => rfl) I Ix hI hIx h0
    (fun x a' V => ∃ b, w.heap.size ≤ b ∧ V.heap[b]? = some (.cells #[.int .u32 (x.k : Int), .int .i64 (x.n : Int), .int .i64 x.v] 45) ∧ a' = { tmps := (a.tmps.setIfInBounds s (.agg #[.int .u32 (x.k : Int), .int .i64 (x.n : Int), .int .i64 x.v])).setIfInBounds d (.pointer (some ⟨b, 0, none⟩)), defers := [] })
    ?_ ?_ ?_ (fun xs V h2 h3 => hdone V (h2 ▸ h3)) hstop
  · rintro x a' _ A C row ⟨b, h1, h2, h3⟩ hg hr
    exact ⟨b, h1, blk_kept h2 hg (fun r e => (hr r e).2), h3⟩
  · intro l pre x V K hi hz hK
    have hfold : Array.foldl (fun (t : Array Value) (x : Nat × Value) => match x with | (p, v) => t.setIfInBounds p v) a.tmps ((#[s] : Array Nat).zip (encY x)) = a.tmps.setIfInBounds s (.agg #[.int .u32 (x.k : Int), .int .i64 (x.n : Int), .int .i64 x.v]) := by simp [encY]
    have hb : Below V.heap.size V (V.alloc (.cells #[.int .u32 (x.k : Int), .int .i64 (x.n : Int), .int .i64 x.v] 45)) := (Below.refl _ _).alloc (Nat.le_refl _) _
    have hgo := hassign l x V K (hK _ _ (RK.below hU hz hb) (kpt_on hP hz hb) (hI _ _ _ none hi (grown_of_below hb) (fun r e => by cases e)) ⟨_, hz, blk_new V _, rfl⟩)
    rw [← hfold] at hgo; exact hgo
  · rintro l pre x a' V hl hr hz hi ⟨b, h1, h2, rfl⟩ hN3
    exact hbody l pre x b V hl hr hz h1 h2 hi (by omega)
def enZ : En := ⟨0, 0, 0⟩
/-- The last of them, and whether there is one. -/
def lasE (l : List En) : En := l.getLast?.getD enZ
def anyE (l : List En) : Bool := !l.isEmpty
theorem capA_new (w : World) (t k : Nat) (n : Int) : CapA (((w.alloc (.cells #[.pointer (some ⟨t, 0, none⟩)] 23)).alloc (.cells #[.int .u32 (k : Int)] 33)).alloc (.cells #[.int .i64 n] 3)) w.heap.size (w.heap.size + 1) (w.heap.size + 1 + 1) t k n := by
  refine ⟨blk_alloc (blk_alloc (blk_new w _) _) _, ?_, ?_⟩
  · exact blk_alloc (by simpa using blk_new (w.alloc (.cells #[.pointer (some ⟨t, 0, none⟩)] 23)) (.cells #[.int .u32 (k : Int)] 33)) _
  · simpa using blk_new ((w.alloc (.cells #[.pointer (some ⟨t, 0, none⟩)] 23)).alloc (.cells #[.int .u32 (k : Int)] 33)) (.cells #[.int .i64 n] 3)
set_option maxHeartbeats 1000000 in
theorem long_nil (k : Nat) (w : World) : Calls Try.prog 14 #[.pointer none, .int .u32 (k : Int)] w fun e w' => e = .returned (.tuple #[.agg #[.int .u32 (enZ.k : Int), .int .i64 (enZ.n : Int), .int .i64 enZ.v], .bool false]) ∧ Below w.heap.size w w' := by
  have HB : Hid (Below w.heap.size w (w.alloc (.cells #[.int .u32 0, .int .i64 0, .int .i64 0] 45))) := (Below.refl _ _).alloc (Nat.le_refl _) _
  have hZZ := blk_new w (.cells #[.int .u32 0, .int .i64 0, .int .i64 0] 45)
  go_enter Try.func14, Try.ntmps14
  go_wp2_with (refine wpList_store_blk rfl 45 (.tmp 4) (.tmp 11) rfl w.heap.size 0 #[.int .u32 0, .int .i64 0, .int .i64 0] #[.int .u32 0, .int .i64 0, .int .i64 0] rfl rfl 45 _ hZZ (Nat.le_of_ble_eq_true rfl) rfl (by kernel_rfl) rfl ?_; intro w8 hw8 how8)
  exact bodyPost_ret (results_blk2 Try.results14 rfl hw8 Try.underlying45 rfl (by kernel_rfl)) rfl ⟨rfl, HB.out.trans (how8.below (Nat.le_refl _))⟩
/-- What stays while the keys are gone through. -/
def LI (w : World) (pre : List En) (V : World) : Prop := V.heap[w.heap.size]? = some (.cells #[.int .u32 (enZ.k : Int), .int .i64 (enZ.n : Int), .int .i64 enZ.v] 45) ∧ V.heap[w.heap.size + 1]? = some (.cells #[.int .u32 (((lasE pre)).k : Int), .int .i64 (((lasE pre)).n : Int), .int .i64 ((lasE pre)).v] 45) ∧ V.heap[w.heap.size + 1 + 1]? = some (.cells #[.bool (anyE pre)] 4) ∧ Below w.heap.size w V
theorem kpt_set {P : Nat → Prop} (V : World) (B j : Nat) (u : Value) (h : ¬ P B) : Kpt P V (V.setCell ⟨B, j, none⟩ u) := ⟨by simp, fun q hq => Below.heap_setCell V ⟨B, j, none⟩ u q (fun e => h (by simp only at e; exact e ▸ hq))⟩
theorem put4 (V : World) (B C : Nat) (hBC : B ≠ C) {a b c d : Value} (a' b' c' d' : Value) {T U : TypeId} (h1 : V.heap[B]? = some (.cells #[a, b, c] T (0, 0))) (h2 : V.heap[C]? = some (.cells #[d] U (0, 0))) (W : World)
    (hW : W = (((V.setCell ⟨B, 0, none⟩ a').setCell ⟨B, 1, none⟩ b').setCell ⟨B, 2, none⟩ c').setCell ⟨C, 0, none⟩ d') :
    W.heap[B]? = some (.cells #[a', b', c'] T (0, 0)) ∧ W.heap[C]? = some (.cells #[d'] U (0, 0)) ∧ (∀ n, n ≤ B → n ≤ C → Below n V W) ∧ (∀ n, B < n → C < n → RK n noU V W) ∧ ∀ P : Nat → Prop, ¬ P B → ¬ P C → Kpt P V W := by
  subst hW
  have q1 := blk_set h1 (j := 0) a'
  have q2 := blk_set q1 (j := 1) b'
  have q3 := blk_set q2 (j := 2) c'
  have p1 := blk_far h2 (Ne.symm hBC) (j := 0) a'
  have p2 := blk_far p1 (Ne.symm hBC) (j := 1) b'
  have p3 := blk_far p2 (Ne.symm hBC) (j := 2) c'
  refine ⟨by simpa using blk_far q3 hBC (j := 0) d', by simpa using blk_set p3 (j := 0) d', fun n hB hC => ?_, fun n hB hC => (((rk_set _ _ hB).trans (rk_set _ _ hB)).trans (rk_set _ _ hB)).trans (rk_set _ _ hC), fun P hB hC => kpt_t (kpt_t (kpt_t (kpt_set _ _ _ _ hB) (kpt_set _ _ _ _ hB)) (kpt_set _ _ _ _ hB)) (kpt_set _ _ _ _ hC)⟩
  exact Below.setCell (p := ⟨C, 0, none⟩) (Below.setCell (p := ⟨B, 2, none⟩) (Below.setCell (p := ⟨B, 1, none⟩) (Below.setCell (p := ⟨B, 0, none⟩) (Below.refl n V) hB _) hB _) hB _) hC _
theorem drew_blk {V : World} {B : Nat} {o : Obj} (h : V.heap[B]? = some o) : V.drew.heap[B]? = some o := h
theorem LI.on {w V V' : World} {pre : List En} (h : LI w pre V) (hb : Below V.heap.size V V') : LI w pre V' := ⟨blk_on h.1 hb, blk_on h.2.1 hb, blk_on h.2.2.1 hb, h.2.2.2.trans (hb.mono h.2.2.2.size)⟩
set_option maxRecDepth 100000 in
set_option maxHeartbeats 8000000 in
theorem longC (t : Nat) (v : Value) (W M : Nat) (L : List En) (ar k : Nat) (w : World) (hT : Tr w t v W M L ar) (hW : W ≤ 32) (hM : M ≤ 1048576) (hk : k < 4294967296) :
    Calls Try.prog 14 #[.pointer (some ⟨t, 0, none⟩), .int .u32 (k : Int)] w fun e w' => e = .returned (.tuple #[.agg #[.int .u32 (((lasE (abvD W L k W))).k : Int), .int .i64 (((lasE (abvD W L k W))).n : Int), .int .i64 ((lasE (abvD W L k W))).v], .bool (anyE (abvD W L k W))]) ∧ Below w.heap.size w w' := by
  have hbA : Below w.heap.size w (((w.alloc (.cells #[.int .u32 0, .int .i64 0, .int .i64 0] 45)).alloc (.cells #[.int .u32 0, .int .i64 0, .int .i64 0] 45)).alloc (.cells #[.bool false] 4)) := (((Below.refl _ _).alloc (Nat.le_refl _) _).alloc (by simp) _).alloc (by simp; omega) _
  have hL0 : LI w [] (((w.alloc (.cells #[.int .u32 0, .int .i64 0, .int .i64 0] 45)).alloc (.cells #[.int .u32 0, .int .i64 0, .int .i64 0] 45)).alloc (.cells #[.bool false] 4)) :=
    ⟨blk_alloc (blk_alloc (blk_new w _) _) _, blk_alloc (by simpa [lasE, enZ] using blk_new (w.alloc (.cells #[.int .u32 0, .int .i64 0, .int .i64 0] 45)) (.cells #[.int .u32 0, .int .i64 0, .int .i64 0] 45)) _, by simpa [anyE] using blk_new ((w.alloc (.cells #[.int .u32 0, .int .i64 0, .int .i64 0] 45)).alloc (.cells #[.int .u32 0, .int .i64 0, .int .i64 0] 45)) (.cells #[.bool false] 4), hbA⟩
  have hwd : Wid w t W := by obtain ⟨A, r, f, c, h1, _⟩ := hT; exact h1.wid
  have hw1 : (((w.alloc (.cells #[.int .u32 0, .int .i64 0, .int .i64 0] 45)).alloc (.cells #[.int .u32 0, .int .i64 0, .int .i64 0] 45)).alloc (.cells #[.bool false] 4)).cell? ⟨t, 0, none⟩ = some (.int .i64 (W : Int)) := cell_on1 hbA hwd
  have HT : Hid (Tr w t v W M L ar) := hT
  have hlt := hT.lt
  have hown : ∀ k, v.ownBlock = some k → k < w.heap.size := fun k e => hT.own e
  have HL0 : Hid (LI w [] (((w.alloc (.cells #[.int .u32 0, .int .i64 0, .int .i64 0] 45)).alloc (.cells #[.int .u32 0, .int .i64 0, .int .i64 0] 45)).alloc (.cells #[.bool false] 4))) := hL0
  clear hT hbA hL0 hwd
  refine callsIn_wide.1 (callsIn_of_wp_marks (n := 9) Try.func14 rfl trivial ?_ rfl)
  simp only [Try.ntmps14, List.size_toArray, List.length_cons, List.length_nil, Nat.reduceAdd, Nat.reduceSub, Array.replicate_succ, Array.replicate_zero, List.push_toArray, List.append_toArray, List.nil_append, List.cons_append]
  refine wpIn_wide.2 ?_
  go_wp2_with (fail)
  refine (aboveC (some ⟨t, 0, none⟩) k (W : Int) _).mono ?_
  rintro e w' ⟨rfl, hw⟩
  have hCp : CapA w' (w.heap.size + 1 + 1 + 1) (w.heap.size + 1 + 1 + 1 + 1) (w.heap.size + 1 + 1 + 1 + 1 + 1) t k W := by rw [hw]; have := capA_new (((w.alloc (.cells #[.int .u32 0, .int .i64 0, .int .i64 0] 45)).alloc (.cells #[.int .u32 0, .int .i64 0, .int .i64 0] 45)).alloc (.cells #[.bool false] 4)) t k W; simpa using this
  have hz0 : w'.heap.size = w.heap.size + 1 + 1 + 1 + 1 + 1 + 1 := by rw [hw]; simp
  have hbN : Below (((w.alloc (.cells #[.int .u32 0, .int .i64 0, .int .i64 0] 45)).alloc (.cells #[.int .u32 0, .int .i64 0, .int .i64 0] 45)).alloc (.cells #[.bool false] 4)).heap.size (((w.alloc (.cells #[.int .u32 0, .int .i64 0, .int .i64 0] 45)).alloc (.cells #[.int .u32 0, .int .i64 0, .int .i64 0] 45)).alloc (.cells #[.bool false] 4)) w' := by
    rw [hw]
    exact (((Below.refl _ _).alloc (Nat.le_refl _) _).alloc (by simp) _).alloc (by first | (simp; done) | (simp; omega)) _
  have HL : Hid (LI w [] w') := HL0.out.on hbN
  have HI : Hid (Itr 29 #[.pointer (some ⟨w.heap.size + 1 + 1 + 1, 0, none⟩), .pointer (some ⟨w.heap.size + 1 + 1 + 1 + 1, 0, none⟩), .pointer (some ⟨w.heap.size + 1 + 1 + 1 + 1 + 1, 0, none⟩)] (fun q => q = t ∨ v.ownBlock = some q ∨ (w.heap.size + 1 + 1 + 1 ≤ q ∧ q < w'.heap.size)) (abvD W L k W) w') :=
    itr_above t v W M L ar k W _ _ _ _ w' (HT.out.on HL.out.2.2.2) hW hM hk hCp (fun q hq => by
      rcases hq with rfl | hq | hq
      · omega
      · have := hown q hq; omega
      · exact hq.2) (.inl rfl) (.inr (.inr (by omega))) (.inr (.inr (by omega))) (.inr (.inr (by omega))) (fun q hq => .inr (.inl hq))
  clear hw hbN HL0 hCp HT hw1
  generalize w' = W0 at *
  simp only [World.size_alloc]
  go_wp2_with (fail)
  refine (wpIn_wide (n := 9)).1 ?_
  refine itr_top 19 8 noU (noU_stab _) (fun k h => h.elim) rfl HI.out (fun pre V => LI w pre V) (fun cc pre V => False) ?hI ?hIx ?h0 ?assign ?body ?done ?stop
  case hI =>
    rintro s X Y row ⟨a1, a2, a3, a4⟩ hg hr
    have hr' : ∀ r, row = some r → ∃ o : Obj, X.heap[r]? = some o ∧ o.isCells = false := fun r e => (hr r e).2
    exact ⟨blk_kept a1 hg hr', blk_kept a2 hg hr', blk_kept a3 hg hr', a4.grown hg (by have := a4.size; omega) (fun k e => by have := (hr k e).1; omega)⟩
  case hIx => rintro cc s X Y row h; exact h.elim
  case h0 => exact HL.out
  case assign =>
    intro l x V K hK
    simp only [List.setIfInBounds_toArray, List.set_cons_succ, List.set_cons_zero] at hK ⊢
    gi_wp2
    exact hK
  case body =>
    rintro l pre x b V hl hr hz hb hbk ⟨a1, a2, a3, a4⟩ hN
    simp only [List.setIfInBounds_toArray, List.set_cons_succ, List.set_cons_zero]
    obtain ⟨x0, x1, x2⟩ := blk3 hbk
    obtain ⟨y0, y1, y2⟩ := blk3 a2
    have f0 := blk_free a2 0
    have f1 := blk_free a2 1
    have f2 := blk_free a2 2
    have z0 := blk_cell a3 (j := 0) rfl
    have g0 := blk_free a3 0
    have hbne : ¬ b = w.heap.size + 1 := by omega
    have HA : Hid (LI w pre V) := ⟨a1, a2, a3, a4⟩
    generalize hQ2 : ownPostU _ _ _ _ _ _ _ = Q2
    have nP : ∀ q, w.heap.size ≤ q → q < w.heap.size + 1 + 1 + 1 → ¬ (q = t ∨ v.ownBlock = some q ∨ (w.heap.size + 1 + 1 + 1 ≤ q ∧ q < W0.heap.size)) := fun q h1 h2 hq => by
      rcases hq with hq | hq | hq
      · omega
      · have := hown _ hq; omega
      · omega
    have hGo : ∀ a, Q2 .normal a ((((V.setCell ⟨w.heap.size + 1, 0, none⟩ (.int .u32 (x.k : Int))).setCell ⟨w.heap.size + 1, 1, none⟩ (.int .i64 (x.n : Int))).setCell ⟨w.heap.size + 1, 2, none⟩ (.int .i64 x.v)).setCell ⟨w.heap.size + 1 + 1, 0, none⟩ (.bool true)) := fun a => by
      rw [← hQ2]
      obtain ⟨p1, p2, p3, p4, p5⟩ := put4 V (w.heap.size + 1) (w.heap.size + 1 + 1) (by omega) (.int .u32 (x.k : Int)) (.int .i64 (x.n : Int)) (.int .i64 x.v) (.bool true) a2 a3 _ rfl
      refine ⟨p4 _ (by omega) (by omega), p5 _ (nP _ (by omega) (by omega)) (nP _ (by omega) (by omega)), ?_, ?_, ?_, a4.trans (p3 _ (by omega) (by omega))⟩
      · exact blk_far (blk_far (blk_far (blk_far a1 (by omega) _) (by omega) _) (by omega) _) (by omega) _
      · rw [p1]; simp [lasE]
      · rw [p2]; simp [anyE]
    clear a1 a2 a3 a4 hbk hQ2
    gi_wp2
    exact hGo _
  case done =>
    rintro C V hC ⟨a1, a2, a3, a4⟩ hK
    have HA : Hid (LI w (abvD W L k W) V) := ⟨a1, a2, a3, a4⟩
    have HDV : Hid (V.heap[C]? = some (.deferred (some []))) := hK
    obtain ⟨x0, x1, x2⟩ := blk3 a2
    obtain ⟨y0, y1, y2⟩ := blk3 a1
    have f0 := blk_free a1 0
    have f1 := blk_free a1 1
    have f2 := blk_free a1 2
    have z0 := blk_cell a3 (j := 0) rfl
    clear a1 a2 a3 a4 hK
    have hmx : Try.prog.follows .mixedOrders = true := by kernel_rfl
    go_wp2_with (fail)
    go_region
    all_goals go_wp2
    all_goals (
      obtain ⟨a1, a2, a3, a4⟩ := HA.out
      have k1 := blk_set (blk_set (blk_set a1 (j := 0) (.int .u32 ((lasE (abvD W L k W)).k : Int))) (j := 1) (.int .i64 ((lasE (abvD W L k W)).n : Int))) (j := 2) (.int .i64 (lasE (abvD W L k W)).v)
      have kD := blk_far (blk_far (blk_far HDV.out (show C ≠ w.heap.size by omega) (j := 0) (.int .u32 ((lasE (abvD W L k W)).k : Int))) (show C ≠ w.heap.size by omega) (j := 1) (.int .i64 ((lasE (abvD W L k W)).n : Int))) (show C ≠ w.heap.size by omega) (j := 2) (.int .i64 (lasE (abvD W L k W)).v)
      have kB := Below.drew (Below.setCell (p := ⟨w.heap.size, 2, none⟩) (Below.setCell (p := ⟨w.heap.size, 1, none⟩) (Below.setCell (p := ⟨w.heap.size, 0, none⟩) a4 (Nat.le_refl _) (.int .u32 ((lasE (abvD W L k W)).k : Int))) (Nat.le_refl _) (.int .i64 ((lasE (abvD W L k W)).n : Int))) (Nat.le_refl _) (.int .i64 (lasE (abvD W L k W)).v))
      have k1' := drew_blk k1
      have kD' := drew_blk kD
      clear k1 kD a1 a2 a3 a4
      generalize World.drew _ = V9 at *
      refine ⟨by simp, .inl ⟨_, _, rfl, run_takeDeferred kD', ?_⟩⟩
      exact ⟨_, results_blk2 Try.results14 rfl (blk_putO k1' kD') Try.underlying45 rfl (by kernel_rfl), rfl, kB.trans (belowK_b (w := w) (Nat.le_refl _) _ C _ _ (by omega) kD' rfl rfl)⟩)
  case stop => rintro C c pre V _ _ h; exact h.elim
end Go.Proofs.Ytfbkjghipahipaa
