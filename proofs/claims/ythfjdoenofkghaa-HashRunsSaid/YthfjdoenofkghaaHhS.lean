/-
  A scope with a label that is jumped back to, and others further on; the search for a header's slot.
-/
import Derived.Test.YthfjdoenofkghaaHhT
import Derived.Test.YthfjdoenofkghaaBxY
import Derived.BigQuiet
namespace Go.Proofs.Ythfjdoenofkghaa
open Go.RowKit
set_option linter.unusedVariables false
set_option linter.unusedSimpArgs false

/-- As Q; by a goto back to label l: J; by a goto to another label of c: what stands behind that label is walked. -/
def hop (c : Code) (P : Program) (l : Nat) (J : Act → World → Prop) (Q : Exit → Act → World → Prop) : Exit → Act → World → Prop
  | .goto l', a, w => (l' = l ∧ J a w) ∨ ∃ r, findLabel c l' = some r ∧ r.wp P (Exit.jump l J Q) a w
  | e, a, w => Q e a w
section
variable {P : Program} {a : Act} {w : World} {Q : Exit → Act → World → Prop}
theorem wp_scope_hops {c rest : Code} (l : Nat) (J : Act → World → Prop) (μ : Act → World → Nat) (hf : findLabel c l = some rest)
    (first : c.wp P (hop c P l J Q) a w)
    (pass : ∀ a w, J a w → rest.wp P (hop c P l (fun a' w' => J a' w' ∧ μ a' w' < μ a w) Q) a w) : (Code.scope c).wp P Q a w := by
  intro b k cs
  have hg : ∀ l' r, findLabel c l' = some r → gotoIn l' (.inScope c :: k) = some (.code r :: .inScope c :: k) := fun l' r h => by simp [gotoIn, h]
  have jmp : ∀ (J' : Act → World → Prop) (r : Code) (a : Act) (w : World), r.wp P (Exit.jump l J' Q) a w → (∀ a w, J' a w → ∃ e a' w', Q e a' w' ∧ Arrives P (lone (b.at a (.code rest :: .inScope c :: k)) cs w) b k cs e a' w') →
      ∃ e a' w', Q e a' w' ∧ Arrives P (lone (b.at a (.code r :: .inScope c :: k)) cs w) b k cs e a' w' := by
    intro J' r a w hr hJ
    obtain ⟨e, a₁, w₁, hq, harr⟩ := hr b (.inScope c :: k) cs
    cases e with
    | normal => exact ⟨.normal, a₁, w₁, hq, Steps.trans harr (.one step_inScope)⟩
    | exit id => exact ⟨.exit id, a₁, w₁, hq, fun k' hk => harr k' (by simp [exitTo, hk])⟩
    | goto l' =>
      obtain ⟨rfl, hJ'⟩ := hq
      obtain ⟨e₂, a₂, w₂, hq₂, harr₂⟩ := hJ a₁ w₁ hJ'
      exact ⟨e₂, a₂, w₂, hq₂, .of_steps (harr _ (hg _ _ hf)) harr₂⟩
    | ret => exact ⟨_, a₁, w₁, hq, harr⟩
    | panic ch => exact ⟨_, a₁, w₁, hq, harr⟩
    | outgrown => exact ⟨_, a₁, w₁, hq, harr⟩
  have key : ∀ n a w, μ a w = n → J a w → ∃ e a' w', Q e a' w' ∧ Arrives P (lone (b.at a (.code rest :: .inScope c :: k)) cs w) b k cs e a' w' := by
    intro n
    induction n using Nat.strongRecOn with
    | _ n ih =>
      intro a w hn hJ
      obtain ⟨e, a₁, w₁, hq, harr⟩ := pass a w hJ b (.inScope c :: k) cs
      cases e with
      | normal => exact ⟨.normal, a₁, w₁, hq, Steps.trans harr (.one step_inScope)⟩
      | exit id => exact ⟨.exit id, a₁, w₁, hq, fun k' hk => harr k' (by simp [exitTo, hk])⟩
      | goto l' =>
        rcases hq with ⟨rfl, hJ', hlt⟩ | ⟨r, hr, hw⟩
        · obtain ⟨e₂, a₂, w₂, hq₂, harr₂⟩ := ih _ (by omega) a₁ w₁ rfl hJ'
          exact ⟨e₂, a₂, w₂, hq₂, .of_steps (harr _ (hg _ _ hf)) harr₂⟩
        · obtain ⟨e₂, a₂, w₂, hq₂, harr₂⟩ := jmp _ r a₁ w₁ hw (fun a' w' h => ih _ (by have := h.2; omega) a' w' rfl h.1)
          exact ⟨e₂, a₂, w₂, hq₂, .of_steps (harr _ (hg _ _ hr)) harr₂⟩
      | ret => exact ⟨_, a₁, w₁, hq, harr⟩
      | panic ch => exact ⟨_, a₁, w₁, hq, harr⟩
      | outgrown => exact ⟨_, a₁, w₁, hq, harr⟩
  obtain ⟨e, a₁, w₁, hq, harr⟩ := first b (.inScope c :: k) cs
  cases e with
  | normal => exact ⟨.normal, a₁, w₁, hq, .head step_scope (Steps.trans harr (.one step_inScope))⟩
  | exit id => exact ⟨.exit id, a₁, w₁, hq, fun k' hk => .head step_scope (harr k' (by simp [exitTo, hk]))⟩
  | goto l' =>
    rcases hq with ⟨rfl, hJ'⟩ | ⟨r, hr, hw⟩
    · obtain ⟨e₂, a₂, w₂, hq₂, harr₂⟩ := key _ a₁ w₁ rfl hJ'
      exact ⟨e₂, a₂, w₂, hq₂, .of_steps (.head step_scope (harr _ (hg _ _ hf))) harr₂⟩
    · obtain ⟨e₂, a₂, w₂, hq₂, harr₂⟩ := jmp _ r a₁ w₁ hw (fun a' w' h => key _ a' w' rfl h)
      exact ⟨e₂, a₂, w₂, hq₂, .of_steps (.head step_scope (harr _ (hg _ _ hr))) harr₂⟩
  | ret => exact ⟨_, a₁, w₁, hq, .of_steps (.one step_scope) harr⟩
  | panic ch => exact ⟨_, a₁, w₁, hq, .of_steps (.one step_scope) harr⟩
  | outgrown => exact ⟨_, a₁, w₁, hq, .of_steps (.one step_scope) harr⟩
theorem hop_mono {c : Code} {l : Nat} {J J' : Act → World → Prop} (h : ∀ a w, J a w → J' a w) (e : Exit) (a : Act) (w : World) (hq : hop c P l J Q e a w) : hop c P l J' Q e a w := by
  cases e with
  | goto l' =>
    rcases hq with ⟨rfl, hJ⟩ | ⟨r, hr, hw⟩
    · exact .inl ⟨rfl, h _ _ hJ⟩
    · refine .inr ⟨r, hr, wp_mono hw ?_⟩
      intro e a w hq
      cases e with
      | goto l' => exact ⟨hq.1, h _ _ hq.2⟩
      | _ => exact hq
  | _ => exact hq
theorem wp_scope_hops2 {c rest : Code} (l : Nat) (J : Act → World → Prop) (μ : Act → World → Nat) (hf : findLabel c l = some (Code.seq .skip rest))
    (first : (∀ a w, J a w → rest.wp P (hop c P l J Q) a w) → c.wp P (hop c P l J Q) a w)
    (pass : ∀ a w, J a w → rest.wp P (hop c P l (fun a' w' => J a' w' ∧ μ a' w' < μ a w) Q) a w) : (Code.scope c).wp P Q a w :=
  wp_scope_hops l J μ hf (first fun a w hJ => wp_mono (pass a w hJ) (hop_mono fun _ _ h => h.1)) fun a w hJ => wp_seq (wp_skip (pass a w hJ))
end
theorem rowL_at {w : World} {b g n cap : Nat} {l : List SlI} (h : RowL w b (.slice (some ⟨g, 0, none⟩) n cap) l) {j : Nat} {s : SlI} (hj : l[j]? = some s) :
    w.cell? ⟨g, j * 7, none⟩ = some (.int .i64 (s.st : Int)) ∧ w.cell? ⟨g, j * 7 + 1, none⟩ = some (.int .u32 (s.k.s : Int)) ∧ w.cell? ⟨g, j * 7 + 2, none⟩ = some (.int .u32 (s.k.d : Int)) ∧ w.cell? ⟨g, j * 7 + 3, none⟩ = some (.int .u16 (s.k.p : Int)) ∧ w.cell? ⟨g, j * 7 + 4, none⟩ = some (.int .u16 (s.k.q : Int)) ∧ w.cell? ⟨g, j * 7 + 5, none⟩ = some (.int .u8 (s.k.r : Int)) ∧ w.cell? ⟨g, j * 7 + 6, none⟩ = some (.int .i64 s.v) := by
  obtain ⟨hlt, he⟩ := List.getElem?_eq_some_iff.1 hj
  obtain ⟨ad, c, e, _, h2⟩ := h.form
  obtain ⟨g', rfl, _, _, hc⟩ := h2 (by omega)
  cases e
  have h7 := hc j hlt
  rw [he] at h7
  exact ⟨h7 0 (by decide), h7 1 (by decide), h7 2 (by decide), h7 3 (by decide), h7 4 (by decide), h7 5 (by decide), h7 6 (by decide)⟩
/-- What a search finds. -/
def Found (l : List SlI) (k : Hd) (at' : Nat) (there : Bool) (probes : Nat) : Prop :=
  at' < l.length ∧ 1 ≤ probes ∧ probes < l.length ∧ (there = true → ∃ s, l[at']? = some s ∧ s.st = 1 ∧ s.k = k) ∧ (there = false → May way l k at')
-- TAIL
/-- Where a search stands at its label. -/
def JS (t : Nat) (v : Value) (M c sp n S : Nat) (l : List SlI) (k : Hd) (w : World) (a' : Act) (wr : World) : Prop := ∃ (p x : Nat) (again : Int) (u : Nat → Value),
  a' = { tmps := #[.pointer (some ⟨t, 0, none⟩), .agg #[.int .u32 (k.s : Int), .int .u32 (k.d : Int), .int .u16 (k.p : Int), .int .u16 (k.q : Int), .int .u8 (k.r : Int)], undef, .pointer (some ⟨w.heap.size, 0, none⟩), .pointer (some ⟨w.heap.size + 1, 0, none⟩), .int .i64 again, .int .i64 (p : Int), .int .i64 (x : Int), .int .i64 (S : Int), u 9, u 10, u 11, u 12, u 13, u 14, u 15, u 16, u 17, u 18, u 19, u 20, u 21, u 22, u 23, u 24, u 25, u 26, u 27, u 28, u 29, u 30, u 31, u 32, u 33, u 34, u 35, u 36, u 37, u 38, u 39, u 40, u 41, u 42, u 43, u 44, u 45, u 46, u 47, u 48, u 49, u 50, u 51, u 52, u 53, u 54, u 55, u 56, u 57, u 58, u 59, u 60, u 61, u 62, u 63, u 64, u 65, u 66, u 67, u 68, u 69, u 70], defers := [] } ∧ x = way k n p ∧ Sk way l k p again ∧ Tab wr t v M c sp l ∧ wr.heap[w.heap.size]? = some (.cells #[.int .u32 (k.s : Int), .int .u32 (k.d : Int), .int .u16 (k.p : Int), .int .u16 (k.q : Int), .int .u8 (k.r : Int)] 36) ∧ wr.heap[w.heap.size + 1]? = some (.cells #[.int .i64 0, .bool false, .int .i64 0] 68) ∧ Below w.heap.size w wr
theorem JS_mk {t : Nat} {v : Value} {M c sp n S : Nat} {l : List SlI} {k : Hd} {w : World} {a' : Act} {wr : World} (p x : Nat) (again : Int) (he : a' = { tmps := #[.pointer (some ⟨t, 0, none⟩), .agg #[.int .u32 (k.s : Int), .int .u32 (k.d : Int), .int .u16 (k.p : Int), .int .u16 (k.q : Int), .int .u8 (k.r : Int)], undef, .pointer (some ⟨w.heap.size, 0, none⟩), .pointer (some ⟨w.heap.size + 1, 0, none⟩), .int .i64 again, .int .i64 (p : Int), .int .i64 (x : Int), .int .i64 (S : Int), a'.tmps.getD 9 undef, a'.tmps.getD 10 undef, a'.tmps.getD 11 undef, a'.tmps.getD 12 undef, a'.tmps.getD 13 undef, a'.tmps.getD 14 undef, a'.tmps.getD 15 undef, a'.tmps.getD 16 undef, a'.tmps.getD 17 undef, a'.tmps.getD 18 undef, a'.tmps.getD 19 undef, a'.tmps.getD 20 undef, a'.tmps.getD 21 undef, a'.tmps.getD 22 undef, a'.tmps.getD 23 undef, a'.tmps.getD 24 undef, a'.tmps.getD 25 undef, a'.tmps.getD 26 undef, a'.tmps.getD 27 undef, a'.tmps.getD 28 undef, a'.tmps.getD 29 undef, a'.tmps.getD 30 undef, a'.tmps.getD 31 undef, a'.tmps.getD 32 undef, a'.tmps.getD 33 undef, a'.tmps.getD 34 undef, a'.tmps.getD 35 undef, a'.tmps.getD 36 undef, a'.tmps.getD 37 undef, a'.tmps.getD 38 undef, a'.tmps.getD 39 undef, a'.tmps.getD 40 undef, a'.tmps.getD 41 undef, a'.tmps.getD 42 undef, a'.tmps.getD 43 undef, a'.tmps.getD 44 undef, a'.tmps.getD 45 undef, a'.tmps.getD 46 undef, a'.tmps.getD 47 undef, a'.tmps.getD 48 undef, a'.tmps.getD 49 undef, a'.tmps.getD 50 undef, a'.tmps.getD 51 undef, a'.tmps.getD 52 undef, a'.tmps.getD 53 undef, a'.tmps.getD 54 undef, a'.tmps.getD 55 undef, a'.tmps.getD 56 undef, a'.tmps.getD 57 undef, a'.tmps.getD 58 undef, a'.tmps.getD 59 undef, a'.tmps.getD 60 undef, a'.tmps.getD 61 undef, a'.tmps.getD 62 undef, a'.tmps.getD 63 undef, a'.tmps.getD 64 undef, a'.tmps.getD 65 undef, a'.tmps.getD 66 undef, a'.tmps.getD 67 undef, a'.tmps.getD 68 undef, a'.tmps.getD 69 undef, a'.tmps.getD 70 undef], defers := [] }) (hx : x = way k n p) (hs : Sk way l k p again) (hT : Tab wr t v M c sp l) (hK : wr.heap[w.heap.size]? = some (.cells #[.int .u32 (k.s : Int), .int .u32 (k.d : Int), .int .u16 (k.p : Int), .int .u16 (k.q : Int), .int .u8 (k.r : Int)] 36)) (hR : wr.heap[w.heap.size + 1]? = some (.cells #[.int .i64 0, .bool false, .int .i64 0] 68)) (hB : Below w.heap.size w wr) : JS t v M c sp n S l k w a' wr :=
  ⟨p, x, again, fun i => a'.tmps.getD i undef, he, hx, hs, hT, hK, hR, hB⟩
theorem seek_facts {t g cap M c sp n p x : Nat} {l : List SlI} {k : Hd} {again : Int} {wr : World} (hi : Inv way l c sp) (hn : n = l.length) (hx : x = way k n p) (hsk : Sk way l k p again) (HT : Tab wr t (.slice (some ⟨g, 0, none⟩) n cap) M c sp l) :
    ∃ (s : SlI) (st y : Nat) (sk : Hd), x < n ∧ p + 1 < n ∧ st ≤ 2 ∧ y = way k n (p + 1) ∧ Int.tmod ((x : Int) + (scS k n : Int)) (n : Int) = (y : Int) ∧ Hid (s.st = st ∧ s.k = sk ∧ l[x]? = some s) ∧ wr.cell? ⟨t, 3, none⟩ = some (.slice (some ⟨g, 0, none⟩) n cap) ∧
      wr.cell? ⟨g, x * 7, none⟩ = some (.int .i64 (st : Int)) ∧ wr.cell? ⟨g, x * 7 + 1, none⟩ = some (.int .u32 (sk.s : Int)) ∧ wr.cell? ⟨g, x * 7 + 1 + 1, none⟩ = some (.int .u32 (sk.d : Int)) ∧ wr.cell? ⟨g, x * 7 + 1 + 2, none⟩ = some (.int .u16 (sk.p : Int)) ∧ wr.cell? ⟨g, x * 7 + 1 + 3, none⟩ = some (.int .u16 (sk.q : Int)) ∧ wr.cell? ⟨g, x * 7 + 1 + 4, none⟩ = some (.int .u8 (sk.r : Int)) := by
  obtain ⟨s, hs⟩ := hi.get way_scat k p
  have h1 := hi.at way_scat k p
  have h2 := hsk.short way_scat hi
  rw [← hn, ← hx] at hs h1
  obtain ⟨d0, d1, d2, d3, d4, d5, d6⟩ := rowL_at HT.2.1 hs
  refine ⟨s, s.st, _, s.k, h1, by omega, hi.s3 _ _ hs, rfl, ?_, ⟨rfl, rfl, hs⟩, (blk4 HT.1).2.2.2, d0, d1, d2, d3, d4, d5⟩
  rw [Int.tmod_eq_emod_of_nonneg (by omega), hx, ← Int.natCast_add, ← Int.natCast_emod]
  unfold way
  rw [way_step]
theorem jump_ret {l : Nat} {J : Act → World → Prop} {Q : Exit → Act → World → Prop} {a : Act} {w : World} (h : Q .ret a w) : Exit.jump l J Q .ret a w := h
theorem jump_goto {l : Nat} {J : Act → World → Prop} {Q : Exit → Act → World → Prop} {a : Act} {w : World} (h : J a w) : Exit.jump l J Q (.goto l) a w := ⟨rfl, h⟩
theorem hd_eq (a b : Hd) : a = b ↔ ((a.s : Int) = b.s ∧ (a.d : Int) = b.d ∧ (a.p : Int) = b.p ∧ (a.q : Int) = b.q ∧ (a.r : Int) = b.r) := by
  obtain ⟨a1, a2, a3, a4, a5⟩ := a
  obtain ⟨b1, b2, b3, b4, b5⟩ := b
  simp only [Hd.mk.injEq]
  omega
theorem eqH_any (a b : Hd) (w : World) : Sem.run Try.prog (binOp .eql 36 (.agg #[.int .u32 (a.s : Int), .int .u32 (a.d : Int), .int .u16 (a.p : Int), .int .u16 (a.q : Int), .int .u8 (a.r : Int)]) (.agg #[.int .u32 (b.s : Int), .int .u32 (b.d : Int), .int .u16 (b.p : Int), .int .u16 (b.q : Int), .int .u8 (b.r : Int)])) w = .ok (.bool (decide (a = b))) w := by
  rw [show decide (a = b) = decide ((a.s : Int) = b.s ∧ (a.d : Int) = b.d ∧ (a.p : Int) = b.p ∧ (a.q : Int) = b.q ∧ (a.r : Int) = b.r) from decide_eq_decide.2 (hd_eq a b)]
  simp [go_sem]
  repeat' (first | rfl | (split <;> rename_i h <;> simp only [h, decide_true, decide_false, Bool.true_and, Bool.false_and]))
theorem found_no {l : List SlI} {c sp n p x : Nat} {k : Hd} {again : Int} {s : SlI} (hi : Inv way l c sp) (hn : n = l.length) (hx : x = way k n p) (hsk : Sk way l k p again) (hs : l[x]? = some s) (h0 : s.st = 0) : Found l k (if again = -1 then x else again.toNat) false (p + 1) := by
  subst hn hx
  have hm := hsk.may hi hs h0
  have h2 := hsk.short way_scat hi
  obtain ⟨_, q, a, _, ha, _⟩ := id hm
  exact ⟨(List.getElem?_eq_some_iff.1 ha).1, by omega, h2, (by intro e; cases e), fun _ => hm⟩
theorem found_yes {l : List SlI} {c sp n p x : Nat} {k : Hd} {again : Int} {s : SlI} (hi : Inv way l c sp) (hn : n = l.length) (hx : x = way k n p) (hsk : Sk way l k p again) (hs : l[x]? = some s) (h0 : s.st = 1) (hk : s.k = k) : Found l k x true (p + 1) := by
  subst hn hx
  have h2 := hsk.short way_scat hi
  exact ⟨(List.getElem?_eq_some_iff.1 hs).1, by omega, h2, fun _ => ⟨s, hs, h0, hk⟩, (by intro e; cases e)⟩
theorem again_is {l : List SlI} {k : Hd} {p : Nat} {again : Int} (hsk : Sk way l k p again) (h : ¬ again = -1) : again = (again.toNat : Int) := by
  obtain ⟨q, _, e, _⟩ := hsk.some h
  omega
set_option maxHeartbeats 4000000 in
set_option maxRecDepth 20000 in
theorem seekC (t : Nat) (v : Value) (M c sp : Nat) (l : List SlI) (k : Hd) (w : World) (h : Tab w t v M c sp l) (hi : Inv way l c sp) (hl : l.length ≤ 4294967296) (o : OkH k) :
    Calls Try.prog 23 #[.pointer (some ⟨t, 0, none⟩), .agg #[.int .u32 (k.s : Int), .int .u32 (k.d : Int), .int .u16 (k.p : Int), .int .u16 (k.q : Int), .int .u8 (k.r : Int)]] w fun e w' => ∃ (x : Nat) (b : Bool) (p : Nat), e = .returned (.agg #[.int .i64 (x : Int), .bool b, .int .i64 (p : Int)]) ∧ Found l k x b p ∧ Below w.heap.size w w' := by
  obtain ⟨g, cap, rfl, hcap, _, hg⟩ := h.2.1.some (by have := hi.eight; omega)
  obtain ⟨n, hn⟩ : ∃ n, n = l.length := ⟨_, rfl⟩
  have Hn : Hid (n = l.length) := hn
  rw [← hn] at h hl hcap
  have hn8 : 8 ≤ n := by rw [hn]; exact hi.eight
  have Hi : Hid (Inv way l c sp) := hi
  clear hi hn
  have HT0 : Hid (Tab ((w.alloc (.cells #[.int .u32 (k.s : Int), .int .u32 (k.d : Int), .int .u16 (k.p : Int), .int .u16 (k.q : Int), .int .u8 (k.r : Int)] 36)).alloc (.cells #[.int .i64 0, .bool false, .int .i64 0] 68)) t (.slice (some ⟨g, 0, none⟩) n cap) M c sp l) := h.on (by (repeat (first | assumption | exact Below.refl _ _ | refine Below.drew ?_ | refine bel_drewN ?_ _ | refine Below.setCell ?_ (by first | omega | (simp; done) | (simp; omega)) _ | refine Below.alloc ?_ (by first | omega | (simp; done) | (simp; omega)) _ | refine bel_of ?_ (by assumption))))
  have htl := h.lt
  clear h
  have hscat := fun W => scatC k n W o (by omega) hl
  have hn1 : (8 : Int) ≤ n := by omega
  have hn2 : (n : Int) ≤ 4294967296 := by omega
  have hn3 : ¬ (n : Int) = 0 := by omega
  clear o
  obtain ⟨S, hS⟩ : ∃ S, S = scS k n := ⟨_, rfl⟩
  have hSn := scS_le k (show 1 ≤ n by omega)
  have HS : Hid (S = scS k n) := hS
  rw [← hS] at hSn
  simp only [← hS] at hscat
  clear hS
  go_enter Try.func23, Try.ntmps23
  go_wp2
  have HB0 : Hid (Below w.heap.size w ((w.alloc (.cells #[.int .u32 (k.s : Int), .int .u32 (k.d : Int), .int .u16 (k.p : Int), .int .u16 (k.q : Int), .int .u8 (k.r : Int)] 36)).alloc (.cells #[.int .i64 0, .bool false, .int .i64 0] 68))) := by show Below _ _ _; (repeat (first | assumption | exact Below.refl _ _ | refine Below.drew ?_ | refine bel_drewN ?_ _ | refine Below.setCell ?_ (by first | omega | (simp; done) | (simp; omega)) _ | refine Below.alloc ?_ (by first | omega | (simp; done) | (simp; omega)) _ | refine bel_of ?_ (by assumption)))
  have HK0 : Hid (((w.alloc (.cells #[.int .u32 (k.s : Int), .int .u32 (k.d : Int), .int .u16 (k.p : Int), .int .u16 (k.q : Int), .int .u8 (k.r : Int)] 36)).alloc (.cells #[.int .i64 0, .bool false, .int .i64 0] 68)).heap[w.heap.size]? = some (.cells #[.int .u32 (k.s : Int), .int .u32 (k.d : Int), .int .u16 (k.p : Int), .int .u16 (k.q : Int), .int .u8 (k.r : Int)] 36)) := blk_alloc (blk_new w _) _
  have HR0 : Hid (((w.alloc (.cells #[.int .u32 (k.s : Int), .int .u32 (k.d : Int), .int .u16 (k.p : Int), .int .u16 (k.q : Int), .int .u8 (k.r : Int)] 36)).alloc (.cells #[.int .i64 0, .bool false, .int .i64 0] 68)).heap[w.heap.size + 1]? = some (.cells #[.int .i64 0, .bool false, .int .i64 0] 68)) := by
    have := blk_new (w.alloc (.cells #[.int .u32 (k.s : Int), .int .u32 (k.d : Int), .int .u16 (k.p : Int), .int .u16 (k.q : Int), .int .u8 (k.r : Int)] 36)) (.cells #[.int .i64 0, .bool false, .int .i64 0] 68)
    rw [show (w.alloc (.cells #[.int .u32 (k.s : Int), .int .u32 (k.d : Int), .int .u16 (k.p : Int), .int .u16 (k.q : Int), .int .u8 (k.r : Int)] 36)).heap.size = w.heap.size + 1 by simp] at this
    exact this
  have hz0 : w.heap.size + 2 = ((w.alloc (.cells #[.int .u32 (k.s : Int), .int .u32 (k.d : Int), .int .u16 (k.p : Int), .int .u16 (k.q : Int), .int .u8 (k.r : Int)] 36)).alloc (.cells #[.int .i64 0, .bool false, .int .i64 0] 68)).heap.size := by simp
  generalize (w.alloc (.cells #[.int .u32 (k.s : Int), .int .u32 (k.d : Int), .int .u16 (k.p : Int), .int .u16 (k.q : Int), .int .u8 (k.r : Int)] 36)).alloc (.cells #[.int .i64 0, .bool false, .int .i64 0] 68) = W0 at *
  refine wp_scope_hops2 0 (JS t (.slice (some ⟨g, 0, none⟩) n cap) M c sp n S l k w) (fun a' _ => n - (intOf (a'.tmps.getD 6 undef)).toNat) rfl ?_ ?_
  · intro hp
    obtain ⟨c0, c1, c2, c3⟩ := blk4 HT0.out.1
    obtain ⟨k0, k1, k2, k3, k4⟩ := blk5 HK0.out
    have hlt : t < W0.heap.size := by omega
    go_upto_region 5 with (fail)
    have kne : Nonempty (Kin W0) := ⟨⟨_, Below.refl _ _⟩⟩
    have y0 : ∀ y : Kin W0, y.val.cell? ⟨t, 3, none⟩ = some (.slice (some ⟨g, 0, none⟩) n cap) := fun y => by rw [kin_cell (by first | omega | (simp <;> omega))]; exact c3
    have y1 : ∀ y : Kin W0, y.val.cell? ⟨w.heap.size, 0, none⟩ = some (.int .u32 (k.s : Int)) := fun y => by rw [kin_cell (by first | omega | (simp <;> omega))]; exact k0
    have y2 : ∀ y : Kin W0, y.val.cell? ⟨w.heap.size, 1, none⟩ = some (.int .u32 (k.d : Int)) := fun y => by rw [kin_cell (by first | omega | (simp <;> omega))]; exact k1
    have y3 : ∀ y : Kin W0, y.val.cell? ⟨w.heap.size, 2, none⟩ = some (.int .u16 (k.p : Int)) := fun y => by rw [kin_cell (by first | omega | (simp <;> omega))]; exact k2
    have y4 : ∀ y : Kin W0, y.val.cell? ⟨w.heap.size, 3, none⟩ = some (.int .u16 (k.q : Int)) := fun y => by rw [kin_cell (by first | omega | (simp <;> omega))]; exact k3
    have y5 : ∀ y : Kin W0, y.val.cell? ⟨w.heap.size, 4, none⟩ = some (.int .u8 (k.r : Int)) := fun y => by rw [kin_cell (by first | omega | (simp <;> omega))]; exact k4
    refine wp_region_kin W0 (Below.refl _ _) (by kernel_rfl) (by kernel_rfl) ?_
    repeat (go_big_quiet_step (first | (go_at_call 30; exact kin_call (hscat _))))
    refine wpQuiet_nil ?_
    rintro wq ⟨⟨xq, hxq⟩, hyq⟩
    have hq : Below W0.heap.size W0 wq := by rw [hyq]; exact hxq
    clear hyq hxq xq kne y0 y1 y2 y3 y4 y5 c0 c1 c2 c3 k0 k1 k2 k3 k4
    have hz := hq.size
    go_wp2
    go_step3
    refine (‹∀ (a : Act) (w : World), Code.wp _ _ _ a w → _›) ?a _ (hp ?a _ ⟨0, scF k n, -1, fun i => (?a : Act).tmps.getD i undef, rfl, ?_, sk_zero, HT0.out.on hq, blk_on HK0.out hq, blk_on HR0.out hq, bel_of HB0.out hq⟩)
    unfold way; rw [Nat.zero_mul, Nat.add_zero]; exact (Nat.mod_eq_of_lt (scF_lt k (by omega))).symm
  · clear HT0 HK0 HR0 HB0 hz0 hscat W0
    rintro a wr ⟨p, x, again, u, rfl, hx, hsk, HT, HK, HR, HB⟩
    generalize hQQ : hop _ _ _ _ _ = QQ
    have HQ : Hid (hop _ _ _ _ _ = QQ) := hQQ
    clear hQQ
    obtain ⟨s, st, y, sk, hx0, hp0, hst, hy, hrem, Hs, c3, d0, d1, d2, d3, d4, d5⟩ := seek_facts Hi.out Hn.out hx hsk HT
    rw [← HS.out] at hrem
    obtain ⟨k0, k1, k2, k3, k4⟩ := blk5 HK
    have HJ : Hid (x = way k n p ∧ Sk way l k p again ∧ Tab wr t (.slice (some ⟨g, 0, none⟩) n cap) M c sp l ∧ wr.heap[w.heap.size]? = some (.cells #[.int .u32 (k.s : Int), .int .u32 (k.d : Int), .int .u16 (k.p : Int), .int .u16 (k.q : Int), .int .u8 (k.r : Int)] 36) ∧ wr.heap[w.heap.size + 1]? = some (.cells #[.int .i64 0, .bool false, .int .i64 0] 68) ∧ Below w.heap.size w wr) := ⟨hx, hsk, HT, HK, HR, HB⟩
    have Hy : Hid (y = way k n (p + 1)) := hy
    clear hx hsk HT HK HR HB hy
    have hx1 : (x : Int) < (n : Int) := by omega
    have hp1 : (p : Int) + 1 < (n : Int) := by omega
    have hS1 : (S : Int) ≤ (n : Int) := by omega
    rcases (by omega : st = 0 ∨ st = 1 ∨ st = 2) with rfl | rfl | rfl
    · have HF := found_no Hi.out Hn.out HJ.out.1 HJ.out.2.1 Hs.out.2.2 Hs.out.1
      by_cases ha : again = -1
      · subst ha
        rw [if_pos rfl] at HF
        have HF' : Hid (Found l k x false (p + 1)) := HF
        clear HF
        go_wp2
        go_step3
        show QQ (.goto 1) _ _
        rw [← HQ.out]
        refine Or.inr ⟨_, rfl, ?_⟩
        go_wp2_with (refine wpList_store_blk rfl 68 (.tmp 4) (.tmp 67) rfl (w.heap.size + 1) 0 #[.int .i64 (x : Int), .bool false, .int .i64 ((p : Int) + 1)] #[.int .i64 (x : Int), .bool false, .int .i64 ((p : Int) + 1)] rfl rfl 68 _ HJ.out.2.2.2.2.1 (Nat.le_of_ble_eq_true rfl) rfl (by kernel_rfl) rfl ?_; intro w8 hw8 how8)
        refine jump_ret ?_
        exact bodyPost_ret (results_blk Try.results23 rfl hw8 Try.underlying68 rfl (by kernel_rfl)) rfl ⟨x, false, p + 1, rfl, HF'.out, HJ.out.2.2.2.2.2.trans (how8.below (by omega))⟩
      · rw [if_neg ha] at HF
        have HF' : Hid (Found l k again.toNat false (p + 1)) := HF
        have hag := again_is HJ.out.2.1 ha
        obtain ⟨q, hq⟩ : ∃ q, q = again.toNat := ⟨_, rfl⟩
        rw [← hq] at HF' hag
        clear hq HF
        subst hag
        go_wp2
        go_step3
        show QQ (.goto 1) _ _
        rw [← HQ.out]
        refine Or.inr ⟨_, rfl, ?_⟩
        go_wp2_with (refine wpList_store_blk rfl 68 (.tmp 4) (.tmp 67) rfl (w.heap.size + 1) 0 #[.int .i64 (q : Int), .bool false, .int .i64 ((p : Int) + 1)] #[.int .i64 (q : Int), .bool false, .int .i64 ((p : Int) + 1)] rfl rfl 68 _ HJ.out.2.2.2.2.1 (Nat.le_of_ble_eq_true rfl) rfl (by kernel_rfl) rfl ?_; intro w8 hw8 how8)
        refine jump_ret ?_
        exact bodyPost_ret (results_blk Try.results23 rfl hw8 Try.underlying68 rfl (by kernel_rfl)) rfl ⟨q, false, p + 1, rfl, HF'.out, HJ.out.2.2.2.2.2.trans (how8.below (by omega))⟩
    · have he := fun W => eqH_any sk k W
      by_cases hk : sk = k
      · have HF : Hid (Found l k x true (p + 1)) := found_yes Hi.out Hn.out HJ.out.1 HJ.out.2.1 Hs.out.2.2 Hs.out.1 (Hs.out.2.1.trans hk)
        rw [decide_eq_true hk] at he
        clear hk
        go_wp2
        go_quiet (fail)
        go_wp2
        go_step3
        show QQ (.goto 3) _ _
        rw [← HQ.out]
        refine Or.inr ⟨_, rfl, ?_⟩
        go_wp2_with (refine wpList_store_blk rfl 68 (.tmp 4) (.tmp 70) rfl (w.heap.size + 1) 0 #[.int .i64 (x : Int), .bool true, .int .i64 ((p : Int) + 1)] #[.int .i64 (x : Int), .bool true, .int .i64 ((p : Int) + 1)] rfl rfl 68 _ HJ.out.2.2.2.2.1 (Nat.le_of_ble_eq_true rfl) rfl (by kernel_rfl) rfl ?_; intro w8 hw8 how8)
        refine jump_ret ?_
        exact bodyPost_ret (results_blk Try.results23 rfl hw8 Try.underlying68 rfl (by kernel_rfl)) rfl ⟨x, true, p + 1, rfl, HF.out, (bel_drewN HJ.out.2.2.2.2.2 _).trans (how8.below (by omega))⟩
      · have HN : Hid _ := HJ.out.2.1.next (s := s) (by rw [← Hn.out, ← HJ.out.1]; exact Hs.out.2.2) Hs.out.1 (by rw [Hs.out.2.1]; exact hk)
        rw [decide_eq_false hk] at he
        clear hk
        go_wp2
        go_quiet (fail)
        go_wp2
        go_step3
        go_wp2
        go_step3
        show QQ (.goto 0) _ _
        rw [← HQ.out]
        refine Or.inl ⟨rfl, JS_mk (p + 1) y again rfl Hy.out HN.out HJ.out.2.2.1 HJ.out.2.2.2.1 HJ.out.2.2.2.2.1 (bel_drewN HJ.out.2.2.2.2.2 _), ?m1⟩
        · show n - (intOf (.int .i64 ((p : Int) + 1))).toNat < n - (intOf (.int .i64 (p : Int))).toNat
          simp [intOf]; omega
    · have HN0 := HJ.out.2.1.left (s := s) (by rw [← Hn.out, ← HJ.out.1]; exact Hs.out.2.2) (by rw [Hs.out.1]; decide) (by rw [Hs.out.1]; decide)
      rw [← Hn.out, ← HJ.out.1] at HN0
      by_cases ha : again = -1
      · subst ha
        rw [if_pos rfl] at HN0
        have HN : Hid _ := HN0
        clear HN0
        go_wp2
        go_step3
        show QQ (.goto 2) _ _
        rw [← HQ.out]
        refine Or.inr ⟨_, rfl, ?_⟩
        go_wp2
        go_step3
        change _ ∧ _
        refine ⟨rfl, JS_mk (p + 1) y (x : Int) rfl Hy.out HN.out HJ.out.2.2.1 HJ.out.2.2.2.1 HJ.out.2.2.2.2.1 HJ.out.2.2.2.2.2, ?m2⟩
        · show n - (intOf (.int .i64 ((p : Int) + 1))).toNat < n - (intOf (.int .i64 (p : Int))).toNat
          simp [intOf]; omega
      · rw [if_neg ha] at HN0
        have HN : Hid _ := HN0
        clear HN0
        go_wp2
        go_step3
        show QQ (.goto 2) _ _
        rw [← HQ.out]
        refine Or.inr ⟨_, rfl, ?_⟩
        go_wp2
        go_step3
        change _ ∧ _
        refine ⟨rfl, JS_mk (p + 1) y again rfl Hy.out HN.out HJ.out.2.2.1 HJ.out.2.2.2.1 HJ.out.2.2.2.2.1 HJ.out.2.2.2.2.2, ?m3⟩
        · show n - (intOf (.int .i64 ((p : Int) + 1))).toNat < n - (intOf (.int .i64 (p : Int))).toNat
          simp [intOf]; omega
end Go.Proofs.Ythfjdoenofkghaa
