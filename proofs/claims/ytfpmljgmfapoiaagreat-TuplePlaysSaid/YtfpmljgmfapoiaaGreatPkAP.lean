/-
  PkAP: HvS HvG, one behind the other (tools/pack.py).
-/
import Derived.Test.YtfpmljgmfapoiaaGreatPkAO
import Derived.Test.YtfpmljgmfapoiaaGreatPkAC
import Derived.BigQuiet
import Derived.Test.YtfpmljgmfapoiaaGreatPkAD
/-
  A scope with a label that is jumped back to, and others further on; the search for a header's slot.
-/
namespace Go.Proofs.YtfpmljgmfapoiaaGreat.Hx
open Go.RowKit
set_option linter.unusedVariables false
set_option linter.unusedSimpArgs false

/-- As Q; by a goto back to label l: J; by a goto to another label of c: what stands behind that label is walked. -/
def hop (c : Code) (P : Program) (l : Nat) (J : Act → World → Prop) (Q : Exit → Act → World → Prop) : Exit → Act → World → Prop
  | .goto l', a, w => (l' = l ∧ J a w) ∨ ∃ r, findLabel c l' = some r ∧ r.wp P (Exit.jump l J Q) a w
  | e, a, w => Q e a w
section
variable {P : Program} {a : Act} {w : World} {Q : Exit → Act → World → Prop}
theorem wp_scope_hops {c rest : Code} (l : Nat) (J : Act → World → Prop) (μ : Act → World → Nat) (hf : findLabel c l = some rest)
    (first : c.wp P (hop c P l J Q) a w)
    (pass : ∀ a w, J a w → rest.wp P (hop c P l (fun a' w' => J a' w' ∧ μ a' w' < μ a w) Q) a w) : (Code.scope c).wp P Q a w := by
  intro b k cs
  have hg : ∀ l' r, findLabel c l' = some r → gotoIn l' (.inScope c :: k) = some (.code r :: .inScope c :: k) := fun l' r h => by simp [gotoIn, h]
  have jmp : ∀ (J' : Act → World → Prop) (r : Code) (a : Act) (w : World), r.wp P (Exit.jump l J' Q) a w → (∀ a w, J' a w → ∃ e a' w', Q e a' w' ∧ Arrives P (lone (b.at a (.code rest :: .inScope c :: k)) cs w) b k cs e a' w') →
      ∃ e a' w', Q e a' w' ∧ Arrives P (lone (b.at a (.code r :: .inScope c :: k)) cs w) b k cs e a' w' := by
    intro J' r a w hr hJ
    obtain ⟨e, a₁, w₁, hq, harr⟩ := hr b (.inScope c :: k) cs
    cases e with
    | normal => exact ⟨.normal, a₁, w₁, hq, Steps.trans harr (.one step_inScope)⟩
    | exit id => exact ⟨.exit id, a₁, w₁, hq, fun k' hk => harr k' (by simp [exitTo, hk])⟩
    | goto l' =>
      obtain ⟨rfl, hJ'⟩ := hq
      obtain ⟨e₂, a₂, w₂, hq₂, harr₂⟩ := hJ a₁ w₁ hJ'
      exact ⟨e₂, a₂, w₂, hq₂, .of_steps (harr _ (hg _ _ hf)) harr₂⟩
    | ret => exact ⟨_, a₁, w₁, hq, harr⟩
    | panic ch => exact ⟨_, a₁, w₁, hq, harr⟩
    | outgrown => exact ⟨_, a₁, w₁, hq, harr⟩
  have key : ∀ n a w, μ a w = n → J a w → ∃ e a' w', Q e a' w' ∧ Arrives P (lone (b.at a (.code rest :: .inScope c :: k)) cs w) b k cs e a' w' := by
    intro n
    induction n using Nat.strongRecOn with
    | _ n ih =>
      intro a w hn hJ
      obtain ⟨e, a₁, w₁, hq, harr⟩ := pass a w hJ b (.inScope c :: k) cs
      cases e with
      | normal => exact ⟨.normal, a₁, w₁, hq, Steps.trans harr (.one step_inScope)⟩
      | exit id => exact ⟨.exit id, a₁, w₁, hq, fun k' hk => harr k' (by simp [exitTo, hk])⟩
      | goto l' =>
        rcases hq with ⟨rfl, hJ', hlt⟩ | ⟨r, hr, hw⟩
        · obtain ⟨e₂, a₂, w₂, hq₂, harr₂⟩ := ih _ (by omega) a₁ w₁ rfl hJ'
          exact ⟨e₂, a₂, w₂, hq₂, .of_steps (harr _ (hg _ _ hf)) harr₂⟩
        · obtain ⟨e₂, a₂, w₂, hq₂, harr₂⟩ := jmp _ r a₁ w₁ hw (fun a' w' h => ih _ (by have := h.2; omega) a' w' rfl h.1)
          exact ⟨e₂, a₂, w₂, hq₂, .of_steps (harr _ (hg _ _ hr)) harr₂⟩
      | ret => exact ⟨_, a₁, w₁, hq, harr⟩
      | panic ch => exact ⟨_, a₁, w₁, hq, harr⟩
      | outgrown => exact ⟨_, a₁, w₁, hq, harr⟩
  obtain ⟨e, a₁, w₁, hq, harr⟩ := first b (.inScope c :: k) cs
  cases e with
  | normal => exact ⟨.normal, a₁, w₁, hq, .head step_scope (Steps.trans harr (.one step_inScope))⟩
  | exit id => exact ⟨.exit id, a₁, w₁, hq, fun k' hk => .head step_scope (harr k' (by simp [exitTo, hk]))⟩
  | goto l' =>
    rcases hq with ⟨rfl, hJ'⟩ | ⟨r, hr, hw⟩
    · obtain ⟨e₂, a₂, w₂, hq₂, harr₂⟩ := key _ a₁ w₁ rfl hJ'
      exact ⟨e₂, a₂, w₂, hq₂, .of_steps (.head step_scope (harr _ (hg _ _ hf))) harr₂⟩
    · obtain ⟨e₂, a₂, w₂, hq₂, harr₂⟩ := jmp _ r a₁ w₁ hw (fun a' w' h => key _ a' w' rfl h)
      exact ⟨e₂, a₂, w₂, hq₂, .of_steps (.head step_scope (harr _ (hg _ _ hr))) harr₂⟩
  | ret => exact ⟨_, a₁, w₁, hq, .of_steps (.one step_scope) harr⟩
  | panic ch => exact ⟨_, a₁, w₁, hq, .of_steps (.one step_scope) harr⟩
  | outgrown => exact ⟨_, a₁, w₁, hq, .of_steps (.one step_scope) harr⟩
theorem hop_mono {c : Code} {l : Nat} {J J' : Act → World → Prop} (h : ∀ a w, J a w → J' a w) (e : Exit) (a : Act) (w : World) (hq : hop c P l J Q e a w) : hop c P l J' Q e a w := by
  cases e with
  | goto l' =>
    rcases hq with ⟨rfl, hJ⟩ | ⟨r, hr, hw⟩
    · exact .inl ⟨rfl, h _ _ hJ⟩
    · refine .inr ⟨r, hr, wp_mono hw ?_⟩
      intro e a w hq
      cases e with
      | goto l' => exact ⟨hq.1, h _ _ hq.2⟩
      | _ => exact hq
  | _ => exact hq
theorem wp_scope_hops2 {c rest : Code} (l : Nat) (J : Act → World → Prop) (μ : Act → World → Nat) (hf : findLabel c l = some (Code.seq .skip rest))
    (first : (∀ a w, J a w → rest.wp P (hop c P l J Q) a w) → c.wp P (hop c P l J Q) a w)
    (pass : ∀ a w, J a w → rest.wp P (hop c P l (fun a' w' => J a' w' ∧ μ a' w' < μ a w) Q) a w) : (Code.scope c).wp P Q a w :=
  wp_scope_hops l J μ hf (first fun a w hJ => wp_mono (pass a w hJ) (hop_mono fun _ _ h => h.1)) fun a w hJ => wp_seq (wp_skip (pass a w hJ))
end
theorem rowL_at {w : World} {b g n cap : Nat} {l : List SlI} (h : RowL w b (.slice (some ⟨g, 0, none⟩) n cap) l) {j : Nat} {s : SlI} (hj : l[j]? = some s) :
    w.cell? ⟨g, j * 7, none⟩ = some (.int .i64 s.st) ∧ w.cell? ⟨g, j * 7 + 1, none⟩ = some (.int .u32 s.k.s) ∧ w.cell? ⟨g, j * 7 + 2, none⟩ = some (.int .u32 s.k.d) ∧ w.cell? ⟨g, j * 7 + 3, none⟩ = some (.int .u16 s.k.p) ∧ w.cell? ⟨g, j * 7 + 4, none⟩ = some (.int .u16 s.k.q) ∧ w.cell? ⟨g, j * 7 + 5, none⟩ = some (.int .u8 s.k.r) ∧ w.cell? ⟨g, j * 7 + 6, none⟩ = some (.slice s.v.ad s.v.n s.v.cap) := by
  obtain ⟨hlt, he⟩ := List.getElem?_eq_some_iff.1 hj
  obtain ⟨ad, c, e, _, h2⟩ := h.form
  obtain ⟨g', rfl, _, _, hc⟩ := h2 (by omega)
  cases e
  have h7 := hc j hlt
  rw [he] at h7
  exact ⟨h7 0 (by decide), h7 1 (by decide), h7 2 (by decide), h7 3 (by decide), h7 4 (by decide), h7 5 (by decide), h7 6 (by decide)⟩
/-- How many slots a search looks at. -/
def Prb (l : List SlI) (k : Hd) (p : Nat) : Prop := rch way l k (p - 1) ∧ ∃ s, l[way k l.length (p - 1)]? = some s ∧ (s.st = 0 ∨ s.st = 1 ∧ s.k = k)
/-- What a search finds. -/
def Found (l : List SlI) (k : Hd) (at' : Nat) (there : Bool) (probes : Nat) : Prop :=
  at' < l.length ∧ 1 ≤ probes ∧ probes < l.length ∧ (there = true → ∃ s, l[at']? = some s ∧ s.st = 1 ∧ s.k = k) ∧ (there = false → May way l k at') ∧ Prb l k probes
-- TAIL
/-- Where a search stands at its label. -/
def JS (t : Nat) (v : Value) (M c sp n S : Nat) (l : List SlI) (k : Hd) (w : World) (a' : Act) (wr : World) : Prop := ∃ (p x : Nat) (again : Int) (u : Nat → Value),
  a' = { tmps := #[.pointer (some ⟨t, 0, none⟩), .agg #[.int .u32 k.s, .int .u32 k.d, .int .u16 k.p, .int .u16 k.q, .int .u8 k.r], undef, .pointer (some ⟨w.heap.size, 0, none⟩), .pointer (some ⟨w.heap.size + 1, 0, none⟩), .int .i64 again, .int .i64 p, .int .i64 x, .int .i64 S, u 9, u 10, u 11, u 12, u 13, u 14, u 15, u 16, u 17, u 18, u 19, u 20, u 21, u 22, u 23, u 24, u 25, u 26, u 27, u 28, u 29, u 30, u 31, u 32, u 33, u 34, u 35, u 36, u 37, u 38, u 39, u 40, u 41, u 42, u 43, u 44, u 45, u 46, u 47, u 48, u 49, u 50, u 51, u 52, u 53, u 54, u 55, u 56, u 57, u 58, u 59, u 60, u 61, u 62, u 63, u 64, u 65, u 66, u 67, u 68, u 69, u 70], defers := [] } ∧ x = way k n p ∧ Sk way l k p again ∧ Tab wr t v M c sp l ∧ wr.heap[w.heap.size]? = some (.cells #[.int .u32 k.s, .int .u32 k.d, .int .u16 k.p, .int .u16 k.q, .int .u8 k.r] 54) ∧ wr.heap[w.heap.size + 1]? = some (.cells #[.int .i64 0, .bool false, .int .i64 0] 153) ∧ Below w.heap.size w wr
theorem JS_mk {t : Nat} {v : Value} {M c sp n S : Nat} {l : List SlI} {k : Hd} {w : World} {a' : Act} {wr : World} (p x : Nat) (again : Int) (he : a' = { tmps := #[.pointer (some ⟨t, 0, none⟩), .agg #[.int .u32 k.s, .int .u32 k.d, .int .u16 k.p, .int .u16 k.q, .int .u8 k.r], undef, .pointer (some ⟨w.heap.size, 0, none⟩), .pointer (some ⟨w.heap.size + 1, 0, none⟩), .int .i64 again, .int .i64 p, .int .i64 x, .int .i64 S, a'.tmps.getD 9 undef, a'.tmps.getD 10 undef, a'.tmps.getD 11 undef, a'.tmps.getD 12 undef, a'.tmps.getD 13 undef, a'.tmps.getD 14 undef, a'.tmps.getD 15 undef, a'.tmps.getD 16 undef, a'.tmps.getD 17 undef, a'.tmps.getD 18 undef, a'.tmps.getD 19 undef, a'.tmps.getD 20 undef, a'.tmps.getD 21 undef, a'.tmps.getD 22 undef, a'.tmps.getD 23 undef, a'.tmps.getD 24 undef, a'.tmps.getD 25 undef, a'.tmps.getD 26 undef, a'.tmps.getD 27 undef, a'.tmps.getD 28 undef, a'.tmps.getD 29 undef, a'.tmps.getD 30 undef, a'.tmps.getD 31 undef, a'.tmps.getD 32 undef, a'.tmps.getD 33 undef, a'.tmps.getD 34 undef, a'.tmps.getD 35 undef, a'.tmps.getD 36 undef, a'.tmps.getD 37 undef, a'.tmps.getD 38 undef, a'.tmps.getD 39 undef, a'.tmps.getD 40 undef, a'.tmps.getD 41 undef, a'.tmps.getD 42 undef, a'.tmps.getD 43 undef, a'.tmps.getD 44 undef, a'.tmps.getD 45 undef, a'.tmps.getD 46 undef, a'.tmps.getD 47 undef, a'.tmps.getD 48 undef, a'.tmps.getD 49 undef, a'.tmps.getD 50 undef, a'.tmps.getD 51 undef, a'.tmps.getD 52 undef, a'.tmps.getD 53 undef, a'.tmps.getD 54 undef, a'.tmps.getD 55 undef, a'.tmps.getD 56 undef, a'.tmps.getD 57 undef, a'.tmps.getD 58 undef, a'.tmps.getD 59 undef, a'.tmps.getD 60 undef, a'.tmps.getD 61 undef, a'.tmps.getD 62 undef, a'.tmps.getD 63 undef, a'.tmps.getD 64 undef, a'.tmps.getD 65 undef, a'.tmps.getD 66 undef, a'.tmps.getD 67 undef, a'.tmps.getD 68 undef, a'.tmps.getD 69 undef, a'.tmps.getD 70 undef], defers := [] }) (hx : x = way k n p) (hs : Sk way l k p again) (hT : Tab wr t v M c sp l) (hK : wr.heap[w.heap.size]? = some (.cells #[.int .u32 k.s, .int .u32 k.d, .int .u16 k.p, .int .u16 k.q, .int .u8 k.r] 54)) (hR : wr.heap[w.heap.size + 1]? = some (.cells #[.int .i64 0, .bool false, .int .i64 0] 153)) (hB : Below w.heap.size w wr) : JS t v M c sp n S l k w a' wr :=
  ⟨p, x, again, fun i => a'.tmps.getD i undef, he, hx, hs, hT, hK, hR, hB⟩
theorem seek_facts {t g cap M c sp n p x : Nat} {l : List SlI} {k : Hd} {again : Int} {wr : World} (hi : Inv way l c sp) (hn : n = l.length) (hx : x = way k n p) (hsk : Sk way l k p again) (HT : Tab wr t (.slice (some ⟨g, 0, none⟩) n cap) M c sp l) :
    ∃ (s : SlI) (st y : Nat) (sk : Hd), x < n ∧ p + 1 < n ∧ st ≤ 2 ∧ y = way k n (p + 1) ∧ Int.tmod ((x : Int) + (scS k n : Int)) (n : Int) = (y : Int) ∧ Hid (s.st = st ∧ s.k = sk ∧ l[x]? = some s) ∧ wr.cell? ⟨t, 3, none⟩ = some (.slice (some ⟨g, 0, none⟩) n cap) ∧
      wr.cell? ⟨g, x * 7, none⟩ = some (.int .i64 st) ∧ wr.cell? ⟨g, x * 7 + 1, none⟩ = some (.int .u32 sk.s) ∧ wr.cell? ⟨g, x * 7 + 1 + 1, none⟩ = some (.int .u32 sk.d) ∧ wr.cell? ⟨g, x * 7 + 1 + 2, none⟩ = some (.int .u16 sk.p) ∧ wr.cell? ⟨g, x * 7 + 1 + 3, none⟩ = some (.int .u16 sk.q) ∧ wr.cell? ⟨g, x * 7 + 1 + 4, none⟩ = some (.int .u8 sk.r) := by
  obtain ⟨s, hs⟩ := hi.get way_scat k p
  have h1 := hi.at way_scat k p
  have h2 := hsk.short way_scat hi
  rw [← hn, ← hx] at hs h1
  obtain ⟨d0, d1, d2, d3, d4, d5, d6⟩ := rowL_at HT.2.1 hs
  refine ⟨s, s.st, _, s.k, h1, by omega, hi.s3 _ _ hs, rfl, ?_, ⟨rfl, rfl, hs⟩, (blk4 HT.1).2.2.2, d0, d1, d2, d3, d4, d5⟩
  rw [Int.tmod_eq_emod_of_nonneg (by omega), hx, ← Int.natCast_add, ← Int.natCast_emod]
  unfold way
  rw [way_step]
theorem jump_ret {l : Nat} {J : Act → World → Prop} {Q : Exit → Act → World → Prop} {a : Act} {w : World} (h : Q .ret a w) : Exit.jump l J Q .ret a w := h
theorem hd_eq (a b : Hd) : a = b ↔ ((a.s : Int) = b.s ∧ (a.d : Int) = b.d ∧ (a.p : Int) = b.p ∧ (a.q : Int) = b.q ∧ (a.r : Int) = b.r) := by
  obtain ⟨a1, a2, a3, a4, a5⟩ := a
  obtain ⟨b1, b2, b3, b4, b5⟩ := b
  simp only [Hd.mk.injEq]
  omega
theorem eqH_any (a b : Hd) (w : World) : Sem.run Tryz.prog (binOp .eql 54 (.agg #[.int .u32 a.s, .int .u32 a.d, .int .u16 a.p, .int .u16 a.q, .int .u8 a.r]) (.agg #[.int .u32 b.s, .int .u32 b.d, .int .u16 b.p, .int .u16 b.q, .int .u8 b.r])) w = .ok (.bool (decide (a = b))) w := by
  rw [show decide (a = b) = decide ((a.s : Int) = b.s ∧ (a.d : Int) = b.d ∧ (a.p : Int) = b.p ∧ (a.q : Int) = b.q ∧ (a.r : Int) = b.r) from decide_eq_decide.2 (hd_eq a b)]
  simp [go_sem]
  repeat' (first | rfl | (split <;> rename_i h <;> simp only [h, decide_true, decide_false, Bool.true_and, Bool.false_and]))
theorem found_no {l : List SlI} {c sp n p x : Nat} {k : Hd} {again : Int} {s : SlI} (hi : Inv way l c sp) (hn : n = l.length) (hx : x = way k n p) (hsk : Sk way l k p again) (hs : l[x]? = some s) (h0 : s.st = 0) : Found l k (if again = -1 then x else again.toNat) false (p + 1) := by
  subst hn hx
  have hm := hsk.may hi hs h0
  have h2 := hsk.short way_scat hi
  obtain ⟨_, q, a, _, ha, _⟩ := id hm
  exact ⟨(List.getElem?_eq_some_iff.1 ha).1, by omega, h2, (by intro e; cases e), fun _ => hm, hsk.r, s, hs, Or.inl h0⟩
theorem found_yes {l : List SlI} {c sp n p x : Nat} {k : Hd} {again : Int} {s : SlI} (hi : Inv way l c sp) (hn : n = l.length) (hx : x = way k n p) (hsk : Sk way l k p again) (hs : l[x]? = some s) (h0 : s.st = 1) (hk : s.k = k) : Found l k x true (p + 1) := by
  subst hn hx
  have h2 := hsk.short way_scat hi
  exact ⟨(List.getElem?_eq_some_iff.1 hs).1, by omega, h2, fun _ => ⟨s, hs, h0, hk⟩, (by intro e; cases e), hsk.r, s, hs, Or.inr ⟨h0, hk⟩⟩
theorem again_is {l : List SlI} {k : Hd} {p : Nat} {again : Int} (hsk : Sk way l k p again) (h : ¬ again = -1) : again = (again.toNat : Int) := by
  obtain ⟨q, _, e, _⟩ := hsk.some h
  omega
set_option maxHeartbeats 4000000 in
set_option maxRecDepth 20000 in
theorem seekC (t : Nat) (v : Value) (M c sp : Nat) (l : List SlI) (k : Hd) (w : World) (h : Tab w t v M c sp l) (hi : Inv way l c sp) (hl : l.length ≤ 4294967296) (o : OkH k) :
    Calls Tryz.prog 68 #[.pointer (some ⟨t, 0, none⟩), .agg #[.int .u32 k.s, .int .u32 k.d, .int .u16 k.p, .int .u16 k.q, .int .u8 k.r]] w fun e w' => ∃ (x : Nat) (b : Bool) (p : Nat), e = .returned (.agg #[.int .i64 x, .bool b, .int .i64 p]) ∧ Found l k x b p ∧ Below w.heap.size w w' := by
  obtain ⟨g, cap, rfl, hcap, _, hg⟩ := h.2.1.some (by have := hi.eight; omega)
  obtain ⟨n, hn⟩ : ∃ n, n = l.length := ⟨_, rfl⟩
  have Hn : Hid (n = l.length) := hn
  rw [← hn] at h hl hcap
  have hn8 : 8 ≤ n := by rw [hn]; exact hi.eight
  have Hi : Hid (Inv way l c sp) := hi
  clear hi hn
  have HT0 : Hid (Tab ((w.alloc (.cells #[.int .u32 k.s, .int .u32 k.d, .int .u16 k.p, .int .u16 k.q, .int .u8 k.r] 54)).alloc (.cells #[.int .i64 0, .bool false, .int .i64 0] 153)) t (.slice (some ⟨g, 0, none⟩) n cap) M c sp l) := h.on (by (repeat (first | assumption | exact Below.refl _ _ | refine Below.drew ?_ | refine bel_drewN ?_ _ | refine Below.setCell ?_ (by first | omega | (simp; done) | (simp; omega)) _ | refine Below.alloc ?_ (by first | omega | (simp; done) | (simp; omega)) _ | refine bel_of ?_ (by assumption))))
  have htl := h.lt
  clear h
  have hscat := fun W => scatC k n W o (by omega) hl
  have hn1 : (8 : Int) ≤ n := by omega
  have hn2 : (n : Int) ≤ 4294967296 := by omega
  have hn3 : ¬ (n : Int) = 0 := by omega
  clear o
  obtain ⟨S, hS⟩ : ∃ S, S = scS k n := ⟨_, rfl⟩
  have hSn := scS_le k (show 1 ≤ n by omega)
  have HS : Hid (S = scS k n) := hS
  rw [← hS] at hSn
  simp only [← hS] at hscat
  clear hS
  go_enter Tryz.func68, Tryz.ntmps68
  go_wp2
  have HB0 : Hid (Below w.heap.size w ((w.alloc (.cells #[.int .u32 k.s, .int .u32 k.d, .int .u16 k.p, .int .u16 k.q, .int .u8 k.r] 54)).alloc (.cells #[.int .i64 0, .bool false, .int .i64 0] 153))) := by show Below _ _ _; (repeat (first | assumption | exact Below.refl _ _ | refine Below.drew ?_ | refine bel_drewN ?_ _ | refine Below.setCell ?_ (by first | omega | (simp; done) | (simp; omega)) _ | refine Below.alloc ?_ (by first | omega | (simp; done) | (simp; omega)) _ | refine bel_of ?_ (by assumption)))
  have HK0 : Hid (((w.alloc (.cells #[.int .u32 k.s, .int .u32 k.d, .int .u16 k.p, .int .u16 k.q, .int .u8 k.r] 54)).alloc (.cells #[.int .i64 0, .bool false, .int .i64 0] 153)).heap[w.heap.size]? = some (.cells #[.int .u32 k.s, .int .u32 k.d, .int .u16 k.p, .int .u16 k.q, .int .u8 k.r] 54)) := blk_alloc (blk_new w _) _
  have HR0 : Hid (((w.alloc (.cells #[.int .u32 k.s, .int .u32 k.d, .int .u16 k.p, .int .u16 k.q, .int .u8 k.r] 54)).alloc (.cells #[.int .i64 0, .bool false, .int .i64 0] 153)).heap[w.heap.size + 1]? = some (.cells #[.int .i64 0, .bool false, .int .i64 0] 153)) := by
    have := blk_new (w.alloc (.cells #[.int .u32 k.s, .int .u32 k.d, .int .u16 k.p, .int .u16 k.q, .int .u8 k.r] 54)) (.cells #[.int .i64 0, .bool false, .int .i64 0] 153)
    rw [show (w.alloc (.cells #[.int .u32 k.s, .int .u32 k.d, .int .u16 k.p, .int .u16 k.q, .int .u8 k.r] 54)).heap.size = w.heap.size + 1 by simp] at this
    exact this
  have hz0 : w.heap.size + 2 = ((w.alloc (.cells #[.int .u32 k.s, .int .u32 k.d, .int .u16 k.p, .int .u16 k.q, .int .u8 k.r] 54)).alloc (.cells #[.int .i64 0, .bool false, .int .i64 0] 153)).heap.size := by simp
  generalize (w.alloc (.cells #[.int .u32 k.s, .int .u32 k.d, .int .u16 k.p, .int .u16 k.q, .int .u8 k.r] 54)).alloc (.cells #[.int .i64 0, .bool false, .int .i64 0] 153) = W0 at *
  refine wp_scope_hops2 0 (JS t (.slice (some ⟨g, 0, none⟩) n cap) M c sp n S l k w) (fun a' _ => n - (intOf (a'.tmps.getD 6 undef)).toNat) rfl ?_ ?_
  · intro hp
    obtain ⟨c0, c1, c2, c3⟩ := blk4 HT0.out.1
    obtain ⟨k0, k1, k2, k3, k4⟩ := blk5 HK0.out
    have hlt : t < W0.heap.size := by omega
    go_upto_region 5 with (fail)
    have kne : Nonempty (Kin W0) := ⟨⟨_, Below.refl _ _⟩⟩
    have y0 : ∀ y : Kin W0, y.val.cell? ⟨t, 3, none⟩ = some (.slice (some ⟨g, 0, none⟩) n cap) := fun y => by rw [kin_cell (by first | omega | (simp <;> omega))]; exact c3
    have y1 : ∀ y : Kin W0, y.val.cell? ⟨w.heap.size, 0, none⟩ = some (.int .u32 k.s) := fun y => by rw [kin_cell (by first | omega | (simp <;> omega))]; exact k0
    have y2 : ∀ y : Kin W0, y.val.cell? ⟨w.heap.size, 1, none⟩ = some (.int .u32 k.d) := fun y => by rw [kin_cell (by first | omega | (simp <;> omega))]; exact k1
    have y3 : ∀ y : Kin W0, y.val.cell? ⟨w.heap.size, 2, none⟩ = some (.int .u16 k.p) := fun y => by rw [kin_cell (by first | omega | (simp <;> omega))]; exact k2
    have y4 : ∀ y : Kin W0, y.val.cell? ⟨w.heap.size, 3, none⟩ = some (.int .u16 k.q) := fun y => by rw [kin_cell (by first | omega | (simp <;> omega))]; exact k3
    have y5 : ∀ y : Kin W0, y.val.cell? ⟨w.heap.size, 4, none⟩ = some (.int .u8 k.r) := fun y => by rw [kin_cell (by first | omega | (simp <;> omega))]; exact k4
    refine wp_region_kin W0 (Below.refl _ _) (by kernel_rfl) (by kernel_rfl) ?_
    repeat (go_big_quiet_step (first | (go_at_call 91; exact kin_call (hscat _))))
    refine wpQuiet_nil ?_
    rintro wq ⟨⟨xq, hxq⟩, hyq⟩
    have hq : Below W0.heap.size W0 wq := by rw [hyq]; exact hxq
    clear hyq hxq xq kne y0 y1 y2 y3 y4 y5 c0 c1 c2 c3 k0 k1 k2 k3 k4
    have hz := hq.size
    go_wp2
    go_step3
    refine (‹∀ (a : Act) (w : World), Code.wp _ _ _ a w → _›) ?a _ (hp ?a _ ⟨0, scF k n, -1, fun i => (?a : Act).tmps.getD i undef, rfl, ?_, sk_zero, HT0.out.on hq, blk_on HK0.out hq, blk_on HR0.out hq, bel_of HB0.out hq⟩)
    unfold way; rw [Nat.zero_mul, Nat.add_zero]; exact (Nat.mod_eq_of_lt (scF_lt k (by omega))).symm
  · clear HT0 HK0 HR0 HB0 hz0 hscat W0
    rintro a wr ⟨p, x, again, u, rfl, hx, hsk, HT, HK, HR, HB⟩
    generalize hQQ : hop _ _ _ _ _ = QQ
    have HQ : Hid (hop _ _ _ _ _ = QQ) := hQQ
    clear hQQ
    obtain ⟨s, st, y, sk, hx0, hp0, hst, hy, hrem, Hs, c3, d0, d1, d2, d3, d4, d5⟩ := seek_facts Hi.out Hn.out hx hsk HT
    rw [← HS.out] at hrem
    obtain ⟨k0, k1, k2, k3, k4⟩ := blk5 HK
    have HJ : Hid (x = way k n p ∧ Sk way l k p again ∧ Tab wr t (.slice (some ⟨g, 0, none⟩) n cap) M c sp l ∧ wr.heap[w.heap.size]? = some (.cells #[.int .u32 k.s, .int .u32 k.d, .int .u16 k.p, .int .u16 k.q, .int .u8 k.r] 54) ∧ wr.heap[w.heap.size + 1]? = some (.cells #[.int .i64 0, .bool false, .int .i64 0] 153) ∧ Below w.heap.size w wr) := ⟨hx, hsk, HT, HK, HR, HB⟩
    have Hy : Hid (y = way k n (p + 1)) := hy
    clear hx hsk HT HK HR HB hy
    have hx1 : (x : Int) < (n : Int) := by omega
    have hp1 : (p : Int) + 1 < (n : Int) := by omega
    have hS1 : (S : Int) ≤ (n : Int) := by omega
    rcases (by omega : st = 0 ∨ st = 1 ∨ st = 2) with rfl | rfl | rfl
    · have HF := found_no Hi.out Hn.out HJ.out.1 HJ.out.2.1 Hs.out.2.2 Hs.out.1
      by_cases ha : again = -1
      · subst ha
        rw [if_pos rfl] at HF
        have HF' : Hid (Found l k x false (p + 1)) := HF
        clear HF
        go_wp2
        go_step3
        show QQ (.goto 1) _ _
        rw [← HQ.out]
        refine Or.inr ⟨_, rfl, ?_⟩
        go_wp2_with (refine wpList_store_blk rfl 153 (.tmp 4) (.tmp 67) rfl (w.heap.size + 1) 0 #[.int .i64 x, .bool false, .int .i64 ((p : Int) + 1)] #[.int .i64 x, .bool false, .int .i64 ((p : Int) + 1)] rfl rfl 153 _ HJ.out.2.2.2.2.1 (Nat.le_of_ble_eq_true rfl) rfl (by kernel_rfl) rfl ?_; intro w8 hw8 how8)
        refine jump_ret ?_
        exact bodyPost_ret (results_blk Tryz.results68 rfl hw8 Tryz.underlying153 rfl (by kernel_rfl)) rfl ⟨x, false, p + 1, rfl, HF'.out, HJ.out.2.2.2.2.2.trans (how8.below (by omega))⟩
      · rw [if_neg ha] at HF
        have HF' : Hid (Found l k again.toNat false (p + 1)) := HF
        have hag := again_is HJ.out.2.1 ha
        obtain ⟨q, hq⟩ : ∃ q, q = again.toNat := ⟨_, rfl⟩
        rw [← hq] at HF' hag
        clear hq HF
        subst hag
        go_wp2
        go_step3
        show QQ (.goto 1) _ _
        rw [← HQ.out]
        refine Or.inr ⟨_, rfl, ?_⟩
        go_wp2_with (refine wpList_store_blk rfl 153 (.tmp 4) (.tmp 67) rfl (w.heap.size + 1) 0 #[.int .i64 q, .bool false, .int .i64 ((p : Int) + 1)] #[.int .i64 q, .bool false, .int .i64 ((p : Int) + 1)] rfl rfl 153 _ HJ.out.2.2.2.2.1 (Nat.le_of_ble_eq_true rfl) rfl (by kernel_rfl) rfl ?_; intro w8 hw8 how8)
        refine jump_ret ?_
        exact bodyPost_ret (results_blk Tryz.results68 rfl hw8 Tryz.underlying153 rfl (by kernel_rfl)) rfl ⟨q, false, p + 1, rfl, HF'.out, HJ.out.2.2.2.2.2.trans (how8.below (by omega))⟩
    · have he := fun W => eqH_any sk k W
      by_cases hk : sk = k
      · have HF : Hid (Found l k x true (p + 1)) := found_yes Hi.out Hn.out HJ.out.1 HJ.out.2.1 Hs.out.2.2 Hs.out.1 (Hs.out.2.1.trans hk)
        rw [decide_eq_true hk] at he
        clear hk
        go_wp2
        go_quiet (fail)
        go_wp2
        go_step3
        show QQ (.goto 3) _ _
        rw [← HQ.out]
        refine Or.inr ⟨_, rfl, ?_⟩
        go_wp2_with (refine wpList_store_blk rfl 153 (.tmp 4) (.tmp 70) rfl (w.heap.size + 1) 0 #[.int .i64 x, .bool true, .int .i64 ((p : Int) + 1)] #[.int .i64 x, .bool true, .int .i64 ((p : Int) + 1)] rfl rfl 153 _ HJ.out.2.2.2.2.1 (Nat.le_of_ble_eq_true rfl) rfl (by kernel_rfl) rfl ?_; intro w8 hw8 how8)
        refine jump_ret ?_
        exact bodyPost_ret (results_blk Tryz.results68 rfl hw8 Tryz.underlying153 rfl (by kernel_rfl)) rfl ⟨x, true, p + 1, rfl, HF.out, (bel_drewN HJ.out.2.2.2.2.2 _).trans (how8.below (by omega))⟩
      · have HN : Hid _ := HJ.out.2.1.next (s := s) (by rw [← Hn.out, ← HJ.out.1]; exact Hs.out.2.2) Hs.out.1 (by rw [Hs.out.2.1]; exact hk)
        rw [decide_eq_false hk] at he
        clear hk
        go_wp2
        go_quiet (fail)
        go_wp2
        go_step3
        go_wp2
        go_step3
        show QQ (.goto 0) _ _
        rw [← HQ.out]
        refine Or.inl ⟨rfl, JS_mk (p + 1) y again rfl Hy.out HN.out HJ.out.2.2.1 HJ.out.2.2.2.1 HJ.out.2.2.2.2.1 (bel_drewN HJ.out.2.2.2.2.2 _), ?m1⟩
        · show n - (intOf (.int .i64 ((p : Int) + 1))).toNat < n - (intOf (.int .i64 p)).toNat
          simp [intOf]; omega
    · have HN0 := HJ.out.2.1.left (s := s) (by rw [← Hn.out, ← HJ.out.1]; exact Hs.out.2.2) (by rw [Hs.out.1]; decide) (by rw [Hs.out.1]; decide)
      rw [← Hn.out, ← HJ.out.1] at HN0
      by_cases ha : again = -1
      · subst ha
        rw [if_pos rfl] at HN0
        have HN : Hid _ := HN0
        clear HN0
        go_wp2
        go_step3
        show QQ (.goto 2) _ _
        rw [← HQ.out]
        refine Or.inr ⟨_, rfl, ?_⟩
        go_wp2
        go_step3
        change _ ∧ _
        refine ⟨rfl, JS_mk (p + 1) y (x : Int) rfl Hy.out HN.out HJ.out.2.2.1 HJ.out.2.2.2.1 HJ.out.2.2.2.2.1 HJ.out.2.2.2.2.2, ?m2⟩
        · show n - (intOf (.int .i64 ((p : Int) + 1))).toNat < n - (intOf (.int .i64 p)).toNat
          simp [intOf]; omega
      · rw [if_neg ha] at HN0
        have HN : Hid _ := HN0
        clear HN0
        go_wp2
        go_step3
        show QQ (.goto 2) _ _
        rw [← HQ.out]
        refine Or.inr ⟨_, rfl, ?_⟩
        go_wp2
        go_step3
        change _ ∧ _
        refine ⟨rfl, JS_mk (p + 1) y again rfl Hy.out HN.out HJ.out.2.2.1 HJ.out.2.2.2.1 HJ.out.2.2.2.2.1 HJ.out.2.2.2.2.2, ?m3⟩
        · show n - (intOf (.int .i64 ((p : Int) + 1))).toNat < n - (intOf (.int .i64 p)).toNat
          simp [intOf]; omega
end Go.Proofs.YtfpmljgmfapoiaaGreat.Hx
/-
  A table of slots written: what stays; isCrowded, fill. Written by tools/mkHhG.py.
-/
namespace Go.Proofs.YtfpmljgmfapoiaaGreat.Hx
open Go.RowKit
set_option linter.unusedVariables false
set_option linter.unusedSimpArgs false

section
variable {w w' : World} {t : Nat} {v v' : Value} {M c sp c' sp' : Nat} {l l' : List SlI}
theorem Tab.put (h : Tab w t v M c sp l) (ho : Only t w w') (hb : w'.heap[t]? = some (.cells #[.int .i64 M, .int .i64 c', .int .i64 sp', v] 160 (0, 0))) : Tab w' t v M c' sp' l ∧ Moved w w' t v v := by
  refine ⟨⟨hb, ⟨h.2.1.1, ?_⟩, h.2.2⟩, ⟨ho.os, ho.tape, ho.output, Nat.le_of_eq ho.size.symm, fun k hk ht _ => ho.block k ht, fun k e => .inl e⟩⟩
  rcases h.2.1.2 with h2 | ⟨g, cap, cur, hv, hg, hh, q⟩
  · exact .inl h2
  · exact .inr ⟨g, cap, cur, hv, hg, by rw [ho.block g (fun e => h.2.2 (by rw [hv, e]; rfl))]; exact hh, q⟩
theorem only_setCell (w : World) (t j : Nat) (u : Value) : Only t w (w.setCell ⟨t, j, none⟩ u) :=
  ⟨rfl, rfl, rfl, by simp, fun k hk => Below.heap_setCell w ⟨t, j, none⟩ u k hk⟩
theorem Tab.set1 (h : Tab w t v M c sp l) (x : Nat) : Tab (w.setCell ⟨t, 1, none⟩ (.int .i64 x)) t v M x sp l ∧ Moved w (w.setCell ⟨t, 1, none⟩ (.int .i64 x)) t v v :=
  h.put (only_setCell w t 1 _) (blk_set h.1 _)
theorem Tab.set2 (h : Tab w t v M c sp l) (x : Nat) : Tab (w.setCell ⟨t, 2, none⟩ (.int .i64 x)) t v M c x l ∧ Moved w (w.setCell ⟨t, 2, none⟩ (.int .i64 x)) t v v :=
  h.put (only_setCell w t 2 _) (blk_set h.1 _)
/-- The row is another. -/
theorem Tab.row (hr : RowL w 0 v' l') (hne : v'.ownBlock ≠ some t) (hb : w.heap[t]? = some (.cells #[.int .i64 M, .int .i64 c, .int .i64 sp, v] 160 (0, 0))) : Tab (w.setCell ⟨t, 3, none⟩ v') t v' M c sp l' := by
  refine ⟨blk_set hb _, ⟨hr.1, ?_⟩, hne⟩
  rcases hr.2 with h2 | ⟨g, cap, cur, hv, hg, hh, q⟩
  · exact .inl h2
  · exact .inr ⟨g, cap, cur, hv, hg, by rw [(only_setCell w t 3 v').block g (fun e => hne (by rw [hv, e]; rfl))]; exact hh, q⟩
/-- A slot of the row is another. -/
theorem Tab.over {g n cap : Nat} (hv : v = .slice (some ⟨g, 0, none⟩) n cap) (h : Tab w t v M c sp l) (hr : RowL w' 0 v l') (hg : w.grownBy w' (some g)) : Tab w' t v M c sp l' ∧ Moved w w' t v v := by
  subst hv
  have hne : t ≠ g := fun e => h.2.2 (by simp [Value.ownBlock, e])
  exact ⟨⟨by rw [hg.block t h.lt (by simpa using hne)]; exact h.1, hr, h.2.2⟩, ⟨hg.os, hg.tape, hg.output, hg.size, fun k hk _ hv => hg.block k hk (fun e => hv (by simp at e; simp [Value.ownBlock, e])), fun k e => .inl e⟩⟩
theorem take_set (A : List SlI) (p : Nat) (x : SlI) (h : p < A.length) : A.take p ++ [x] ++ A.drop (p + [x].length) = A.set p x := by
  rw [List.set_eq_take_append_cons_drop, if_pos h]; simp
theorem Tab.filled (h : Tab w t v M c sp l) (h0 : 0 < l.length) : ∃ g cap, v = .slice (.some ⟨g, 0, none⟩) l.length cap ∧ l.length ≤ cap ∧ g < w.heap.size := by
  obtain ⟨g, cap, hv, hc, _, hg⟩ := h.2.1.some h0
  exact ⟨g, cap, hv, hc, hg⟩
end
set_option maxHeartbeats 1000000 in
theorem crowdC (t : Nat) (v : Value) (M c sp : Nat) (l : List SlI) (w : World) (h : Tab w t v M c sp l) (hl : l.length ≤ 4294967296) (hs : sp ≤ 4294967296) :
    Calls Tryz.prog 104 #[.pointer (some ⟨t, 0, none⟩)] w fun e w' => e = .returned (.bool (decide (3 * l.length < 4 * (sp + 1)))) ∧ Below w.heap.size w w' := by
  obtain ⟨c0, c1, c2, c3⟩ := blk4 h.1
  obtain ⟨ad, cap, rfl, hcap, hat⟩ := h.2.1.form
  obtain ⟨n, hn⟩ : ∃ n, n = l.length := ⟨_, rfl⟩
  rw [← hn] at hl hcap c3 ⊢
  clear hat hn h
  have hn0 : (n : Int) ≤ 4294967296 := by omega
  have hs0 : (sp : Int) ≤ 4294967296 := by omega
  go_enter Tryz.func104, Tryz.ntmps104
  go_wp2
  go_quiet (fail)
  go_wp2
  go_ret
  refine ⟨ret_same ?_, bel_drewN (Below.refl _ _) _⟩
  rw [Bool.eq_iff_iff]; simp; omega
set_option maxHeartbeats 4000000 in
set_option maxRecDepth 20000 in
theorem fillC (t : Nat) (v : Value) (M c sp x : Nat) (l : List SlI) (k : Hd) (y : Sv) (a : SlI) (w : World) (h : Tab w t v M c sp l) (hl : l.length ≤ 4294967296) (hs : sp ≤ 4294967296) (hc : c ≤ 4294967296) (ha : l[x]? = some a) :
    Calls Tryz.prog 106 #[.pointer (some ⟨t, 0, none⟩), .int .i64 x, .agg #[.int .u32 k.s, .int .u32 k.d, .int .u16 k.p, .int .u16 k.q, .int .u8 k.r], .slice y.ad y.n y.cap] w fun e w' => e = .returned (.tuple #[]) ∧ Tab w' t v M (c + 1) (if a.st = 0 then sp + 1 else sp) (l.set x ⟨1, k, y⟩) ∧ Moved w w' t v v := by
  have hx : x < l.length := (List.getElem?_eq_some_iff.1 ha).1
  have hlt := h.lt
  obtain ⟨g, cap, rfl, hcap, hg⟩ := h.filled (by omega)
  have HSet : Hid (l.take x ++ [(⟨1, k, y⟩ : SlI)] ++ l.drop (x + [(⟨1, k, y⟩ : SlI)].length) = l.set x ⟨1, k, y⟩) := take_set l x _ hx
  obtain ⟨n, hn⟩ : ∃ n, n = l.length := ⟨_, rfl⟩
  have Hn : Hid (n = l.length) := hn
  rw [← hn] at h hl hx hcap ⊢
  clear hn
  have b1 : Below w.heap.size w (w.alloc (.cells #[.int .u32 k.s, .int .u32 k.d, .int .u16 k.p, .int .u16 k.q, .int .u8 k.r] 54)) := (Below.refl _ _).alloc (Nat.le_refl _) _
  have h1 := h.on b1
  have HK1 : Hid (Kb (w.alloc (.cells #[.int .u32 k.s, .int .u32 k.d, .int .u16 k.p, .int .u16 k.q, .int .u8 k.r] 54)) t (.slice (some ⟨g, 0, none⟩) n cap) w.heap.size (.cells #[.int .u32 k.s, .int .u32 k.d, .int .u16 k.p, .int .u16 k.q, .int .u8 k.r] 54)) := ⟨blk_new w _, by omega, fun e => by have := h.own e; omega⟩
  have HM1 : Hid (Moved w (w.alloc (.cells #[.int .u32 k.s, .int .u32 k.d, .int .u16 k.p, .int .u16 k.q, .int .u8 k.r] 54)) t (.slice (some ⟨g, 0, none⟩) n cap) (.slice (some ⟨g, 0, none⟩) n cap)) := Moved.of_below b1
  obtain ⟨d0, _, _, _, _, _, _⟩ := rowL_at h1.2.1 ha
  obtain ⟨st, hst⟩ : ∃ st, st = a.st := ⟨_, rfl⟩
  rw [← hst] at d0 ⊢
  clear hst
  obtain ⟨sp', hsp⟩ : ∃ sp', sp' = if st = 0 then sp + 1 else sp := ⟨_, rfl⟩
  rw [← hsp]
  have HSP : Hid (sp' = if st = 0 then sp + 1 else sp) := hsp
  clear hsp
  obtain ⟨c0, c1, c2, c3⟩ := blk4 h1.1
  have f1 := blk_free h1.1 1
  have f2 := blk_free h1.1 2
  have hn0 : (n : Int) ≤ 4294967296 := by omega
  have hs0 : (sp : Int) ≤ 4294967296 := by omega
  have hc0 : (c : Int) ≤ 4294967296 := by omega
  have hix : (x : Int) < (n : Int) := by omega
  have hix2 : ¬ n ≤ x := by omega
  have hne : ¬ t = w.heap.size := by omega
  have H1 : Hid (Tab (w.alloc (.cells #[.int .u32 k.s, .int .u32 k.d, .int .u16 k.p, .int .u16 k.q, .int .u8 k.r] 54)) t (.slice (some ⟨g, 0, none⟩) n cap) M c sp l) := h1
  have hW1 : w.heap.size < (w.alloc (.cells #[.int .u32 k.s, .int .u32 k.d, .int .u16 k.p, .int .u16 k.q, .int .u8 k.r] 54)).heap.size := by simp
  clear h h1 b1
  go_enter Tryz.func106, Tryz.ntmps106
  go_upto_region 1 with (fail)
  generalize w.alloc (.cells #[.int .u32 k.s, .int .u32 k.d, .int .u16 k.p, .int .u16 k.q, .int .u8 k.r] 54) = W1 at *
  by_cases h0 : st = 0
  · have hsp' : sp' = sp + 1 := by rw [HSP.out, if_pos h0]
    clear HSP
    subst hsp'
    subst h0
    have q2 := H1.out.set2 (sp + 1)
    have q1 := q2.1.set1 (c + 1)
    rw [show ((sp + 1 : Nat) : Int) = (sp : Int) + 1 by omega, show ((c + 1 : Nat) : Int) = (c : Int) + 1 by omega] at q1
    rw [show ((sp + 1 : Nat) : Int) = (sp : Int) + 1 by omega] at q2
    have HT3 : Hid (Tab _ t (.slice (some ⟨g, 0, none⟩) n cap) M (c + 1) (sp + 1) l) := q1.1
    have HM3 : Hid (Moved w _ t (.slice (some ⟨g, 0, none⟩) n cap) (.slice (some ⟨g, 0, none⟩) n cap)) := (HM1.out.trans q2.2).trans q1.2
    have HK3 : Hid (Kb _ t (.slice (some ⟨g, 0, none⟩) n cap) w.heap.size (.cells #[.int .u32 k.s, .int .u32 k.d, .int .u16 k.p, .int .u16 k.q, .int .u8 k.r] 54)) := (HK1.out.moved q2.2).moved q1.2
    clear q1 q2 HK1 HM1 H1
    go_upto_region 4 with (fail)
    clear c0 c1 c2 c3 d0 f1 f2
    generalize (W1.setCell ⟨t, 2, none⟩ (.int .i64 ((sp : Int) + 1))).setCell ⟨t, 1, none⟩ (.int .i64 ((c : Int) + 1)) = W3 at *
    have HKB : Hid (W3.heap[w.heap.size]? = some (.cells #[.int .u32 k.s, .int .u32 k.d, .int .u16 k.p, .int .u16 k.q, .int .u8 k.r] 54)) := HK3.out.1
    refine wp_region_held_drew (S := fun w' => w'.cell? ⟨t, 3, none⟩ = some (.slice (some ⟨g, 0, none⟩) n cap) ∧ w'.heap[w.heap.size]? = some (.cells #[.int .u32 k.s, .int .u32 k.d, .int .u16 k.p, .int .u16 k.q, .int .u8 k.r] 54)) (by kernel_rfl) ⟨(blk4 HT3.out.1).2.2.2, HKB.out⟩ (fun hS1 => ?_)
    show wpAnyH _ _ _ _ _ 10 _ _ _
    refine wpTk (i := 0) (v := .pointer (some ⟨t, 0, none⟩)) hS1 ?_
    simp only [nrm]
    refine wpTk (i := 1) (v := .pointer (some ⟨t, 0, none⟩)) hS1 ?_
    simp only [nrm]
    refine wpTk (i := 2) (v := .pointer (some ⟨t, 3, none⟩)) hS1 ?_
    simp only [nrm]
    refine wpAnyH_take (i := 3) (v := .slice (some ⟨g, 0, none⟩) n cap) rfl (by kernel_rfl) (by kernel_rfl) (by kernel_rfl) (fun _ _ _ h => h) (.inl ⟨rfl, fun w' hw' => by have hcc := hw'.1; simp [execOp, go_sem, hcc]⟩) hS1 ?_
    simp only [nrm]
    refine wpTk (i := 4) (v := .int .i64 x) hS1 ?_
    simp only [nrm]
    refine wpAnyH_take (i := 5) (v := .agg #[.int .u32 k.s, .int .u32 k.d, .int .u16 k.p, .int .u16 k.q, .int .u8 k.r]) rfl (by kernel_rfl) (by kernel_rfl) (by kernel_rfl) (fun _ _ _ h => h) (yieldsIf_load_mid rfl 54 (.tmp 6) rfl w.heap.size 0 rfl [.int .u32 k.s, .int .u32 k.d, .int .u16 k.p, .int .u16 k.q, .int .u8 k.r] _ (fun w' hw' => by have := World.rangeAt_of_block hw'.2 0 5; simpa using this) Tryz.underlying54 rfl (by kernel_rfl)) hS1 ?_
    simp only [nrm]
    refine wpTk (i := 6) (v := .slice y.ad y.n y.cap) hS1 ?_
    simp only [nrm]
    refine wpTk (i := 7) (v := .agg #[.int .i64 1, .int .u32 k.s, .int .u32 k.d, .int .u16 k.p, .int .u16 k.q, .int .u8 k.r, .slice y.ad y.n y.cap]) hS1 ?_
    simp only [nrm]
    refine wpAnyH_take (i := 8) (v := .pointer (some ⟨g, x * 7, none⟩)) rfl (by kernel_rfl) (by kernel_rfl) (by kernel_rfl) (fun _ _ _ h => h) (yieldsIf_index rfl 158 (.tmp 34) (.tmp 35) rfl _ (fun w => by simp [Instr.indexAt, go_sem, hix, hix2])) hS1 ?_
    simp only [nrm]
    refine wpO 9 (fun K' hK' => ?_)
    refine wp_storeL (.tmp 39) (.tmp 38) rfl 0 g n cap l HT3.out.2.1 x hx (⟨1, k, y⟩ : SlI) rfl rfl (fun w6 hr6 hg6 => hK' _ _ ⟨?_, ?_⟩)
    · obtain ⟨k1, k2⟩ := Tab.over rfl HT3.out.drew hr6 hg6
      exact ⟨(blk4 k1.1).2.2.2, (HK3.out.moved k2.undrew).1⟩
    · refine wpAnyH_done (by kernel_rfl) ?_ _
      rw [HSet.out] at hr6
      obtain ⟨k1, k2⟩ := Tab.over rfl HT3.out.drew hr6 hg6
      have HT6 : Hid (Tab w6 t (.slice (some ⟨g, 0, none⟩) n cap) M (c + 1) (sp + 1) (l.set x ⟨1, k, y⟩)) := k1
      have HM6 : Hid (Moved w w6 t (.slice (some ⟨g, 0, none⟩) n cap) (.slice (some ⟨g, 0, none⟩) n cap)) := HM3.out.trans k2.undrew
      clear k1 k2 hr6 hg6 hK' HT3 HM3 HK3 HKB hS1
      simp only [nrm]
      go_wp2_with (fail)
      go_end0
      exact ⟨rfl, HT6.out, HM6.out⟩
  · have hsp' : sp = sp' := by rw [HSP.out, if_neg h0]
    clear HSP
    subst hsp'
    have h0' : ¬ (st : Int) = 0 := by omega
    have q1 := H1.out.set1 (c + 1)
    rw [show ((c + 1 : Nat) : Int) = (c : Int) + 1 by omega] at q1
    have HT3 : Hid (Tab _ t (.slice (some ⟨g, 0, none⟩) n cap) M (c + 1) sp l) := q1.1
    have HM3 : Hid (Moved w _ t (.slice (some ⟨g, 0, none⟩) n cap) (.slice (some ⟨g, 0, none⟩) n cap)) := HM1.out.trans q1.2
    have HK3 : Hid (Kb _ t (.slice (some ⟨g, 0, none⟩) n cap) w.heap.size (.cells #[.int .u32 k.s, .int .u32 k.d, .int .u16 k.p, .int .u16 k.q, .int .u8 k.r] 54)) := HK1.out.moved q1.2
    clear q1 HK1 HM1 H1 h0
    go_upto_region 4 with (fail)
    clear c0 c1 c2 c3 d0 f1 f2
    generalize W1.setCell ⟨t, 1, none⟩ (.int .i64 ((c : Int) + 1)) = W3 at *
    have HKB : Hid (W3.heap[w.heap.size]? = some (.cells #[.int .u32 k.s, .int .u32 k.d, .int .u16 k.p, .int .u16 k.q, .int .u8 k.r] 54)) := HK3.out.1
    refine wp_region_held_drew (S := fun w' => w'.cell? ⟨t, 3, none⟩ = some (.slice (some ⟨g, 0, none⟩) n cap) ∧ w'.heap[w.heap.size]? = some (.cells #[.int .u32 k.s, .int .u32 k.d, .int .u16 k.p, .int .u16 k.q, .int .u8 k.r] 54)) (by kernel_rfl) ⟨(blk4 HT3.out.1).2.2.2, HKB.out⟩ (fun hS1 => ?_)
    show wpAnyH _ _ _ _ _ 10 _ _ _
    refine wpTk (i := 0) (v := .pointer (some ⟨t, 0, none⟩)) hS1 ?_
    simp only [nrm]
    refine wpTk (i := 1) (v := .pointer (some ⟨t, 0, none⟩)) hS1 ?_
    simp only [nrm]
    refine wpTk (i := 2) (v := .pointer (some ⟨t, 3, none⟩)) hS1 ?_
    simp only [nrm]
    refine wpAnyH_take (i := 3) (v := .slice (some ⟨g, 0, none⟩) n cap) rfl (by kernel_rfl) (by kernel_rfl) (by kernel_rfl) (fun _ _ _ h => h) (.inl ⟨rfl, fun w' hw' => by have hcc := hw'.1; simp [execOp, go_sem, hcc]⟩) hS1 ?_
    simp only [nrm]
    refine wpTk (i := 4) (v := .int .i64 x) hS1 ?_
    simp only [nrm]
    refine wpAnyH_take (i := 5) (v := .agg #[.int .u32 k.s, .int .u32 k.d, .int .u16 k.p, .int .u16 k.q, .int .u8 k.r]) rfl (by kernel_rfl) (by kernel_rfl) (by kernel_rfl) (fun _ _ _ h => h) (yieldsIf_load_mid rfl 54 (.tmp 6) rfl w.heap.size 0 rfl [.int .u32 k.s, .int .u32 k.d, .int .u16 k.p, .int .u16 k.q, .int .u8 k.r] _ (fun w' hw' => by have := World.rangeAt_of_block hw'.2 0 5; simpa using this) Tryz.underlying54 rfl (by kernel_rfl)) hS1 ?_
    simp only [nrm]
    refine wpTk (i := 6) (v := .slice y.ad y.n y.cap) hS1 ?_
    simp only [nrm]
    refine wpTk (i := 7) (v := .agg #[.int .i64 1, .int .u32 k.s, .int .u32 k.d, .int .u16 k.p, .int .u16 k.q, .int .u8 k.r, .slice y.ad y.n y.cap]) hS1 ?_
    simp only [nrm]
    refine wpAnyH_take (i := 8) (v := .pointer (some ⟨g, x * 7, none⟩)) rfl (by kernel_rfl) (by kernel_rfl) (by kernel_rfl) (fun _ _ _ h => h) (yieldsIf_index rfl 158 (.tmp 34) (.tmp 35) rfl _ (fun w => by simp [Instr.indexAt, go_sem, hix, hix2])) hS1 ?_
    simp only [nrm]
    refine wpO 9 (fun K' hK' => ?_)
    refine wp_storeL (.tmp 39) (.tmp 38) rfl 0 g n cap l HT3.out.2.1 x hx (⟨1, k, y⟩ : SlI) rfl rfl (fun w6 hr6 hg6 => hK' _ _ ⟨?_, ?_⟩)
    · obtain ⟨k1, k2⟩ := Tab.over rfl HT3.out.drew hr6 hg6
      exact ⟨(blk4 k1.1).2.2.2, (HK3.out.moved k2.undrew).1⟩
    · refine wpAnyH_done (by kernel_rfl) ?_ _
      rw [HSet.out] at hr6
      obtain ⟨k1, k2⟩ := Tab.over rfl HT3.out.drew hr6 hg6
      have HT6 : Hid (Tab w6 t (.slice (some ⟨g, 0, none⟩) n cap) M (c + 1) sp (l.set x ⟨1, k, y⟩)) := k1
      have HM6 : Hid (Moved w w6 t (.slice (some ⟨g, 0, none⟩) n cap) (.slice (some ⟨g, 0, none⟩) n cap)) := HM3.out.trans k2.undrew
      clear k1 k2 hr6 hg6 hK' HT3 HM3 HK3 HKB hS1
      simp only [nrm]
      go_wp2_with (fail)
      go_end0
      exact ⟨rfl, HT6.out, HM6.out⟩
end Go.Proofs.YtfpmljgmfapoiaaGreat.Hx
