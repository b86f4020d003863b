/-
  For told: a region that draws its order within a round of a range over a function; a loop of few rounds; two rules compared; Rules with its capacity.
-/
import Derived.LoopN
import Derived.Test.YtlghbcdahnjcpaaTbLe
import Derived.Test.YtlghbcdahnjcpaaTbQ
namespace Go.Proofs.Ytlghbcdahnjcpaa
open Go.RowKit
set_option linter.unusedVariables false
set_option linter.unusedSimpArgs false

def noDefer (o : Oper) : Bool := match o.op with | .defer _ => false | _ => true
theorem noDefer_spec {o : Oper} (h : noDefer o = true) : ∀ c, o.op ≠ .defer c := by
  intro c e
  unfold noDefer at h
  rw [e] at h
  cases h
theorem oper_round {P : Program} {C : World → Prop} {l n : Nat} {o : Oper} {a : Act} {K : Act → Prop} {K' : Act → World → Prop} {Q' : Exit → Act → World → Prop} {w : World} (hd : noDefer o = true) (hw : C w) (h : ∀ a w', C w' → K a → K' a w')
    (hh : o.quiet P a C K) : o.wpIn (Fence.wide.inRound l) n P a w K' Q' := by
  obtain ⟨v, h1, h2⟩ := hh
  have h3 := h1 w hw
  unfold Oper.quietAt at h3
  unfold Oper.wpIn
  refine ⟨fun f _ => trivial, ?_⟩
  rw [Fence.inRound_round, Oper.semAt_some l _ _ (noDefer_spec hd)]
  generalize (execOp a.eval o).run P w = r at *
  cases r with
  | ok x w' =>
    cases x <;> simp only [Oper.quietUpon] at h3 <;> simp only [Oper.uponIn]
    case value u =>
      obtain ⟨e1, e2⟩ := h3
      rw [e1, e2]
      exact h _ _ hw h2
    case skip =>
      obtain ⟨e1, e2⟩ := h3
      rw [e1, ← e2]
      exact h _ _ hw h2
    case enter f args =>
      obtain ⟨e1, hc⟩ := h3
      rw [e1]
      exact ⟨fun hh => by simp [Fence.wide] at hh, CallsIn.inRound l ((callsIn_wide.2 hc).mono fun e w'' ⟨he, hw''⟩ => by subst he; exact h _ _ hw'' h2)⟩
  | halt x w' => simp only [Oper.quietUpon] at h3
theorem anyIn_round {P : Program} {ops : Array Oper} {md : Region.Mode} {C : World → Prop} {l n : Nat} {Q : Act → Prop} {Q' : Exit → Act → World → Prop} (hd : ∀ (i : Nat) (o : Oper), ops[i]? = some o → noDefer o = true) (hQ : ∀ a w, C w → Q a → Q' .normal a w) :
    ∀ (fuel : Nat) (listed : Array Bool) (a : Act) (w : World), C w → wpAnyQ P md ops C Q fuel listed a → wpAnyIn (Fence.wide.inRound l) n P md ops Q' fuel listed a w
  | 0, _, _, _, hw, h => ⟨h.1, hQ _ _ hw h.2⟩
  | fuel + 1, listed, a, w, hw, h => ⟨fun h0 => hQ _ _ hw (h.1 h0), fun i hi => by
      have hh := h.2 i hi
      have hK : ∀ a' w', C w' → wpAnyQ P md ops C Q fuel (listed.setIfInBounds i true) a' → wpAnyIn (Fence.wide.inRound l) n P md ops Q' fuel (listed.setIfInBounds i true) a' w' := fun a' w' hw' => anyIn_round hd hQ fuel _ a' w' hw'
      unfold qOp at hh
      unfold wpOpIn
      split
      · rename_i ho; simp only [ho] at hh; exact hK _ _ hw hh
      · rename_i o ho
        simp only [ho] at hh
        split
        · rename_i hwt; simp only [hwt, if_true] at hh; exact oper_round (hd i o ho) hw hK hh
        · rename_i hwt; simp only [hwt] at hh; exact ⟨fun f _ => trivial, hK _ _ hw hh⟩⟩
/-- One walk in the order of the text serves every order, within a round. -/
theorem wpIn_region_kinR {P : Program} {id l n : Nat} {Q : Exit → Act → World → Prop} {a : Act} {w : World} {os : List Oper} (W : World) (hW : Below W.heap.size W w) (hm : P.follows .mixedOrders = true) (hB : Region.lexB .any os.toArray = true) (hd : os.all noDefer = true)
    (h : wpQuiet P os.toArray (fun w' => ∃ x : Kin W, w' = x.val) (fun a' => ∀ w', (∃ x : Kin W, w' = x.val) → Q .normal a' w') os a) : (Code.region id os.toArray true).wpIn (Fence.wide.inRound l) n P Q a w := by
  simp only [Region.lexB, Bool.and_eq_true] at hB
  refine wpIn_region_any hm (anyIn_round (C := fun w' => ∃ x : Kin W, w' = x.val) (Q := fun a' => ∀ w', (∃ x : Kin W, w' = x.val) → Q .normal a' w') (fun i o ho => ?_) (fun _ w' hw' h => h w' hw') _ _ _ _ ⟨⟨_, hW.drew⟩, rfl⟩ ?_)
  · exact List.all_eq_true.1 hd o (by
      have := List.mem_of_getElem? (l := os) (i := i) (a := o) (by simpa using ho)
      exact this)
  · have := wpAnyQ_lex (P := P) (C := fun w' => ∃ x : Kin W, w' = x.val) (md := .any) hB.1 os 0 (Array.replicate os.length false) a (by simp) (by simpa using hB.2) h
    simpa using this
/-- A loop of two rounds. -/
theorem loop_two {P : Program} {Q : Exit → Act → World → Prop} {a : Act} {w : World} {c : Code} (J : Nat → Act → World → Prop) (h0 : J 0 a w)
    (hs : ∀ k a w, k < 2 → J k a w → c.wp P (Exit.then (J (k + 1)) Q) a w) (he : ∀ a w, J 2 a w → c.wp P (Exit.then (fun _ _ => False) Q) a w) : (Code.loop c).wp P Q a w := by
  refine wp_loop_rounds 3 ?_
  have h2 : ∀ a w, J 2 a w → Code.rounds P c Q 1 a w := fun a w h => Code.wp_mono (fun e a w q => by cases e <;> exact q) (he a w h)
  have h1 : ∀ a w, J 1 a w → Code.rounds P c Q 2 a w := fun a w h => Code.wp_mono (fun e a w q => by
    cases e
    case normal => exact h2 a w q
    all_goals exact q) (hs 1 a w (by decide) h)
  exact Code.wp_mono (fun e a w q => by
    cases e
    case normal => exact h1 a w q
    all_goals exact q) (hs 0 a w (by decide) h0)
theorem ifs0 (p : Prop) [Decidable p] (w : World) : (if p then Result.ok (Value.bool false) w else Result.ok (Value.bool true) w) = Result.ok (Value.bool (!decide p)) w := by split <;> simp [*]
theorem ifs (p : Prop) [Decidable p] (q : Bool) (w : World) (X : Result Value) (hX : X = Result.ok (Value.bool (!q)) w) : (if p then X else Result.ok (Value.bool true) w) = Result.ok (Value.bool (!(decide p && q))) w := by split <;> simp [*]
def eqRu (a b : Ru) : Bool := decide (a.i = b.i) && (decide ((a.s : Int) = (b.s : Int)) && (decide (a.sl = b.sl) && (decide ((a.d : Int) = (b.d : Int)) && (decide (a.dl = b.dl) && (decide ((a.p.1 : Int) = (b.p.1 : Int)) && (decide ((a.p.2 : Int) = (b.p.2 : Int)) && (decide ((a.q.1 : Int) = (b.q.1 : Int)) && (decide ((a.q.2 : Int) = (b.q.2 : Int)) && (decide ((a.m.1 : Int) = (b.m.1 : Int)) && (decide ((a.m.2 : Int) = (b.m.2 : Int)) && (decide (a.act = b.act))))))))))))
theorem eqRu_iff (a b : Ru) : eqRu a b = true ↔ a = b := by
  obtain ⟨a1, a2, a3, a4, a5, ⟨a6, a7⟩, ⟨a8, a9⟩, ⟨a10, a11⟩, a12⟩ := a
  obtain ⟨b1, b2, b3, b4, b5, ⟨b6, b7⟩, ⟨b8, b9⟩, ⟨b10, b11⟩, b12⟩ := b
  unfold eqRu
  simp only [Bool.and_eq_true, decide_eq_true_eq, Ru.mk.injEq, Prod.mk.injEq]
  omega
theorem eqRu_no {a b : Ru} (h : a ≠ b) : eqRu a b = false := by
  cases c : eqRu a b
  · rfl
  · exact absurd ((eqRu_iff a b).1 c) h
set_option maxHeartbeats 4000000 in
set_option maxRecDepth 20000 in
theorem neRu_any (a b : Ru) (w : World) : Sem.run Try.prog (binOp .neq 43 (.agg #[.int .i64 a.i, .int .u32 (a.s : Int), .int .i64 a.sl, .int .u32 (a.d : Int), .int .i64 a.dl, .int .u16 (a.p.1 : Int), .int .u16 (a.p.2 : Int), .int .u16 (a.q.1 : Int), .int .u16 (a.q.2 : Int), .int .u8 (a.m.1 : Int), .int .u8 (a.m.2 : Int), .int .i64 a.act]) (.agg #[.int .i64 b.i, .int .u32 (b.s : Int), .int .i64 b.sl, .int .u32 (b.d : Int), .int .i64 b.dl, .int .u16 (b.p.1 : Int), .int .u16 (b.p.2 : Int), .int .u16 (b.q.1 : Int), .int .u16 (b.q.2 : Int), .int .u8 (b.m.1 : Int), .int .u8 (b.m.2 : Int), .int .i64 b.act])) w = .ok (.bool (!eqRu a b)) w := by
  obtain ⟨V, hV⟩ : ∃ V, V = (!eqRu a b) := ⟨_, rfl⟩
  rw [← hV]
  simp [go_sem]
  rw [hV]
  unfold eqRu
  refine ifs _ _ _ _ ?_
  refine ifs _ _ _ _ ?_
  refine ifs _ _ _ _ ?_
  refine ifs _ _ _ _ ?_
  refine ifs _ _ _ _ ?_
  refine ifs _ _ _ _ ?_
  refine ifs _ _ _ _ ?_
  refine ifs _ _ _ _ ?_
  refine ifs _ _ _ _ ?_
  refine ifs _ _ _ _ ?_
  refine ifs _ _ _ _ ?_
  exact ifs0 _ _
set_option maxHeartbeats 1000000 in
theorem copyOfX (v : Value) (l : List Ru) (w : World) (hs : SrcU w v l) (hl : l.length ≤ 200000) :
    Calls Try.prog 42 #[v] w fun e w' => e = .returned (.slice (some ⟨w.heap.size, 0, none⟩) l.length l.length) ∧ RowU w' w.heap.size (.slice (some ⟨w.heap.size, 0, none⟩) l.length l.length) l ∧ Below w.heap.size w w' := by
  obtain ⟨i0, hi, hz0, hz1, hz2⟩ := info_parts infoU
  have hmk := fun W => run_make (P := Try.prog) W 33 43 i0 _ Try.underlying33 hi hz0 .i64 .i64 l.length l.length (by omega) (Int.le_refl _) (by rw [hz2]; omega) (by omega)
  simp only [hz1, Int.toNat_natCast] at hmk
  obtain ⟨w1, hr, HR, HB⟩ := run_fillU w 3 v l hs hl #[.int .i64 0, .int .u32 0, .int .i64 0, .int .u32 0, .int .i64 0, .int .u16 0, .int .u16 0, .int .u16 0, .int .u16 0, .int .u8 0, .int .u8 0, .int .i64 0]
  have HR1 : Hid (RowU w1 w.heap.size (.slice (some ⟨w.heap.size, 0, none⟩) l.length l.length) l) := HR
  have HB1 : Hid (Below w.heap.size w w1) := HB
  obtain ⟨ad, cap, rfl, hcap, hat⟩ := hs
  clear hat HR HB hi hz0 hz1 hz2
  go_enter Try.func42, Try.ntmps42
  go_wp2_with (fail)
  go_ret
  exact ⟨rfl, HR1.out, HB1.out⟩
theorem rulesX (t : Nat) (v : Value) (M A : Int) (l : List Ru) (w : World) (h : Tab w t v M A l) (hl : l.length ≤ 200000) :
    Calls Try.prog 22 #[.pointer (some ⟨t, 0, none⟩)] w fun e w' => e = .returned (.slice (some ⟨w.heap.size, 0, none⟩) l.length l.length) ∧ RowU w' w.heap.size (.slice (some ⟨w.heap.size, 0, none⟩) l.length l.length) l ∧ Below w.heap.size w w' := by
  have hP := copyOfX v l w h.2.1.src hl
  obtain ⟨c0, c1, c2⟩ := blk3 h.1
  obtain ⟨ad, cap, rfl, hcap, hat⟩ := h.2.1.src
  obtain ⟨n, hn⟩ : ∃ n, n = l.length := ⟨_, rfl⟩
  rw [← hn] at hP c2 ⊢
  clear hat h hn
  go_enter Try.func22, Try.ntmps22
  go_wp2_with (fail)
  refine hP.mono ?_
  rintro e w1 ⟨rfl, hr1, hb1⟩
  have HB1 : Hid (Below w.heap.size w w1) := hb1
  have HR1 : Hid (RowU w1 w.heap.size (.slice (some ⟨w.heap.size, 0, none⟩) n n) l) := hr1
  clear hb1 hr1 hP c0 c1 c2
  go_wp2_with (fail)
  go_ret
  exact ⟨rfl, HR1.out, HB1.out⟩
end Go.Proofs.Ytlghbcdahnjcpaa
