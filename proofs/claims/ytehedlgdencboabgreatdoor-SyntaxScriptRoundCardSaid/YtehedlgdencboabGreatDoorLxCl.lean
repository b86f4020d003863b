/-
  What holds at each label of the landed lex.scanLine.
-/
import Derived.Test.YtehedlgdencboabGreatDoorLxPlN
import Derived.Test.YtehedlgdencboabGreatDoorLxBt
import Derived.Test.YtehedlgdencboabGreatDoorBxW
namespace Go.Proofs.YtehedlgdencboabGreatDoor
open Go.RowKit
set_option linter.unusedVariables false
set_option linter.unusedSimpArgs false

/-- The list, the answer's Fault (new block) and the token (the next one), in the world w that began as w0. -/
structure SL (B : Nat) (w0 w : World) (v : Value) (l : List Tk) (K : Int) (t : ByteArray) (X L C : Int) : Prop where
  bel : Below B w0 w
  row : RowT w B v l
  nR : some w0.heap.size ≠ v.ownBlock
  nT : some (w0.heap.size + 1) ≠ v.ownBlock
  hR : w.heap[w0.heap.size]? = some (.cells #[.int .i64 0, .int .i64 0, .int .i64 0] 76)
  hT : w.heap[w0.heap.size + 1]? = some (.cells #[.int .i64 K, .string t, .int .u32 X, .int .i64 L, .int .i64 C] 84)
theorem SL.put {B : Nat} {w0 w : World} {v : Value} {l : List Tk} {K K' : Int} {t t' : ByteArray} {X X' L L' C C' : Int} (h : SL B w0 w v l K t X L C) (hB : B ≤ w0.heap.size) (j : Nat) (u : Value)
    (hu : (#[.int .i64 K, .string t, .int .u32 X, .int .i64 L, .int .i64 C] : Array Value).setIfInBounds j u = #[.int .i64 K', .string t', .int .u32 X', .int .i64 L', .int .i64 C']) : SL B w0 (w.setCell ⟨w0.heap.size + 1, j, none⟩ u) v l K' t' X' L' C' :=
  ⟨h.bel.setCell (Nat.le_succ_of_le hB) _, h.row.put h.nT _, h.nR, h.nT, blk_far h.hR (by omega) _, by have := blk_set h.hT (j := j) u; rw [hu] at this; exact this⟩
theorem RowT.only2 {w w' : World} {b B : Nat} {v : Value} {l : List Tk} (h : RowT w b v l) (ho : Only B w w') (hB : some B ≠ v.ownBlock) : RowT w' b v l := by
  refine ⟨h.1, ?_⟩
  rcases h.2 with h2 | ⟨g, cap, cur, hv, hg, hh, r⟩
  · exact .inl h2
  · exact .inr ⟨g, cap, cur, hv, hg, by rw [ho.block g (fun e => hB (by rw [hv, ← e]; rfl))]; exact hh, r⟩
theorem SL.all {B : Nat} {w0 w w' : World} {v : Value} {l : List Tk} {K K' : Int} {t t' : ByteArray} {X X' L L' C C' : Int} (h : SL B w0 w v l K t X L C) (hB : B ≤ w0.heap.size)
    (ho : Only (w0.heap.size + 1) w w') (hT : w'.heap[w0.heap.size + 1]? = some (.cells #[.int .i64 K', .string t', .int .u32 X', .int .i64 L', .int .i64 C'] 84)) : SL B w0 w' v l K' t' X' L' C' :=
  ⟨h.bel.trans (ho.below (by omega)), h.row.only2 ho h.nT, h.nR, h.nT, by rw [ho.block _ (by omega)]; exact h.hR, hT⟩
theorem SL.on {B : Nat} {w0 w w' : World} {v : Value} {l : List Tk} {K : Int} {t : ByteArray} {X L C : Int} (h : SL B w0 w v l K t X L C) (hb : Below w.heap.size w w') (hB : B ≤ w0.heap.size) : SL B w0 w' v l K t X L C :=
  ⟨h.bel.trans (hb.mono (Nat.le_trans hB (Nat.le_of_lt (blk_lt h.hR)))), h.row.on hb, h.nR, h.nT, blk_on h.hR hb, blk_on h.hT hb⟩
/-- What holds at a label: 0 wrong, 1 next, 2 end, 3 blank, 4 remark, 5 word, 6 number, 7 sign, 8 keep. -/
def Lab (b : ByteArray) (no l at_ code : Nat) (pre : List Tk) (K : Int) (t : ByteArray) (X C : Int) : Prop :=
  match l with
  | 0 => code ≠ 0 ∧ ∃ cn : Nat, C = (cn : Int) ∧ lineA b no = (pre, ⟨code, no, cn⟩)
  | l + 1 => b.size ≤ 200 ∧ at_ ≤ b.size ∧ lineA b no = (pre ++ (lineT b no at_).1, (lineT b no at_).2) ∧ pre.length ≤ at_ ∧
    match l with
    | 0 => True
    | 1 => at_ = b.size ∧ K = 0 ∧ t = ⟨#[]⟩ ∧ X = 0 ∧ C = (at_ : Int) + 1
    | 2 => at_ < b.size ∧ kd (bt b at_) = 1
    | 3 => at_ < b.size ∧ kd (bt b at_) = 2
    | 4 => at_ < b.size ∧ kd (bt b at_) = 3 ∧ K = 0 ∧ t = ⟨#[]⟩ ∧ X = 0 ∧ C = (at_ : Int) + 1
    | 5 => at_ < b.size ∧ kd (bt b at_) = 4 ∧ K = 0 ∧ t = ⟨#[]⟩ ∧ X = 0 ∧ C = (at_ : Int) + 1
    | 6 => at_ < b.size ∧ kd (bt b at_) = 5 ∧ K = 0 ∧ t = ⟨#[]⟩ ∧ X = 0 ∧ C = (at_ : Int) + 1
    | 7 => at_ < b.size ∧ bt b at_ ≠ 35 ∧ (stepS b at_).e = 0 ∧ (stepS b at_).k ≠ 0 ∧ K = ((stepS b at_).k : Int) ∧ t = b.extract at_ (stepS b at_).j ∧ X = ((stepS b at_).v : Int) ∧ C = (at_ : Int) + 1
    | _ => False
theorem lab_cases {b : ByteArray} {no l at_ code : Nat} {pre : List Tk} {K : Int} {t : ByteArray} {X C : Int} (h : Lab b no l at_ code pre K t X C) : l = 0 ∨ l = 1 ∨ l = 2 ∨ l = 3 ∨ l = 4 ∨ l = 5 ∨ l = 6 ∨ l = 7 ∨ l = 8 := by
  match l, h with
  | 0, _ => omega
  | 1, _ => omega
  | 2, _ => omega
  | 3, _ => omega
  | 4, _ => omega
  | 5, _ => omega
  | 6, _ => omega
  | 7, _ => omega
  | 8, _ => omega
  | n + 9, h => exact absurd h.2.2.2.2 (by simp)
theorem lab0 {b : ByteArray} {no at_ code : Nat} {pre : List Tk} {K : Int} {t : ByteArray} {X C : Int} (h : Lab b no 0 at_ code pre K t X C) : code ≠ 0 ∧ ∃ cn : Nat, C = (cn : Int) ∧ lineA b no = (pre, ⟨code, no, cn⟩) := h
def rk (l : Nat) : Nat := if l = 1 then 9 else if l = 8 then 3 else if l = 2 then 2 else if l = 0 then 1 else 5
theorem Hnd.onB {B : Nat} {w w1 : World} (h : Hnd w) (hb : Below B w w1) (hB : 8 < B) : Hnd w1 := by
  have key : ∀ {c i : Nat} {v : Value}, w.cell? ⟨c, i, none⟩ = some v → c < B → w1.cell? ⟨c, i, none⟩ = some v := fun hv hc => by
    rw [← hv]; unfold World.cell?; rw [hb.block _ hc]
  obtain ⟨tp, p, he⟩ := h.er
  exact ⟨key h.h (by omega), ⟨tp, p, key he (by omega)⟩, fun x hx => key (h.tab x hx) (by omega)⟩
end Go.Proofs.YtehedlgdencboabGreatDoor
