/-
  Levels, Depth and Find, the program's and the document's, told alike.
-/
import Derived.Test.YtcjpjofoddpfhaaGreatNsLt
namespace Go.Proofs.YtcjpjofoddpfhaaGreat
open Go.RowKit
set_option linter.unusedVariables false
set_option linter.unusedSimpArgs false

def LvOut (l : List (Nat × Nat)) (R : List Int) (er : Int) : Prop := (okS l = true ∧ (∃ u, InO u ∧ (∀ x, x ∈ u ↔ x ∈ l) ∧ R = ofN (l.map (lvU u))) ∧ er = 0) ∨ (okS l = false ∧ R = [] ∧ er = 30)
def DpOut (l : List (Nat × Nat)) (d : Nat) (er : Int) : Prop := (okS l = true ∧ (∃ u, InO u ∧ (∀ x, x ∈ u ↔ x ∈ l) ∧ d = dep (l.map (lvU u))) ∧ er = 0) ∨ (okS l = false ∧ d = 0 ∧ er = 30)
def FnOut (l : List (Nat × Nat)) (p : Nat) (R : List Int) (er : Int) : Prop := (okS l = true ∧ (∃ u, InO u ∧ (∀ x, x ∈ u ↔ x ∈ l) ∧ R = fnds u l p) ∧ er = 0) ∨ (okS l = false ∧ R = [] ∧ er = 30)
theorem LvOut.uniq {l : List (Nat × Nat)} {R R' : List Int} {er er' : Int} (h : LvOut l R er) (h' : LvOut l R' er') : R' = R ∧ er' = er := by
  rcases h with ⟨ho, ⟨u, h1, h2, rfl⟩, rfl⟩ | ⟨ho, rfl, rfl⟩ <;> rcases h' with ⟨ho', ⟨u', h1', h2', rfl⟩, rfl⟩ | ⟨ho', rfl, rfl⟩
  · obtain rfl : u' = u := ino_uniq h1' h1 (fun x => by rw [h2' x, h2 x])
    exact ⟨rfl, rfl⟩
  · rw [ho] at ho'; cases ho'
  · rw [ho] at ho'; cases ho'
  · exact ⟨rfl, rfl⟩
theorem DpOut.uniq {l : List (Nat × Nat)} {R R' : Nat} {er er' : Int} (h : DpOut l R er) (h' : DpOut l R' er') : R' = R ∧ er' = er := by
  rcases h with ⟨ho, ⟨u, h1, h2, rfl⟩, rfl⟩ | ⟨ho, rfl, rfl⟩ <;> rcases h' with ⟨ho', ⟨u', h1', h2', rfl⟩, rfl⟩ | ⟨ho', rfl, rfl⟩
  · obtain rfl : u' = u := ino_uniq h1' h1 (fun x => by rw [h2' x, h2 x])
    exact ⟨rfl, rfl⟩
  · rw [ho] at ho'; cases ho'
  · rw [ho] at ho'; cases ho'
  · exact ⟨rfl, rfl⟩
theorem FnOut.uniq {l : List (Nat × Nat)} {p : Nat} {R R' : List Int} {er er' : Int} (h : FnOut l p R er) (h' : FnOut l p R' er') : R' = R ∧ er' = er := by
  rcases h with ⟨ho, ⟨u, h1, h2, rfl⟩, rfl⟩ | ⟨ho, rfl, rfl⟩ <;> rcases h' with ⟨ho', ⟨u', h1', h2', rfl⟩, rfl⟩ | ⟨ho', rfl, rfl⟩
  · obtain rfl : u' = u := ino_uniq h1' h1 (fun x => by rw [h2' x, h2 x])
    exact ⟨rfl, rfl⟩
  · rw [ho] at ho'; cases ho'
  · rw [ho] at ho'; cases ho'
  · exact ⟨rfl, rfl⟩
theorem dep_short {u l : List (Nat × Nat)} (h1 : InO u) (h2 : ∀ x, x ∈ u ↔ x ∈ l) : dep (l.map (lvU u)) ≤ l.length := by
  have hul : u.length ≤ l.length := List.Nodup.length_le_of_subset (ino_nodup h1) (fun x hx => (h2 x).1 hx)
  have : dep (l.map (lvU u)) ≤ u.length := dep_le (fun n hn => by
    obtain ⟨s, hs, rfl⟩ := List.mem_map.1 hn
    exact lvU_lt ((h2 s).2 hs))
  omega
theorem LvOut.len {l : List (Nat × Nat)} {R : List Int} {er : Int} (h : LvOut l R er) : R.length ≤ l.length := by
  rcases h with ⟨ho, ⟨u, h1, h2, rfl⟩, rfl⟩ | ⟨ho, rfl, rfl⟩
  · rw [ofN_len, List.length_map]; exact Nat.le_refl _
  · exact Nat.zero_le _
theorem FnOut.len {l : List (Nat × Nat)} {p : Nat} {R : List Int} {er : Int} (h : FnOut l p R er) : R.length ≤ l.length := by
  rcases h with ⟨ho, ⟨u, h1, h2, rfl⟩, rfl⟩ | ⟨ho, rfl, rfl⟩
  · unfold fnds; rw [fndR_len]; exact dep_short h1 h2
  · exact Nat.zero_le _
theorem levelsU (l : List (Nat × Nat)) (v : Value) (w : World) (hs : SrcS w v l) (hl : l.length ≤ 16777216) (hb : ∀ s ∈ l, Bd16 s) :
    Calls Tryz.prog 8 #[v] w fun e w' => ∃ (v' : Value) (R : List Int) (er : Int), e = .returned (.tuple #[v', .int .i64 er]) ∧ LvOut l R er ∧ RowI w' w.heap.size v' R ∧ Below w.heap.size w w' := by
  refine (levelsC l v w hs hl hb).mono ?_
  rintro e w' ⟨⟨ho, v', u, rfl, h1, h2, h3⟩ | ⟨ho, rfl⟩, hb⟩
  · exact ⟨v', _, 0, rfl, .inl ⟨ho, ⟨u, h1, h2, rfl⟩, rfl⟩, h3, hb⟩
  · exact ⟨_, [], 30, rfl, .inr ⟨ho, rfl, rfl⟩, RowI.nil _ _, hb⟩
theorem rLevelsU (l : List (Nat × Nat)) (v : Value) (w : World) (hs : SrcS w v l) (hl : l.length ≤ 16777216) :
    Calls Tryz.prog 9 #[v] w fun e w' => ∃ (v' : Value) (R : List Int) (er : Int), e = .returned (.tuple #[v', .int .i64 er]) ∧ LvOut l R er ∧ RowI w' w.heap.size v' R ∧ Below w.heap.size w w' := by
  refine (rLevelsC l v w hs hl).mono ?_
  rintro e w' ⟨⟨ho, v', u, rfl, h1, h2, h3⟩ | ⟨ho, rfl⟩, hb⟩
  · exact ⟨v', _, 0, rfl, .inl ⟨ho, ⟨u, h1, h2, rfl⟩, rfl⟩, h3, hb⟩
  · exact ⟨_, [], 30, rfl, .inr ⟨ho, rfl, rfl⟩, RowI.nil _ _, hb⟩
theorem depthU (l : List (Nat × Nat)) (v : Value) (w : World) (hs : SrcS w v l) (hl : l.length ≤ 16777216) (hb : ∀ s ∈ l, Bd16 s) :
    Calls Tryz.prog 11 #[v] w fun e w' => ∃ (d : Nat) (er : Int), e = .returned (.tuple #[.int .i64 (d : Int), .int .i64 er]) ∧ DpOut l d er ∧ Below w.heap.size w w' := by
  refine (depthC l v w hs hl hb).mono ?_
  rintro e w' ⟨⟨ho, u, h1, h2, rfl⟩ | ⟨ho, rfl⟩, hb⟩
  · exact ⟨_, 0, rfl, .inl ⟨ho, ⟨u, h1, h2, rfl⟩, rfl⟩, hb⟩
  · exact ⟨0, 30, rfl, .inr ⟨ho, rfl, rfl⟩, hb⟩
theorem rDepthU (l : List (Nat × Nat)) (v : Value) (w : World) (hs : SrcS w v l) (hl : l.length ≤ 16777216) :
    Calls Tryz.prog 12 #[v] w fun e w' => ∃ (d : Nat) (er : Int), e = .returned (.tuple #[.int .i64 (d : Int), .int .i64 er]) ∧ DpOut l d er ∧ Below w.heap.size w w' := by
  refine (rDepthC l v w hs hl).mono ?_
  rintro e w' ⟨⟨ho, u, h1, h2, rfl⟩ | ⟨ho, rfl⟩, hb⟩
  · exact ⟨_, 0, rfl, .inl ⟨ho, ⟨u, h1, h2, rfl⟩, rfl⟩, hb⟩
  · exact ⟨0, 30, rfl, .inr ⟨ho, rfl, rfl⟩, hb⟩
theorem findU (l : List (Nat × Nat)) (p : Nat) (v : Value) (w : World) (hs : SrcS w v l) (hl : l.length ≤ 16777216) (hb : ∀ s ∈ l, Bd16 s) :
    Calls Tryz.prog 14 #[v, .int .u16 (p : Int)] w fun e w' => ∃ (v' : Value) (R : List Int) (er : Int), e = .returned (.tuple #[v', .int .i64 er]) ∧ FnOut l p R er ∧ RowI w' w.heap.size v' R ∧ Below w.heap.size w w' := by
  refine (findC l p v w hs hl hb).mono ?_
  rintro e w' ⟨⟨ho, v', u, rfl, h1, h2, h3⟩ | ⟨ho, rfl⟩, hb⟩
  · exact ⟨v', _, 0, rfl, .inl ⟨ho, ⟨u, h1, h2, rfl⟩, rfl⟩, h3, hb⟩
  · exact ⟨_, [], 30, rfl, .inr ⟨ho, rfl, rfl⟩, RowI.nil _ _, hb⟩
theorem rFindU (l : List (Nat × Nat)) (p : Nat) (v : Value) (w : World) (hs : SrcS w v l) (hl : l.length ≤ 16777216) :
    Calls Tryz.prog 15 #[v, .int .u16 (p : Int)] w fun e w' => ∃ (v' : Value) (R : List Int) (er : Int), e = .returned (.tuple #[v', .int .i64 er]) ∧ FnOut l p R er ∧ RowI w' w.heap.size v' R ∧ Below w.heap.size w w' := by
  refine (rFindC l p v w hs hl).mono ?_
  rintro e w' ⟨⟨ho, v', u, rfl, h1, h2, h3⟩ | ⟨ho, rfl⟩, hb⟩
  · exact ⟨v', _, 0, rfl, .inl ⟨ho, ⟨u, h1, h2, rfl⟩, rfl⟩, h3, hb⟩
  · exact ⟨_, [], 30, rfl, .inr ⟨ho, rfl, rfl⟩, RowI.nil _ _, hb⟩
/-- Rows that are kept while another is written. -/
theorem rowI_keptO {w w' : World} {b : Nat} {v : Value} {l : List Int} {r : Option Nat} (h : RowI w b v l) (hg : w.grownBy w' r) (hne : ∀ k, r = some k → k < b) : RowI w' b v l := World.ownsRow.kept h hg (by
  cases e : v.ownBlock with
  | none => exact .inl rfl
  | some k => exact .inr (fun e2 => by have h1 := (h.lt k e).1; have h2 := hne k e2.symm; omega))
theorem rowS_keptO {w w' : World} {b : Nat} {v : Value} {l : List (Nat × Nat)} {r : Option Nat} (h : RowS w b v l) (hg : w.grownBy w' r) (hne : ∀ k j, v.ownBlock = some k → r = some j → k ≠ j) : RowS w' b v l := World.ownsRow.kept h hg (by
  cases e : v.ownBlock with
  | none => exact .inl rfl
  | some k => exact .inr (fun e2 => hne k k e e2.symm rfl))
theorem grown_trans {a b c : World} {r : Option Nat} (h : a.grownBy b r) (h2 : b.grownBy c r) : a.grownBy c r := ⟨h2.os.trans h.os, h2.tape.trans h.tape, h2.output.trans h.output, Nat.le_trans h.size h2.size, fun k hk hne => (h2.block k (Nat.lt_of_lt_of_le hk h.size) hne).trans (h.block k hk hne)⟩
theorem grown_none (a : World) (r : Option Nat) : a.grownBy a r := ⟨rfl, rfl, rfl, Nat.le_refl _, fun _ _ _ => rfl⟩
end Go.Proofs.YtcjpjofoddpfhaaGreat
