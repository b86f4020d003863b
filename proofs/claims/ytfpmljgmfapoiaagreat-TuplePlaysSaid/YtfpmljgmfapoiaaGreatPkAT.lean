/-
  PkAT: TpMa TpNa, one behind the other (tools/pack.py).
-/
import Derived.Test.YtfpmljgmfapoiaaGreatPkAS
import Derived.Test.YtfpmljgmfapoiaaGreatPkAD
/-
  A map from tuples to tables, a set of tuples: what calls on them leave.
-/
namespace Go.Proofs.YtfpmljgmfapoiaaGreat
open Go.ChangeShapes Go.WideShapes Go.ChangeAt Go.RowKit Go.Joins Go.Maps Go.ChangeMaps Go.MapKept
set_option linter.unusedVariables false
set_option linter.unusedSimpArgs false
set_option maxRecDepth 100000

def valM (o : Option Nat) : Value := .pointer (o.map fun g => ⟨g, 0, none⟩)
def datM (o : Option Nat) : DataW Unit := match o with
  | none => .lit (.bool false)
  | some g => .lit (.int .i64 g)
def ptrE (v : Value) : Option (DataW Unit × List MemPlace) := match v with
  | .pointer none => some (datM none, [])
  | .pointer (some ⟨g, 0, none⟩) => some (datM (some g), [])
  | _ => none
theorem datM_inj {o o' : Option Nat} (h : datM o = datM o') : o = o' := by
  cases o <;> cases o' <;> simp [datM] at h
  · rfl
  · rename_i a b
    have : a = b := by omega
    rw [this]
theorem ptrE_inv {v : Value} {d : DataW Unit} {ps : List MemPlace} (h : ptrE v = some (d, ps)) : ∃ o, v = valM o ∧ d = datM o := by
  unfold ptrE at h
  split at h
  · cases h; exact ⟨none, rfl, rfl⟩
  · cases h; exact ⟨some _, rfl, rfl⟩
  · cases h
abbrev KT : TypeId := 144
def keyT (t : Tp) (kl : Lit) : Prop := keyOf Tryz.prog KT (.agg #[.int .i64 t.a, .int .i64 t.b, .int .i64 t.c, .int .i64 t.d, .int .u8 t.m]) = some kl
theorem keyT_inj {s t : Tp} {kl : Lit} (hs : keyT s kl) (ht : keyT t kl) : s = t := tv_inj (tp_keyed.inj hs ht)
theorem keyT_same {s : Tp} {k l : Lit} (hk : keyT s k) (hl : keyT s l) : k = l := by unfold keyT at *; rw [hk] at hl; injection hl
theorem keyT_lit {t : Tp} {kl : Lit} (h : keyT t kl) : WideAt.IsKeyLit kl := tp_keyed.key h
/-- The map in block B: at most n entries; under t the block f t; ks its tuples. -/
structure Mp (w : World) (B n : Nat) (f : Tp → Option Nat) (ks : List Tp) : Prop where
  ex : ∃ D : DataW Unit, w.ownsMap Tryz.prog KT ptrE B n D ∧ (∀ t kl, keyT t kl → D.atKey kl (datM none) = datM (f t) ∧ has D kl = (f t).isSome) ∧ (∀ kl, has D kl = true → ∃ t, keyT t kl) ∧ size D = ks.length
  nd : ks.Nodup
  mem : ∀ t, t ∈ ks ↔ (f t).isSome = true
  bd : ∀ t, (f t).isSome = true → BdT t
def updM (f : Tp → Option Nat) (t : Tp) (o : Option Nat) : Tp → Option Nat := fun s => if s = t then o else f s
theorem Mp.new (w : World) : Mp (w.alloc (.map #[] 0)) w.heap.size 0 (fun _ => none) [] where
  ex := ⟨_, World.ownsMap_made w Tryz.prog _ _, fun t kl _ => ⟨rfl, rfl⟩, fun kl h => by simp [has] at h, rfl⟩
  nd := List.nodup_nil
  mem := fun t => by simp
  bd := fun t h => by cases h
section
variable {w w' : World} {B n : Nat} {f : Tp → Option Nat} {ks : List Tp}
theorem Mp.kept {row : Option Nat} (h : Mp w B n f ks) (hg : w.grownBy w' row) (hne : some B ≠ row) : Mp w' B n f ks := by
  obtain ⟨D, h1, h2⟩ := h.ex
  exact ⟨⟨D, h1.kept hg hne, h2⟩, h.nd, h.mem, h.bd⟩
theorem Mp.lt (h : Mp w B n f ks) : B < w.heap.size := by
  obtain ⟨D, h1, _⟩ := h.ex
  exact h1.lt
theorem Mp.stay (h : Mp w B n f ks) (hb : w'.heap[B]? = w.heap[B]?) : Mp w' B n f ks := by
  obtain ⟨D, ⟨es, clock, e1, e2⟩, h2⟩ := h.ex
  exact ⟨⟨D, ⟨es, clock, hb.trans e1, e2⟩, h2⟩, h.nd, h.mem, h.bd⟩
theorem Mp.on (h : Mp w B n f ks) (hb : Below w.heap.size w w') : Mp w' B n f ks := h.stay (hb.block B h.lt)
theorem Mp.mono (h : Mp w B n f ks) {n' : Nat} (hn : n ≤ n') : Mp w B n' f ks := by
  obtain ⟨D, h1, h2⟩ := h.ex
  exact ⟨⟨D, h1.mono hn, h2⟩, h.nd, h.mem, h.bd⟩
/-- No more than its tuples. -/
theorem Mp.tight (h : Mp w B n f ks) : Mp w B ks.length f ks := by
  obtain ⟨D, ⟨es, clock, e1, e2, e3, e4⟩, h2, h3, h4⟩ := h.ex
  refine ⟨⟨D, ⟨es, clock, e1, e2, ?_, e4⟩, h2, h3, h4⟩, h.nd, h.mem, h.bd⟩
  rw [← h4, e4]
  simp [size, length_sorted]
theorem zeroM (w : World) : (zeroValue 93).run Tryz.prog w = .ok (.pointer none) w := by kernel_rfl
theorem Mp.look (h : Mp w B n f ks) {t : Tp} (b : BdT t) : (Instr.lookup 70 (.map (some B)) (.agg #[.int .i64 t.a, .int .i64 t.b, .int .i64 t.c, .int .i64 t.d, .int .u8 t.m]) false).run Tryz.prog w = .ok (valM (f t)) w := by
  obtain ⟨D, h1, h2, _⟩ := h.ex
  obtain ⟨kl, hk⟩ := tp_key b
  obtain ⟨v, ps, hr, hv⟩ := h1.lookup tp_keyed Tryz.underlying70 (zeroM w) (zd := datM none) (zp := []) rfl hk
  rw [(h2 t kl hk).1] at hv
  obtain ⟨o, rfl, e⟩ := ptrE_inv hv
  rw [hr, ← datM_inj e]
theorem Mp.len (h : Mp w B n f ks) (ty : TypeId) : (Builtin.len_ #[70] ty #[.map (some B)]).run Tryz.prog w = .ok (.int .i64 ks.length) w := by
  obtain ⟨D, h1, _, _, h4⟩ := h.ex
  rw [h1.len Tryz.underlying70 ty, h4]
theorem Mp.put (h : Mp w B n f ks) {t : Tp} (b : BdT t) (g : Nat) (hn : n < 4294967296) :
    ∃ w', (Instr.mapUpdate 70 (.map (some B)) (.agg #[.int .i64 t.a, .int .i64 t.b, .int .i64 t.c, .int .i64 t.d, .int .u8 t.m]) (.pointer (some ⟨g, 0, none⟩))).run Tryz.prog w = .ok () w' ∧ Mp w' B (n + 1) (updM f t (some g)) (if t ∈ ks then ks else ks ++ [t]) ∧ w.grownBy w' (some B) ∧ w'.heap.size = w.heap.size := by
  obtain ⟨D, h1, h2, h3, h4⟩ := h.ex
  obtain ⟨kl, hk⟩ := tp_key b
  obtain ⟨w', hr, ho, hm⟩ := h1.store tp_keyed Tryz.underlying70 (by unfold maxLen; omega) (val := .pointer (some ⟨g, 0, none⟩)) (d := datM (some g)) (ps := []) hk rfl
  have hT := h1.tidy tp_keyed
  have hkt : keyT t kl := hk
  have hin : has D kl = decide (t ∈ ks) := by
    rw [(h2 t kl hk).2, Bool.eq_iff_iff, decide_eq_true_eq, h.mem]
  refine ⟨w', hr, ⟨⟨_, ho, fun s l hs => ?_, fun l hl => ?_, ?_⟩, ?_, fun s => ?_, fun s hs => ?_⟩, hm.grown, ?_⟩
  · unfold updM
    by_cases e : s = t
    · subst e
      rw [if_pos rfl, keyT_same hs hkt]
      exact ⟨atKey_put_same h1.isMap (keyT_lit hkt) _ _, has_put_same h1.isMap (keyT_lit hkt) _⟩
    · have hne : l ≠ kl := fun e2 => e (keyT_inj hs (e2 ▸ hkt))
      rw [if_neg e, atKey_put_other hne, has_put_other hne]
      exact h2 s l hs
  · by_cases e : l = kl
    · subst e; exact ⟨t, hkt⟩
    · rw [has_put_other e] at hl; exact h3 l hl
  · rw [size_put hT, hin, h4]
    by_cases e : t ∈ ks
    · simp [e]
    · simp [e]
  · split
    · exact h.nd
    · rename_i e
      rw [List.nodup_append]
      exact ⟨h.nd, by simp, fun a ha b hb e2 => by simp at hb; subst hb; exact e (e2 ▸ ha)⟩
  · unfold updM
    by_cases e : s = t
    · subst e
      rw [if_pos rfl]
      split <;> simp_all
    · rw [if_neg e, ← h.mem]
      split
      · rfl
      · simp [e]
  · unfold updM at hs
    by_cases e : s = t
    · subst e; exact b
    · rw [if_neg e] at hs; exact h.bd s hs
  · obtain ⟨_, _, _, _, _, rfl⟩ := hm
    simp [Go.ChangeMaps.setBlock]
theorem Mp.del (h : Mp w B n f ks) {t : Tp} (b : BdT t) (ty : TypeId) :
    ∃ w', (Builtin.delete_ #[70, 144] ty #[.map (some B), .agg #[.int .i64 t.a, .int .i64 t.b, .int .i64 t.c, .int .i64 t.d, .int .u8 t.m]]).run Tryz.prog w = .ok (.tuple #[]) w' ∧ Mp w' B n (updM f t none) (ks.erase t) ∧ w.grownBy w' (some B) ∧ w'.heap.size = w.heap.size := by
  obtain ⟨D, h1, h2, h3, h4⟩ := h.ex
  obtain ⟨kl, hk⟩ := tp_key b
  obtain ⟨w', hr, ho, hm⟩ := h1.drop tp_keyed Tryz.underlying70 hk ty
  have hT := h1.tidy tp_keyed
  have hkt : keyT t kl := hk
  have hin : has D kl = decide (t ∈ ks) := by
    rw [(h2 t kl hk).2, Bool.eq_iff_iff, decide_eq_true_eq, h.mem]
  refine ⟨w', hr, ⟨⟨_, ho, fun s l hs => ?_, fun l hl => ?_, ?_⟩, h.nd.erase t, fun s => ?_, fun s hs => ?_⟩, hm.grown, ?_⟩
  · unfold updM
    by_cases e : s = t
    · subst e
      rw [if_pos rfl, keyT_same hs hkt]
      exact ⟨atKey_del_same _, has_del_same⟩
    · have hne : l ≠ kl := fun e2 => e (keyT_inj hs (e2 ▸ hkt))
      rw [if_neg e, atKey_del_other hne, has_del_other hne]
      exact h2 s l hs
  · by_cases e : l = kl
    · subst e; exact ⟨t, hkt⟩
    · rw [has_del_other e] at hl; exact h3 l hl
  · have := size_del (k := kl) hT
    rw [hin, h4] at this
    rw [List.length_erase]
    by_cases e : t ∈ ks
    · simp [e] at this ⊢; omega
    · simp [e] at this ⊢; omega
  · rw [h.nd.mem_erase_iff, h.mem]
    unfold updM
    by_cases e : s = t
    · simp [e]
    · simp [e]
  · unfold updM at hs
    by_cases e : s = t
    · rw [if_pos e] at hs; cases hs
    · rw [if_neg e] at hs; exact h.bd s hs
  · obtain ⟨_, _, _, _, _, rfl⟩ := hm
    simp [Go.ChangeMaps.setBlock]
theorem Mp.clear (h : Mp w B n f ks) (ty : TypeId) : ∃ w', (Builtin.clear_ #[70] ty #[.map (some B)]).run Tryz.prog w = .ok (.tuple #[]) w' ∧ Mp w' B 0 (fun _ => none) [] ∧ w.grownBy w' (some B) ∧ w'.heap.size = w.heap.size := by
  obtain ⟨D, ⟨es, clock, hb, _⟩, _⟩ := h.ex
  refine ⟨Go.ChangeMaps.setBlock w B (.map #[] clock), ?_, ⟨⟨.map [], ⟨#[], clock, heap_setBlock_same hb _, ⟨by simp, stamped_empty clock, by simp⟩, Nat.le_refl _, rfl⟩, fun t kl _ => ⟨rfl, rfl⟩, fun kl e => by simp [has] at e, rfl⟩, List.nodup_nil, fun t => by simp, fun t e => by cases e⟩, ?_, by simp [Go.ChangeMaps.setBlock]⟩
  · simp [Builtin.clear_, run_underlying Tryz.underlying70, MapKept.run_getObj_map hb, Result.andThen]
    rw [MapKept.run_setObj_map _ hb]
    rfl
  · refine ⟨rfl, rfl, rfl, by simp [Go.ChangeMaps.setBlock], fun k hk hne => ?_⟩
    simp only [Go.ChangeMaps.setBlock]
    rw [Array.getElem?_setIfInBounds_ne (fun e => hne (by rw [e]))]
end
/-- The set in block B. -/
structure Ms (w : World) (B n : Nat) (ks : List Tp) : Prop where
  ex : ∃ D : DataW Unit, w.ownsMap Tryz.prog KT unitElem B n D ∧ (∀ t kl, keyT t kl → has D kl = decide (t ∈ ks))
theorem Ms.new (w : World) : Ms (w.alloc (.map #[] 0)) w.heap.size 0 [] where
  ex := ⟨_, World.ownsMap_made w Tryz.prog _ _, fun t kl _ => rfl⟩
section
variable {w w' : World} {B n : Nat} {ks : List Tp}
theorem Ms.lt (h : Ms w B n ks) : B < w.heap.size := by
  obtain ⟨D, h1, _⟩ := h.ex
  exact h1.lt
theorem Ms.stay (h : Ms w B n ks) (hb : w'.heap[B]? = w.heap[B]?) : Ms w' B n ks := by
  obtain ⟨D, ⟨es, clock, e1, e2⟩, h2⟩ := h.ex
  exact ⟨⟨D, ⟨es, clock, hb.trans e1, e2⟩, h2⟩⟩
theorem Ms.on (h : Ms w B n ks) (hb : Below w.heap.size w w') : Ms w' B n ks := h.stay (hb.block B h.lt)
theorem zeroS (w : World) : (zeroValue 150).run Tryz.prog w = .ok (.agg #[]) w := by kernel_rfl
theorem Ms.look (h : Ms w B n ks) {t : Tp} (b : BdT t) : (Instr.lookup 149 (.map (some B)) (.agg #[.int .i64 t.a, .int .i64 t.b, .int .i64 t.c, .int .i64 t.d, .int .u8 t.m]) true).run Tryz.prog w = .ok (.tuple #[.agg #[], .bool (decide (t ∈ ks))]) w := by
  obtain ⟨D, h1, h2⟩ := h.ex
  obtain ⟨kl, hk⟩ := tp_key b
  obtain ⟨v, ps, hr, hv⟩ := h1.look_ok tp_keyed Tryz.underlying149 (zeroS w) (zd := .agg []) (zp := []) unitElem_mk hk
  rw [h2 t kl hk] at hr
  obtain ⟨rfl, _⟩ := unitElem_inv hv
  exact hr
theorem Ms.put (h : Ms w B n ks) {t : Tp} (b : BdT t) (hn : n < 4294967296) :
    ∃ w', (Instr.mapUpdate 149 (.map (some B)) (.agg #[.int .i64 t.a, .int .i64 t.b, .int .i64 t.c, .int .i64 t.d, .int .u8 t.m]) (.agg #[])).run Tryz.prog w = .ok () w' ∧ Ms w' B (n + 1) (ks ++ [t]) ∧ w.grownBy w' (some B) ∧ w'.heap.size = w.heap.size := by
  obtain ⟨D, h1, h2⟩ := h.ex
  obtain ⟨kl, hk⟩ := tp_key b
  obtain ⟨w', hr, ho, hm⟩ := h1.store tp_keyed Tryz.underlying149 (by unfold maxLen; omega) (val := .agg #[]) (d := .agg []) (ps := []) hk unitElem_mk
  have hkt : keyT t kl := hk
  refine ⟨w', hr, ⟨⟨_, ho, fun s l hs => ?_⟩⟩, hm.grown, ?_⟩
  · by_cases e : s = t
    · subst e
      rw [keyT_same hs hkt, has_put_same h1.isMap (keyT_lit hkt)]
      simp
    · have hne : l ≠ kl := fun e2 => e (keyT_inj hs (e2 ▸ hkt))
      rw [has_put_other hne, h2 s l hs]
      simp [e]
  · obtain ⟨_, _, _, _, _, rfl⟩ := hm
    simp [Go.ChangeMaps.setBlock]
end
end Go.Proofs.YtfpmljgmfapoiaaGreat
/-
  Fresh tables in a map: what a new one, a put, a turn of another world leave.
-/
namespace Go.Proofs.YtfpmljgmfapoiaaGreat
open Go.RowKit
set_option linter.unusedVariables false
set_option linter.unusedSimpArgs false

/-- Tables, each within its own blocks. -/
structure Gs (w : World) (f : Tp → Option Nat) (C : Tp → Hx.Hd → List Int) (E : Tp → Nat) (L : Tp → List Hx.SlI) (S : Tp → Nat → Prop) : Prop where
  grp : ∀ t g, f t = some g → Grp w g t (C t) (E t) (L t) (S t)
  apart : ∀ t t', t ≠ t' → (f t).isSome = true → (f t').isSome = true → ∀ b, S t b → ¬ S t' b
  lt : ∀ t, (f t).isSome = true → ∀ b, S t b → b < w.heap.size
theorem Gs.on {w w' : World} {f : Tp → Option Nat} {C : Tp → Hx.Hd → List Int} {E : Tp → Nat} {L : Tp → List Hx.SlI} {S : Tp → Nat → Prop} (g : Gs w f C E L S) (hb : Below w.heap.size w w') : Gs w' f C E L S :=
  ⟨fun t b h => (g.grp t b h).on hb, g.apart, fun t h b hS => Nat.lt_of_lt_of_le (g.lt t h b hS) hb.size⟩
theorem Gs.stay {w w' : World} {f : Tp → Option Nat} {C : Tp → Hx.Hd → List Int} {E : Tp → Nat} {L : Tp → List Hx.SlI} {S : Tp → Nat → Prop} (g : Gs w f C E L S) (hz : w.heap.size ≤ w'.heap.size) (hb : ∀ t, (f t).isSome = true → ∀ b, S t b → w'.heap[b]? = w.heap[b]?) : Gs w' f C E L S :=
  ⟨fun t b h => (g.grp t b h).stay (hb t (by rw [h]; rfl)), g.apart, fun t h b hS => Nat.lt_of_lt_of_le (g.lt t h b hS) hz⟩
/-- Fresh tables: in the map of block Bf, all made since w0, for the tuples of T; A has been put. -/
structure Frsh (w0 w : World) (Bf n : Nat) (f : Tp → Option Nat) (ks : List Tp) (L : Tp → List Hx.SlI) (S : Tp → Nat → Prop) (T : List Spt) (A : List (Spt × Int)) : Prop where
  mp : Mp w Bf n f ks
  le : n ≤ T.length
  dom : ∀ t, (f t).isSome = true ↔ ∃ x ∈ T, x.1 = t
  gs : Gs w f (con A) (ent A) L S
  new : ∀ t, (f t).isSome = true → ∀ b, S t b → w0.heap.size ≤ b ∧ b ≠ Bf
  Bf : w0.heap.size ≤ Bf
  bl : Below w0.heap.size w0 w
def FrE (w0 w : World) (Bf : Nat) (T : List Spt) (A : List (Spt × Int)) : Prop := ∃ n f ks L S, Frsh w0 w Bf n f ks L S T A
theorem Frsh.on {w0 w w' : World} {Bf n : Nat} {f : Tp → Option Nat} {ks : List Tp} {L : Tp → List Hx.SlI} {S : Tp → Nat → Prop} {T : List Spt} {A : List (Spt × Int)} (h : Frsh w0 w Bf n f ks L S T A) (hb : Below w.heap.size w w') : Frsh w0 w' Bf n f ks L S T A :=
  ⟨h.mp.on hb, h.le, h.dom, h.gs.on hb, h.new, h.Bf, h.bl.trans (hb.mono h.bl.size)⟩
theorem FrE.on {w0 w w' : World} {Bf : Nat} {T : List Spt} {A : List (Spt × Int)} (h : FrE w0 w Bf T A) (hb : Below w.heap.size w w') : FrE w0 w' Bf T A := by
  obtain ⟨n, f, ks, L, S, h⟩ := h
  exact ⟨n, f, ks, L, S, h.on hb⟩
theorem FrE.bl {w0 w : World} {Bf : Nat} {T : List Spt} {A : List (Spt × Int)} (h : FrE w0 w Bf T A) : Below w0.heap.size w0 w := by
  obtain ⟨n, f, ks, L, S, h⟩ := h
  exact h.bl
theorem FrE.new (w : World) : FrE w (w.alloc (.map #[] 0)) w.heap.size [] [] :=
  ⟨0, _, [], fun _ => [], fun _ _ => False, Mp.new w, Nat.le_refl _, fun t => by simp, ⟨fun t g e => (by cases e), fun _ _ _ h => (by cases h), fun _ h => (by cases h)⟩, fun _ h => (by cases h), Nat.le_refl _, (Below.refl _ _).alloc (Nat.le_refl _) _⟩
/-- A tuple that is there already. -/
theorem Frsh.seen {w0 w : World} {Bf n : Nat} {f : Tp → Option Nat} {ks : List Tp} {L : Tp → List Hx.SlI} {S : Tp → Nat → Prop} {T : List Spt} {A : List (Spt × Int)} (h : Frsh w0 w Bf n f ks L S T A) {x : Spt} (hx : (f x.1).isSome = true) : Frsh w0 w Bf n f ks L S (T ++ [x]) A :=
  { h with
    le := by have := h.le; simp; omega
    dom := fun t => by
      rw [h.dom]
      constructor
      · rintro ⟨y, hy, e⟩; exact ⟨y, by simp [hy], e⟩
      · rintro ⟨y, hy, e⟩
        rcases List.mem_append.1 hy with hy | hy
        · exact ⟨y, hy, e⟩
        · simp at hy; subst hy; subst e; exact (h.dom _).1 hx }
/-- A new table. -/
theorem Frsh.more {w0 w w1 : World} {Bf n : Nat} {f : Tp → Option Nat} {ks : List Tp} {L : Tp → List Hx.SlI} {S : Tp → Nat → Prop} {T : List Spt} (h : Frsh w0 w Bf n f ks L S T []) {x : Spt} (hb : BdT x.1) (hx : f x.1 = none) {G : Nat} {l : List Hx.SlI} (hG : Grp w1 G x.1 (fun _ => []) 0 l (fun b => w.heap.size ≤ b)) (hb1 : Below w.heap.size w w1) (hT : T.length < 4294967296) :
    ∃ w2, (Instr.mapUpdate 70 (.map (some Bf)) (.agg #[.int .i64 (x.1).a, .int .i64 (x.1).b, .int .i64 ((x.1).c : Int), .int .i64 ((x.1).d : Int), .int .u8 ((x.1).m : Int)]) (.pointer (some ⟨G, 0, none⟩))).run Tryz.prog w1 = .ok () w2 ∧ FrE w0 w2 Bf (T ++ [x]) [] ∧ w1.grownBy w2 (some Bf) := by
  have h1 := h.on hb1
  obtain ⟨w2, hr, hm, hg, hz⟩ := h1.mp.put hb G (by have := h.le; omega)
  refine ⟨w2, hr, ⟨n + 1, updM f x.1 (some G), _, fun t => if t = x.1 then l else L t, fun t b => if t = x.1 then w.heap.size ≤ b ∧ b < w1.heap.size else S t b, hm, by have := h.le; simp; omega, fun t => ?_, ⟨fun t g e => ?_, fun t t' hne e e' b hs hs' => ?_, fun t e b hs => ?_⟩, fun t e b hs => ?_, h.Bf, ?_⟩, hg⟩
  · unfold updM
    by_cases e : t = x.1
    · subst e; simp
    · rw [if_neg e, h.dom]
      constructor
      · rintro ⟨y, hy, e2⟩; exact ⟨y, by simp [hy], e2⟩
      · rintro ⟨y, hy, e2⟩
        rcases List.mem_append.1 hy with hy | hy
        · exact ⟨y, hy, e2⟩
        · simp at hy; subst hy; exact absurd e2.symm e
  · have hBl := h.mp.lt
    unfold updM at e
    by_cases e1 : t = x.1
    · subst e1
      rw [if_pos rfl] at e
      cases e
      simp only [if_pos rfl]
      exact hG.cut.stay fun b hb => hg.block b hb.2 (fun e => by injection e; omega)
    · rw [if_neg e1] at e
      simp only [if_neg e1]
      exact (h1.gs.grp t g e).stay fun b hb => hg.block b (h1.gs.lt t (by rw [e]; rfl) b hb) (fun e2 => (h1.new t (by rw [e]; rfl) b hb).2 (by injection e2))
  · unfold updM at e e'
    by_cases e1 : t = x.1
    · have e1' : ¬ t' = x.1 := fun e2 => hne (e1.trans e2.symm)
      rw [if_neg e1'] at e'
      simp only [if_pos e1] at hs
      simp only [if_neg e1'] at hs'
      have := h.gs.lt t' e' b hs'
      omega
    · rw [if_neg e1] at e
      simp only [if_neg e1] at hs
      by_cases e1' : t' = x.1
      · simp only [if_pos e1'] at hs'
        have := h.gs.lt t e b hs
        omega
      · rw [if_neg e1'] at e'
        simp only [if_neg e1'] at hs'
        exact h.gs.apart t t' hne e e' b hs hs'
  · unfold updM at e
    by_cases e1 : t = x.1
    · simp only [if_pos e1] at hs; omega
    · rw [if_neg e1] at e
      simp only [if_neg e1] at hs
      have := h1.gs.lt t e b hs; omega
  · have hBl := h.mp.lt
    unfold updM at e
    by_cases e1 : t = x.1
    · simp only [if_pos e1] at hs
      have := h.bl.size
      exact ⟨by omega, by omega⟩
    · rw [if_neg e1] at e
      simp only [if_neg e1] at hs
      exact h.new t e b hs
  · exact h1.bl.grown hg h1.bl.size (fun q hq => by injection hq with e; have := h.Bf; omega)
/-- A put into one of the tables. -/
theorem Frsh.put {w0 w w1 : World} {Bf n : Nat} {f : Tp → Option Nat} {ks : List Tp} {L : Tp → List Hx.SlI} {S : Tp → Nat → Prop} {T : List Spt} {A : List (Spt × Int)} (h : Frsh w0 w Bf n f ks L S T A) {x : Spt} {y : Int} {G : Nat} {l' : List Hx.SlI} {S' : Nat → Prop} (hf : f x.1 = some G)
    (hG : Grp w1 G x.1 (conP (con A x.1) x.2 y) (ent A x.1 + 1) l' S') (hS' : ∀ b, S' b → (S x.1 b ∨ w.heap.size ≤ b) ∧ b < w1.heap.size) (hc : Chg w w1 (S x.1)) : Frsh w0 w1 Bf n f ks (fun t => if t = x.1 then l' else L t) (fun t b => if t = x.1 then S' b else S t b) T (A ++ [(x, y)]) := by
  have hs : (f x.1).isSome = true := by rw [hf]; rfl
  have hstay : ∀ b, b < w.heap.size → ¬ S x.1 b → w1.heap[b]? = w.heap[b]? := hc.block
  refine ⟨h.mp.stay (hstay Bf h.mp.lt (fun e => (h.new _ hs _ e).2 rfl)), h.le, h.dom, ⟨fun t g e => ?_, fun t t' hne e e' b hs1 hs2 => ?_, fun t e b hs1 => ?_⟩, fun t e b hs1 => ?_, h.Bf, ?_⟩
  · by_cases e1 : t = x.1
    · subst e1
      rw [hf] at e
      cases e
      simp only [if_pos rfl]
      have c1 : con (A ++ [(x, y)]) x.1 = conP (con A x.1) x.2 y := by
        funext k
        rw [con_snoc]
        unfold conP
        by_cases ek : k = x.2
        · subst ek; simp
        · have : ¬ x = (x.1, k) := fun e2 => ek (by rw [e2])
          simp [ek, this]
      have c2 : ent (A ++ [(x, y)]) x.1 = ent A x.1 + 1 := by rw [ent_snoc]; simp
      rw [c1, c2]
      exact hG
    · simp only [if_neg e1]
      have c1 : con (A ++ [(x, y)]) t = con A t := by
        funext k
        rw [con_snoc, if_neg (fun e2 => e1 (by have : x = (t, k) := e2; rw [this]))]
      have c2 : ent (A ++ [(x, y)]) t = ent A t := by rw [ent_snoc, if_neg (fun e2 => e1 e2.symm)]
      rw [c1, c2]
      have ht : (f t).isSome = true := by rw [e]; rfl
      exact (h.gs.grp t g e).stay fun b hb => hstay b (h.gs.lt t ht b hb) (fun e2 => h.gs.apart _ _ (fun e3 => e1 e3.symm) hs ht b e2 hb)
  · have fl : ∀ t', t' ≠ x.1 → (f t').isSome = true → S' b → ¬ S t' b := fun t' hn he h1 h2 => by
      rcases (hS' b h1).1 with h3 | h3
      · exact h.gs.apart _ _ (fun e3 => hn e3.symm) hs he b h3 h2
      · have := h.gs.lt t' he b h2; omega
    by_cases e1 : t = x.1
    · have e1' : ¬ t' = x.1 := fun e2 => hne (e1.trans e2.symm)
      simp only [if_pos e1] at hs1
      simp only [if_neg e1'] at hs2
      exact fl t' e1' e' hs1 hs2
    · simp only [if_neg e1] at hs1
      by_cases e1' : t' = x.1
      · simp only [if_pos e1'] at hs2
        exact fl t e1 e hs2 hs1
      · simp only [if_neg e1'] at hs2
        exact h.gs.apart t t' hne e e' b hs1 hs2
  · by_cases e1 : t = x.1
    · simp only [if_pos e1] at hs1; exact (hS' b hs1).2
    · simp only [if_neg e1] at hs1
      have := h.gs.lt t e b hs1; have := hc.size; omega
  · by_cases e1 : t = x.1
    · simp only [if_pos e1] at hs1
      rcases (hS' b hs1).1 with h3 | h3
      · exact h.new _ hs b h3
      · have := h.bl.size; have := h.mp.lt
        exact ⟨by omega, by omega⟩
    · simp only [if_neg e1] at hs1
      exact h.new t e b hs1
  · exact h.bl.trans (hc.below h.bl.size fun k e => (h.new _ hs k e).1)
/-- .. that is not held. -/
theorem Frsh.skip {w0 w : World} {Bf n : Nat} {f : Tp → Option Nat} {ks : List Tp} {L : Tp → List Hx.SlI} {S : Tp → Nat → Prop} {T : List Spt} {A : List (Spt × Int)} (h : Frsh w0 w Bf n f ks L S T A) {x : Spt} (y : Int) (hf : f x.1 = none) : Frsh w0 w Bf n f ks L S T (A ++ [(x, y)]) :=
  { h with
    gs := ⟨fun t g e => by
      have e1 : ¬ t = x.1 := fun e1 => by rw [e1, hf] at e; cases e
      have c1 : con (A ++ [(x, y)]) t = con A t := by
        funext k
        rw [con_snoc, if_neg (fun e2 => e1 (by have : x = (t, k) := e2; rw [this]))]
      have c2 : ent (A ++ [(x, y)]) t = ent A t := by rw [ent_snoc, if_neg (fun e2 => e1 e2.symm)]
      rw [c1, c2]
      exact h.gs.grp t g e, h.gs.apart, h.gs.lt⟩ }
theorem putGrp {w : World} {G : Nat} {t : Tp} {C : Hx.Hd → List Int} {E : Nat} {l : List Hx.SlI} {S : Nat → Prop} (g : Grp w G t C E l S) (k : Hx.Hd) (y : Int) (o : Hx.OkH k) (hE : E < 65536) :
    Calls Tryz.prog 67 #[.pointer (some ⟨G, 0, none⟩), .agg #[.int .u32 k.s, .int .u32 k.d, .int .u16 k.p, .int .u16 k.q, .int .u8 k.r], .int .i64 y] w fun e w' => e = .returned (.tuple #[]) ∧ ∃ l' S', Grp w' G t (conP C k y) (E + 1) l' S' ∧ (∀ b, S' b → (S b ∨ w.heap.size ≤ b) ∧ b < w'.heap.size) ∧ Chg w w' S := by
  obtain ⟨h, v, c, P, sp, m, f, hf⟩ := g
  refine (putG f k y o hE).mono ?_
  rintro e w' ⟨rfl, ⟨l', v', c', P', sp', m', f', hF⟩, hc⟩
  refine ⟨rfl, l', _, ⟨h, v', c', P', sp', m', f', fun b hb => hb⟩, fun b hb => ⟨?_, f'.lt b hb⟩, hc.mono hf⟩
  rcases hF b hb with h1 | h1
  · exact .inl (hf b h1)
  · exact .inr h1
/-- Fresh tables that leave the blocks from lo to hi, as W has them. -/
def FrP (w0 w : World) (Bf : Nat) (T : List Spt) (A : List (Spt × Int)) (lo hi : Nat) (W : World) : Prop :=
  ∃ n f ks L S, Frsh w0 w Bf n f ks L S T A ∧ (∀ t, (f t).isSome = true → ∀ b, S t b → b < lo ∨ hi ≤ b) ∧ (∀ b, lo ≤ b → b < hi → w.heap[b]? = W.heap[b]?) ∧ hi ≤ w.heap.size
theorem FrP.on {w0 w w' : World} {Bf : Nat} {T : List Spt} {A : List (Spt × Int)} {lo hi : Nat} {W : World} (h : FrP w0 w Bf T A lo hi W) (hb : Below w.heap.size w w') : FrP w0 w' Bf T A lo hi W := by
  obtain ⟨n, f, ks, L, S, h1, h2, h3, h4⟩ := h
  exact ⟨n, f, ks, L, S, h1.on hb, h2, fun b b1 b2 => (hb.block b (by omega)).trans (h3 b b1 b2), Nat.le_trans h4 hb.size⟩
theorem FrP.out {w0 w : World} {Bf : Nat} {T : List Spt} {A : List (Spt × Int)} {lo hi : Nat} {W : World} (h : FrP w0 w Bf T A lo hi W) : FrE w0 w Bf T A := by
  obtain ⟨n, f, ks, L, S, h1, _⟩ := h
  exact ⟨n, f, ks, L, S, h1⟩
/-- From what there is, two calls that make memory further on. -/
theorem FrE.prot {w0 w1 w2 : World} {Bf : Nat} {T : List Spt} {A : List (Spt × Int)} (h : FrE w0 w1 Bf T A) (hb : Below w1.heap.size w1 w2) : FrP w0 w2 Bf T A w1.heap.size w2.heap.size w2 := by
  obtain ⟨n, f, ks, L, S, h1⟩ := h
  exact ⟨n, f, ks, L, S, h1.on hb, fun t e b hb => .inl (h1.gs.lt t e b hb), fun _ _ _ => rfl, Nat.le_refl _⟩
end Go.Proofs.YtfpmljgmfapoiaaGreat
