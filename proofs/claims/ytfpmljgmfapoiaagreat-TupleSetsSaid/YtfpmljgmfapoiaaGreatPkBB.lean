/-
  PkBB: TpH TpO TpOs, one behind the other (tools/pack.py).
-/
import Derived.Test.YtfpmljgmfapoiaaGreatPkBA
import Derived.Test.YtfpmljgmfapoiaaGreatPkAD
import Derived.Test.YtfpmljgmfapoiaaGreatPkAZ
/-
  The engine behind settle.
-/
namespace Go.Proofs.YtfpmljgmfapoiaaGreat
open Go.RowKit
set_option linter.unusedVariables false
set_option linter.unusedSimpArgs false

section
variable {w w1 w2 w4 : World} {X : Nat} {c : Cf} {l l' : List Ru} {L : Tp → List Hx.SlI} {S : Nat → Prop} {t : Nat} {v : Value} {B : Nat} {ad : Option Addr} {n cap : Nat} {f : Tp → Option Nat} {ks : List Tp} {Sg : Tp → Nat → Prop}
theorem Eng.fin (h : Eng w X c l L S) (e : EngF w X c l L t v B ad n cap f ks Sg) (hf : ∀ k, Foot t v B (.slice ad n cap) f Sg k → S k) {t1 : Nat} {v1 : Value} {ad' : Option Addr} {n' cap' : Nat} {f' : Tp → Option Nat} {ks' : List Tp} {L' : Tp → List Hx.SlI} {S' : Tp → Nat → Prop}
    (hc1 : Chg w w1 (fun k => k = X ∨ k = t ∨ v.ownBlock = some k ∨ k = B)) (hT : Tab w1 t1 v1 c.m c.a l') (ht : t1 = t ∨ w.heap.size ≤ t1) (hv : ∀ k, v1.ownBlock = some k → v.ownBlock = some k ∨ w.heap.size ≤ k)
    (hS : Spc w2 X B (.pointer (some ⟨t1, 0, none⟩)) (.int .i64 c.a) (.int .i64 c.t) ad' n' cap' l' f' ks' L' S') (hs : ∀ s, (f' s).isSome = true → ∀ b, S' s b → ((f s).isSome = true ∧ Sg s b) ∨ w1.heap.size ≤ b) (ho : ∀ b, (Value.slice ad' n' cap').ownBlock = some b → w1.heap.size ≤ b)
    (hc2 : Chg w1 w2 (fun b => b = B ∨ b = X)) (ok : OkN l') (bd : ∀ R ∈ l', BdR R) : Did w w2 X c l' S := by
  have lX := h.lt
  have z1 := hc1.size
  have z2 := hc2.size
  have nX := h.nX
  have lB : B < w.heap.size := e.flt B (.inr (.inr (.inl rfl)))
  have sB : S B := hf B (.inr (.inr (.inl rfl)))
  have st : S t := hf t (.inl rfl)
  have sv : ∀ k, v.ownBlock = some k → S k := fun k h2 => hf k (.inr (.inl h2))
  have aB := e.ap B (.inl rfl)
  have lT := hT.lt
  have lV : ∀ k, v1.ownBlock = some k → k < w1.heap.size := fun k h2 => hT.own h2
  have tB : t1 ≠ B := fun e2 => by
    rcases ht with h2 | h2
    · exact aB.1 (e2.symm.trans h2)
    · omega
  have tX : t1 ≠ X := fun e2 => by
    rcases ht with h2 | h2
    · exact nX (e2 ▸ h2 ▸ st)
    · omega
  have vB : v1.ownBlock ≠ some B := fun e2 => by
    rcases hv B e2 with h2 | h2
    · exact aB.2 h2
    · omega
  have vX : v1.ownBlock ≠ some X := fun e2 => by
    rcases hv X e2 with h2 | h2
    · exact nX (sv X h2)
    · omega
  refine ⟨L', ⟨⟨t1, v1, B, ad', n', cap', f', ks', S', ⟨tab_stay hT (hc2.block t1 lT (fun h2 => h2.elim tB tX)) (fun k h2 => hc2.block k (lV k h2) (fun h3 => h3.elim (fun h4 => vB (h4 ▸ h2)) (fun h4 => vX (h4 ▸ h2)))), hS, ?_⟩, ?_⟩, ok, bd, ?_⟩, ?_⟩
  · rintro k (rfl | h2 | ⟨s, h2, h3⟩)
    · exact ⟨fun e2 => tB e2.symm, vB⟩
    · have := ho k h2
      exact ⟨by omega, fun e2 => by have := lV k e2; omega⟩
    · rcases hs s h2 k h3 with ⟨h4, h5⟩ | h4
      · have a := e.ap k (.inr (.inr ⟨s, h4, h5⟩))
        have lk := e.flt k (.inr (.inr (.inr (.inr ⟨s, h4, h5⟩))))
        refine ⟨fun e2 => ?_, fun e2 => ?_⟩
        · rcases ht with h6 | h6
          · exact a.1 (e2.trans h6)
          · omega
        · rcases hv k e2 with h6 | h6
          · exact a.2 h6
          · omega
      · exact ⟨by omega, fun e2 => by have := lV k e2; omega⟩
  · rintro k (rfl | h2 | rfl | h2 | ⟨s, h2, h3⟩)
    · rcases ht with h6 | h6
      · exact .inl (h6 ▸ st)
      · exact .inr ⟨h6, by omega⟩
    · rcases hv k h2 with h6 | h6
      · exact .inl (sv k h6)
      · exact .inr ⟨h6, by have := lV k h2; omega⟩
    · exact .inl sB
    · exact .inr ⟨by have := ho k h2; omega, (hS.row.lt k h2).2⟩
    · rcases hs s h2 k h3 with ⟨h4, h5⟩ | h4
      · exact .inl (hf k (.inr (.inr (.inr (.inr ⟨s, h4, h5⟩)))))
      · exact .inr ⟨by omega, hS.gs.lt s h2 k h3⟩
  · rintro (h2 | ⟨h2, _⟩)
    · exact nX h2
    · omega
  · refine ⟨hc2.os.trans hc1.os, hc2.tape.trans hc1.tape, hc2.output.trans hc1.output, by omega, fun k hk h1 h2 => ?_⟩
    rw [hc2.block k (by omega) (fun h3 => h3.elim (fun h4 => h2 (h4 ▸ sB)) h1), hc1.block k hk (fun h3 => h3.elim h1 fun h3 => h3.elim (fun h4 => h2 (h4 ▸ st)) fun h3 => h3.elim (fun h4 => h2 (sv k h4)) fun h4 => h2 (h4 ▸ sB))]
/-- settle, told of the engine. -/
theorem Eng.settle (h : Eng w X c l L S) (e : EngF w X c l L t v B ad n cap f ks Sg) (hf : ∀ k, Foot t v B (.slice ad n cap) f Sg k → S k) {t1 : Nat} {v1 vl vc : Value} {lc l0 : List Ru} {f0 : Tp → Option Nat} {ks0 : List Tp} {L0 : Tp → List Hx.SlI} {S0 : Tp → Nat → Prop}
    (hc1 : Chg w w4 (fun k => k = X ∨ k = t ∨ v.ownBlock = some k ∨ k = B)) (hT : Tab w4 t1 v1 c.m c.a l') (ht : t1 = t ∨ w.heap.size ≤ t1) (hv : ∀ k, v1.ownBlock = some k → v.ownBlock = some k ∨ w.heap.size ≤ k)
    (hX : w4.heap[X]? = some (.cells #[.pointer (some ⟨t1, 0, none⟩), .int .i64 c.a, .int .i64 c.t, .map (some B), .slice ad n cap] 76 (0, 0))) (hmp : Mp w4 B ks0.length f0 ks0) (hgs : Gs w4 f0 (con (allS l0)) (ent (allS l0)) L0 S0) (hdom : ∀ t, (f0 t).isSome = true ↔ 0 < ent (allS l0) t)
    (hsub : ∀ s, (f0 s).isSome = true → ∀ b, S0 s b → (f s).isSome = true ∧ Sg s b) (hk0 : l0.length ≤ 64) (hl : SrcU w4 vl l') (hgl : ∀ g off n cap, vl = .slice (some ⟨g, off, none⟩) n cap → g ≠ X) (hc : SrcU w4 vc lc) (hnc : lc.length ≤ 64) (okc : ∀ R ∈ lc, BdR R ∧ okR R = true)
    (hA : ∀ t, (¬ ∃ R ∈ lc, t ∈ tpR R) → con (allS l0) t = con (allS l') t ∧ ent (allS l0) t = ent (allS l') t) (ok : OkN l') (bd : ∀ R ∈ l', BdR R) :
    Calls Tryz.prog 31 #[.pointer (some ⟨X, 3, none⟩), vl, vc] w4 fun e w' => e = .returned (.tuple #[]) ∧ Did w w' X c l' S ∧ w'.cell? ⟨X, 0, none⟩ = some (.pointer (some ⟨t1, 0, none⟩)) ∧ Chg w4 w' (fun b => b = B ∨ b = X) := by
  refine (settleC X B _ _ _ ad n cap l0 l' lc vl vc f0 ks0 L0 S0 w4 hX hmp hgs hdom (fun s h1 b h2 => ?_) e.sp.BX hk0 hl hc ok.few hnc (fun R hR => ⟨bd R hR, ok.may R hR⟩) okc hgl hA).mono ?_
  · obtain ⟨h3, h4⟩ := hsub s h1 b h2
    exact ⟨(e.sp.off s h3 b h4).1, (e.sp.off s h3 b h4).2.1⟩
  · rintro e2 w' ⟨rfl, ⟨f', ks', L', S', ad', n', cap', hsp, hs, ho⟩, hc2⟩
    refine ⟨rfl, h.fin e hf hc1 hT ht hv hsp (fun s h1 b h2 => ?_) ho hc2 ok bd, blk_cell hsp.blk rfl, hc2⟩
    rcases hs s h1 b h2 with ⟨h3, h4⟩ | h3
    · exact .inl (hsub s h3 b h4)
    · exact .inr h3
end
end Go.Proofs.YtfpmljgmfapoiaaGreat
/-
  Insert. Written by tools/mkTpO.py.
-/
namespace Go.Proofs.YtfpmljgmfapoiaaGreat
open Go.RowKit
set_option linter.unusedVariables false
set_option linter.unusedSimpArgs false

theorem srcU_one {w : World} {g : Nat} {R : Ru} {ty : TypeId} (h : w.heap[g]? = some (.cells #[.int .i64 R.i, .int .u32 R.s, .int .i64 R.sl, .int .u32 R.d, .int .i64 R.dl, .int .u16 R.p.1, .int .u16 R.p.2, .int .u16 R.q.1, .int .u16 R.q.2, .int .u8 R.m.1, .int .u8 R.m.2, .int .i64 R.act] ty (0, 0))) : SrcU w (.slice (some ⟨g, 0, none⟩) 1 1) [R] := by
  refine ⟨_, 1, rfl, ⟨Nat.le_refl _, fun e => by cases e⟩, fun _ => ⟨g, 0, rfl, fun k hk j hj => ?_⟩⟩
  have hk0 : k = 0 := by simp at hk; omega
  subst hk0
  have : j = 0 ∨ j = 1 ∨ j = 2 ∨ j = 3 ∨ j = 4 ∨ j = 5 ∨ j = 6 ∨ j = 7 ∨ j = 8 ∨ j = 9 ∨ j = 10 ∨ j = 11 := by omega
  rcases this with rfl | rfl | rfl | rfl | rfl | rfl | rfl | rfl | rfl | rfl | rfl | rfl <;> simp [World.cell?, h, encU]
theorem rowU_ge {w : World} {b : Nat} {v : Value} {l : List Ru} (h : RowU w b v l) {k : Nat} (e : v.ownBlock = some k) : b ≤ k := by
  exact (h.lt k e).1
set_option maxHeartbeats 8000000 in
set_option maxRecDepth 20000 in
theorem insertE (X : Nat) (c : Cf) (l : List Ru) (L : Tp → List Hx.SlI) (S : Nat → Prop) (p : Int) (R : Ru) (w : World) (h : Eng w X c l L S) (b : BdR R) (hc : BdC c) (hm : c.m ≤ 64) :
    Calls Tryz.prog 13 #[.pointer (some ⟨X, 0, none⟩), .int .i64 p, .agg #[.int .i64 R.i, .int .u32 R.s, .int .i64 R.sl, .int .u32 R.d, .int .i64 R.dl, .int .u16 R.p.1, .int .u16 R.p.2, .int .u16 R.q.1, .int .u16 R.q.2, .int .u8 R.m.1, .int .u8 R.m.2, .int .i64 R.act]] w fun e w' => e = .returned (.int .i64 (pinE c l p R)) ∧ Did w w' X c (pinL c l p R) S := by
  have HE : Hid (Eng w X c l L S) := h
  obtain ⟨t, v, B, ad, n, cap, f, ks, Sg, he, hf⟩ := h.at'
  have HF : Hid (EngF w X c l L t v B ad n cap f ks Sg) := he
  have Hf : Hid (∀ k, Foot t v B (.slice ad n cap) f Sg k → S k) := hf
  have HBd : Hid (BdR R) := b
  have Hm : Hid (c.m ≤ 64) := hm
  have hb0 : Below w.heap.size w ((w.alloc (.cells #[.int .i64 p] 3)).alloc (.cells #[.int .i64 R.i, .int .u32 R.s, .int .i64 R.sl, .int .u32 R.d, .int .i64 R.dl, .int .u16 R.p.1, .int .u16 R.p.2, .int .u16 R.q.1, .int .u16 R.q.2, .int .u8 R.m.1, .int .u8 R.m.2, .int .i64 R.act] 52)) := ((Below.refl _ _).alloc (Nat.le_refl _) _).alloc (by simp) _
  have HB0 : Hid (Below w.heap.size w ((w.alloc (.cells #[.int .i64 p] 3)).alloc (.cells #[.int .i64 R.i, .int .u32 R.s, .int .i64 R.sl, .int .u32 R.d, .int .i64 R.dl, .int .u16 R.p.1, .int .u16 R.p.2, .int .u16 R.q.1, .int .u16 R.q.2, .int .u8 R.m.1, .int .u8 R.m.2, .int .i64 R.act] 52))) := hb0
  have hp0 : ((w.alloc (.cells #[.int .i64 p] 3)).alloc (.cells #[.int .i64 R.i, .int .u32 R.s, .int .i64 R.sl, .int .u32 R.d, .int .i64 R.dl, .int .u16 R.p.1, .int .u16 R.p.2, .int .u16 R.q.1, .int .u16 R.q.2, .int .u8 R.m.1, .int .u8 R.m.2, .int .i64 R.act] 52)).heap[w.heap.size]? = some (.cells #[.int .i64 p] 3 (0, 0)) := blk_on (blk_new w _) ((Below.refl _ _).alloc (Nat.le_refl _) _)
  have hr0 : ((w.alloc (.cells #[.int .i64 p] 3)).alloc (.cells #[.int .i64 R.i, .int .u32 R.s, .int .i64 R.sl, .int .u32 R.d, .int .i64 R.dl, .int .u16 R.p.1, .int .u16 R.p.2, .int .u16 R.q.1, .int .u16 R.q.2, .int .u8 R.m.1, .int .u8 R.m.2, .int .i64 R.act] 52)).heap[w.heap.size + 1]? = some (.cells #[.int .i64 R.i, .int .u32 R.s, .int .i64 R.sl, .int .u32 R.d, .int .i64 R.dl, .int .u16 R.p.1, .int .u16 R.p.2, .int .u16 R.q.1, .int .u16 R.q.2, .int .u8 R.m.1, .int .u8 R.m.2, .int .i64 R.act] 52 (0, 0)) := by
    have := blk_new (w.alloc (.cells #[.int .i64 p] 3)) (.cells #[.int .i64 R.i, .int .u32 R.s, .int .i64 R.sl, .int .u32 R.d, .int .i64 R.dl, .int .u16 R.p.1, .int .u16 R.p.2, .int .u16 R.q.1, .int .u16 R.q.2, .int .u8 R.m.1, .int .u8 R.m.2, .int .i64 R.act] 52)
    simpa using this
  have Hr0 : Hid (((w.alloc (.cells #[.int .i64 p] 3)).alloc (.cells #[.int .i64 R.i, .int .u32 R.s, .int .i64 R.sl, .int .u32 R.d, .int .i64 R.dl, .int .u16 R.p.1, .int .u16 R.p.2, .int .u16 R.q.1, .int .u16 R.q.2, .int .u8 R.m.1, .int .u8 R.m.2, .int .i64 R.act] 52)).heap[w.heap.size + 1]? = some (.cells #[.int .i64 R.i, .int .u32 R.s, .int .i64 R.sl, .int .u32 R.d, .int .i64 R.dl, .int .u16 R.p.1, .int .u16 R.p.2, .int .u16 R.q.1, .int .u16 R.q.2, .int .u8 R.m.1, .int .u8 R.m.2, .int .i64 R.act] 52 (0, 0))) := hr0
  have hC := changeI X t v (.int .i64 c.a) (.map (some B)) (.slice ad n cap) c l (putL l p.toNat R) (insE l c.m p R) w.heap.size (w.heap.size + 1) ((w.alloc (.cells #[.int .i64 p] 3)).alloc (.cells #[.int .i64 R.i, .int .u32 R.s, .int .i64 R.sl, .int .u32 R.d, .int .i64 R.dl, .int .u16 R.p.1, .int .u16 R.p.2, .int .u16 R.q.1, .int .u16 R.q.2, .int .u8 R.m.1, .int .u8 R.m.2, .int .i64 R.act] 52)) (blk_on he.sp.blk hb0) (he.tab.on hb0) h.ok.few
    (fun W t1 v1 hb hT => (insert1C _ _ t1 v1 c.m c.a l p R W (blk_on hp0 hb) (blk_on hr0 hb) hT (Nat.le_trans h.ok.few (by decide)) b hc.1).mono fun e w' ⟨q1, v', q2, q3⟩ => ⟨q1, v', fun h0 => by rw [show insL l c.m p R = putL l p.toNat R from if_pos h0] at q2; exact q2, q3⟩)
    (fun h0 => ⟨okN_ins h.ok h0 hm, fun Q hQ => by
      rcases putL_mem hQ with rfl | hQ
      · exact b
      · exact h.bd Q hQ⟩)
  clear h he hf b hc hm hb0 hp0 hr0
  go_enter Tryz.func13, Tryz.ntmps13
  go_wp2_with (go_at_call 28; fail)
  refine hC.mono ?_
  rintro e w1 ⟨E2, rfl, hE2, hno, hyes⟩
  have HE2 : Hid (pinE c l p R = E2) := hE2.symm
  have Hno : Hid (E2 ≠ 0 → Below ((w.alloc (.cells #[.int .i64 p] 3)).alloc (.cells #[.int .i64 R.i, .int .u32 R.s, .int .i64 R.sl, .int .u32 R.d, .int .i64 R.dl, .int .u16 R.p.1, .int .u16 R.p.2, .int .u16 R.q.1, .int .u16 R.q.2, .int .u8 R.m.1, .int .u8 R.m.2, .int .i64 R.act] 52)).heap.size ((w.alloc (.cells #[.int .i64 p] 3)).alloc (.cells #[.int .i64 R.i, .int .u32 R.s, .int .i64 R.sl, .int .u32 R.d, .int .i64 R.dl, .int .u16 R.p.1, .int .u16 R.p.2, .int .u16 R.q.1, .int .u16 R.q.2, .int .u8 R.m.1, .int .u8 R.m.2, .int .i64 R.act] 52)) w1) := hno
  have Hyes : Hid (E2 = 0 → Took ((w.alloc (.cells #[.int .i64 p] 3)).alloc (.cells #[.int .i64 R.i, .int .u32 R.s, .int .i64 R.sl, .int .u32 R.d, .int .i64 R.dl, .int .u16 R.p.1, .int .u16 R.p.2, .int .u16 R.q.1, .int .u16 R.q.2, .int .u8 R.m.1, .int .u8 R.m.2, .int .i64 R.act] 52)) w1 X c (.int .i64 c.a) (.int .i64 c.t) (.map (some B)) (.slice ad n cap) (putL l p.toNat R)) := hyes
  clear hE2 hno hyes hC
  by_cases h0 : E2 = 0
  · have hi0 : insE l c.m p R = 0 := by
      have h1 := HE2.out
      rw [h0] at h1
      unfold pinE at h1
      by_cases h2 : insE l c.m p R = 0
      · exact h2
      · rw [if_neg h2] at h1; exact h1
    have Hok : Hid (OkN (putL l p.toNat R)) := okN_ins HE.out.ok hi0 Hm.out
    have Hbd : Hid (∀ Q ∈ putL l p.toNat R, BdR Q) := fun Q hQ => by
      rcases putL_mem hQ with rfl | hQ
      · exact HBd.out
      · exact HE.out.bd Q hQ
    have HRk : Hid (okR R = true) := Hok.out.may R (by unfold putL; simp)
    have Hpl : Hid (pinL c l p R = putL l p.toNat R) := if_pos (by rw [HE2.out, h0])
    obtain ⟨⟨t1, v1, hT1, ht1, hv1, hX1⟩, hg1⟩ := Hyes.out h0
    have hz0 : ((w.alloc (.cells #[.int .i64 p] 3)).alloc (.cells #[.int .i64 R.i, .int .u32 R.s, .int .i64 R.sl, .int .u32 R.d, .int .i64 R.dl, .int .u16 R.p.1, .int .u16 R.p.2, .int .u16 R.q.1, .int .u16 R.q.2, .int .u8 R.m.1, .int .u8 R.m.2, .int .i64 R.act] 52)).heap.size = w.heap.size + 2 := by simp
    have hXl := HE.out.lt
    have HG1 : Hid (Chg w w1 (fun k => k = X)) := ((Chg.of_below HB0.out _).trans hg1 fun k e => .inl e)
    have HT1 : Hid (Tab w1 t1 v1 c.m c.a (putL l p.toNat R)) := hT1
    have HX1 : Hid (w1.heap[X]? = some (.cells #[.pointer (some ⟨t1, 0, none⟩), .int .i64 c.a, .int .i64 c.t, .map (some B), .slice ad n cap] 76 (0, 0))) := hX1
    have Ht1 : Hid (w.heap.size ≤ t1) := by show _ ≤ _; omega
    have Hv1 : Hid (∀ k, v1.ownBlock = some k → w.heap.size ≤ k) := fun k e => by have := hv1 k e; omega
    have hr1 : w1.heap[w.heap.size + 1]? = some (.cells #[.int .i64 R.i, .int .u32 R.s, .int .i64 R.sl, .int .u32 R.d, .int .i64 R.dl, .int .u16 R.p.1, .int .u16 R.p.2, .int .u16 R.q.1, .int .u16 R.q.2, .int .u8 R.m.1, .int .u8 R.m.2, .int .i64 R.act] 52 (0, 0)) := (hg1.block _ (by omega) (by omega)).trans Hr0.out
    have c0 : w1.cell? ⟨X, 0, none⟩ = some (.pointer (some ⟨t1, 0, none⟩)) := blk_cell hX1 rfl
    have HR : Hid (∀ W, Below w1.heap.size w1 W → Calls Tryz.prog 32 #[.pointer (some ⟨t1, 0, none⟩)] W fun e w' => ∃ v' : Value, e = .returned v' ∧ RowU w' W.heap.size v' (putL l p.toNat R) ∧ Below W.heap.size W w') := fun W hb => rulesC t1 v1 c.m c.a _ W (hT1.on hb) (Nat.le_trans Hok.out.few (by decide))
    subst h0
    have hX1l : X < w1.heap.size := blk_lt hX1
    have HSt : Hid (∀ W (u q : Value), Below w1.heap.size w1 W → SrcU W u (putL l p.toNat R) → (∀ k, u.ownBlock = some k → w1.heap.size ≤ k) → SrcU W q [R] → Calls Tryz.prog 31 #[.pointer (some ⟨X, 3, none⟩), u, q] W fun e w' => e = .returned (.tuple #[]) ∧ Did w w' X c (putL l p.toNat R) S ∧ w'.cell? ⟨X, 0, none⟩ = some (.pointer (some ⟨t1, 0, none⟩)) ∧ Chg W w' (fun b => b = B ∨ b = X)) := fun W u q hb hu hk hq => by
      have hst : ∀ k, k < w.heap.size → k ≠ X → W.heap[k]? = w.heap[k]? := fun k hk e => by rw [hb.block k (Nat.lt_of_lt_of_le hk HG1.out.size), HG1.out.block k hk e]
      have hft := HF.out.flt
      have hnX : ∀ k, Foot t v B (.slice ad n cap) f Sg k → k ≠ X := fun k hF e => HE.out.nX (e ▸ Hf.out k hF)
      have hz : w.heap.size ≤ W.heap.size := Nat.le_trans HG1.out.size hb.size
      refine HE.out.settle HF.out Hf.out (((HG1.out.mono fun k e => .inl e).trans (Chg.of_below hb (fun _ => False)) fun k e => e.elim)) (HT1.out.on hb) (.inr Ht1.out) (fun k e => .inr (Hv1.out k e)) (blk_on HX1.out hb) (HF.out.sp.mp.stay (hst B (hft B (.inr (.inr (.inl rfl)))) (hnX B (.inr (.inr (.inl rfl)))))) (HF.out.sp.gs.stay hz fun s e b hb => hst b (hft b (.inr (.inr (.inr (.inr ⟨s, e, hb⟩))))) (hnX b (.inr (.inr (.inr (.inr ⟨s, e, hb⟩)))))) HF.out.sp.dom (fun s e b hb => ⟨e, hb⟩) HE.out.ok.few hu (fun g off n cap e e2 => ?_) hq (by simp) (fun Q hQ => by simp at hQ; subst hQ; exact ⟨HBd.out, HRk.out⟩) (fun s hs => put_same l p.toNat R (fun e => hs ⟨R, by simp, e⟩)) Hok.out Hbd.out
      have := hk g (by rw [e]; rfl)
      omega
    clear hi0 hT1 ht1 hv1 hX1 hg1 hz0 Hyes Hno
    go_upto_region 5 with (fail)
    refine wp_region_held_drew (S := fun w' => w'.cell? ⟨X, 0, none⟩ = some (.pointer (some ⟨t1, 0, none⟩)) ∧ w'.heap[w.heap.size + 1]? = some (.cells #[.int .i64 R.i, .int .u32 R.s, .int .i64 R.sl, .int .u32 R.d, .int .i64 R.dl, .int .u16 R.p.1, .int .u16 R.p.2, .int .u16 R.q.1, .int .u16 R.q.2, .int .u8 R.m.1, .int .u8 R.m.2, .int .i64 R.act] 52 (0, 0))) (by kernel_rfl) ⟨c0, hr1⟩ (fun hS0 => ?_)
    show wpAnyH _ _ _ _ _ 11 _ _ _
    clear c0 hr1
    obtain ⟨wd, hwd⟩ : ∃ x, x = w1.drew := ⟨_, rfl⟩
    have HBd1 : Hid (Below w1.heap.size w1 wd) := by show Below _ _ _; rw [hwd]; exact Below.drew (Below.refl _ _)
    rw [← hwd] at hS0 ⊢
    clear hwd
    refine wpTk (i := 0) (v := .pointer (some ⟨X, 0, none⟩)) hS0 ?_
    simp only [nrm]
    refine wpTk (i := 1) (v := .pointer (some ⟨X, 0, none⟩)) hS0 ?_
    simp only [nrm]
    refine wpTk (i := 2) (v := .pointer (some ⟨X, 3, none⟩)) hS0 ?_
    simp only [nrm]
    refine wpTk (i := 3) (v := .pointer (some ⟨X, 0, none⟩)) hS0 ?_
    simp only [nrm]
    refine wpTk (i := 4) (v := .pointer (some ⟨X, 0, none⟩)) hS0 ?_
    simp only [nrm]
    refine wpTk (i := 5) (v := .pointer (some ⟨X, 0, none⟩)) hS0 ?_
    simp only [nrm]
    refine wpAnyH_take (i := 6) (v := .pointer (some ⟨t1, 0, none⟩)) rfl (by kernel_rfl) (by kernel_rfl) (by kernel_rfl) (fun _ _ _ h => h) (.inl ⟨rfl, fun w' hw' => by have hcc := hw'.1; simp [execOp, go_sem, hcc]⟩) hS0 ?_
    simp only [nrm]
    refine wpLd (i := 8) rfl (yieldsIf_load_mid rfl 52 (.tmp 5) rfl (w.heap.size + 1) 0 rfl [.int .i64 R.i, .int .u32 R.s, .int .i64 R.sl, .int .u32 R.d, .int .i64 R.dl, .int .u16 R.p.1, .int .u16 R.p.2, .int .u16 R.q.1, .int .u16 R.q.2, .int .u8 R.m.1, .int .u8 R.m.2, .int .i64 R.act] _ (fun w' hw' => rngAll hw'.2) Tryz.underlying52 rfl (by kernel_rfl)) hS0 ?_
    try simp only [nrm]
    refine wpAnyH_all (rs := [7, 9]) (by kernel_rfl) (by simp) ?_
    intro i hi
    simp only [mmL] at hi
    rcases hi with rfl | rfl
    · refine wpOp_of_wp rfl rfl (fun K' hK' => ?_)
      go_wp2_with (go_at_call 32; refine (HR.out _ HBd1.out).mono ?_; rintro e w3 ⟨u, rfl, hu, hb3⟩)
      obtain ⟨au, cu, rfl, _⟩ := hu.form
      have hB3 := HBd1.out.trans (hb3.mono HBd1.out.size)
      have hs3 : w3.cell? ⟨X, 0, none⟩ = some (.pointer (some ⟨t1, 0, none⟩)) ∧ w3.heap[w.heap.size + 1]? = some (.cells #[.int .i64 R.i, .int .u32 R.s, .int .i64 R.sl, .int .u32 R.d, .int .i64 R.dl, .int .u16 R.p.1, .int .u16 R.p.2, .int .u16 R.q.1, .int .u16 R.q.2, .int .u8 R.m.1, .int .u8 R.m.2, .int .i64 R.act] 52 (0, 0)) := ⟨cell_on1 hb3 hS0.1, blk_on hS0.2 hb3⟩
      refine ⟨hs3, ?_⟩
      have hk : ∀ k, (Value.slice au (putL l p.toNat R).length cu).ownBlock = some k → w1.heap.size ≤ k := fun k e => Nat.le_trans HBd1.out.size (rowU_ge hu e)
      refine wpO 9 (fun K' hK' => ?_)
      go_wp2_with (fail)
      have hb4 : Below w3.heap.size w3 (w3.alloc (.cells #[.int .i64 R.i, .int .u32 R.s, .int .i64 R.sl, .int .u32 R.d, .int .i64 R.dl, .int .u16 R.p.1, .int .u16 R.p.2, .int .u16 R.q.1, .int .u16 R.q.2, .int .u8 R.m.1, .int .u8 R.m.2, .int .i64 R.act] 52)) := (Below.refl _ _).alloc (Nat.le_refl _) _
      have hn : (w3.alloc (.cells #[.int .i64 R.i, .int .u32 R.s, .int .i64 R.sl, .int .u32 R.d, .int .i64 R.dl, .int .u16 R.p.1, .int .u16 R.p.2, .int .u16 R.q.1, .int .u16 R.q.2, .int .u8 R.m.1, .int .u8 R.m.2, .int .i64 R.act] 52)).heap[w3.heap.size]? = some (.cells #[.int .i64 R.i, .int .u32 R.s, .int .i64 R.sl, .int .u32 R.d, .int .i64 R.dl, .int .u16 R.p.1, .int .u16 R.p.2, .int .u16 R.q.1, .int .u16 R.q.2, .int .u8 R.m.1, .int .u8 R.m.2, .int .i64 R.act] 52 (0, 0)) := blk_new w3 _
      obtain ⟨gb, hgb⟩ : ∃ x, x = w3.heap.size := ⟨_, rfl⟩
      have hb4z := hb4.size
      have hs4 : (w3.alloc (.cells #[.int .i64 R.i, .int .u32 R.s, .int .i64 R.sl, .int .u32 R.d, .int .i64 R.dl, .int .u16 R.p.1, .int .u16 R.p.2, .int .u16 R.q.1, .int .u16 R.q.2, .int .u8 R.m.1, .int .u8 R.m.2, .int .i64 R.act] 52)).cell? ⟨X, 0, none⟩ = some (.pointer (some ⟨t1, 0, none⟩)) ∧ (w3.alloc (.cells #[.int .i64 R.i, .int .u32 R.s, .int .i64 R.sl, .int .u32 R.d, .int .i64 R.dl, .int .u16 R.p.1, .int .u16 R.p.2, .int .u16 R.q.1, .int .u16 R.q.2, .int .u8 R.m.1, .int .u8 R.m.2, .int .i64 R.act] 52)).heap[w.heap.size + 1]? = some (.cells #[.int .i64 R.i, .int .u32 R.s, .int .i64 R.sl, .int .u32 R.d, .int .i64 R.dl, .int .u16 R.p.1, .int .u16 R.p.2, .int .u16 R.q.1, .int .u16 R.q.2, .int .u8 R.m.1, .int .u8 R.m.2, .int .i64 R.act] 52 (0, 0)) := ⟨cell_on1 hb4 hs3.1, blk_on hs3.2 hb4⟩
      have hB4 := hB3.trans (hb4.mono hB3.size)
      refine ⟨hs4, ?_⟩
      generalize w3.alloc (.cells #[.int .i64 R.i, .int .u32 R.s, .int .i64 R.sl, .int .u32 R.d, .int .i64 R.dl, .int .u16 R.p.1, .int .u16 R.p.2, .int .u16 R.q.1, .int .u16 R.q.2, .int .u8 R.m.1, .int .u8 R.m.2, .int .i64 R.act] 52) = w4 at *
      have hst := HSt.out _ _ _ hB4 (hu.src.keep hb4) hk (srcU_one hn)
      have hBl : B < w.heap.size := HF.out.flt B (.inr (.inr (.inl rfl)))
      have hXl2 := HE.out.lt
      have hbl := blk_lt hs4.2
      refine wpO 10 (fun K' hK' => ?_)
      go_wp2_with (go_at_call 31; refine hst.mono ?_; rintro e w6 ⟨rfl, hd6, hx6, hg6⟩)
      have hs6 : w6.cell? ⟨X, 0, none⟩ = some (.pointer (some ⟨t1, 0, none⟩)) ∧ w6.heap[w.heap.size + 1]? = some (.cells #[.int .i64 R.i, .int .u32 R.s, .int .i64 R.sl, .int .u32 R.d, .int .i64 R.dl, .int .u16 R.p.1, .int .u16 R.p.2, .int .u16 R.q.1, .int .u16 R.q.2, .int .u8 R.m.1, .int .u8 R.m.2, .int .i64 R.act] 52 (0, 0)) := ⟨hx6, (hg6.block _ hbl (by omega)).trans hs4.2⟩
      refine ⟨hs6, ?_⟩
      have HD : Hid (Did w w6 X c (putL l p.toNat R) S) := hd6
      refine wpAnyH_done (by kernel_rfl) ?_ _
      try simp only [nrm]
      clear hs6 hx6 hg6 hd6 hst
      go_wp2_with (fail)
      go_ret
      exact ⟨by rw [HE2.out]; rfl, by rw [Hpl.out]; exact HD.out⟩
    · refine wpOp_of_wp rfl rfl (fun K' hK' => ?_)
      go_wp2_with (fail)
      have hb3 : Below wd.heap.size wd (wd.alloc (.cells #[.int .i64 R.i, .int .u32 R.s, .int .i64 R.sl, .int .u32 R.d, .int .i64 R.dl, .int .u16 R.p.1, .int .u16 R.p.2, .int .u16 R.q.1, .int .u16 R.q.2, .int .u8 R.m.1, .int .u8 R.m.2, .int .i64 R.act] 52)) := (Below.refl _ _).alloc (Nat.le_refl _) _
      have hn : (wd.alloc (.cells #[.int .i64 R.i, .int .u32 R.s, .int .i64 R.sl, .int .u32 R.d, .int .i64 R.dl, .int .u16 R.p.1, .int .u16 R.p.2, .int .u16 R.q.1, .int .u16 R.q.2, .int .u8 R.m.1, .int .u8 R.m.2, .int .i64 R.act] 52)).heap[wd.heap.size]? = some (.cells #[.int .i64 R.i, .int .u32 R.s, .int .i64 R.sl, .int .u32 R.d, .int .i64 R.dl, .int .u16 R.p.1, .int .u16 R.p.2, .int .u16 R.q.1, .int .u16 R.q.2, .int .u8 R.m.1, .int .u8 R.m.2, .int .i64 R.act] 52 (0, 0)) := blk_new wd _
      obtain ⟨gb, hgb⟩ : ∃ x, x = wd.heap.size := ⟨_, rfl⟩
      have hb3z := hb3.size
      have hs3 : (wd.alloc (.cells #[.int .i64 R.i, .int .u32 R.s, .int .i64 R.sl, .int .u32 R.d, .int .i64 R.dl, .int .u16 R.p.1, .int .u16 R.p.2, .int .u16 R.q.1, .int .u16 R.q.2, .int .u8 R.m.1, .int .u8 R.m.2, .int .i64 R.act] 52)).cell? ⟨X, 0, none⟩ = some (.pointer (some ⟨t1, 0, none⟩)) ∧ (wd.alloc (.cells #[.int .i64 R.i, .int .u32 R.s, .int .i64 R.sl, .int .u32 R.d, .int .i64 R.dl, .int .u16 R.p.1, .int .u16 R.p.2, .int .u16 R.q.1, .int .u16 R.q.2, .int .u8 R.m.1, .int .u8 R.m.2, .int .i64 R.act] 52)).heap[w.heap.size + 1]? = some (.cells #[.int .i64 R.i, .int .u32 R.s, .int .i64 R.sl, .int .u32 R.d, .int .i64 R.dl, .int .u16 R.p.1, .int .u16 R.p.2, .int .u16 R.q.1, .int .u16 R.q.2, .int .u8 R.m.1, .int .u8 R.m.2, .int .i64 R.act] 52 (0, 0)) := ⟨cell_on1 hb3 hS0.1, blk_on hS0.2 hb3⟩
      have hB3 := HBd1.out.trans (hb3.mono HBd1.out.size)
      refine ⟨hs3, ?_⟩
      generalize wd.alloc (.cells #[.int .i64 R.i, .int .u32 R.s, .int .i64 R.sl, .int .u32 R.d, .int .i64 R.dl, .int .u16 R.p.1, .int .u16 R.p.2, .int .u16 R.q.1, .int .u16 R.q.2, .int .u8 R.m.1, .int .u8 R.m.2, .int .i64 R.act] 52) = w3 at *
      refine wpO 7 (fun K' hK' => ?_)
      go_wp2_with (go_at_call 32; refine (HR.out _ hB3).mono ?_; rintro e w4 ⟨u, rfl, hu, hb4⟩)
      obtain ⟨au, cu, rfl, _⟩ := hu.form
      have hB4 := hB3.trans (hb4.mono hB3.size)
      have hs4 : w4.cell? ⟨X, 0, none⟩ = some (.pointer (some ⟨t1, 0, none⟩)) ∧ w4.heap[w.heap.size + 1]? = some (.cells #[.int .i64 R.i, .int .u32 R.s, .int .i64 R.sl, .int .u32 R.d, .int .i64 R.dl, .int .u16 R.p.1, .int .u16 R.p.2, .int .u16 R.q.1, .int .u16 R.q.2, .int .u8 R.m.1, .int .u8 R.m.2, .int .i64 R.act] 52 (0, 0)) := ⟨cell_on1 hb4 hs3.1, blk_on hs3.2 hb4⟩
      refine ⟨hs4, ?_⟩
      have hk : ∀ k, (Value.slice au (putL l p.toNat R).length cu).ownBlock = some k → w1.heap.size ≤ k := fun k e => Nat.le_trans hB3.size (rowU_ge hu e)
      have hst := HSt.out _ _ _ hB4 hu.src hk (srcU_one (blk_on hn hb4))
      have hBl : B < w.heap.size := HF.out.flt B (.inr (.inr (.inl rfl)))
      have hXl2 := HE.out.lt
      have hbl := blk_lt hs4.2
      refine wpO 10 (fun K' hK' => ?_)
      go_wp2_with (go_at_call 31; refine hst.mono ?_; rintro e w6 ⟨rfl, hd6, hx6, hg6⟩)
      have hs6 : w6.cell? ⟨X, 0, none⟩ = some (.pointer (some ⟨t1, 0, none⟩)) ∧ w6.heap[w.heap.size + 1]? = some (.cells #[.int .i64 R.i, .int .u32 R.s, .int .i64 R.sl, .int .u32 R.d, .int .i64 R.dl, .int .u16 R.p.1, .int .u16 R.p.2, .int .u16 R.q.1, .int .u16 R.q.2, .int .u8 R.m.1, .int .u8 R.m.2, .int .i64 R.act] 52 (0, 0)) := ⟨hx6, (hg6.block _ hbl (by omega)).trans hs4.2⟩
      refine ⟨hs6, ?_⟩
      have HD : Hid (Did w w6 X c (putL l p.toNat R) S) := hd6
      refine wpAnyH_done (by kernel_rfl) ?_ _
      try simp only [nrm]
      clear hs6 hx6 hg6 hd6 hst
      go_wp2_with (fail)
      go_ret
      exact ⟨by rw [HE2.out]; rfl, by rw [Hpl.out]; exact HD.out⟩
  · have hp : pinL c l p R = l := if_neg (by rw [HE2.out]; exact h0)
    have HD : Hid (Did w w1 X c (pinL c l p R) S) := by
      show Did w w1 X c (pinL c l p R) S
      rw [hp]
      have hb := HB0.out.trans ((Hno.out h0).mono HB0.out.size)
      exact HE.out.did hb
    have HE3 : Hid (pinE c l p R = E2) := HE2.out
    clear hp HE2 Hno Hyes
    go_wp2_with (fail)
    go_ret
    exact ⟨by rw [HE3.out]; rfl, HD.out⟩
end Go.Proofs.YtfpmljgmfapoiaaGreat
/-
  Set. Written by tools/mkTpO.py.
-/
namespace Go.Proofs.YtfpmljgmfapoiaaGreat
open Go.RowKit
set_option linter.unusedVariables false
set_option linter.unusedSimpArgs false

/-- Rules lie in no block of five cells. -/
theorem srcU_skip {w w1 : World} {u : Value} {m : List Ru} {X : Nat} {a0 a1 a2 a3 a4 : Value} {T : TypeId} (h : SrcU w u m) (hX : w.heap[X]? = some (.cells #[a0, a1, a2, a3, a4] T (0, 0))) (hk : ∀ k, k < w.heap.size → k ≠ X → w1.heap[k]? = w.heap[k]?) : SrcU w1 u m := by
  by_cases h0 : 0 < m.length
  · obtain ⟨ad, cap, rfl, hc, h2⟩ := id h
    obtain ⟨g, off, rfl, h3⟩ := h2 h0
    have hne : g ≠ X := fun e => by
      subst e
      have h4 := h3 0 h0 5 (by decide)
      obtain ⟨v, hv⟩ := encU_some (m[0]'h0) (j := 5) (by decide)
      rw [hv] at h4
      unfold World.cell? at h4
      simp only [hX] at h4
      rw [Array.getElem?_eq_none (by simp)] at h4
      simp at h4
    exact h.stay fun k e hl => hk k hl (fun e2 => hne (by injection e with e; rw [← e2]; exact e))
  · obtain ⟨ad, cap, rfl, hc, _⟩ := h
    exact ⟨ad, cap, rfl, hc, fun h1 => absurd h1 h0⟩
theorem chg_grown {w w1 : World} {B : Nat} (h : w.grownBy w1 (some B)) : Chg w w1 (fun k => k = B) := ⟨h.os, h.tape, h.output, h.size, fun k hk e => h.block k hk (fun e2 => e (by injection e2))⟩
set_option maxHeartbeats 8000000 in
set_option maxRecDepth 20000 in
theorem setEE (X : Nat) (c : Cf) (l : List Ru) (L : Tp → List Hx.SlI) (S : Nat → Prop) (au : Option Addr) (nu cu : Nat) (m : List Ru) (w : World) (h : Eng w X c l L S) (hs : SrcU w (.slice au nu cu) m) (hml : m.length ≤ 200000) (b0 : ∀ R ∈ m, BdR R) (hc : BdC c) (hm : c.m ≤ 64) :
    Calls Tryz.prog 132 #[.pointer (some ⟨X, 0, none⟩), .slice au nu cu] w fun e w' => e = .returned (.int .i64 (psetE c m)) ∧ Did w w' X c (psetL c m l) S := by
  have HE : Hid (Eng w X c l L S) := h
  obtain ⟨t, v, B, ad, n, cap, f, ks, Sg, he, hf⟩ := h.at'
  have HF : Hid (EngF w X c l L t v B ad n cap f ks Sg) := he
  have Hf : Hid (∀ k, Foot t v B (.slice ad n cap) f Sg k → S k) := hf
  have HBd : Hid (∀ R ∈ m, BdR R) := b0
  have Hm : Hid (c.m ≤ 64) := hm
  have Hs : Hid (SrcU w (.slice au nu cu) m) := hs
  have hb0 : Below w.heap.size w (w.alloc (.cells #[.slice au nu cu] 42)) := (Below.refl _ _).alloc (Nat.le_refl _) _
  have HB0 : Hid (Below w.heap.size w (w.alloc (.cells #[.slice au nu cu] 42))) := hb0
  have hq0 : (w.alloc (.cells #[.slice au nu cu] 42)).heap[w.heap.size]? = some (.cells #[.slice au nu cu] 42 (0, 0)) := blk_new w _
  have Hq0 : Hid ((w.alloc (.cells #[.slice au nu cu] 42)).heap[w.heap.size]? = some (.cells #[.slice au nu cu] 42 (0, 0))) := hq0
  have hC := changeS X t v (.int .i64 c.a) (.map (some B)) (.slice ad n cap) c l m (setE m c.m) w.heap.size (w.alloc (.cells #[.slice au nu cu] 42)) (blk_on he.sp.blk hb0) (he.tab.on hb0) h.ok.few
    (fun W t1 v1 hb hT => (set1C _ t1 v1 c.m c.a l m au nu cu W (blk_on hq0 hb) hT ((hs.keep hb0).keep hb) hml hc.1 b0).mono fun e w' ⟨q1, v', q2, q3⟩ => ⟨q1, v', fun h0 => by rw [if_pos h0] at q2; exact q2, q3⟩)
    (fun h0 => ⟨OkN.of_set h0 hm, b0⟩)
  clear h he hf b0 hc hm hb0 hq0 hs hml
  go_enter Tryz.func132, Tryz.ntmps132
  go_wp2_with (go_at_call 28; fail)
  refine hC.mono ?_
  rintro e w1 ⟨E2, rfl, hE2, hno, hyes⟩
  have HE2 : Hid (psetE c m = E2) := hE2.symm
  have Hno : Hid (E2 ≠ 0 → Below (w.alloc (.cells #[.slice au nu cu] 42)).heap.size (w.alloc (.cells #[.slice au nu cu] 42)) w1) := hno
  have Hyes : Hid (E2 = 0 → Took (w.alloc (.cells #[.slice au nu cu] 42)) w1 X c (.int .i64 c.a) (.int .i64 c.t) (.map (some B)) (.slice ad n cap) m) := hyes
  clear hE2 hno hyes hC
  by_cases h0 : E2 = 0
  · have hi0 : setE m c.m = 0 := by
      have h1 := HE2.out
      rw [h0] at h1
      unfold psetE at h1
      by_cases h2 : setE m c.m = 0
      · exact h2
      · rw [if_neg h2] at h1; exact h1
    have Hok : Hid (OkN m) := OkN.of_set hi0 Hm.out
    have Hpl : Hid (psetL c m l = m) := if_pos (by rw [HE2.out, h0])
    obtain ⟨⟨t1, v1, hT1, ht1, hv1, hX1⟩, hg1⟩ := Hyes.out h0
    have hz0 : (w.alloc (.cells #[.slice au nu cu] 42)).heap.size = w.heap.size + 1 := by simp
    have hXl := HE.out.lt
    have HG1 : Hid (Chg w w1 (fun k => k = X)) := ((Chg.of_below HB0.out _).trans hg1 fun k e => .inl e)
    have hq1 : w1.heap[w.heap.size]? = some (.cells #[.slice au nu cu] 42 (0, 0)) := (hg1.block _ (by omega) (by omega)).trans Hq0.out
    have hft := HF.out.flt
    have hnX : ∀ k, Foot t v B (.slice ad n cap) f Sg k → k ≠ X := fun k hF e => HE.out.nX (e ▸ Hf.out k hF)
    have lB : B < w.heap.size := hft B (.inr (.inr (.inl rfl)))
    have nB : B ≠ X := hnX B (.inr (.inr (.inl rfl)))
    have hmp1 : Mp w1 B ks.length f ks := HF.out.sp.mp.stay (HG1.out.block B lB nB)
    obtain ⟨w2, hup, hm2, hg2, hz2⟩ := hmp1.clear 0
    have hc3 : w1.cell? ⟨X, 3, none⟩ = some (.map (some B)) := blk_cell hX1 rfl
    have hX1l := blk_lt hX1
    have hX2 : w2.heap[X]? = some (.cells #[.pointer (some ⟨t1, 0, none⟩), .int .i64 c.a, .int .i64 c.t, .map (some B), .slice ad n cap] 76 (0, 0)) := (hg2.block X hX1l (fun e => nB (by injection e with e; exact e.symm))).trans hX1
    have hT2 : Tab w2 t1 v1 c.m c.a m := tab_stay hT1 (hg2.block t1 hT1.lt (fun e => by injection e with e; omega)) (fun k e => hg2.block k (hT1.own e) (fun e2 => by have := hv1 k e; injection e2 with e2; omega))
    have hq2 : w2.heap[w.heap.size]? = some (.cells #[.slice au nu cu] 42 (0, 0)) := (hg2.block _ (blk_lt hq1) (fun e => by injection e with e; omega)).trans hq1
    have HG2 : Hid (Chg w w2 (fun k => k = X ∨ k = t ∨ v.ownBlock = some k ∨ k = B)) := (HG1.out.mono fun k e => .inl e).trans (chg_grown hg2) fun k e => .inl (.inr (.inr (.inr e)))
    have HT2 : Hid (Tab w2 t1 v1 c.m c.a m) := hT2
    have HX2 : Hid _ := hX2
    have Ht1 : Hid (w.heap.size ≤ t1) := by show _ ≤ _; omega
    have Hv1 : Hid (∀ k, v1.ownBlock = some k → w.heap.size ≤ k) := fun k e => by have := hv1 k e; omega
    have c0 : w2.cell? ⟨X, 0, none⟩ = some (.pointer (some ⟨t1, 0, none⟩)) := blk_cell hX2 rfl
    have HR : Hid (∀ W, Below w2.heap.size w2 W → Calls Tryz.prog 32 #[.pointer (some ⟨t1, 0, none⟩)] W fun e w' => ∃ v' : Value, e = .returned v' ∧ RowU w' W.heap.size v' m ∧ Below W.heap.size W w') := fun W hb => rulesC t1 v1 c.m c.a _ W (hT2.on hb) (Nat.le_trans Hok.out.few (by decide))
    have hsr1 : SrcU w1 (.slice au nu cu) m := srcU_skip Hs.out HF.out.sp.blk (fun k hk e => HG1.out.block k hk e)
    have HSr : Hid (SrcU w2 (.slice au nu cu) m) := srcU_chg hsr1 hmp1 (chg_grown hg2)
    have hX2l : X < w2.heap.size := blk_lt hX2
    have HSt : Hid (∀ W (u : Value), Below w2.heap.size w2 W → SrcU W u m → (∀ k, u.ownBlock = some k → w2.heap.size ≤ k) → Calls Tryz.prog 31 #[.pointer (some ⟨X, 3, none⟩), u, .slice au nu cu] W fun e w' => e = .returned (.tuple #[]) ∧ Did w w' X c m S ∧ w'.cell? ⟨X, 0, none⟩ = some (.pointer (some ⟨t1, 0, none⟩)) ∧ Chg W w' (fun b => b = B ∨ b = X)) := fun W u hb hu hk => by
      refine HE.out.settle HF.out Hf.out (HG2.out.trans (Chg.of_below hb (fun _ => False)) fun k e => e.elim) (HT2.out.on hb) (.inr Ht1.out) (fun k e => .inr (Hv1.out k e)) (blk_on HX2.out hb) (l0 := []) (f0 := fun _ => none) (ks0 := []) (L0 := fun _ => []) (S0 := fun _ _ => False) (hm2.on hb) (gs_none _ _ _ _ _) (fun s => by simp [ent, allS]) (fun s e => by cases e) (by simp) hu (fun g off n cap e e2 => ?_) (HSr.out.keep hb) Hok.out.few (fun Q hQ => ⟨HBd.out Q hQ, Hok.out.may Q hQ⟩) (fun s hs => set_same hs) Hok.out HBd.out
      have := hk g (by rw [e]; rfl)
      omega
    subst h0
    clear hi0 hT1 ht1 hv1 hX1 hg1 hz0 Hyes Hno hmp1 hm2 hg2 hz2 hX2 hT2 hq1 hft hsr1
    go_upto_region 6 with (fail)
    refine wp_region_held_drew (S := fun w' => w'.cell? ⟨X, 0, none⟩ = some (.pointer (some ⟨t1, 0, none⟩)) ∧ w'.heap[w.heap.size]? = some (.cells #[.slice au nu cu] 42 (0, 0))) (by kernel_rfl) ⟨c0, hq2⟩ (fun hS0 => ?_)
    show wpAnyH _ _ _ _ _ 10 _ _ _
    clear c0 hq2 hup hc3
    obtain ⟨wd, hwd⟩ : ∃ x, x = w2.drew := ⟨_, rfl⟩
    have HBd1 : Hid (Below w2.heap.size w2 wd) := by show Below _ _ _; rw [hwd]; exact Below.drew (Below.refl _ _)
    rw [← hwd] at hS0 ⊢
    clear hwd
    refine wpTk (i := 0) (v := .pointer (some ⟨X, 0, none⟩)) hS0 ?_
    simp only [nrm]
    refine wpTk (i := 1) (v := .pointer (some ⟨X, 0, none⟩)) hS0 ?_
    simp only [nrm]
    refine wpTk (i := 2) (v := .pointer (some ⟨X, 3, none⟩)) hS0 ?_
    simp only [nrm]
    refine wpTk (i := 3) (v := .pointer (some ⟨X, 0, none⟩)) hS0 ?_
    simp only [nrm]
    refine wpTk (i := 4) (v := .pointer (some ⟨X, 0, none⟩)) hS0 ?_
    simp only [nrm]
    refine wpTk (i := 5) (v := .pointer (some ⟨X, 0, none⟩)) hS0 ?_
    simp only [nrm]
    refine wpAnyH_take (i := 6) (v := .pointer (some ⟨t1, 0, none⟩)) rfl (by kernel_rfl) (by kernel_rfl) (by kernel_rfl) (fun _ _ _ h => h) (.inl ⟨rfl, fun w' hw' => by have hcc := hw'.1; simp [execOp, go_sem, hcc]⟩) hS0 ?_
    simp only [nrm]
    refine wpAnyH_take (i := 8) (v := .slice au nu cu) rfl (by kernel_rfl) (by kernel_rfl) (by kernel_rfl) (fun _ _ _ h => h) (.inl ⟨rfl, fun w' hw' => by have hcc := blk_cell hw'.2 (j := 0) rfl; simp [execOp, go_sem, hcc]⟩) hS0 ?_
    simp only [nrm]
    refine wpO 7 (fun K' hK' => ?_)
    go_wp2_with (go_at_call 32; refine (HR.out _ HBd1.out).mono ?_; rintro e w3 ⟨u, rfl, hu, hb3⟩)
    obtain ⟨aw, cw, rfl, _⟩ := hu.form
    have hB3 := HBd1.out.trans (hb3.mono HBd1.out.size)
    have hs3 : w3.cell? ⟨X, 0, none⟩ = some (.pointer (some ⟨t1, 0, none⟩)) ∧ w3.heap[w.heap.size]? = some (.cells #[.slice au nu cu] 42 (0, 0)) := ⟨cell_on1 hb3 hS0.1, blk_on hS0.2 hb3⟩
    refine ⟨hs3, ?_⟩
    have hst := HSt.out _ _ hB3 hu.src (fun k e => Nat.le_trans HBd1.out.size (rowU_ge hu e))
    have hbl := blk_lt hs3.2
    refine wpO 9 (fun K' hK' => ?_)
    go_wp2_with (go_at_call 31; refine hst.mono ?_; rintro e w6 ⟨rfl, hd6, hx6, hg6⟩)
    have hs6 : w6.cell? ⟨X, 0, none⟩ = some (.pointer (some ⟨t1, 0, none⟩)) ∧ w6.heap[w.heap.size]? = some (.cells #[.slice au nu cu] 42 (0, 0)) := ⟨hx6, (hg6.block _ hbl (by omega)).trans hs3.2⟩
    refine ⟨hs6, ?_⟩
    have HD : Hid (Did w w6 X c m S) := hd6
    refine wpAnyH_done (by kernel_rfl) ?_ _
    try simp only [nrm]
    clear hs6 hx6 hg6 hd6 hst
    go_wp2_with (fail)
    go_ret
    exact ⟨by rw [HE2.out]; rfl, by rw [Hpl.out]; exact HD.out⟩
  · have hp : psetL c m l = l := if_neg (by rw [HE2.out]; exact h0)
    have HD : Hid (Did w w1 X c (psetL c m l) S) := by
      show Did w w1 X c (psetL c m l) S
      rw [hp]
      have hb := HB0.out.trans ((Hno.out h0).mono HB0.out.size)
      exact HE.out.did hb
    have HE3 : Hid (psetE c m = E2) := HE2.out
    clear hp HE2 Hno Hyes
    go_wp2_with (fail)
    go_ret
    exact ⟨by rw [HE3.out]; rfl, HD.out⟩
end Go.Proofs.YtfpmljgmfapoiaaGreat
