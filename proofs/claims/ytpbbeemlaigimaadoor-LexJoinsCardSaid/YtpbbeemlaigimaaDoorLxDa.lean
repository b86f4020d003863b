/-
  The landed lex.New, Next, Back: what they answer, and what they leave alone.
-/
import Derived.Test.YtpbbeemlaigimaaDoorLxCt
import Derived.Test.YtpbbeemlaigimaaDoorLxBt
import Derived.RegionTactic
import Derived.BigRegion
namespace Go.Proofs.YtpbbeemlaigimaaDoor
open Go.RowKit
set_option linter.unusedVariables false
set_option linter.unusedSimpArgs false

theorem results_blk4 {P : Program} {fn : Func} {tmps : Array Value} {w : World} {t u x : Tmp} {ty T : TypeId} {d : TypeDesc} {B : Nat} {cs : Array Value} {fr : Nat × Nat} (h : fn.results = #[.cell t ty, .tmp u, .tmp x]) (hp : tmps.getD t undef = .pointer (some ⟨B, 0, none⟩))
    (hb : w.heap[B]? = some (.cells cs T fr)) (hu : P.underlying ty = some d) (hd : d.isRow = true) (hi : (P.info? ty).map (·.size) = some cs.size) : (results fn tmps).run P w = .ok (.tuple #[.agg cs, tmps.getD u undef, tmps.getD x undef]) w := by
  have hl := run_loadVar_mid (P := P) w B 0 ty cs.toList d (by have := World.rangeAt_of_block hb 0 cs.size; simpa using this) hu hd (by simpa using hi)
  have hp2 : tmps[t]?.getD undef = .pointer (some ⟨B, 0, none⟩) := by simpa using hp
  simp [results, h, hp2, asAddr, hl]
/-- A scanner in its block: its tokens, how many stand behind, what is wrong. -/
def Scn (w : World) (S : Nat) (v : Value) (a : Nat) (er : Wr) : Prop := w.heap[S]? = some (.cells #[v, .int .i64 (a : Int), .int .i64 (er.e : Int), .int .i64 (er.l : Int), .int .i64 (er.c : Int)] 64)
set_option maxRecDepth 20000 in
set_option maxHeartbeats 4000000 in
theorem newC (s : ByteArray) (w : World) (hs : s.size ≤ 16777216) (hg : Hnd w) :
    Calls Tryd.prog 15 #[.string s] w fun e w' => ∃ (S : Nat) (v : Value), e = .returned (.pointer (some ⟨S, 0, none⟩)) ∧ Scn w' S v 0 (lexT s).2 ∧ RowT w' w.heap.size v (lexT s).1 ∧ w.heap.size ≤ S ∧ some S ≠ v.ownBlock ∧ Below w.heap.size w w' := by
  have hA := scanC s w hs hg
  generalize lexT s = L at *
  clear hs hg
  go_enter Tryd.func15, Tryd.ntmps15
  go_wp2_with (go_at_call 21; refine hA.mono ?_; rintro e w1 ⟨v1, rfl, hrow1, hb1⟩; obtain ⟨ad1, cap1, hv1, hc1, ha1⟩ := hrow1.form; obtain ⟨n, hn⟩ : ∃ n, n = L.1.length := ⟨_, rfl⟩; rw [← hn] at hv1; subst hv1; clear hc1 ha1 hn; have HR1 : Hid (RowT w1 w.heap.size (.slice ad1 n cap1) L.1) := hrow1; have HB1 : Hid (Below w.heap.size w w1) := hb1; clear hrow1 hb1)
  go_ret
  refine ⟨w1.heap.size + 1, .slice ad1 n cap1, rfl, ?_, (HR1.out.alloc _).alloc _, by have := HB1.out.size; omega, fun h => ?_, (HB1.out.alloc HB1.out.size _).alloc (by have := HB1.out.size; simp; omega) _⟩
  · have := blk_new (w1.alloc (.cells #[.int .i64 (L.2.e : Int), .int .i64 (L.2.l : Int), .int .i64 (L.2.c : Int)] 56)) (.cells #[.slice ad1 n cap1, .int .i64 0, .int .i64 (L.2.e : Int), .int .i64 (L.2.l : Int), .int .i64 (L.2.c : Int)] 64)
    rw [show (w1.alloc (.cells #[.int .i64 (L.2.e : Int), .int .i64 (L.2.l : Int), .int .i64 (L.2.c : Int)] 56)).heap.size = w1.heap.size + 1 by simp] at this
    exact this
  · have := (HR1.out.lt _ h.symm).2; omega
theorem but_set (w : World) (B j : Nat) (u : Value) : But B w (w.setCell ⟨B, j, none⟩ u) := ⟨rfl, rfl, rfl, by simp [World.setCell], fun k _ hk => Below.heap_setCell _ _ _ _ hk⟩
theorem But.al {B : Nat} {w w1 : World} (h : But B w w1) (o : Obj) : But B w (w1.alloc o) := ⟨h.os, h.tape, h.output, by have := h.size; simp; omega, fun k hk hne => by rw [Below.heap_alloc _ _ _ (by have := h.size; omega)]; exact h.block k hk hne⟩
theorem But.dr {B : Nat} {w w1 : World} (h : But B w w1) : But B w w1.drew := ⟨h.os, h.tape, h.output, h.size, h.block⟩
theorem But.then {B : Nat} {w w1 w2 : World} (h : But B w w1) (hb : Below w1.heap.size w1 w2) : But B w w2 := ⟨hb.os.trans h.os, hb.tape.trans h.tape, hb.output.trans h.output, Nat.le_trans h.size hb.size, fun k hk hne => (hb.block k (by have := h.size; omega)).trans (h.block k hk hne)⟩
set_option maxRecDepth 20000 in
set_option maxHeartbeats 8000000 in
theorem nextTok (w : World) (S a b : Nat) (v : Value) (L : List Tk) (er : Wr) (hS : Scn w S v a er) (hR : RowT w b v L) (hne : some S ≠ v.ownBlock) (ha : a < L.length) (hL : L.length ≤ 200000) :
    Calls Tryd.prog 19 #[.pointer (some ⟨S, 0, none⟩)] w fun e w' => e = .returned (.tuple #[.agg #[.int .i64 ((L[a]'ha).k : Int), .string (L[a]'ha).t, .int .u32 ((L[a]'ha).v : Int), .int .i64 ((L[a]'ha).l : Int), .int .i64 ((L[a]'ha).c : Int)], .bool true, .nilIface]) ∧ Scn w' S v (a + 1) er ∧ But S w w' := by
  obtain ⟨ad, cap, rfl, hcap, hat⟩ := hR.form
  obtain ⟨g, rfl, _, hgl, cc⟩ := hat (by omega)
  obtain ⟨p, hp⟩ : ∃ p, p = L[a]'ha := ⟨_, rfl⟩
  have x0 : w.cell? ⟨g, a * 5, none⟩ = some (.int .i64 (p.k : Int)) := by rw [hp]; exact cc a ha 0 (by decide)
  have x1 : w.cell? ⟨g, a * 5 + 1, none⟩ = some (.string p.t) := by rw [hp]; exact cc a ha 1 (by decide)
  have x2 : w.cell? ⟨g, a * 5 + 2, none⟩ = some (.int .u32 (p.v : Int)) := by rw [hp]; exact cc a ha 2 (by decide)
  have x3 : w.cell? ⟨g, a * 5 + 3, none⟩ = some (.int .i64 (p.l : Int)) := by rw [hp]; exact cc a ha 3 (by decide)
  have x4 : w.cell? ⟨g, a * 5 + 4, none⟩ = some (.int .i64 (p.c : Int)) := by rw [hp]; exact cc a ha 4 (by decide)
  have n1 : ¬ S = g := fun h => hne (by rw [h]; rfl)
  have n2 : ¬ g = S := fun h => n1 h.symm
  have hSl := blk_lt hS
  have n3 : ¬ S = w.heap.size := by omega
  have n4 : ¬ g = w.heap.size := by omega
  rw [← hp]
  obtain ⟨c0, c1, c2, c3, c4⟩ := blk5 hS
  have z1 := blk_free hS 1
  have HS : Hid _ := hS
  obtain ⟨n, hn⟩ : ∃ n, n = L.length := ⟨_, rfl⟩
  rw [← hn] at ha hL hcap c0
  have hlt' : (a : Int) < (n : Int) := by omega
  have ha0 : (a : Int) ≤ 200000 := by omega
  have hn0 : (n : Int) ≤ 200000 := by omega
  clear hn hp cc hat hR hne hS ha hL
  go_enter Tryd.func19, Tryd.ntmps19
  go_wp2
  go_region
  all_goals go_wp2
  all_goals go_region
  all_goals go_wp2
  all_goals
    have hb : ((w.setCell ⟨S, 1, none⟩ (.int .i64 ((a : Int) + 1))).alloc (.cells #[.int .i64 (p.k : Int), .string p.t, .int .u32 (p.v : Int), .int .i64 (p.l : Int), .int .i64 (p.c : Int)] 38)).drew.drew.heap[w.heap.size]? = some (.cells #[.int .i64 (p.k : Int), .string p.t, .int .u32 (p.v : Int), .int .i64 (p.l : Int), .int .i64 (p.c : Int)] 38) := by
      have := blk_new (w.setCell ⟨S, 1, none⟩ (.int .i64 ((a : Int) + 1))) (.cells #[.int .i64 (p.k : Int), .string p.t, .int .u32 (p.v : Int), .int .i64 (p.l : Int), .int .i64 (p.c : Int)] 38)
      rw [show (w.setCell ⟨S, 1, none⟩ (.int .i64 ((a : Int) + 1))).heap.size = w.heap.size by simp] at this
      exact this
    exact bodyPost_ret (results_blk4 Tryd.results19 rfl hb Tryd.underlying38 rfl (by kernel_rfl)) rfl ⟨rfl, by have := blk_alloc (blk_set (j := 1) HS.out (.int .i64 ((a : Int) + 1))) (.cells #[.int .i64 (p.k : Int), .string p.t, .int .u32 (p.v : Int), .int .i64 (p.l : Int), .int .i64 (p.c : Int)] 38); exact this, (((but_set w S 1 _).al _).dr).dr⟩
set_option maxRecDepth 20000 in
set_option maxHeartbeats 8000000 in
theorem nextBad (w : World) (S b : Nat) (v : Value) (L : List Tk) (er : Wr) (hS : Scn w S v L.length er) (hR : RowT w b v L) (he : er.e ≠ 0) (hL : L.length ≤ 200000) :
    Calls Tryd.prog 19 #[.pointer (some ⟨S, 0, none⟩)] w fun e w' => ∃ F : Nat, e = .returned (.tuple #[.agg #[.int .i64 0, .string ⟨#[]⟩, .int .u32 0, .int .i64 0, .int .i64 0], .bool false, .iface 59 (.pointer (some ⟨F, 0, none⟩))]) ∧ Flt w' F (er.e : Int) (er.l : Int) (er.c : Int) ∧ w.heap.size ≤ F ∧ Below w.heap.size w w' := by
  obtain ⟨ad, cap, rfl, hcap, hat⟩ := hR.form
  have hSl := blk_lt hS
  have n3 : ¬ S = w.heap.size := by omega
  have he' : ¬ (er.e : Int) = 0 := by omega
  obtain ⟨c0, c1, c2, c3, c4⟩ := blk5 hS
  obtain ⟨n, hn⟩ : ∃ n, n = L.length := ⟨_, rfl⟩
  rw [← hn] at hL hcap c0 c1
  have hlt' : ¬ (n : Int) < (n : Int) := by omega
  have hn0 : (n : Int) ≤ 200000 := by omega
  have nn : ¬ w.heap.size + 1 = w.heap.size := by omega
  clear hn hat hR hS hL he
  go_enter Tryd.func19, Tryd.ntmps19
  go_wp2
  go_region
  all_goals go_wp2
  all_goals
    have hb : ((w.alloc (.cells #[.int .i64 0, .string ⟨#[]⟩, .int .u32 0, .int .i64 0, .int .i64 0] 38)).alloc (.cells #[.int .i64 (er.e : Int), .int .i64 (er.l : Int), .int .i64 (er.c : Int)] 56)).drew.heap[w.heap.size]? = some (.cells #[.int .i64 0, .string ⟨#[]⟩, .int .u32 0, .int .i64 0, .int .i64 0] 38) := blk_alloc (blk_new w _) _
    exact bodyPost_ret (results_blk4 Tryd.results19 rfl hb Tryd.underlying38 rfl (by kernel_rfl)) rfl ⟨w.heap.size + 1, rfl, by
      have := blk_new (w.alloc (.cells #[.int .i64 0, .string ⟨#[]⟩, .int .u32 0, .int .i64 0, .int .i64 0] 38)) (.cells #[.int .i64 (er.e : Int), .int .i64 (er.l : Int), .int .i64 (er.c : Int)] 56)
      rw [show (w.alloc (.cells #[.int .i64 0, .string ⟨#[]⟩, .int .u32 0, .int .i64 0, .int .i64 0] 38)).heap.size = w.heap.size + 1 by simp] at this
      exact this, Nat.le_succ _, (((Below.refl _ _).alloc (Nat.le_refl _) _).alloc (by simp) _).drew⟩
set_option maxRecDepth 20000 in
set_option maxHeartbeats 8000000 in
theorem nextEnd (w : World) (S b : Nat) (v : Value) (L : List Tk) (er : Wr) (hS : Scn w S v L.length er) (hR : RowT w b v L) (he : er.e = 0) (hL : L.length ≤ 200000) :
    Calls Tryd.prog 19 #[.pointer (some ⟨S, 0, none⟩)] w fun e w' => e = .returned (.tuple #[.agg #[.int .i64 0, .string ⟨#[]⟩, .int .u32 0, .int .i64 0, .int .i64 0], .bool false, .nilIface]) ∧ Below w.heap.size w w' := by
  obtain ⟨ad, cap, rfl, hcap, hat⟩ := hR.form
  have hSl := blk_lt hS
  have n3 : ¬ S = w.heap.size := by omega
  obtain ⟨c0, c1, c2, c3, c4⟩ := blk5 hS
  rw [he] at c2
  obtain ⟨n, hn⟩ : ∃ n, n = L.length := ⟨_, rfl⟩
  rw [← hn] at hL hcap c0 c1
  have hlt' : ¬ (n : Int) < (n : Int) := by omega
  have hn0 : (n : Int) ≤ 200000 := by omega
  clear hn hat hR hS hL he
  go_enter Tryd.func19, Tryd.ntmps19
  go_wp2
  go_region
  all_goals go_wp2
  all_goals
    exact bodyPost_ret (results_blk4 Tryd.results19 rfl (blk_drew (blk_new w (.cells #[.int .i64 0, .string ⟨#[]⟩, .int .u32 0, .int .i64 0, .int .i64 0] 38))) Tryd.underlying38 rfl (by kernel_rfl)) rfl ⟨rfl, ((Below.refl _ _).alloc (Nat.le_refl _) _).drew⟩
set_option maxRecDepth 20000 in
set_option maxHeartbeats 8000000 in
theorem backArg (w : World) (S a : Nat) (v : Value) (er : Wr) (n : Int) (hS : Scn w S v a er) (hn : n < 0 ∨ (a : Int) < n) :
    Calls Tryd.prog 16 #[.pointer (some ⟨S, 0, none⟩), .int .i64 n] w fun e w' => e = .returned (.int .i64 1) ∧ Below w.heap.size w w' := by
  obtain ⟨c0, c1, c2, c3, c4⟩ := blk5 hS
  clear hS
  by_cases h : n < 0
  · clear hn
    go_enter Tryd.func16, Tryd.ntmps16
    go_wp2
    go_ret
    exact ⟨rfl, by (repeat (first | assumption | exact Below.refl _ _ | refine Below.drew ?_ | refine bel_drewN ?_ _ | refine Below.setCell ?_ (by first | omega | (simp; done) | (simp; omega)) _ | refine Below.alloc ?_ (by first | omega | (simp; done) | (simp; omega)) _ | refine bel_of ?_ (by assumption)))⟩
  · have h2 : (a : Int) < n := by omega
    clear hn
    go_enter Tryd.func16, Tryd.ntmps16
    go_wp2
    go_ret
    exact ⟨rfl, by (repeat (first | assumption | exact Below.refl _ _ | refine Below.drew ?_ | refine bel_drewN ?_ _ | refine Below.setCell ?_ (by first | omega | (simp; done) | (simp; omega)) _ | refine Below.alloc ?_ (by first | omega | (simp; done) | (simp; omega)) _ | refine bel_of ?_ (by assumption)))⟩
set_option maxRecDepth 20000 in
set_option maxHeartbeats 8000000 in
theorem backOk (w : World) (S a : Nat) (v : Value) (er : Wr) (n : Nat) (hS : Scn w S v a er) (hn : n ≤ a) (ha : a ≤ 200000) :
    Calls Tryd.prog 16 #[.pointer (some ⟨S, 0, none⟩), .int .i64 (n : Int)] w fun e w' => e = .returned (.int .i64 0) ∧ Scn w' S v (a - n) er ∧ But S w w' := by
  obtain ⟨c0, c1, c2, c3, c4⟩ := blk5 hS
  have z1 := blk_free hS 1
  have HS : Hid (Scn w S v a er) := hS
  have h1 : ¬ (n : Int) < 0 := by omega
  have h2 : ¬ (a : Int) < (n : Int) := by omega
  have h3 : (a : Int) ≤ 200000 := by omega
  have e : (a : Int) - (n : Int) = ((a - n : Nat) : Int) := by omega
  clear hS
  go_enter Tryd.func16, Tryd.ntmps16
  go_wp2
  go_ret
  refine ⟨rfl, ?_, by first | exact but_set w S 1 _ | exact (but_set w S 1 _).dr⟩
  have := blk_set (j := 1) HS.out (.int .i64 ((a : Int) - (n : Int)))
  unfold Scn
  rw [← e]
  exact this
end Go.Proofs.YtpbbeemlaigimaaDoor
