/-
  bytes.Compare, and one more than some bytes.
-/
import Derived.Test.YthfjdoenofkghaaHdPb
import Derived.Test.YthfjdoenofkghaaHdPlB
import Derived.Lib.Bytealg
import Derived.Lib.BytesEntry
namespace Go.Proofs.Ythfjdoenofkghaa
open Go.RowKit
set_option linter.unusedVariables false
set_option linter.unusedSimpArgs false

theorem u8_lt {a b : Nat} (ha : a < 256) (hb : b < 256) : (a.toUInt8 < b.toUInt8) ↔ a < b := by
  rw [UInt8.lt_iff_toNat_lt]
  simp [Nat.mod_eq_of_lt ha, Nat.mod_eq_of_lt hb]
/-- The order of bytes is that of their numbers. -/
theorem cmp_num : ∀ (x y : List Nat), BdB x → BdB y → x.length = y.length →
    Lib.compareBytes (x.map Nat.toUInt8) (y.map Nat.toUInt8) = if num x < num y then -1 else if num y < num x then 1 else 0
  | [], [], _, _, _ => by simp [Lib.compareBytes, num]
  | [], _ :: _, _, _, h => by simp at h
  | _ :: _, [], _, _, h => by simp at h
  | a :: x, b :: y, hx, hy, hl => by
    have hl' : x.length = y.length := by simpa using hl
    have ih := cmp_num x y (fun c hc => hx c (List.mem_cons_of_mem _ hc)) (fun c hc => hy c (List.mem_cons_of_mem _ hc)) hl'
    have ha := hx a List.mem_cons_self
    have hb := hy b List.mem_cons_self
    have l1 := num_lt (l := x) fun c hc => hx c (List.mem_cons_of_mem _ hc)
    have l2 := num_lt (l := y) fun c hc => hy c (List.mem_cons_of_mem _ hc)
    rw [List.map_cons, List.map_cons]
    unfold Lib.compareBytes
    rw [ih, num_cons, num_cons, hl'] at *
    generalize 256 ^ y.length = P at *
    generalize num x = X at *
    generalize num y = Y at *
    rcases Nat.lt_trichotomy a b with h | h | h
    · have := Nat.mul_le_mul_right P (show a + 1 ≤ b from h)
      rw [Nat.add_mul, Nat.one_mul] at this
      rw [if_pos ((u8_lt ha hb).2 h), if_pos (by omega)]
    · subst h
      rw [if_neg (fun hc => by have := (u8_lt ha ha).1 hc; omega), if_neg (fun hc => by have := (u8_lt ha ha).1 hc; omega)]
      by_cases c1 : X < Y
      · rw [if_pos c1, if_pos (show a * P + X < a * P + Y by omega)]
      · rw [if_neg c1, if_neg (show ¬ a * P + X < a * P + Y by omega)]
        by_cases c2 : Y < X
        · rw [if_pos c2, if_pos (show a * P + Y < a * P + X by omega)]
        · rw [if_neg c2, if_neg (show ¬ a * P + Y < a * P + X by omega)]
    · have := Nat.mul_le_mul_right P (show b + 1 ≤ a from h)
      rw [Nat.add_mul, Nat.one_mul] at this
      rw [if_neg (fun hc => by have := (u8_lt ha hb).1 hc; omega), if_pos ((u8_lt hb ha).2 h), if_neg (by omega), if_pos (by omega)]
theorem run_cmp (w : World) (x y : List Nat) (g h c d : Nat) (hx : ∀ k (hk : k < x.length), w.cell? ⟨g, 0 + k, none⟩ = some (.int .u8 ((x[k]'hk : Nat) : Int))) (hy : ∀ k (hk : k < y.length), w.cell? ⟨h, 0 + k, none⟩ = some (.int .u8 ((y[k]'hk : Nat) : Int))) :
    (Extern.BytealgCompare.compare #[.slice (some ⟨g, 0, none⟩) x.length c, .slice (some ⟨h, 0, none⟩) y.length d]).run Try.prog w = .ok (.int .i64 (Lib.compareBytes (x.map Nat.toUInt8) (y.map Nat.toUInt8))) w := by
  have key : ∀ (z : List Nat) (b : Nat), (∀ k (hk : k < z.length), w.cell? ⟨b, 0 + k, none⟩ = some (.int .u8 ((z[k]'hk : Nat) : Int))) → (Extern.Bytes.loadBytes ⟨b, 0, none⟩ z.length .empty).run Try.prog w = .ok ⟨(z.map Nat.toUInt8).toArray⟩ w := fun z b hz => by
    have hl := Lib.run_loadBytesX (P := Try.prog) w (z.map fun n : Nat => (n : Int)) ⟨b, 0, none⟩ .empty (fun j u hj => by
      rw [List.getElem?_map] at hj
      obtain ⟨n, hn, rfl⟩ := Option.map_eq_some_iff.1 hj
      obtain ⟨hk, hkn⟩ := List.getElem?_eq_some_iff.1 hn
      rw [Addr.add_lit, hz j hk, hkn])
    rw [List.length_map] at hl
    rw [hl]
    simp [Lib.bytesOf]
  change Sem.run Try.prog (do pure (goInt (Extern.BytealgCompare.cmp (← Extern.Bytes.bytesOf (.slice (some ⟨g, 0, none⟩) x.length c)) (← Extern.Bytes.bytesOf (.slice (some ⟨h, 0, none⟩) y.length d))))) w = _
  simp only [Extern.Bytes.bytesOf, Sem.run_bind, Sem.run_pure, Result.andThen, key x g hx, key y h hy]
  rw [Lib.cmp_eq]
  rfl
set_option maxRecDepth 20000 in
set_option maxHeartbeats 1000000 in
theorem bcmpT (x y : List Nat) (g h c d : Nat) (w : World) (bx : BdB x) (by' : BdB y) (hl : x.length = 13) (hm : y.length = 13) (hx : ∀ k (hk : k < x.length), w.cell? ⟨g, 0 + k, none⟩ = some (.int .u8 ((x[k]'hk : Nat) : Int))) (hy : ∀ k (hk : k < y.length), w.cell? ⟨h, 0 + k, none⟩ = some (.int .u8 ((y[k]'hk : Nat) : Int))) :
    Calls Try.prog 40 #[.slice (some ⟨g, 0, none⟩) 13 c, .slice (some ⟨h, 0, none⟩) 13 d] w fun e w' => e = .returned (.int .i64 (if num x < num y then -1 else if num y < num x then 1 else 0)) ∧ w' = w := by
  have hr := run_cmp w x y g h c d hx hy
  rw [cmp_num x y bx by' (by omega), hl, hm] at hr
  generalize (if num x < num y then (-1 : Int) else if num y < num x then 1 else 0) = R at *
  clear hx hy bx by'
  go_enter Try.func40, Try.ntmps40
  go_wp2
  rw [run_callFunc_extern Try.func53 (by kernel_rfl) (by kernel_rfl) (by kernel_rfl) (e := Extern.BytealgCompare.compare) (by kernel_rfl), hr]
  simp only [Result.andThen]
  rw [Oper.upon_value]
  go_wp2
  go_ret
  exact ⟨rfl, rfl⟩
end Go.Proofs.Ythfjdoenofkghaa
