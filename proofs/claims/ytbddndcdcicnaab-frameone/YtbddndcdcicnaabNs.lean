import Derived.Test.YtbddndcdcicnaabNr
import Derived.Test.YtbddndcdcicnaabQe5
namespace Go.Proofs.Ytbddndcdcicnaab
set_option linter.unusedVariables false
set_option linter.unusedSimpArgs false
open Go.RowKit
attribute [local go_sem ↓] Go.wp_at_zero Go.wp_at_succ

theorem page_CR (k p : Int) (l : List Int) (hk : 1 ≤ k ∧ k ≤ 3) (hl : l.length ≤ 246) (h8 : Byts l) : feed ones (pageP k p l) = CR := seal_CR _ (bodyP_byts k p l (by omega) hl h8)
theorem cnt_zero (B : Nat) (S : List Int) (a : Int) (p : Nat) : ∀ m, cnt B a p m = 0 → brstN B S a p m = S
  | 0, _ => rfl
  | m + 1, h => by
    rw [cnt] at h
    by_cases hh : hits B a p m = true
    · rw [if_pos hh] at h; omega
    · rw [if_neg hh] at h; rw [brstN, if_neg hh, cnt_zero B S a p m h]
/-- turned with a burst in the first bytes X of a text. -/
theorem turned_burst (w : World) (X Y : List Int) (h8 : Byts (X ++ Y)) (hX : 0 < X.length) (L : Nat) (hL : (X ++ Y).length = L) (hle : L ≤ 20000) (hC : feed ones X = CR) (sp : Option Addr) (cap : Nat) (hS : Src w sp cap (X ++ Y)) (A : Int) (pt : Nat) (hpt : pt < 4294967296) (x1 : -31 ≤ A) (x2 : A < 8 * (X.length : Int)) (N : Int) (hN : N = 8 * (X.length : Int)) :
    Calls Try.prog 10 #[.slice sp L cap, .int .i64 A, .int .u32 pt, .int .i64 N] w fun e w' => ∃ g uc R, ∃ c : Nat, e = .returned (.tuple #[.slice (some ⟨g, 0, none⟩) L uc, .int .i64 c]) ∧ Src w' (some ⟨g, 0, none⟩) uc (R ++ Y) ∧ Byts R ∧ R.length = X.length ∧ (c = 0 → R = X) ∧ (c ≠ 0 → feed ones R ≠ CR) ∧ c ≤ 32 ∧ Below w.heap.size w w' := by
  have hlen : L = X.length + Y.length := by rw [← hL, List.length_append]
  have h := turned_any w (X ++ Y) h8 (by omega) (by omega) X.length (by omega) sp cap hS A pt hpt (fun m hm _ => by omega) N hN
  rw [hL] at h
  refine h.mono ?_
  rintro e w' ⟨g, uc, rfl, hs, hB⟩
  rw [brstN_app] at hs
  have hX8 : Byts X := fun x hx => h8 x (List.mem_append_left _ hx)
  refine ⟨g, uc, brst X A pt 32, cnt X.length A pt 32, rfl, hs, brst_byts X hX8 A pt 32, brst_len X A pt 32, ?_, fun hn => burst_main X A pt x1 x2 hC hn, cnt_le _ _ _ _, hB⟩
  intro h0
  have := cnt_zero X.length X A pt 32 h0
  rwa [brstN_all] at this
/-- turned at one bit. -/
theorem turned_one (w : World) (X Y : List Int) (h8 : Byts (X ++ Y)) (hX : 0 < X.length) (L : Nat) (hL : (X ++ Y).length = L) (hle : L ≤ 20000) (sp : Option Addr) (cap : Nat) (hS : Src w sp cap (X ++ Y)) (A : Int) (hA : -9223372036854775808 ≤ A ∧ A ≤ 9223372036854775807) (N : Int) (hN : N = 8 * (X.length : Int)) :
    Calls Try.prog 10 #[.slice sp L cap, .int .i64 A, .int .u32 1, .int .i64 N] w fun e w' => ∃ g uc, ∃ c : Nat, e = .returned (.tuple #[.slice (some ⟨g, 0, none⟩) L uc, .int .i64 c]) ∧ Src w' (some ⟨g, 0, none⟩) uc (flO X A ++ Y) ∧ Below w.heap.size w w' := by
  have hlen : L = X.length + Y.length := by rw [← hL, List.length_append]
  have h := turned_any w (X ++ Y) h8 (by omega) (by omega) X.length (by omega) sp cap hS A 1 (by omega) (fun m hm hb => by
    match m, hb with
    | 0, _ => exact ⟨by omega, by omega⟩
    | m + 1, hb => rw [one_shr] at hb; omega) N hN
  rw [hL] at h
  refine h.mono ?_
  rintro e w' ⟨g, uc, rfl, hs, hB⟩
  refine ⟨g, uc, _, rfl, ?_, hB⟩
  rw [brstN_one] at hs
  have e : flN X.length (X ++ Y) A = flO X A ++ Y := by
    unfold flN flO
    by_cases h : 0 ≤ A ∧ A < 8 * (X.length : Int)
    · rw [if_pos h, if_pos h, turnB_app _ _ _ (by omega)]
    · rw [if_neg h, if_neg h]
  rwa [e] at hs
end Go.Proofs.Ytbddndcdcicnaab
