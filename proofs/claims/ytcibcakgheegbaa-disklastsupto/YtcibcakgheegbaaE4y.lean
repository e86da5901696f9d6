import Derived.Test.YtcibcakgheegbaaE4x
namespace Go.Proofs.Ytcibcakgheegbaa
set_option linter.unusedVariables false
set_option linter.unusedSimpArgs false
open Go.RowKit
attribute [local go_sem ↓] Go.wp_at_zero Go.wp_at_succ

/-- A list of booleans that a law is handed, below B. -/
def Bls (w : World) (B : Nat) (sp : Option Addr) (bs : List Bool) : Prop := ∃ b o, (0 < bs.length → b < B ∧ b < w.heap.size ∧ sp = some ⟨b, o, none⟩) ∧ ∀ i, i < bs.length → w.cell? ⟨b, o + i, none⟩ = some (.bool (bs.getD i false))
set_option maxRecDepth 100000 in
set_option maxHeartbeats 1000000 in
theorem down_any (w : World) (base : Nat) (F : List Nat) (p : Nat) (D : DS) (h : DA w base F p D) (hpw : D.power = false) :
    Calls Try.prog 19 #[.pointer (some ⟨p, 0, none⟩)] w fun e w' => e = .returned (.bool true) ∧ Below w.heap.size w w' := by
  have HR := hid (fun q => Read_off w base F p D h hpw q)
  have hP := Power_any w base F p D h
  rw [hpw] at hP
  have HP := hid hP
  obtain ⟨i5, hi5, hz5, hs5, hy5⟩ := Try.info5
  have HI := hid hi5
  have K1 := hid (show i5.bytes * 256 ≤ 281474976710656 by rw [hy5]; omega)
  have K2 := hid (show 256 ≤ maxLen by unfold maxLen; omega)
  have HH := hid (fun (w1 : World) (hb : Below w.heap.size w w1) => h.below hb)
  have HPW := hid hpw
  clear hP hi5 hy5 h hpw
  go_enter Try.func19, Try.ntmps19
  go_wp2_with (first
    | (go_at_call 24; refine (HR.out _).mono ?_; rintro e wx ⟨rfl, rfl⟩)
    | (go_at_call 16; refine HP.out.mono ?_; rintro e wx ⟨rfl, rfl⟩)
    | (refine wpList_make_full _ rfl _ _ 28 rfl w.heap.size 5 i5 (.int .u8 0) 1 Try.underlying28 HI.out hz5 hs5 .i64 .i64 _ _ 256 rfl rfl rfl rfl K1.out K2.out (Nat.le_refl _) ?_; intro w1 hO1 hg1; have hBx := grown_keeps hg1 (fun k hk => by cases hk) (Nat.le_refl w.heap.size); have HD := hid (HH.out w1 hBx); clear hg1 hO1)
    | (go_at_call 18; refine (Write_off w1 base F p D HD.out HPW.out _ _).mono ?_; rintro e wx ⟨rfl, rfl⟩)
    | (go_at_call 11; refine (Sync_off w1 base F p D HD.out HPW.out).mono ?_; rintro e wx ⟨rfl, rfl⟩))
  go_ret
  exact ⟨rfl, hBx⟩
end Go.Proofs.Ytcibcakgheegbaa
