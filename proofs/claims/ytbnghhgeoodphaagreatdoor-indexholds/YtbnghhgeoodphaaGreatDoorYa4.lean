import Derived.Test.YtbnghhgeoodphaaGreatDoorG9
namespace Go.Proofs.YtbnghhgeoodphaaGreatDoor
set_option linter.unusedVariables false
set_option linter.unusedSimpArgs false
open Go.RowKit
attribute [local go_sem ↓] Go.wp_at_zero Go.wp_at_succ

theorem FK.drew {w : World} {g p : Nat} {s : Sup} {nx ep : Int} (h : FK w g p s nx ep) : FK w.drew g p s nx ep := h
theorem Fr.wide {F : List Nat} {w w1 : World} (h : Fr F w w1) (g : Nat) : Fr (g :: F) w w1 := ⟨h.os, h.tape, h.output, h.size, fun k hk hn => h.block k hk (fun e => hn (List.mem_cons_of_mem _ e))⟩
theorem FK.c0 {w : World} {g p : Nat} {s : Sup} {nx ep : Int} (h : FK w g p s nx ep) : w.cell? ⟨g, 0, none⟩ = some (.pointer (some ⟨p, 0, none⟩)) := h.cell 0
theorem FK.c6 {w : World} {g p : Nat} {s : Sup} {nx ep : Int} (h : FK w g p s nx ep) : w.cell? ⟨g, 6, none⟩ = some (.int .i64 nx) := h.cell 6
theorem FK.set {w : World} {g p : Nat} {s : Sup} {nx ep : Int} (h : FK w g p s nx ep) (x : Int) : FK (w.setCell ⟨g, 6, none⟩ (.int .i64 x)) g p s x ep := by
  unfold FK
  rw [heap_setCell_same _ _ _ _ _ _ h]; rfl
theorem FK.fz {w : World} {g p : Nat} {s : Sup} {nx ep : Int} (h : FK w g p s nx ep) (j : Nat) : w.frozen? ⟨g, j, none⟩ = false := frozen_of_row _ _ _ _ _ h
theorem DA.setCellN {w : World} {base : Nat} {F : List Nat} {p : Nat} {D : DS} (h : DA w base F p D) {g : Nat} (hg : g ∉ F) (j : Nat) (v : Value) : DA (w.setCell ⟨g, j, none⟩ v) base F p D :=
  h.of_heap fun k hk => heap_setCell_other w ⟨g, j, none⟩ k v (fun e => hg (by rw [← show k = g from e]; exact hk))
theorem Fr.setG {F : List Nat} {w w1 : World} {g : Nat} (h : Fr (g :: F) w w1) (j : Nat) (v : Value) : Fr (g :: F) w (w1.setCell ⟨g, j, none⟩ v) := h.setCell (List.mem_cons_self) j v
set_option maxHeartbeats 400000 in
theorem Forget_any (w : World) (base : Nat) (F : List Nat) (p : Nat) (D : DS) (h : DA w base F p D) (g : Nat) (s : Sup) (nx ep : Int) (hf : FK w g p s nx ep) :
    Calls Tryz.prog 64 #[.pointer (some ⟨g, 0, none⟩)] w fun e w' => e = .returned (.tuple #[]) ∧ DA w' base F p D ∧ FK w' g p s s.ma ep ∧ Fr (g :: F) w w' := by
  have c3 : w.cell? ⟨g, 3, none⟩ = some (.int .i64 s.ma) := hf.cell 3
  have c6 : w.cell? ⟨g, 6, none⟩ = some (.int .i64 nx) := hf.cell 6
  have f6 := hf.fz 6
  have HD := hid (h.setCellN (hf.not h) 6 (.int .i64 s.ma))
  have HF := hid (hf.set s.ma)
  clear h hf
  go_enter Tryz.func64, Tryz.ntmps64
  go_wp2
  go_end0
  exact ⟨rfl, HD.out, HF.out, ((Fr.refl F w).wide g).setG 6 _⟩
end Go.Proofs.YtbnghhgeoodphaaGreatDoor
namespace Go.Proofs.YtbnghhgeoodphaaGreatDoor
set_option linter.unusedVariables false
set_option linter.unusedSimpArgs false
open Go.RowKit
attribute [local go_sem ↓] Go.wp_at_zero Go.wp_at_succ


theorem FK.range {w : World} {g p : Nat} {s : Sup} {nx ep : Int} (h : FK w g p s nx ep) : w.rangeAt g 1 (supL s) := fun j v hv => by
  rw [h.cell]
  rcases j with _ | _ | _ | _ | _ | j <;> first | exact hv | (simp [supL] at hv)
theorem FK.there {w : World} {g p : Nat} {s : Sup} {nx ep : Int} (h : FK w g p s nx ep) : w.there g 1 5 := fun j hj => by
  refine ⟨?_, h.fz _⟩
  rw [h.cell]
  rcases j with _ | _ | _ | _ | _ | j
  all_goals first | rfl | omega
theorem Fr.setCells {F : List Nat} {a b : World} {g : Nat} (h : Fr F a b) (hg : g ∈ F) (s2 : Sup) : Fr F a (b.setCells g 1 (supC s2).toList) :=
  ((((h.setCell hg 1 (.int .i64 s2.wd)).setCell hg 2 (.int .i64 s2.ge)).setCell hg 3 (.int .i64 s2.ma)).setCell hg 4 (.int .i64 s2.hd)).setCell hg 5 (.int .i64 s2.pg)
theorem Fr.mono {F G : List Nat} {a b : World} (h : Fr F a b) (hs : ∀ k ∈ F, k ∈ G) : Fr G a b := ⟨h.os, h.tape, h.output, h.size, fun k hk hn => h.block k hk (fun e => hn (hs k e))⟩
end Go.Proofs.YtbnghhgeoodphaaGreatDoor
namespace Go.Proofs.YtbnghhgeoodphaaGreatDoor
set_option linter.unusedVariables false
set_option linter.unusedSimpArgs false
open Go.RowKit
attribute [local go_sem ↓] Go.wp_at_zero Go.wp_at_succ


end Go.Proofs.YtbnghhgeoodphaaGreatDoor
