import Derived.Test.YtihkjfbhmlfonaaSi
namespace Go.Proofs.Ytihkjfbhmlfonaa
set_option linter.unusedVariables false
set_option linter.unusedSimpArgs false
open Go.RowKit
open Go.Proofs.Ytihkjfbhmlfonaa.Ca (Ct ct0 ctC argV AS)
attribute [local go_sem ↓] Go.wp_at_zero Go.wp_at_succ

theorem results_c1B {P : Program} {fn : Func} {p : Tmp} {ty : TypeId} (h : fn.results = #[.cell p ty]) (tmps : Array Value) (w : World) (g : Nat) (t : TypeId) (cs : Array Value) (fr : Nat × Nat) (d : TypeDesc)
    (hp : tmps.getD p undef = .pointer (some ⟨g, 0, none⟩)) (hg : w.heap[g]? = some (.cells cs t fr))
    (hu : P.underlying ty = some d) (hd : (match d with | .struct _ | .array _ _ => true | _ => false) = true) (hi : (P.info? ty).map (·.size) = some cs.size) :
    (results fn tmps).run P w = .ok (.agg cs) w := by
  have hp' : tmps[p]?.getD undef = .pointer (some ⟨g, 0, none⟩) := by simpa using hp
  simp [results, h, hp', asAddr, run_loadVar_row w g t ty cs fr d hg hu hd hi]
theorem size_tally : (Try.prog.info? 43).map (·.size) = some 5 := by kernel_rfl
set_option maxRecDepth 100000 in
set_option maxHeartbeats 1000000 in
theorem one_rewind (w : World) (base : Nat) (S : Sto) (n : Nat) (o : Sup) (L : List (Int × List Int)) (b rm : Nat) (h : Sb w base S n o L b rm) (hb : b ≤ 1000000000) (W : Wr) (c : Nat) (hW : WO w base W c) (hr : RmO W S) (at_ nn m_ : Int) (sp : Option Addr) (l cap bt : Nat) :
    Calls Try.prog 11 #[.pointer (some ⟨W.g, 0, none⟩), .pointer (some ⟨S.st, 0, none⟩), .agg (opC 4 at_ nn m_ (.slice sp l cap) bt)] w (OneP w base S n rm b 4 W c) := by
  obtain ⟨w2, hw2⟩ : ∃ w2, w2 = (w.alloc (.cells (opC 4 at_ nn m_ (.slice sp l cap) bt) 41)).alloc (.cells #[.int .i64 0, .int .i64 0, .bool false, .slice none 0 0, .int .i64 0, .int .i64 0, .int .i64 0, .int .i64 0, .int .i64 0, .int .i64 0, .int .i64 0, .int .i64 0, .int .i64 0, .int .i64 0, .int .i64 0, .int .i64 0, .int .i64 0, .int .i64 0] 58) := ⟨_, rfl⟩
  have HW2 := hid hw2
  have hP : Pn w w2 (opC 4 at_ nn m_ (.slice sp l cap) bt) := by rw [hw2]; exact Pn.mk' w _
  have k0 : w2.cell? ⟨w.heap.size, 0, none⟩ = some (.int .i64 4) := by rw [cell_of_row _ _ _ _ _ _ hP.op]; rfl
  have k2 : w2.cell? ⟨w.heap.size, 2, none⟩ = some (.int .i64 nn) := by rw [cell_of_row _ _ _ _ _ _ hP.op]; rfl
  have h2 := h.below hP.bl
  have HC := hid (sb_rewind w2 base S n o L b rm h2 (by omega) nn)
  have HF := hid (fun (E : Int) (S' : Sto) (w3 : World) (hO : OutS w2 base S n rm b 4 E S' w3) (cs : Array Value) => one_fin h hW hr hP hO cs)
  have HST := hid (fun (E : Int) (S' : Sto) (w3 : World) (hO : OutS w2 base S n rm b 4 E S' w3) => hO.2.1)
  have HAN := hid (fun (S' : Sto) (E : Int) (w3 : World) (hO : OutS w2 base S n rm b 4 E S' w3) => show w3.heap[w.heap.size + 1]? = some (.cells anZ 58 (0, 0)) from (hO.2.2.2.1.block _ (by have := hP.sz; omega) (fun q => by have := (h.sx.sk.fp_lt q).2; omega)).trans hP.an)
  clear h h2 hW hr hP
  rw [hw2] at k0 k2
  clear hw2
  go_enter Try.func11, Try.ntmps11
  go_wp2_with (first
    | refine wpList_box_Op rfl (.tmp 2) rfl _ at_ nn m_ sp l cap bt rfl ?_)
  rw [← HW2.out]
  refine HC.out.mono ?_
  rintro e w3 ⟨S', E, rfl, hO⟩
  have HO := hid hO
  have H3 := hid (HAN.out _ _ _ hO)
  clear hO HC k0 k2
  have HS0 := hid (show anZ.size = (anC E 0 (.slice none 0 0) sup0 0 0 0 0 0).size from rfl)
  have HSO := hid (anO E 0 none 0 0 sup0 0 0 0 0 0)
  have HSN := hid (anN E 0 (.slice none 0 0) sup0 0 0 0 0 0)
  go_wp2_with (first | (refine wpList_store_row rfl 58 (.tmp 6) (.tmp 195) rfl (w.heap.size + 1) (anC E 0 (.slice none 0 0) sup0 0 0 0 0 0) rfl rfl 58 anZ H3.out HSN.out HS0.out HSO.out ?_) | fail)
  refine bodyPost_ret (results_c1B Try.results11 _ _ (w.heap.size + 1) 58 _ _ _ (by first | rfl | simp) (setRow_heap _ _ _ _ _ _ H3.out) Try.underlying58 rfl (anN _ _ _ _ _ _ _ _ _)) rfl ?_
  obtain ⟨z1, z2, z3, z4, z5⟩ := HF.out _ _ _ HO.out (anC E 0 (.slice none 0 0) sup0 0 0 0 0 0)
  exact ⟨S', W, _, _, _, _, _, _, _, _, _, rfl, rfl, z1, HST.out _ _ _ HO.out, z2, z3, rfl, z4, z5⟩
set_option maxRecDepth 100000 in
set_option maxHeartbeats 1000000 in
theorem one_flush (w : World) (base : Nat) (S : Sto) (n : Nat) (o : Sup) (L : List (Int × List Int)) (b rm : Nat) (h : Sb w base S n o L b rm) (hb : b ≤ 1000000000) (W : Wr) (c : Nat) (hW : WO w base W c) (hr : RmO W S) (at_ nn m_ : Int) (sp : Option Addr) (l cap bt : Nat) :
    Calls Try.prog 11 #[.pointer (some ⟨W.g, 0, none⟩), .pointer (some ⟨S.st, 0, none⟩), .agg (opC 5 at_ nn m_ (.slice sp l cap) bt)] w (OneP w base S n rm b 5 W c) := by
  obtain ⟨w2, hw2⟩ : ∃ w2, w2 = (w.alloc (.cells (opC 5 at_ nn m_ (.slice sp l cap) bt) 41)).alloc (.cells #[.int .i64 0, .int .i64 0, .bool false, .slice none 0 0, .int .i64 0, .int .i64 0, .int .i64 0, .int .i64 0, .int .i64 0, .int .i64 0, .int .i64 0, .int .i64 0, .int .i64 0, .int .i64 0, .int .i64 0, .int .i64 0, .int .i64 0, .int .i64 0] 58) := ⟨_, rfl⟩
  have HW2 := hid hw2
  have hP : Pn w w2 (opC 5 at_ nn m_ (.slice sp l cap) bt) := by rw [hw2]; exact Pn.mk' w _
  have k0 : w2.cell? ⟨w.heap.size, 0, none⟩ = some (.int .i64 5) := by rw [cell_of_row _ _ _ _ _ _ hP.op]; rfl
  have k2 : w2.cell? ⟨w.heap.size, 2, none⟩ = some (.int .i64 nn) := by rw [cell_of_row _ _ _ _ _ _ hP.op]; rfl
  have h2 := h.below hP.bl
  have HC := hid (sb_flush w2 base S n o L b rm h2 hb nn)
  have HF := hid (fun (E : Int) (S' : Sto) (w3 : World) (hO : OutS w2 base S n rm b 5 E S' w3) (cs : Array Value) => one_fin h hW hr hP hO cs)
  have HST := hid (fun (E : Int) (S' : Sto) (w3 : World) (hO : OutS w2 base S n rm b 5 E S' w3) => hO.2.1)
  have HAN := hid (fun (S' : Sto) (E : Int) (w3 : World) (hO : OutS w2 base S n rm b 5 E S' w3) => show w3.heap[w.heap.size + 1]? = some (.cells anZ 58 (0, 0)) from (hO.2.2.2.1.block _ (by have := hP.sz; omega) (fun q => by have := (h.sx.sk.fp_lt q).2; omega)).trans hP.an)
  clear h h2 hW hr hP
  rw [hw2] at k0 k2
  clear hw2
  go_enter Try.func11, Try.ntmps11
  go_wp2_with (first
    | refine wpList_box_Op rfl (.tmp 2) rfl _ at_ nn m_ sp l cap bt rfl ?_)
  rw [← HW2.out]
  refine HC.out.mono ?_
  rintro e w3 ⟨S', E, rfl, hO⟩
  have HO := hid hO
  have H3 := hid (HAN.out _ _ _ hO)
  clear hO HC k0 k2
  have HS0 := hid (show anZ.size = (anC E 0 (.slice none 0 0) sup0 0 0 0 0 0).size from rfl)
  have HSO := hid (anO E 0 none 0 0 sup0 0 0 0 0 0)
  have HSN := hid (anN E 0 (.slice none 0 0) sup0 0 0 0 0 0)
  go_wp2_with (first | (refine wpList_store_row rfl 58 (.tmp 6) (.tmp 203) rfl (w.heap.size + 1) (anC E 0 (.slice none 0 0) sup0 0 0 0 0 0) rfl rfl 58 anZ H3.out HSN.out HS0.out HSO.out ?_) | fail)
  refine bodyPost_ret (results_c1B Try.results11 _ _ (w.heap.size + 1) 58 _ _ _ (by first | rfl | simp) (setRow_heap _ _ _ _ _ _ H3.out) Try.underlying58 rfl (anN _ _ _ _ _ _ _ _ _)) rfl ?_
  obtain ⟨z1, z2, z3, z4, z5⟩ := HF.out _ _ _ HO.out (anC E 0 (.slice none 0 0) sup0 0 0 0 0 0)
  exact ⟨S', W, _, _, _, _, _, _, _, _, _, rfl, rfl, z1, HST.out _ _ _ HO.out, z2, z3, rfl, z4, z5⟩
set_option maxRecDepth 100000 in
set_option maxHeartbeats 1000000 in
theorem one_live (w : World) (base : Nat) (S : Sto) (n : Nat) (o : Sup) (L : List (Int × List Int)) (b rm : Nat) (h : Sb w base S n o L b rm) (hb : b ≤ 1000000000) (W : Wr) (c : Nat) (hW : WO w base W c) (hr : RmO W S) (at_ nn m_ : Int) (sp : Option Addr) (l cap bt : Nat) :
    Calls Try.prog 11 #[.pointer (some ⟨W.g, 0, none⟩), .pointer (some ⟨S.st, 0, none⟩), .agg (opC 6 at_ nn m_ (.slice sp l cap) bt)] w (OneP w base S n rm b 6 W c) := by
  obtain ⟨w2, hw2⟩ : ∃ w2, w2 = (w.alloc (.cells (opC 6 at_ nn m_ (.slice sp l cap) bt) 41)).alloc (.cells #[.int .i64 0, .int .i64 0, .bool false, .slice none 0 0, .int .i64 0, .int .i64 0, .int .i64 0, .int .i64 0, .int .i64 0, .int .i64 0, .int .i64 0, .int .i64 0, .int .i64 0, .int .i64 0, .int .i64 0, .int .i64 0, .int .i64 0, .int .i64 0] 58) := ⟨_, rfl⟩
  have HW2 := hid hw2
  have hP : Pn w w2 (opC 6 at_ nn m_ (.slice sp l cap) bt) := by rw [hw2]; exact Pn.mk' w _
  have k0 : w2.cell? ⟨w.heap.size, 0, none⟩ = some (.int .i64 6) := by rw [cell_of_row _ _ _ _ _ _ hP.op]; rfl
  have k2 : w2.cell? ⟨w.heap.size, 2, none⟩ = some (.int .i64 nn) := by rw [cell_of_row _ _ _ _ _ _ hP.op]; rfl
  have h2 := h.below hP.bl
  have HC : Hid (Calls Try.prog 28 #[.pointer (some ⟨S.st, 0, none⟩)] w2 fun e w' => ∃ S' E, e = .returned (.int .i64 E) ∧ OutS w2 base S n rm b 6 E S' w') := hid ((oLive_any w2 base S h2.sx.sk).mono fun e w' ⟨he, hB⟩ => ⟨S, _, he, OutS.same h2 6 _ (by omega) (by omega) hB⟩)
  have HF := hid (fun (E : Int) (S' : Sto) (w3 : World) (hO : OutS w2 base S n rm b 6 E S' w3) (cs : Array Value) => one_fin h hW hr hP hO cs)
  have HST := hid (fun (E : Int) (S' : Sto) (w3 : World) (hO : OutS w2 base S n rm b 6 E S' w3) => hO.2.1)
  have HAN := hid (fun (S' : Sto) (E : Int) (w3 : World) (hO : OutS w2 base S n rm b 6 E S' w3) => show w3.heap[w.heap.size + 1]? = some (.cells anZ 58 (0, 0)) from (hO.2.2.2.1.block _ (by have := hP.sz; omega) (fun q => by have := (h.sx.sk.fp_lt q).2; omega)).trans hP.an)
  clear h h2 hW hr hP
  rw [hw2] at k0 k2
  clear hw2
  go_enter Try.func11, Try.ntmps11
  go_wp2_with (first
    | refine wpList_box_Op rfl (.tmp 2) rfl _ at_ nn m_ sp l cap bt rfl ?_)
  rw [← HW2.out]
  refine HC.out.mono ?_
  rintro e w3 ⟨S', E, rfl, hO⟩
  have HO := hid hO
  have H3 := hid (HAN.out _ _ _ hO)
  clear hO HC k0 k2
  have HS0 := hid (show anZ.size = (anC E 0 (.slice none 0 0) sup0 0 0 0 0 0).size from rfl)
  have HSO := hid (anO E 0 none 0 0 sup0 0 0 0 0 0)
  have HSN := hid (anN E 0 (.slice none 0 0) sup0 0 0 0 0 0)
  go_wp2_with (first | (refine wpList_store_row rfl 58 (.tmp 6) (.tmp 209) rfl (w.heap.size + 1) (anC E 0 (.slice none 0 0) sup0 0 0 0 0 0) rfl rfl 58 anZ H3.out HSN.out HS0.out HSO.out ?_) | fail)
  refine bodyPost_ret (results_c1B Try.results11 _ _ (w.heap.size + 1) 58 _ _ _ (by first | rfl | simp) (setRow_heap _ _ _ _ _ _ H3.out) Try.underlying58 rfl (anN _ _ _ _ _ _ _ _ _)) rfl ?_
  obtain ⟨z1, z2, z3, z4, z5⟩ := HF.out _ _ _ HO.out (anC E 0 (.slice none 0 0) sup0 0 0 0 0 0)
  exact ⟨S', W, _, _, _, _, _, _, _, _, _, rfl, rfl, z1, HST.out _ _ _ HO.out, z2, z3, rfl, z4, z5⟩
set_option maxRecDepth 100000 in
set_option maxHeartbeats 1000000 in
theorem one_next (w : World) (base : Nat) (S : Sto) (n : Nat) (o : Sup) (L : List (Int × List Int)) (b rm : Nat) (h : Sb w base S n o L b rm) (hb : b ≤ 1000000000) (W : Wr) (c : Nat) (hW : WO w base W c) (hr : RmO W S) (at_ nn m_ : Int) (sp : Option Addr) (l cap bt : Nat) :
    Calls Try.prog 11 #[.pointer (some ⟨W.g, 0, none⟩), .pointer (some ⟨S.st, 0, none⟩), .agg (opC 8 at_ nn m_ (.slice sp l cap) bt)] w (OneP w base S n rm b 8 W c) := by
  obtain ⟨w2, hw2⟩ : ∃ w2, w2 = (w.alloc (.cells (opC 8 at_ nn m_ (.slice sp l cap) bt) 41)).alloc (.cells #[.int .i64 0, .int .i64 0, .bool false, .slice none 0 0, .int .i64 0, .int .i64 0, .int .i64 0, .int .i64 0, .int .i64 0, .int .i64 0, .int .i64 0, .int .i64 0, .int .i64 0, .int .i64 0, .int .i64 0, .int .i64 0, .int .i64 0, .int .i64 0] 58) := ⟨_, rfl⟩
  have HW2 := hid hw2
  have hP : Pn w w2 (opC 8 at_ nn m_ (.slice sp l cap) bt) := by rw [hw2]; exact Pn.mk' w _
  have k0 : w2.cell? ⟨w.heap.size, 0, none⟩ = some (.int .i64 8) := by rw [cell_of_row _ _ _ _ _ _ hP.op]; rfl
  have k2 : w2.cell? ⟨w.heap.size, 2, none⟩ = some (.int .i64 nn) := by rw [cell_of_row _ _ _ _ _ _ hP.op]; rfl
  have h2 := h.below hP.bl
  have HC : Hid (Calls Try.prog 12 #[.pointer (some ⟨S.st, 0, none⟩)] w2 fun e w' => ∃ S' y, e = .returned (.int .i64 y) ∧ OutS w2 base S n rm b 8 0 S' w') := hid ((oNext_any w2 base S h2.sx.sk (by have := h2.bd; have := h2.fit; have := h2.n64; omega) ⟨by have := h2.bd; omega, by have := h2.bd; have := h2.fit; have := h2.n64; omega⟩).mono fun e w' ⟨he, hB⟩ => ⟨S, _, he, OutS.same h2 8 0 (by omega) (by omega) hB⟩)
  have HF := hid (fun (E : Int) (S' : Sto) (w3 : World) (hO : OutS w2 base S n rm b 8 E S' w3) (cs : Array Value) => one_fin h hW hr hP hO cs)
  have HST := hid (fun (E : Int) (S' : Sto) (w3 : World) (hO : OutS w2 base S n rm b 8 E S' w3) => hO.2.1)
  have HAN := hid (fun (S' : Sto) (E : Int) (w3 : World) (hO : OutS w2 base S n rm b 8 E S' w3) => show w3.heap[w.heap.size + 1]? = some (.cells anZ 58 (0, 0)) from (hO.2.2.2.1.block _ (by have := hP.sz; omega) (fun q => by have := (h.sx.sk.fp_lt q).2; omega)).trans hP.an)
  clear h h2 hW hr hP
  rw [hw2] at k0 k2
  clear hw2
  go_enter Try.func11, Try.ntmps11
  go_wp2_with (first
    | refine wpList_box_Op rfl (.tmp 2) rfl _ at_ nn m_ sp l cap bt rfl ?_)
  rw [← HW2.out]
  refine HC.out.mono ?_
  rintro e w3 ⟨S', y, rfl, hO⟩
  have HO := hid hO
  have H3 := hid (HAN.out _ _ _ hO)
  clear hO HC k0 k2
  have HS0 := hid (show anZ.size = (anC 0 y (.slice none 0 0) sup0 0 0 0 0 0).size from rfl)
  have HSO := hid (anO 0 y none 0 0 sup0 0 0 0 0 0)
  have HSN := hid (anN 0 y (.slice none 0 0) sup0 0 0 0 0 0)
  go_wp2_with (first | (refine wpList_store_row rfl 58 (.tmp 6) (.tmp 221) rfl (w.heap.size + 1) (anC 0 y (.slice none 0 0) sup0 0 0 0 0 0) rfl rfl 58 anZ H3.out HSN.out HS0.out HSO.out ?_) | fail)
  refine bodyPost_ret (results_c1B Try.results11 _ _ (w.heap.size + 1) 58 _ _ _ (by first | rfl | simp) (setRow_heap _ _ _ _ _ _ H3.out) Try.underlying58 rfl (anN _ _ _ _ _ _ _ _ _)) rfl ?_
  obtain ⟨z1, z2, z3, z4, z5⟩ := HF.out _ _ _ HO.out (anC 0 y (.slice none 0 0) sup0 0 0 0 0 0)
  exact ⟨S', W, _, _, _, _, _, _, _, _, _, rfl, rfl, z1, HST.out _ _ _ HO.out, z2, z3, rfl, z4, z5⟩
set_option maxRecDepth 100000 in
set_option maxHeartbeats 1000000 in
theorem one_staged (w : World) (base : Nat) (S : Sto) (n : Nat) (o : Sup) (L : List (Int × List Int)) (b rm : Nat) (h : Sb w base S n o L b rm) (hb : b ≤ 1000000000) (W : Wr) (c : Nat) (hW : WO w base W c) (hr : RmO W S) (at_ nn m_ : Int) (sp : Option Addr) (l cap bt : Nat) :
    Calls Try.prog 11 #[.pointer (some ⟨W.g, 0, none⟩), .pointer (some ⟨S.st, 0, none⟩), .agg (opC 9 at_ nn m_ (.slice sp l cap) bt)] w (OneP w base S n rm b 9 W c) := by
  obtain ⟨w2, hw2⟩ : ∃ w2, w2 = (w.alloc (.cells (opC 9 at_ nn m_ (.slice sp l cap) bt) 41)).alloc (.cells #[.int .i64 0, .int .i64 0, .bool false, .slice none 0 0, .int .i64 0, .int .i64 0, .int .i64 0, .int .i64 0, .int .i64 0, .int .i64 0, .int .i64 0, .int .i64 0, .int .i64 0, .int .i64 0, .int .i64 0, .int .i64 0, .int .i64 0, .int .i64 0] 58) := ⟨_, rfl⟩
  have HW2 := hid hw2
  have hP : Pn w w2 (opC 9 at_ nn m_ (.slice sp l cap) bt) := by rw [hw2]; exact Pn.mk' w _
  have k0 : w2.cell? ⟨w.heap.size, 0, none⟩ = some (.int .i64 9) := by rw [cell_of_row _ _ _ _ _ _ hP.op]; rfl
  have k2 : w2.cell? ⟨w.heap.size, 2, none⟩ = some (.int .i64 nn) := by rw [cell_of_row _ _ _ _ _ _ hP.op]; rfl
  have h2 := h.below hP.bl
  have HC : Hid (Calls Try.prog 10 #[.pointer (some ⟨S.st, 0, none⟩)] w2 fun e w' => ∃ S' y, e = .returned (.int .i64 y) ∧ OutS w2 base S n rm b 9 0 S' w') := hid ((oStaged_any w2 base S h2.sx.sk (by have := h2.bd; have := h2.fit; have := h2.n64; omega)).mono fun e w' ⟨he, hB⟩ => ⟨S, _, he, OutS.same h2 9 0 (by omega) (by omega) (hB ▸ Below.refl _ _)⟩)
  have HF := hid (fun (E : Int) (S' : Sto) (w3 : World) (hO : OutS w2 base S n rm b 9 E S' w3) (cs : Array Value) => one_fin h hW hr hP hO cs)
  have HST := hid (fun (E : Int) (S' : Sto) (w3 : World) (hO : OutS w2 base S n rm b 9 E S' w3) => hO.2.1)
  have HAN := hid (fun (S' : Sto) (E : Int) (w3 : World) (hO : OutS w2 base S n rm b 9 E S' w3) => show w3.heap[w.heap.size + 1]? = some (.cells anZ 58 (0, 0)) from (hO.2.2.2.1.block _ (by have := hP.sz; omega) (fun q => by have := (h.sx.sk.fp_lt q).2; omega)).trans hP.an)
  clear h h2 hW hr hP
  rw [hw2] at k0 k2
  clear hw2
  go_enter Try.func11, Try.ntmps11
  go_wp2_with (first
    | refine wpList_box_Op rfl (.tmp 2) rfl _ at_ nn m_ sp l cap bt rfl ?_)
  rw [← HW2.out]
  refine HC.out.mono ?_
  rintro e w3 ⟨S', y, rfl, hO⟩
  have HO := hid hO
  have H3 := hid (HAN.out _ _ _ hO)
  clear hO HC k0 k2
  have HS0 := hid (show anZ.size = (anC 0 y (.slice none 0 0) sup0 0 0 0 0 0).size from rfl)
  have HSO := hid (anO 0 y none 0 0 sup0 0 0 0 0 0)
  have HSN := hid (anN 0 y (.slice none 0 0) sup0 0 0 0 0 0)
  go_wp2_with (first | (refine wpList_store_row rfl 58 (.tmp 6) (.tmp 227) rfl (w.heap.size + 1) (anC 0 y (.slice none 0 0) sup0 0 0 0 0 0) rfl rfl 58 anZ H3.out HSN.out HS0.out HSO.out ?_) | fail)
  refine bodyPost_ret (results_c1B Try.results11 _ _ (w.heap.size + 1) 58 _ _ _ (by first | rfl | simp) (setRow_heap _ _ _ _ _ _ H3.out) Try.underlying58 rfl (anN _ _ _ _ _ _ _ _ _)) rfl ?_
  obtain ⟨z1, z2, z3, z4, z5⟩ := HF.out _ _ _ HO.out (anC 0 y (.slice none 0 0) sup0 0 0 0 0 0)
  exact ⟨S', W, _, _, _, _, _, _, _, _, _, rfl, rfl, z1, HST.out _ _ _ HO.out, z2, z3, rfl, z4, z5⟩
set_option maxRecDepth 100000 in
set_option maxHeartbeats 1000000 in
theorem one_pages (w : World) (base : Nat) (S : Sto) (n : Nat) (o : Sup) (L : List (Int × List Int)) (b rm : Nat) (h : Sb w base S n o L b rm) (hb : b ≤ 1000000000) (W : Wr) (c : Nat) (hW : WO w base W c) (hr : RmO W S) (at_ nn m_ : Int) (sp : Option Addr) (l cap bt : Nat) :
    Calls Try.prog 11 #[.pointer (some ⟨W.g, 0, none⟩), .pointer (some ⟨S.st, 0, none⟩), .agg (opC 10 at_ nn m_ (.slice sp l cap) bt)] w (OneP w base S n rm b 10 W c) := by
  obtain ⟨w2, hw2⟩ : ∃ w2, w2 = (w.alloc (.cells (opC 10 at_ nn m_ (.slice sp l cap) bt) 41)).alloc (.cells #[.int .i64 0, .int .i64 0, .bool false, .slice none 0 0, .int .i64 0, .int .i64 0, .int .i64 0, .int .i64 0, .int .i64 0, .int .i64 0, .int .i64 0, .int .i64 0, .int .i64 0, .int .i64 0, .int .i64 0, .int .i64 0, .int .i64 0, .int .i64 0] 58) := ⟨_, rfl⟩
  have HW2 := hid hw2
  have hP : Pn w w2 (opC 10 at_ nn m_ (.slice sp l cap) bt) := by rw [hw2]; exact Pn.mk' w _
  have k0 : w2.cell? ⟨w.heap.size, 0, none⟩ = some (.int .i64 10) := by rw [cell_of_row _ _ _ _ _ _ hP.op]; rfl
  have k2 : w2.cell? ⟨w.heap.size, 2, none⟩ = some (.int .i64 nn) := by rw [cell_of_row _ _ _ _ _ _ hP.op]; rfl
  have h2 := h.below hP.bl
  have HC : Hid (Calls Try.prog 21 #[.pointer (some ⟨S.st, 0, none⟩)] w2 fun e w' => ∃ S' y, e = .returned (.int .i64 y) ∧ OutS w2 base S n rm b 10 0 S' w') := hid ((oPages_any w2 base S h2.sx.sk).mono fun e w' ⟨he, hB⟩ => ⟨S, _, he, OutS.same h2 10 0 (by omega) (by omega) (hB ▸ Below.refl _ _)⟩)
  have HF := hid (fun (E : Int) (S' : Sto) (w3 : World) (hO : OutS w2 base S n rm b 10 E S' w3) (cs : Array Value) => one_fin h hW hr hP hO cs)
  have HST := hid (fun (E : Int) (S' : Sto) (w3 : World) (hO : OutS w2 base S n rm b 10 E S' w3) => hO.2.1)
  have HAN := hid (fun (S' : Sto) (E : Int) (w3 : World) (hO : OutS w2 base S n rm b 10 E S' w3) => show w3.heap[w.heap.size + 1]? = some (.cells anZ 58 (0, 0)) from (hO.2.2.2.1.block _ (by have := hP.sz; omega) (fun q => by have := (h.sx.sk.fp_lt q).2; omega)).trans hP.an)
  clear h h2 hW hr hP
  rw [hw2] at k0 k2
  clear hw2
  go_enter Try.func11, Try.ntmps11
  go_wp2_with (first
    | refine wpList_box_Op rfl (.tmp 2) rfl _ at_ nn m_ sp l cap bt rfl ?_)
  rw [← HW2.out]
  refine HC.out.mono ?_
  rintro e w3 ⟨S', y, rfl, hO⟩
  have HO := hid hO
  have H3 := hid (HAN.out _ _ _ hO)
  clear hO HC k0 k2
  have HS0 := hid (show anZ.size = (anC 0 y (.slice none 0 0) sup0 0 0 0 0 0).size from rfl)
  have HSO := hid (anO 0 y none 0 0 sup0 0 0 0 0 0)
  have HSN := hid (anN 0 y (.slice none 0 0) sup0 0 0 0 0 0)
  go_wp2_with (first | (refine wpList_store_row rfl 58 (.tmp 6) (.tmp 233) rfl (w.heap.size + 1) (anC 0 y (.slice none 0 0) sup0 0 0 0 0 0) rfl rfl 58 anZ H3.out HSN.out HS0.out HSO.out ?_) | fail)
  refine bodyPost_ret (results_c1B Try.results11 _ _ (w.heap.size + 1) 58 _ _ _ (by first | rfl | simp) (setRow_heap _ _ _ _ _ _ H3.out) Try.underlying58 rfl (anN _ _ _ _ _ _ _ _ _)) rfl ?_
  obtain ⟨z1, z2, z3, z4, z5⟩ := HF.out _ _ _ HO.out (anC 0 y (.slice none 0 0) sup0 0 0 0 0 0)
  exact ⟨S', W, _, _, _, _, _, _, _, _, _, rfl, rfl, z1, HST.out _ _ _ HO.out, z2, z3, rfl, z4, z5⟩
end Go.Proofs.Ytihkjfbhmlfonaa
