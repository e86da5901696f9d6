import Derived.Test.YtbpamknebjdicaaL14
namespace Go.Proofs.Ytbpamknebjdicaa
set_option linter.unusedVariables false
set_option linter.unusedSimpArgs false
open Go.RowKit
attribute [local go_sem ↓] Go.wp_at_zero Go.wp_at_succ

/-! Keys put in a row. -/
def rowL (f : Nat → Int) (i : Nat) : List (Int × Int) := (List.range i).reverse.map fun (j : Nat) => ((j : Int), f j)
def rowP (room : Nat) (f : Nat → Int) (i : Nat) : AS Int Int := ⟨room, (rowL f i).take room, [], 0, 0, i - room⟩
theorem rowL_len (f : Nat → Int) (i : Nat) : (rowL f i).length = i := by simp [rowL]
theorem rowL_succ (f : Nat → Int) (i : Nat) : rowL f (i + 1) = ((i : Int), f i) :: rowL f i := by simp [rowL, List.range_succ]
theorem rowL_lt (f : Nat → Int) (i : Nat) : ∀ x ∈ rowL f i, x.1 < i := fun x hx => by
  obtain ⟨j, hj, rfl⟩ := List.mem_map.1 hx
  simp at hj
  show (j : Int) < i
  omega
theorem rowP_put (room : Nat) (f : Nat → Int) (i : Nat) : (rowP room f i).put i (f i) = rowP room f (i + 1) := by
  unfold AS.put rowP
  simp only [findL, List.find?_nil, Option.map_none]
  rw [del_none (fun x hx => by have := rowL_lt f i x (List.mem_of_mem_take hx); omega)]
  unfold AS.trim
  simp only [List.length_cons, List.length_take, rowL_len]
  rw [rowL_succ]
  have e1 : (((i : Int), f i) :: (rowL f i).take room).take room = (((i : Int), f i) :: rowL f i).take room := by
    cases room with
    | zero => rfl
    | succ r => rw [List.take_succ_cons, List.take_succ_cons, List.take_take, Nat.min_eq_left (by omega)]
  rw [e1, show i - room + (min room i + 1 - room) = i + 1 - room by omega]
theorem Nx.below {base : Nat} {F : List Nat} {p N : Nat} {w w' : World} {a b : AS Int Int} (h : Nx base F p N w a w') (hA : CA w base F p N b) (hb : base ≤ w.heap.size) : (∃ F', CA w' base F' p (N + 1) a) ∧ Below base w w' := by
  obtain ⟨F', h1, h2, h3⟩ := h
  exact ⟨⟨F', h1⟩, h2.below (fun k hk => (hA.lt k hk).1) hb⟩
theorem CA.base {w : World} {base : Nat} {F : List Nat} {p N : Nat} {a : AS Int Int} (h : CA w base F p N a) : base ≤ w.heap.size := by
  obtain ⟨m, n, s, L, rfl, h, _⟩ := h; exact h.base
set_option maxRecDepth 100000 in
set_option maxHeartbeats 1000000 in
theorem names_any (w : World) : Calls Try.prog 3 #[] w fun e w' => e = .returned (.bool true) ∧ Below w.heap.size w w' := by
  have HN := hid (New_any w 1099511627776)
  have h0 : newA 1099511627776 = rowP 4096 (fun j => (j : Int)) 0 := by simp [newA, rowP, rowL]; omega
  rw [h0] at HN
  clear h0
  generalize hW : w.heap.size = W at *
  go_enter Try.func3, Try.ntmps3
  go_wp2_with (go_at_call 8; refine HN.out.mono ?_; rintro e w1 ⟨rfl, hc, hb⟩; have HC := hid hc; have HB := hid hb; clear hc hb HN)
  go_loopw [2] (fun i wr => ∃ n : Nat, n ≤ 4100 ∧ i = .int .i64 n ∧ (∃ F, CA wr W F (W + 1) n (rowP 4096 (fun j => (j : Int)) n)) ∧ Below W w wr) (fun i _ => 4100 - (intOf i).toNat)
  case atStart => exact ⟨0, by omega, rfl, ⟨_, HC.out⟩, HB.out⟩
  case round =>
    obtain ⟨n, hn, rfl, ⟨F, hC⟩, hB⟩ := hrel
    by_cases hlt : n < 4100
    · have i1 : (n : Int) < 4100 := by omega
      have HP := hid (Put_any wr W F (W + 1) n _ hC n n (by unfold wfK; omega) (by omega))
      rw [rowP_put] at HP
      have HX := hid (fun w2 (q : Nx W F (W + 1) n wr (rowP 4096 (fun j => (j : Int)) (n + 1)) w2) => q.below hC hC.base)
      have HB2 := hid hB
      clear hC hB
      simp only [argK, argV] at HP
      go_wp2_with (go_at_call 9; refine HP.out.mono ?_; rintro e w2 ⟨rfl, hx⟩; have HY := hid (HX.out w2 hx); clear hx HP HX)
      go_roundw
      case rel => exact ⟨n + 1, by omega, by go_num, HY.out.1, HB2.out.trans HY.out.2⟩
      case measure => simp [intOf]; omega
    · obtain rfl : n = 4100 := by omega
      have HT := hid (Tally_any wr W F (W + 1) 4100 _ hC)
      have e1 : (rowP 4096 (fun j => (j : Int)) 4100).clean.length = 4096 := by simp [rowP, rowL_len]
      have e2 : (rowP 4096 (fun j => (j : Int)) 4100).gone = 4 := rfl
      rw [e1, e2] at HT
      have HB2 := hid hB
      clear hC hB e1 e2 hlt hn
      generalize hh8 : (rowP 4096 (fun j => (j : Int)) 4100).hits = h8 at *
      generalize hh9 : (rowP 4096 (fun j => (j : Int)) 4100).misses = h9 at *
      generalize hh10 : (rowP 4096 (fun j => (j : Int)) 4100).held.length = h10 at *
      go_wp2_with (first
        | (go_at_call 10; refine HT.out.mono ?_; rintro e w2 ⟨rfl, hb2⟩; have HB3 := hid hb2; clear hb2 HT)
        | (refine wpList_store_row (by rfl) 26 (.tmp 3) (.tmp 16) (by rfl) w2.heap.size #[.int .i64 h8, .int .i64 h9, .int .i64 4, .int .i64 4096, .int .i64 h10] (by rfl) (by rfl) 26 _ (by exact hnew _ _) (tal2N h8 h9 4 4096 h10) (tal2Z h8 h9 4 4096 h10) (tal2O h8 h9 4 4096 h10) ?_; rw [setRow_alloc]))
      go_ret
      exact ⟨rfl, HB2.out.trans ((HB3.out.alloc HB3.out.size _).mono (by have := HB2.out.size; omega))⟩
end Go.Proofs.Ytbpamknebjdicaa
