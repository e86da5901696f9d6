import Derived.Test.YtcifbnldohmbnaaYb
namespace Go.Proofs.Ytcifbnldohmbnaa
set_option linter.unusedVariables false
set_option linter.unusedSimpArgs false
open Go.RowKit
attribute [local go_sem ↓] Go.wp_at_zero Go.wp_at_succ

theorem filt_none {l : List Ent} {k : List Int} (h : k ∉ keysE l) : l.filter (fun e => decide (e.key ≠ k)) = l :=
  List.filter_eq_self.2 fun e he => by
    rw [decide_eq_true_eq]; intro e2; exact h (List.mem_map.2 ⟨e, he, e2⟩)
theorem filt_at : ∀ {l : List Ent} {k : List Int} {p : Nat}, (keysE l).Nodup → p < l.length → (l.getD p dE).key = k → l.filter (fun e => decide (e.key ≠ k)) = l.eraseIdx p
  | [], _, _, _, h, _ => by simp at h
  | e :: l, k, 0, hn, _, hk => by
    obtain ⟨h1, h2⟩ := List.nodup_cons.1 hn
    have hk : e.key = k := by simpa using hk
    rw [List.filter_cons_of_neg (by rw [decide_eq_true_eq]; exact fun h => h hk), filt_none (by rw [← hk]; exact h1)]; rfl
  | e :: l, k, p + 1, hn, hp, hk => by
    obtain ⟨h1, h2⟩ := List.nodup_cons.1 hn
    have hp : p < l.length := by simpa using hp
    have hk : (l.getD p dE).key = k := by simpa using hk
    rw [List.filter_cons_of_pos (by rw [decide_eq_true_eq]; exact fun h => h1 (by rw [h, ← hk]; exact List.mem_map.2 ⟨_, gD_mem l dE p hp, rfl⟩)), filt_at h2 hp hk]; rfl
theorem map_none {l : List Ent} {k : List Int} (x : Ent) (h : k ∉ keysE l) : l.map (fun e => if e.key = k then x else e) = l := by
  rw [List.map_congr_left (g := id) (fun e he => by rw [if_neg (fun e2 => h (List.mem_map.2 ⟨e, he, e2⟩))]; rfl), List.map_id]
theorem map_at : ∀ {l : List Ent} {k : List Int} {p : Nat} (x : Ent), (keysE l).Nodup → p < l.length → (l.getD p dE).key = k → l.map (fun e => if e.key = k then x else e) = l.set p x
  | [], _, _, _, _, h, _ => by simp at h
  | e :: l, k, 0, x, hn, _, hk => by
    obtain ⟨h1, h2⟩ := List.nodup_cons.1 hn
    have hk : e.key = k := by simpa using hk
    rw [List.map_cons, if_pos hk, map_none x (by rw [← hk]; exact h1)]; rfl
  | e :: l, k, p + 1, x, hn, hp, hk => by
    obtain ⟨h1, h2⟩ := List.nodup_cons.1 hn
    have hp : p < l.length := by simpa using hp
    have hk : (l.getD p dE).key = k := by simpa using hk
    rw [List.map_cons, if_neg (fun h => h1 (by rw [h, ← hk]; exact List.mem_map.2 ⟨_, gD_mem l dE p hp, rfl⟩)), map_at x h2 hp hk]; rfl
theorem keysE_at {l : List Ent} {k : List Int} {p : Nat} (hp : p < l.length) (hk : (l.getD p dE).key = k) : k ∈ keysE l := by rw [← hk]; exact List.mem_map.2 ⟨_, gD_mem l dE p hp, rfl⟩
theorem keysE_no {l : List Ent} {k : List Int} (h : ∀ j, j < l.length → (l.getD j dE).key ≠ k) : k ∉ keysE l := fun hm => by
  obtain ⟨e, he, hk⟩ := List.mem_map.1 hm
  obtain ⟨j, hj, rfl⟩ := List.mem_iff_getElem.1 he
  exact h j hj (by rw [List.getD_eq_getElem?_getD, List.getElem?_eq_getElem hj]; exact hk)
theorem step_del_none {l : List Ent} {c : Chg} (hd : c.del = true) (h : c.key ∉ keysE l) : step1 l c = l := by unfold step1; rw [if_pos hd, filt_none h]
theorem step_del_at {l : List Ent} {c : Chg} {p : Nat} (hn : (keysE l).Nodup) (hd : c.del = true) (hp : p < l.length) (hk : (l.getD p dE).key = c.key) : step1 l c = l.eraseIdx p := by unfold step1; rw [if_pos hd, filt_at hn hp hk]
theorem step_put_none {l : List Ent} {c : Chg} (hd : c.del = false) (h : c.key ∉ keysE l) : step1 l c = l ++ [⟨c.key, c.val⟩] := by unfold step1; rw [if_neg (by rw [hd]; decide), if_neg h]
theorem step_put_at {l : List Ent} {c : Chg} {p : Nat} (hn : (keysE l).Nodup) (hd : c.del = false) (hp : p < l.length) (hk : (l.getD p dE).key = c.key) : step1 l c = l.set p ⟨c.key, c.val⟩ := by unfold step1; rw [if_neg (by rw [hd]; decide), if_pos (keysE_at hp hk), map_at _ hn hp hk]
theorem gD_erase {α : Type} (l : List α) (d : α) (p i : Nat) : (l.eraseIdx p).getD i d = if i < p then l.getD i d else l.getD (i + 1) d := by
  rw [List.getD_eq_getElem?_getD, List.getElem?_eraseIdx]
  split <;> rw [← List.getD_eq_getElem?_getD]
theorem SaysGL.erase {w : World} {ms : List MG} {es : List Ent} (h : SaysGL w ms es) (p : Nat) (hp : p < es.length) : SaysGL w (ms.eraseIdx p) (es.eraseIdx p) := by
  have hl : (es.eraseIdx p).length = es.length - 1 := by rw [List.length_eraseIdx, if_pos hp]
  refine ⟨by rw [hl, List.length_eraseIdx, if_pos (by rw [h.1]; exact hp), h.1], fun i hi => ?_⟩
  rw [gD_erase, gD_erase]
  split
  · exact h.2 i (by omega)
  · exact h.2 (i + 1) (by omega)
theorem take_gD {α : Type} (l : List α) (d : α) (k : Nat) (hk : k < l.length) : l.take (k + 1) = l.take k ++ [l.getD k d] := by
  rw [List.take_succ_eq_append_getElem hk, List.getD_eq_getElem?_getD, List.getElem?_eq_getElem hk]; rfl
/-- The list so far, without the place q. -/
def but (ms : List MG) (q k : Nat) : List MG := (ms.take k).eraseIdx q
theorem but_skip (ms : List MG) (q : Nat) (hq : q < ms.length) : but ms q (q + 1) = but ms q q := by
  unfold but
  rw [take_gD ms dG q hq, List.eraseIdx_append_of_length_le (by rw [List.length_take]; omega), List.length_take, Nat.min_eq_left (by omega), Nat.sub_self, show ([ms.getD q dG]).eraseIdx 0 = [] from rfl, List.append_nil, List.eraseIdx_of_length_le (by rw [List.length_take]; omega)]
theorem but_take (ms : List MG) (q k : Nat) (hk : k < ms.length) (hne : k ≠ q) : but ms q (k + 1) = but ms q k ++ [ms.getD k dG] := by
  unfold but
  rw [take_gD ms dG k hk]
  by_cases h : q < k
  · rw [List.eraseIdx_append_of_lt_length (by rw [List.length_take]; omega)]
  · rw [List.eraseIdx_of_length_le (by simp [List.length_take]; omega), List.eraseIdx_of_length_le (by simp [List.length_take]; omega)]
theorem but_all (ms : List MG) (q : Nat) : but ms q ms.length = ms.eraseIdx q := by unfold but; rw [List.take_length]
theorem but_len (ms : List MG) (q k : Nat) : (but ms q k).length ≤ k := by
  unfold but
  have := List.length_eraseIdx_le (ms.take k) q
  have := List.length_take_le k ms
  omega
theorem encG_key {w : World} {b o : Nat} {m : MG} (h : w.rangeAt b o (encG m)) : w.rangeAt b o (ints .u8 m.key) := fun j v hv => h j v (by
  have hj := (List.getElem?_eq_some_iff.1 hv).1
  rw [encG, List.getElem?_append_left hj]; exact hv)
theorem encG_val {w : World} {b o : Nat} {m : MG} (h : w.rangeAt b o (encG m)) (hk : m.key.length = 32) : w.cell? ⟨b, o + 32, none⟩ = some m.sv := h 32 _ (by rw [encG, List.getElem?_append_right (by rw [ints_len, hk]; decide), ints_len, hk]; rfl)
theorem push_facts {w7 : World} {base n : Nat} {v7 : Value} {rs : List MG} {k : List Int} (hO7 : OwnG w7 base v7 (rs ++ [⟨k, .slice none 0 0⟩])) (hme : ∀ m ∈ rs, (encG m).length = 33) (hk : k.length = 32) (hn : rs.length = n) (sv : Value) :
    ∃ b7 c7, v7 = .slice (some ⟨b7, 0, none⟩) (n + 1) c7 ∧ base ≤ b7 ∧ w7.cell? ⟨b7, n * 33 + 32, none⟩ = some (.slice none 0 0) ∧ w7.frozen? ⟨b7, n * 33 + 32, none⟩ = false ∧ OwnG (w7.setCell ⟨b7, n * 33 + 32, none⟩ sv) base v7 (rs ++ [⟨k, sv⟩]) := by
  subst hn
  have lm : (encG ⟨k, .slice none 0 0⟩).length = 33 := by simp [encG, ints, hk]
  have hall : ∀ m ∈ rs ++ [(⟨k, .slice none 0 0⟩ : MG)], (encG m).length = 33 := by
    intro m hm
    rcases List.mem_append.1 hm with h1 | h1
    · exact hme m h1
    · rw [List.mem_singleton] at h1; subst h1; exact lm
  obtain ⟨s7, c7, b7, hv7, hE7, hf7⟩ := hO7.ens (es := List.replicate (rs.length + 1) dE) hall (by simp)
  rw [List.length_replicate] at hv7
  obtain ⟨h7b, h7s⟩ := hE7.pos (by simp)
  obtain ⟨hob, _⟩ := hf7 (by simp)
  have hgd := gD_app_r rs (⟨k, .slice none 0 0⟩ : MG) dG
  have h7c := encG_val (hE7.rd rs.length (by simp)) (by rw [hgd]; exact hk)
  rw [hgd] at h7c
  obtain ⟨h7o, h7z⟩ := hO7.put hall rs.length (by simp) b7 hob sv
  rw [hgd] at h7o
  have hse : (rs ++ [(⟨k, .slice none 0 0⟩ : MG)]).set rs.length ⟨k, sv⟩ = rs ++ [⟨k, sv⟩] := by rw [List.set_append_right _ _ (Nat.le_refl _), Nat.sub_self]; rfl
  refine ⟨b7, c7, by rw [hv7, h7s], (hO7.block b7 hob).1, h7c, h7z, ?_⟩
  rw [← hse]; exact h7o
end Go.Proofs.Ytcifbnldohmbnaa
