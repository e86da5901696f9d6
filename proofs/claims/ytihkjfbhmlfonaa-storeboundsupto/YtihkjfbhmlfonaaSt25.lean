import Derived.Test.YtihkjfbhmlfonaaSe
namespace Go.Proofs.Ytihkjfbhmlfonaa
set_option linter.unusedVariables false
set_option linter.unusedSimpArgs false
open Go.RowKit
open Go.Proofs.Ytihkjfbhmlfonaa.Ca (Ct ct0 ctC argV AS)
attribute [local go_sem ↓] Go.wp_at_zero Go.wp_at_succ

/-- The same store behind at most k reads. -/
structure Rd (k : Nat) (S S' : Sto) : Prop where
  p : S'.p = S.p
  g : S'.g = S.g
  st : S'.st = S.st
  pc : S'.pc = S.pc
  s : S'.s = S.s
  nx : S'.nx = S.nx
  ep : S'.ep = S.ep
  vs : S'.vs = S.vs
  cts : S'.cts = S.cts
  D : S'.D = { S.D with reads := S'.D.reads }
  rd : S.D.reads ≤ S'.D.reads ∧ S'.D.reads ≤ S.D.reads + k
  N : S'.N ≤ S.N + 2 * k
theorem Rd.refl (S : Sto) : Rd 0 S S := ⟨rfl, rfl, rfl, rfl, rfl, rfl, rfl, rfl, rfl, rfl, ⟨by omega, by omega⟩, by omega⟩
theorem Rd.trans {k l : Nat} {S S' S'' : Sto} (h : Rd k S S') (q : Rd l S' S'') : Rd (k + l) S S'' :=
  ⟨q.p.trans h.p, q.g.trans h.g, q.st.trans h.st, q.pc.trans h.pc, q.s.trans h.s, q.nx.trans h.nx, q.ep.trans h.ep, q.vs.trans h.vs, q.cts.trans h.cts, by rw [q.D, h.D], ⟨by have := h.rd; have := q.rd; omega, by have := h.rd; have := q.rd; push_cast; omega⟩, by have := h.N; have := q.N; omega⟩
theorem Rd.live {k : Nat} {S S' : Sto} (h : Rd k S S') : liveF S'.D S'.ep = liveF S.D S.ep := by rw [h.D, h.ep]; rfl
/-- What a store knows of a page. -/
def Kn (S : Sto) (q : Nat) (v : Int × List Int) : Prop :=
  (2 ≤ q ∧ (q : Int) < S.s.ma ∧ q < S.D.np ∧ unpackF q (S.D.readOf q) = (v.1, v.2, 0) ∧ (1 ≤ v.1 ∧ v.1 ≤ 3) ∧ v.2.length ≤ 246 ∧ Byts v.2) ∨ (∃ j : Nat, j < S.cts.length ∧ (q : Int) = S.s.ma + j ∧ S.vs.getD j (0, []) = v)
theorem Kn.rd {k : Nat} {S S' : Sto} {q : Nat} {v : Int × List Int} (h : Kn S q v) (r : Rd k S S') : Kn S' q v := by
  unfold Kn
  rw [r.D, r.s, r.cts, r.vs]
  exact h
theorem findL_memC {l : List (Int × Ct)} {k : Int} {c : Ct} (h : Ca.findL l k = some c) : (k, c) ∈ l := by
  unfold Ca.findL at h
  obtain ⟨x, h1, h2⟩ := Option.map_eq_some_iff.1 h
  have := List.mem_of_find?_eq_some h1
  have e := List.find?_some h1
  have e2 : x.1 = k := by simpa using e
  rw [← e2, ← h2]; exact this
set_option maxHeartbeats 1000000 in
theorem oLoad_kn (w : World) (base : Nat) (S : Sto) (h : SK w base S) (hlv : liveF S.D S.ep = 0) (hl : S.cts.length ≤ 100000) (m : Nat) (hm : S.s.ma = m) (hnx : S.nx = m) (hm2 : 2 ≤ m ∧ m ≤ 100000) (hN : S.N < 2500000000000000000) (hr : S.D.reads < 3000000000000000000) (q : Nat) (v : Int × List Int) (hk : Kn S q v) :
    Calls Try.prog 19 #[.pointer (some ⟨S.st, 0, none⟩), .int .i64 q] w fun e w' => ∃ S' u, e = .returned (.tuple #[.int .i64 v.1, u, .int .i64 0]) ∧ Own w' w.heap.size u v.2 ∧ (SK w' base S' ∧ Rd 1 S S') ∧ Below base w w' ∧ Fr S.fp w w' ∧ Gr w S.fp S'.fp := by
  have hbw := h.base
  have HIT : ∀ c, 2 ≤ (q : Int) ∧ (q : Int) < S.s.ma + S.cts.length → S.a.val (q : Int) = some c → CtIs w base S.lb c v → Calls Try.prog 19 #[.pointer (some ⟨S.st, 0, none⟩), .int .i64 q] w fun e w' => ∃ S' u, e = .returned (.tuple #[.int .i64 v.1, u, .int .i64 0]) ∧ Own w' w.heap.size u v.2 ∧ (SK w' base S' ∧ Rd 1 S S') ∧ Below base w w' ∧ Fr S.fp w w' ∧ Gr w S.fp S'.fp := fun c hq hv hc => by
    refine (oLoad_hit w base S h hlv hl ⟨by omega, by omega⟩ (by omega) q hq c hv v.1 v.2 hc).mono fun e w' ⟨FC, u, he, hO, hK, hF, hG⟩ => ⟨_, u, he, hO, ⟨hK, ⟨rfl, rfl, rfl, rfl, rfl, rfl, rfl, rfl, rfl, rfl, ⟨Int.le_refl _, ?_⟩, ?_⟩⟩, ?_, ?_, ?_⟩
    · show S.D.reads ≤ S.D.reads + 1; omega
    · show S.N + 1 ≤ S.N + 2 * 1; omega
    · exact hF.below (fun k hk => (h.in_lt (by simp [hk])).1) hbw
    · exact ⟨hF.os, hF.tape, hF.output, hF.size, fun k hk hn => hF.block k hk (fun z => hn ((Sto.mem S k).2 (by simp [z])))⟩
    · intro k q
      rcases (Sto.mem _ k).1 q with e | e | e | e | e | e
      · exact Or.inl ((Sto.mem S k).2 (Or.inl e))
      · exact Or.inl ((Sto.mem S k).2 (Or.inr (Or.inl e)))
      · exact Or.inl ((Sto.mem S k).2 (Or.inr (Or.inr (Or.inl e))))
      · rcases hG k e with z | z
        · exact Or.inl ((Sto.mem S k).2 (Or.inr (Or.inr (Or.inr (Or.inl z)))))
        · exact Or.inr z
      · exact Or.inl ((Sto.mem S k).2 (Or.inr (Or.inr (Or.inr (Or.inr (Or.inl e))))))
      · exact Or.inl ((Sto.mem S k).2 (Or.inr (Or.inr (Or.inr (Or.inr (Or.inr e))))))
  rcases hk with ⟨h1, h2, h3, h4, h5, h6, h7⟩ | ⟨j, hj, e, hv⟩
  · by_cases hn : S.a.val (q : Int) = none
    · refine (oLoad_miss w base S h hlv hl m hm hnx hm2 hN q ⟨h1, by omega, h3⟩ hn hr v.1 v.2 h4 h5 h6 h7).mono fun e w' ⟨S', u, he, hO, ⟨hK, hS, k1, k2, k3, _⟩, hB⟩ => ⟨S', u, he, hO, ⟨hK, ⟨hS.p, hS.g, hS.st, hS.pc, hS.s, hS.nx, hS.ep, k2, k3, ?_, ⟨?_, ?_⟩, ?_⟩⟩, hB⟩
      · rw [show S'.D = _ from hS.D]
      · rw [show S'.D = _ from hS.D]; show S.D.reads ≤ S.D.reads + 1; omega
      · rw [show S'.D = _ from hS.D]; show S.D.reads + 1 ≤ S.D.reads + ((1 : Nat) : Int); omega
      · rw [k1]; omega
    · obtain ⟨c, hc⟩ := Option.ne_none_iff_exists'.1 hn
      refine HIT c ⟨by omega, by omega⟩ hc ?_
      unfold Ca.AS.val at hc
      rw [h.hd, heldL_no _ _ _ (Or.inl h2)] at hc
      have hc2 : Ca.findL S.a.clean (q : Int) = some c := by simpa using hc
      obtain ⟨v', c1, c2, c3, c4⟩ := h.ck _ (findL_memC hc2)
      have e4 : (v'.1, v'.2, (0 : Int)) = (v.1, v.2, 0) := c4.symm.trans (by show unpackF (q : Int) (S.D.readOf ((q : Int)).toNat) = _; rw [Int.toNat_natCast]; exact h4)
      obtain ⟨e5, e6⟩ := Prod.mk.inj e4
      obtain ⟨e7, _⟩ := Prod.mk.inj e6
      have : v' = v := Prod.ext e5 e7
      exact this ▸ c1
  · have hval := h.held_key j hj
    rw [← e] at hval
    exact HIT _ ⟨by omega, by omega⟩ hval (hv ▸ h.cv j hj)
end Go.Proofs.Ytihkjfbhmlfonaa
