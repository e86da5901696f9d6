import Derived.Test.YtihkjfbhmlfonaaSf
import Derived.Test.YtihkjfbhmlfonaaSg
namespace Go.Proofs.Ytihkjfbhmlfonaa
set_option linter.unusedVariables false
set_option linter.unusedSimpArgs false
open Go.RowKit
open Go.Proofs.Ytihkjfbhmlfonaa.Ca (Ct ct0 ctC argV AS)

/-- A store over a disk that holds the pages L, between two steps; b bounds what is counted. -/
structure Sb (w : World) (base : Nat) (S : Sto) (n : Nat) (o : Sup) (L : List (Int × List Int)) (b rm : Nat) : Prop where
  sx : Sx w base S n o L b 0
  fit : 2 + L.length + S.vs.length ≤ n
  geb : S.s.ge ≤ b
  n64 : n ≤ 64
  room : S.a.room = rm
/-- What one step counts. -/
structure StB (kd E : Int) (S S' : Sto) : Prop where
  p : S'.p = S.p
  g : S'.g = S.g
  st : S'.st = S.st
  rd : S'.D.reads - S.D.reads = (S'.a.misses : Int) - S.a.misses
  mi : S.a.misses ≤ S'.a.misses
  hi : S.a.hits ≤ S'.a.hits
  go : S.a.gone ≤ S'.a.gone
  ld : kd = 2 → E = 0 → S'.a.misses + S'.a.hits = S.a.misses + S.a.hits + 1
  wr : S'.D.writes = S.D.writes + (if kd = 5 ∧ E = 0 then (S.cts.length : Int) + 1 else 0)
  sy : S'.D.syncs = S.D.syncs + (if kd = 5 ∧ E = 0 then 2 else 0)
theorem StB.same (kd E : Int) (S : Sto) (h2 : ¬ (kd = 2 ∧ E = 0)) (h5 : ¬ (kd = 5 ∧ E = 0)) : StB kd E S S :=
  ⟨rfl, rfl, rfl, by omega, Nat.le_refl _, Nat.le_refl _, Nat.le_refl _, fun a b => absurd ⟨a, b⟩ h2, by rw [if_neg h5]; omega, by rw [if_neg h5]; omega⟩
/-- A store behind a step. -/
def OutS (w : World) (base : Nat) (S : Sto) (n rm b : Nat) (kd E : Int) (S' : Sto) (w' : World) : Prop :=
  (∃ o' L', Sb w' base S' n o' L' (b + 200) rm) ∧ StB kd E S S' ∧ Below base w w' ∧ Fr S.fp w w' ∧ Gr w S.fp S'.fp
theorem Sb.below {w w1 : World} {base : Nat} {S : Sto} {n : Nat} {o : Sup} {L : List (Int × List Int)} {b rm : Nat} (h : Sb w base S n o L b rm) (hb : Below w.heap.size w w1) : Sb w1 base S n o L b rm := ⟨h.sx.below hb, h.fit, h.geb, h.n64, h.room⟩
theorem Sb.more {w : World} {base : Nat} {S : Sto} {n : Nat} {o : Sup} {L : List (Int × List Int)} {b rm : Nat} (h : Sb w base S n o L b rm) (c : Nat) (hc : b ≤ c) : Sb w base S n o L c rm := ⟨h.sx.more c hc, h.fit, by have := h.geb; omega, h.n64, h.room⟩
theorem OutS.same {w w' : World} {base : Nat} {S : Sto} {n : Nat} {o : Sup} {L : List (Int × List Int)} {b rm : Nat} (h : Sb w base S n o L b rm) (kd E : Int) (h2 : ¬ (kd = 2 ∧ E = 0)) (h5 : ¬ (kd = 5 ∧ E = 0)) (hb : Below w.heap.size w w') : OutS w base S n rm b kd E S w' :=
  ⟨⟨o, L, (h.below hb).more _ (by omega)⟩, StB.same kd E S h2 h5, hb.mono h.sx.sk.base, Fr.of_below hb, Gr.refl _ _⟩
theorem get_hit {a : AS Int Ct} {k : Int} (h : a.val k ≠ none) : (a.get k).hits = a.hits + 1 ∧ (a.get k).misses = a.misses ∧ (a.get k).gone = a.gone ∧ (a.get k).room = a.room := by
  unfold Ca.AS.val at h
  unfold Ca.AS.get
  cases h1 : Ca.findL a.held k with
  | some x => exact ⟨rfl, rfl, rfl, rfl⟩
  | none =>
    cases h2 : Ca.findL a.clean k with
    | some x => exact ⟨rfl, rfl, rfl, rfl⟩
    | none => rw [h1, h2] at h; exact absurd rfl h
theorem get_miss {a : AS Int Ct} {k : Int} (h : a.val k = none) : (a.get k).hits = a.hits ∧ (a.get k).misses = a.misses + 1 ∧ (a.get k).gone = a.gone ∧ (a.get k).room = a.room := by
  unfold Ca.AS.val at h
  unfold Ca.AS.get
  cases h1 : Ca.findL a.held k with
  | some x => rw [h1] at h; cases h
  | none =>
    cases h2 : Ca.findL a.clean k with
    | some x => rw [h1, h2] at h; cases h
    | none => exact ⟨rfl, rfl, rfl, rfl⟩
theorem put_cnt (a : AS Int Ct) (k : Int) (c : Ct) : (a.put k c).hits = a.hits ∧ (a.put k c).misses = a.misses ∧ a.gone ≤ (a.put k c).gone ∧ (a.put k c).room = a.room := by
  unfold Ca.AS.put
  cases h1 : Ca.findL a.held k with
  | some x => exact ⟨rfl, rfl, Nat.le_refl _, rfl⟩
  | none => exact ⟨rfl, rfl, Nat.le_add_right _ _, rfl⟩
theorem Sb.bd {w : World} {base : Nat} {S : Sto} {n : Nat} {o : Sup} {L : List (Int × List Int)} {b rm : Nat} (h : Sb w base S n o L b rm) : S.s.ma = (2 + L.length : Nat) ∧ S.cts.length = S.vs.length ∧ 0 ≤ S.s.ge ∧ S.D.np = n ∧ 3 ≤ n := ⟨h.sx.bd.1, h.sx.sk.cl, h.sx.bd.2.2.2.2, h.sx.hs.np, h.sx.hs.n4.1⟩
theorem sb_load (w : World) (base : Nat) (S : Sto) (n : Nat) (o : Sup) (L : List (Int × List Int)) (b rm : Nat) (h : Sb w base S n o L b rm) (hb : b ≤ 1000000000000) (q : Int) :
    Calls Try.prog 19 #[.pointer (some ⟨S.st, 0, none⟩), .int .i64 q] w fun e w' => ∃ S' kd u E zs, e = .returned (.tuple #[.int .i64 kd, u, .int .i64 E]) ∧ Own w' w.heap.size u zs ∧ zs.length ≤ 246 ∧ (∀ k, u.ownBlock = some k → k ∉ S'.fp) ∧ OutS w base S n rm b 2 E S' w' := by
  obtain ⟨b1, b2, b3, b4, b5⟩ := h.bd
  have f1 := h.fit
  have f2 := h.n64
  have e1 := h.sx.N
  have e2 := h.sx.rd
  by_cases hq : 2 ≤ q ∧ q < S.s.ma + S.cts.length
  · obtain ⟨qn, rfl⟩ : ∃ k : Nat, q = k := ⟨q.toNat, by omega⟩
    obtain ⟨v, hk, hv⟩ : ∃ v, Kn S qn v ∧ v.2.length ≤ 246 := by
      by_cases c : (qn : Int) < S.s.ma
      · have hj : qn - 2 < L.length := by omega
        have := h.sx.hs.kn (qn - 2) hj
        rw [show 2 + (qn - 2) = qn by omega] at this
        exact ⟨_, this, (h.sx.hs.lv _ (mem_getD hj)).2.1⟩
      · have hj : qn - (2 + L.length) < S.cts.length := by omega
        exact ⟨_, Or.inr ⟨qn - (2 + L.length), hj, by omega, rfl⟩, (h.sx.sk.cv _ hj).le⟩
    refine (oLoad_x w base S h.sx.sk h.sx.lv (by omega) (2 + L.length) b1 h.sx.nx ⟨by omega, by omega⟩ (by omega) (by omega) qn v hk).mono fun e w' ⟨S', u, he, hO, hX, ⟨hK, hR⟩, hD, hB, hF, hG⟩ => ⟨S', v.1, u, 0, v.2, he, hO, hv, hX, ⟨⟨o, L, ?_⟩, ?_, hB, hF, hG⟩⟩
    · have hrm : S'.a.room = rm := by
        rcases hD with ⟨d1, d2, d3⟩ | ⟨d1, ⟨c, d2⟩, d3⟩
        · rw [d2, (get_hit d1).2.2.2]; exact h.room
        · rw [d2, (put_cnt _ _ _).2.2.2, (get_miss d1).2.2.2]; exact h.room
      have x1 := hR.rd
      have x2 := hR.N
      have x3 := h.sx.wr
      have x4 := h.sx.sy
      have x5 := h.sx.ep
      have x6 := h.geb
      refine ⟨⟨hK, ?_, by rw [hR.nx]; exact h.sx.nx, hR.live.trans h.sx.lv, by rw [hR.D]; exact h.sx.ar, by omega, by omega, by rw [hR.D]; show S.D.writes ≤ _; omega, by rw [hR.D]; show S.D.syncs ≤ _; omega, by rw [hR.s]; exact h.sx.ge, by rw [hR.D]; show S.D.epoch ≤ _; omega⟩, by rw [hR.vs]; exact f1, by rw [hR.s]; omega, f2, hrm⟩
      rw [hR.s]
      exact h.sx.hs.reads hK.da.ok (by rw [hR.D]) (by rw [hR.D]) (by rw [hR.D]; exact h.sx.hs.pw)
    · have wr : S'.D.writes = S.D.writes := by rw [hR.D]
      have sy : S'.D.syncs = S.D.syncs := by rw [hR.D]
      rcases hD with ⟨d1, d2, d3⟩ | ⟨d1, ⟨c, d2⟩, d3⟩
      · obtain ⟨g1, g2, g3, _⟩ := get_hit d1
        exact ⟨hR.p, hR.g, hR.st, by rw [d2, d3, g2]; omega, by rw [d2, g2]; omega, by rw [d2, g1]; omega, by rw [d2, g3]; omega, fun _ _ => by rw [d2, g1, g2]; omega, by rw [wr, if_neg (by omega)]; omega, by rw [sy, if_neg (by omega)]; omega⟩
      · obtain ⟨g1, g2, g3, _⟩ := get_miss d1
        obtain ⟨p1, p2, p3, _⟩ := put_cnt (S.a.get (qn : Int)) (qn : Int) c
        exact ⟨hR.p, hR.g, hR.st, by rw [d2, d3, p2, g2]; push_cast; omega, by rw [d2, p2, g2]; omega, by rw [d2, p1, g1]; omega, by rw [d2, ← g3]; exact p3, fun _ _ => by rw [d2, p1, p2, g1, g2]; omega, by rw [wr, if_neg (by omega)]; omega, by rw [sy, if_neg (by omega)]; omega⟩
  · exact (oLoad_out w base S h.sx.sk h.sx.lv (by omega) ⟨by omega, by omega⟩ q hq).mono fun e w' ⟨he, hB⟩ => ⟨S, 0, .slice none 0 0, 41, [], he, Own.nil _ _, by simp, fun k e => by simp [Value.ownBlock] at e, OutS.same h 2 41 (by omega) (by omega) hB⟩
theorem sb_stage (w : World) (base : Nat) (S : Sto) (n : Nat) (o : Sup) (L : List (Int × List Int)) (b rm : Nat) (h : Sb w base S n o L b rm) (hb : b ≤ 1000000000000) (kd : Int) (zs : List Int) (h8 : Byts zs) (hz : zs.length ≤ 1000) (sp : Option Addr) (cap : Nat) (hS : Src w sp cap zs) (hn : sp = none → cap = 0) :
    Calls Try.prog 18 #[.pointer (some ⟨S.st, 0, none⟩), .int .i64 kd, .slice sp zs.length cap] w fun e w' => ∃ S' q E, e = .returned (.tuple #[.int .i64 q, .int .i64 E]) ∧ OutS w base S n rm b 3 E S' w' := by
  obtain ⟨b1, b2, b3, b4, b5⟩ := h.bd
  have f1 := h.fit
  have f2 := h.n64
  have e1 := h.sx.N
  by_cases hc : (kd < 1 ∨ 3 < kd) ∨ 246 < zs.length ∨ S.s.ma + S.cts.length = (S.D.np : Int)
  · exact (oStage_bad w base S h.sx.sk h.sx.lv (by omega) ⟨by omega, by omega⟩ kd zs.length (by omega) sp cap _ rfl hc).mono fun e w' ⟨he, hB⟩ => ⟨S, _, _, he, OutS.same h 3 _ (by omega) (by omega) hB⟩
  · have k1 : 1 ≤ kd ∧ kd ≤ 3 := by omega
    have k2 : zs.length ≤ 246 := by omega
    have k3 : S.s.ma + S.cts.length ≠ (S.D.np : Int) := fun e => hc (Or.inr (Or.inr e))
    refine (oStage_any w base S h.sx.sk h.sx.lv (by omega) ⟨by omega, by omega⟩ (by omega) k3 kd k1 zs h8 k2 sp cap hS hn).mono fun e w' ⟨FC, lb, a, sv, c, he, ha, hK, hF, hG⟩ => ⟨_, _, 0, he, ⟨⟨o, L, ⟨⟨hK, h.sx.hs, h.sx.nx, h.sx.lv, h.sx.ar, ?_, ?_, ?_, ?_, h.sx.ge, ?_⟩, ?_, ?_, f2, ?_⟩⟩, ?_, ?_, hF, hG⟩⟩
    · show S.N + 1 ≤ _; omega
    · have := h.sx.rd; show S.D.reads ≤ _; omega
    · have := h.sx.wr; show S.D.writes ≤ _; omega
    · have := h.sx.sy; show S.D.syncs ≤ _; omega
    · have := h.sx.ep; show S.D.epoch ≤ _; omega
    · show 2 + L.length + (S.vs ++ [(kd, zs)]).length ≤ n
      rw [List.length_append]
      show 2 + L.length + (S.vs.length + 1) ≤ n
      rw [b1, b2, b4] at k3
      omega
    · have := h.geb; show S.s.ge ≤ _; omega
    · show a.room = rm; rw [ha]; exact h.room
    · refine ⟨rfl, rfl, rfl, ?_, ?_, ?_, ?_, fun q => absurd q (by omega), ?_, ?_⟩
      · show S.D.reads - S.D.reads = (a.misses : Int) - S.a.misses; rw [ha]; show S.D.reads - S.D.reads = (S.a.misses : Int) - S.a.misses; omega
      · show S.a.misses ≤ a.misses; rw [ha]; exact Nat.le_refl _
      · show S.a.hits ≤ a.hits; rw [ha]; exact Nat.le_refl _
      · show S.a.gone ≤ a.gone; rw [ha]; exact Nat.le_refl _
      · show S.D.writes = _; rw [if_neg (by omega)]; omega
      · show S.D.syncs = _; rw [if_neg (by omega)]; omega
    · exact hF.below (fun k hk => (h.sx.sk.fp_lt hk).1) h.sx.sk.base
theorem sb_rewind (w : World) (base : Nat) (S : Sto) (n : Nat) (o : Sup) (L : List (Int × List Int)) (b rm : Nat) (h : Sb w base S n o L b rm) (hb : b ≤ 1000000000000) (x : Int) :
    Calls Try.prog 26 #[.pointer (some ⟨S.st, 0, none⟩), .int .i64 x] w fun e w' => ∃ S' E, e = .returned (.int .i64 E) ∧ OutS w base S n rm b 4 E S' w' := by
  obtain ⟨b1, b2, b3, b4, b5⟩ := h.bd
  have f1 := h.fit
  have f2 := h.n64
  have e1 := h.sx.N
  by_cases hc : x < S.s.ma ∨ S.s.ma + S.cts.length < x
  · exact (oRewind_bad w base S h.sx.sk h.sx.lv (by omega) ⟨by omega, by omega⟩ x hc).mono fun e w' ⟨he, hB⟩ => ⟨S, _, he, OutS.same h 4 _ (by omega) (by omega) hB⟩
  · obtain ⟨i, hi⟩ : ∃ i : Nat, x = S.s.ma + (i : Int) := ⟨(x - S.s.ma).toNat, by omega⟩
    have hi2 : i ≤ S.cts.length := by omega
    refine (oRewind_any w base S h.sx.sk h.sx.lv (by omega) ⟨by omega, by omega⟩ (by omega) i hi2 x hi).mono fun e w' ⟨F2, v', he, hK, hF, hG⟩ => ⟨_, 0, he, ⟨⟨o, L, ⟨⟨hK, h.sx.hs, h.sx.nx, h.sx.lv, h.sx.ar, ?_, ?_, ?_, ?_, h.sx.ge, ?_⟩, ?_, ?_, f2, h.room⟩⟩, ?_, ?_, hF, hG⟩⟩
    · show S.N + 1 ≤ _; omega
    · have := h.sx.rd; show S.D.reads ≤ _; omega
    · have := h.sx.wr; show S.D.writes ≤ _; omega
    · have := h.sx.sy; show S.D.syncs ≤ _; omega
    · have := h.sx.ep; show S.D.epoch ≤ _; omega
    · show 2 + L.length + (S.vs.take i).length ≤ n; rw [List.length_take]; omega
    · have := h.geb; show S.s.ge ≤ _; omega
    · refine ⟨rfl, rfl, rfl, ?_, Nat.le_refl _, Nat.le_refl _, Nat.le_refl _, fun q => absurd q (by omega), ?_, ?_⟩
      · show S.D.reads - S.D.reads = (S.a.misses : Int) - S.a.misses; omega
      · show S.D.writes = _; rw [if_neg (by omega)]; omega
      · show S.D.syncs = _; rw [if_neg (by omega)]; omega
    · exact hF.below (fun k hk => (h.sx.sk.fp_lt hk).1) h.sx.sk.base
theorem settle_cnt (a : AS Int Ct) : a.settle.hits = a.hits ∧ a.settle.misses = a.misses ∧ a.gone ≤ a.settle.gone ∧ a.settle.room = a.room := ⟨rfl, rfl, Nat.le_add_right _ _, rfl⟩
theorem sb_flush (w : World) (base : Nat) (S : Sto) (n : Nat) (o : Sup) (L : List (Int × List Int)) (b rm : Nat) (h : Sb w base S n o L b rm) (hb : b ≤ 1000000000) (hd : Int) :
    Calls Try.prog 27 #[.pointer (some ⟨S.st, 0, none⟩), .int .i64 hd] w fun e w' => ∃ S' E, e = .returned (.int .i64 E) ∧ OutS w base S n rm b 5 E S' w' := by
  obtain ⟨b1, b2, b3, b4, b5⟩ := h.bd
  have f1 := h.fit
  have f2 := h.n64
  have e0 := h.geb
  have e1 := h.sx.N
  have e2 := h.sx.rd
  have e3 := h.sx.wr
  have e4 := h.sx.sy
  have e5 := h.sx.ep
  by_cases hh : hd = 0 ∨ (2 ≤ hd ∧ hd < (2 + L.length + S.vs.length : Nat))
  · have hval : validS ⟨S.s.wd, S.s.ge + 1, (2 + L.length + S.vs.length : Nat), hd, S.s.pg⟩ = true := by
      obtain ⟨v1, v2, v3, v4, v5, v6, v7, v8, v9⟩ := (validS_iff _).1 h.sx.hs.gd.1
      have e6 := h.sx.hs.pg
      rw [validS_iff]; dsimp only
      exact ⟨v1, v2, by omega, by omega, v5, v6, by push_cast; omega, by rw [e6]; push_cast; omega, hh⟩
    have hv : ∀ v ∈ S.vs, (1 ≤ v.1 ∧ v.1 ≤ 3) ∧ v.2.length ≤ 246 ∧ Byts v.2 := fun v hv => by
      obtain ⟨j, hj, e⟩ := List.getElem_of_mem hv
      have c := h.sx.sk.cv j (by omega)
      rw [show S.vs.getD j (0, []) = v by rw [← e]; simp [List.getD, hj]] at c
      exact ⟨c.kk, c.le, c.by8⟩
    refine (flush_un w base S h.sx.sk h.sx.lv (by omega) (2 + L.length) b1 h.sx.nx ⟨by omega, by omega⟩ (by omega) ⟨b3, by omega⟩ hd hh hval h.sx.ar (by rw [h.sx.hs.ops]; simp) (by omega) (by omega) (by omega)).mono fun e w' ⟨F', F2, D', s2, he, hs2, hB, ⟨c1, c2, c3⟩, hK, hBl, hF, hG⟩ => ⟨_, 0, he, ⟨⟨S.s, L ++ S.vs, ⟨⟨hK, h.sx.hs.flush hv f1 hs2 (by rw [hs2]; exact hval) hB, ?_, ?_, c1, ?_, ?_, ?_, ?_, ?_, ?_⟩, ?_, ?_, f2, ?_⟩⟩, ?_, hBl, hF, hG⟩⟩
    · show 2 + L.length + S.vs.length = 2 + (L ++ S.vs).length; rw [List.length_append]; omega
    · have := live_0 h.sx.lv
      show liveF D' S.ep = 0
      unfold liveF
      rw [if_neg (by rw [hB.epoch, this.1]; simp), if_pos hB.pw]
    · show S.N + 1 ≤ b + 200; omega
    · show D'.reads ≤ _; rw [hB.reads]; omega
    · show D'.writes ≤ _; omega
    · show D'.syncs ≤ _; omega
    · show s2.ge ≤ _; rw [hs2]; show S.s.ge + 1 ≤ _; omega
    · show D'.epoch ≤ _; rw [hB.epoch]; omega
    · show 2 + (L ++ S.vs).length + ([] : List (Int × List Int)).length ≤ n; rw [List.length_append]; simp; omega
    · show s2.ge ≤ _; rw [hs2]; show S.s.ge + 1 ≤ _; omega
    · show S.a.settle.room = rm; rw [(settle_cnt _).2.2.2]; exact h.room
    · refine ⟨rfl, rfl, rfl, ?_, ?_, ?_, (settle_cnt S.a).2.2.1, fun q => absurd q (by omega), ?_, ?_⟩
      · show D'.reads - S.D.reads = (S.a.settle.misses : Int) - S.a.misses; rw [hB.reads, (settle_cnt S.a).2.1]; omega
      · show S.a.misses ≤ S.a.settle.misses; rw [(settle_cnt S.a).2.1]; exact Nat.le_refl _
      · show S.a.hits ≤ S.a.settle.hits; rw [(settle_cnt S.a).1]; exact Nat.le_refl _
      · show D'.writes = _; rw [if_pos ⟨rfl, rfl⟩, c2]; omega
      · show D'.syncs = _; rw [if_pos ⟨rfl, rfl⟩, c3]
  · exact (oFlush_page w base S h.sx.sk h.sx.lv (by omega) ⟨by omega, by omega⟩ hd (by omega) (fun q => hh (Or.inr ⟨q.1, by have := q.2; rw [b1, b2] at this; push_cast at this ⊢; omega⟩))).mono fun e w' ⟨he, hB⟩ => ⟨S, 41, he, OutS.same h 5 41 (by omega) (by omega) hB⟩
end Go.Proofs.Ytihkjfbhmlfonaa
