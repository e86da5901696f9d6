import Derived.Test.YtbgjnihkiolmlaaGs
namespace Go.Proofs.Ytbgjnihkiolmlaa
set_option linter.unusedVariables false
set_option linter.unusedSimpArgs false
open Go.RowKit
attribute [local go_sem ↓] Go.wp_at_zero Go.wp_at_succ

/-! A twin: what is done to it stays above a bound. -/
structure TS (G : Nat) (w : World) (base B0 p g n c : Nat) (s : Sup) (T : DS) (nx : Nat) (F : List Nat) : Prop where
  da : DA w base F p T
  fk : FK w g p s nx 1
  bF : ∀ k ∈ F, B0 ≤ k
  bg : B0 ≤ g
  bw : B0 ≤ w.heap.size
  bb : base ≤ w.heap.size
  ep : T.epoch = 1
  pw : T.power = true
  ar : T.armed = 0
  np : T.np = n
  ops : T.ops.length ≤ c
  wrs : T.writes ≤ c
  sys : T.syncs ≤ c
  cc : c ≤ 100
  nx : 2 ≤ nx ∧ nx ≤ n
  xg : G ∉ F ∧ G ≠ g ∧ G < w.heap.size
theorem TS.live {G : Nat} {w : World} {base B0 p g n c : Nat} {s : Sup} {T : DS} {nx : Nat} {F : List Nat} (h : TS G w base B0 p g n c s T nx F) : liveF T 1 = 0 := by
  unfold liveF; rw [if_neg (by rw [h.ep]; simp), if_pos h.pw]
theorem TS.below {G : Nat} {w w1 : World} {base B0 p g n c : Nat} {s : Sup} {T : DS} {nx : Nat} {F : List Nat} (h : TS G w base B0 p g n c s T nx F) (hb : Below w.heap.size w w1) : TS G w1 base B0 p g n c s T nx F :=
  ⟨h.da.below hb, h.fk.below hb, h.bF, h.bg, Nat.le_trans h.bw hb.size, Nat.le_trans h.bb hb.size, h.ep, h.pw, h.ar, h.np, h.ops, h.wrs, h.sys, h.cc, h.nx, h.xg.1, h.xg.2.1, Nat.lt_of_lt_of_le h.xg.2.2 hb.size⟩
theorem frB {w w1 : World} {F : List Nat} {g B0 : Nat} (hf : Fr (g :: F) w w1) (hF : ∀ k ∈ F, B0 ≤ k) (hg : B0 ≤ g) (hw : B0 ≤ w.heap.size) : Below B0 w w1 := hf.below (fun k hk => by
  rcases List.mem_cons.1 hk with e | e
  · rw [e]; exact hg
  · exact hF k e) hw
theorem tw_append (G : Nat) (w : World) (base B0 p g n c : Nat) (s : Sup) (T : DS) (nx : Nat) (F : List Nat) (h : TS G w base B0 p g n c s T nx F) (hc : c < 100) (sp : Option Addr) (cap : Nat) (hS : Src w sp cap [1]) :
    Calls Try.prog 24 #[.pointer (some ⟨g, 0, none⟩), .int .i64 1, .slice sp 1 cap] w fun e w' => (∃ x y, e = .returned (.tuple #[.int .i64 x, .int .i64 y])) ∧ (∃ T' nx' F', TS G w' base B0 p g n (c + 1) s T' nx' F') ∧ Below B0 w w' ∧ w'.heap[G]? = w.heap[G]? := by
  have hb1 : Byts [1] := fun x hx => by simp at hx; omega
  by_cases hq : nx < n
  · refine (Append_in w base F p T h.da h.bb g s 1 nx h.fk h.live ⟨h.nx.1, by rw [h.np]; exact hq⟩ 1 (by decide) [1] hb1 (by decide) sp cap hS (by have := h.ops; have := h.cc; omega) (by have := h.wrs; have := h.cc; omega)).mono ?_
    rintro e w' ⟨h1, _⟩
    obtain ⟨rfl, F', hD, hK, hF, hG⟩ := h1 (by rw [h.ar]; decide)
    obtain ⟨e1, e2, e3, e4, e5, e6⟩ := wr_img T ⟨nx, pageP 1 nx [1]⟩
    obtain ⟨a1, a2, _⟩ := wr_arm T ⟨nx, pageP 1 nx [1]⟩ (by rw [h.ar]; decide)
    have hB := frB hF h.bF h.bg h.bw
    refine ⟨⟨_, _, rfl⟩, ⟨_, nx + 1, F', hD, hK, fun k hk => (hG k hk).elim (h.bF k) (fun q => Nat.le_trans h.bw q), h.bg, Nat.le_trans h.bw hB.size, Nat.le_trans h.bb hB.size, e3.trans h.ep, (a2 (by rw [h.ar]; decide)).trans h.pw, by rw [a1, if_pos h.ar], (np_img (by rw [e1])).trans h.np, ?_, ?_, ?_, by omega, by have := h.nx; omega, fun e => (hG G e).elim h.xg.1 (fun q => by have := h.xg.2.2; omega), h.xg.2.1, Nat.lt_of_lt_of_le h.xg.2.2 hB.size⟩, hB, hF.block G h.xg.2.2 (fun e => (List.mem_cons.1 e).elim h.xg.2.1 h.xg.1)⟩
    · rw [e2]; have := h.ops; simp; omega
    · rw [e5]; have := h.wrs; push_cast; omega
    · rw [e6]; have := h.sys; push_cast; omega
  · refine (Append_full w base F p T h.da g s 1 nx h.fk h.live (by have := h.nx; rw [h.np]; omega) 1 (by decide) [1] (by decide) sp cap).mono ?_
    rintro e w' ⟨rfl, hB⟩
    have h2 := h.below hB
    exact ⟨⟨_, _, rfl⟩, ⟨T, nx, F, h2.da, h2.fk, h2.bF, h2.bg, h2.bw, h2.bb, h2.ep, h2.pw, h2.ar, h2.np, by have := h.ops; omega, by have := h.wrs; push_cast; omega, by have := h.sys; push_cast; omega, by omega, h2.nx, h2.xg⟩, hB.mono h.bw, hB.block G h.xg.2.2⟩
theorem tw_publish (G : Nat) (w : World) (base B0 p g n c : Nat) (s : Sup) (T : DS) (nx : Nat) (F : List Nat) (h : TS G w base B0 p g n c s T nx F) (hv : validS s = true) (hpg : s.pg = (n : Int)) (hge : s.ge < 1099511627776) :
    Calls Try.prog 26 #[.pointer (some ⟨g, 0, none⟩), .int .i64 0] w fun e w' => (∃ x, e = .returned (.int .i64 x)) ∧ (∃ T' F', DA w' base F' p T' ∧ T'.epoch = 1 ∧ (∀ k ∈ F', B0 ≤ k) ∧ G ∉ F') ∧ Below B0 w w' ∧ w'.heap[G]? = w.heap[G]? := by
  have hvs := (validS_iff s).1 hv
  have hv2 : validS ⟨s.wd, s.ge + 1, nx, 0, s.pg⟩ = true := by
    rw [validS_iff]
    have := h.nx
    refine ⟨hvs.1, hvs.2.1, by show 0 ≤ s.ge + 1; omega, by show s.ge + 1 ≤ _; omega, hvs.2.2.2.2.1, hvs.2.2.2.2.2.1, by show (2 : Int) ≤ nx; omega, by show (nx : Int) ≤ s.pg; omega, Or.inl rfl⟩
  have hbud : Bud T 3 := ⟨h.pw, by have := h.ops; have := h.cc; omega, by have := h.wrs; have := h.cc; omega, by have := h.sys; have := h.cc; omega⟩
  have hk : ∃ k : Nat, (s.ge + 1) % 2 = (k : Int) := ⟨((s.ge + 1) % 2).toNat, by omega⟩
  obtain ⟨k, hk⟩ := hk
  have hP := pub_all h.da.ok h.pw hbud ⟨s.wd, s.ge + 1, nx, 0, s.pg⟩ hv2 k hk
  refine (Publish_in w base F p T h.da h.bb g s nx 1 h.fk h.live 0 (Or.inl rfl) ⟨hvs.2.2.1, hge⟩ _ rfl hv2 hbud).mono ?_
  rintro e w' ⟨rfl, F', hD, hK, hF, hG⟩
  exact ⟨⟨_, rfl⟩, ⟨_, F', hD, hP.epoch.trans h.ep, fun k hk => (hG k hk).elim (h.bF k) (fun q => Nat.le_trans h.bw q), fun e => (hG G e).elim h.xg.1 (fun q => by have := h.xg.2.2; omega)⟩, frB hF h.bF h.bg h.bw, hF.block G h.xg.2.2 (fun e => (List.mem_cons.1 e).elim h.xg.2.1 h.xg.1)⟩
theorem tw_crash (G : Nat) (w : World) (base B0 p : Nat) (T : DS) (F : List Nat) (h : DA w base F p T) (he : T.epoch = 1) (hF : ∀ k ∈ F, B0 ≤ k) (hw : B0 ≤ w.heap.size) (hx : G ∉ F) (hg : G < w.heap.size) :
    Calls Try.prog 14 #[.pointer (some ⟨p, 0, none⟩), .slice none 0 0] w fun e w' => (∃ x, e = .returned (.int .i64 x)) ∧ Below B0 w w' ∧ w'.heap[G]? = w.heap[G]? := by
  refine (Crash_any w base F p T h (by rw [he]; decide) [] (fun x hx => by cases hx) none 0 (Src.nil w) (fun a q => by simp at q)).mono ?_
  rintro e w' ⟨rfl, F', hD, hF', _⟩
  exact ⟨⟨_, rfl⟩, hF'.below hF hw, hF'.block G hg hx⟩
end Go.Proofs.Ytbgjnihkiolmlaa
