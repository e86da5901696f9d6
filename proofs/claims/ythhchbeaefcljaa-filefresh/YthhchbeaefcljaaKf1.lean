import Derived.Test.YthhchbeaefcljaaKpB
import Derived.Test.YthhchbeaefcljaaGs
namespace Go.Proofs.Ythhchbeaefcljaa
set_option linter.unusedVariables false
set_option linter.unusedSimpArgs false
open Go.RowKit
attribute [local go_sem ↓] Go.wp_at_zero Go.wp_at_succ

/-! A keeper beside a file and its book: E the blocks that are not the keeper's, ex lists that are apart from all that it holds. -/
def KBk (B : Nat) (v1 v2 : Value) (L1 L2 : List Value) (k : Nat) : Prop := k = B ∨ v1.ownBlock = some k ∨ v2.ownBlock = some k ∨ (∃ r, r < L1.length ∧ (L1.getD r undef).ownBlock = some k) ∨ ∃ r, r < L2.length ∧ (L2.getD r undef).ownBlock = some k
theorem KP.blk_lt {w : World} {base B : Nat} {v1 v2 : Value} {L1 L2 : List Value} {zs : List (List Int)} (h : KP w base B v1 v2 L1 L2 zs) {k : Nat} (hk : KBk B v1 v2 L1 L2 k) : k < w.heap.size := by
  rcases hk with rfl | e | e | ⟨r, hr, e⟩ | ⟨r, hr, e⟩
  · exact hlt h.pk.bk
  · exact (h.pk.o1.heap k e).2.1
  · exact (h.pk.o2.heap k e).2.1
  · exact (own_blk (h.e1 r (by rw [← h.l1]; exact hr)) e).2.1
  · exact (own_blk (h.e2 r (by rw [← h.l2]; exact hr)) e).2.1
theorem KP.of_blk {w w1 : World} {base B : Nat} {v1 v2 : Value} {L1 L2 : List Value} {zs : List (List Int)} (h : KP w base B v1 v2 L1 L2 zs) (hk : ∀ k, KBk B v1 v2 L1 L2 k → w1.heap[k]? = w.heap[k]?) : KP w1 base B v1 v2 L1 L2 zs :=
  ⟨⟨h.pk.hb, (hk B (Or.inl rfl)).trans h.pk.bk, h.pk.o1.of_heap fun k e => hk k (Or.inr (Or.inl e)), h.pk.o2.of_heap fun k e => hk k (Or.inr (Or.inr (Or.inl e))), h.pk.dj⟩, h.l1, h.l2,
    fun i hi => (h.e1 i hi).of_heap fun k e => hk k (Or.inr (Or.inr (Or.inr (Or.inl ⟨i, by rw [h.l1]; exact hi, e⟩)))), fun i hi => (h.e2 i hi).of_heap fun k e => hk k (Or.inr (Or.inr (Or.inr (Or.inr ⟨i, by rw [h.l2]; exact hi, e⟩)))), h.ap⟩
structure KF (w : World) (base B N : Nat) (E : List Nat) (ex : List Value) : Prop where
  lt : ∀ k ∈ E, k < w.heap.size
  kp : ∃ v1 v2 L1 L2 zs, KP w base B v1 v2 L1 L2 zs ∧ zs.length ≤ N ∧ (∀ r, (zs.getD r []).length ≤ 140737488355000) ∧ (∀ k ∈ E, ¬ KBk B v1 v2 L1 L2 k) ∧ ∀ x ∈ ex, ∀ r, r < zs.length → DjB (L1.getD r undef) x
theorem KF.mono {w : World} {base B N M : Nat} {E : List Nat} {ex : List Value} (h : KF w base B N E ex) (hN : N ≤ M) : KF w base B M E ex := by
  obtain ⟨v1, v2, L1, L2, zs, hk, q1, q2, q3, q4⟩ := h.kp
  exact ⟨h.lt, ⟨v1, v2, L1, L2, zs, hk, by omega, q2, q3, q4⟩⟩
theorem KF.sub {w : World} {base B N : Nat} {E E' : List Nat} {ex ex' : List Value} (h : KF w base B N E ex) (hE : ∀ k ∈ E', k ∈ E) (hx : ∀ x ∈ ex', x ∈ ex) : KF w base B N E' ex' := by
  obtain ⟨v1, v2, L1, L2, zs, hk, q1, q2, q3, q4⟩ := h.kp
  exact ⟨fun k hk => h.lt k (hE k hk), ⟨v1, v2, L1, L2, zs, hk, q1, q2, fun k hk => q3 k (hE k hk), fun x h1 => q4 x (hx x h1)⟩⟩
/-- A call that leaves all but E. -/
theorem KF.other {w w1 : World} {base B N : Nat} {E E' : List Nat} {ex : List Value} (h : KF w base B N E ex) (hf : Fr E w w1) (hg : Gr w E E') (hl : ∀ k ∈ E', k < w1.heap.size) : KF w1 base B N E' ex := by
  obtain ⟨v1, v2, L1, L2, zs, hk, q1, q2, q3, q4⟩ := h.kp
  refine ⟨hl, ⟨v1, v2, L1, L2, zs, hk.of_blk fun k e => hf.block k (hk.blk_lt e) (fun he => q3 k he e), q1, q2, fun k he e => ?_, q4⟩⟩
  rcases hg k he with x | x
  · exact q3 k x e
  · have := hk.blk_lt e; omega
theorem KF.call {w w1 : World} {base B N : Nat} {E : List Nat} {ex : List Value} (h : KF w base B N E ex) (hb : Below w.heap.size w w1) : KF w1 base B N E ex :=
  h.other (Fr.of_below hb) (Gr.refl _ _) fun k hk => Nat.lt_of_lt_of_le (h.lt k hk) hb.size
theorem KF.new {w w1 : World} {base B N : Nat} {E : List Nat} {ex : List Value} (h : KF w base B N E ex) (hf : Fr E w w1) {v : Value} {zs : List Int} (ho : Own w1 w.heap.size v zs) : KF w1 base B N E (v :: ex) := by
  have h2 := h.other hf (Gr.refl _ _) fun k hk => Nat.lt_of_lt_of_le (h.lt k hk) hf.size
  obtain ⟨v1, v2, L1, L2, ps, hk, q1, q2, q3, q4⟩ := h.kp
  refine ⟨h2.lt, ⟨v1, v2, L1, L2, ps, hk.of_blk fun k e => hf.block k (hk.blk_lt e) (fun he => q3 k he e), q1, q2, q3, fun x hx r hr => ?_⟩⟩
  rcases List.mem_cons.1 hx with rfl | hx
  · exact djb_lt (hk.e1 r hr) ho (Nat.le_refl _)
  · exact q4 x hx r hr
/-- A new block is put beside. -/
theorem KF.put {w w1 : World} {base B N : Nat} {E : List Nat} {ex : List Value} (h : KF w base B N E ex) (hb : Below w.heap.size w w1) (b : Nat) (h1 : w.heap.size ≤ b) (h2 : b < w1.heap.size) : KF w1 base B N (b :: E) ex := by
  have h3 := h.call hb
  obtain ⟨v1, v2, L1, L2, ps, hk, q1, q2, q3, q4⟩ := h.kp
  refine ⟨fun k hk => (List.mem_cons.1 hk).elim (fun e => e ▸ h2) (h3.lt k), ⟨v1, v2, L1, L2, ps, hk.below hb, q1, q2, fun k hE e => ?_, q4⟩⟩
  rcases List.mem_cons.1 hE with rfl | hE
  · have := hk.blk_lt e; omega
  · exact q3 k hE e
theorem KF.keep {w : World} {base B N : Nat} {E : List Nat} {ex : List Value} {sp : Option Addr} {cap : Nat} {ys : List Int} (h : KF w base B N E (.slice sp ys.length cap :: ex)) (hN : N ≤ 100000000) (ho : Own w base (.slice sp ys.length cap) ys) (hlen : ys.length ≤ 140737488355000) (hd : ∀ y ∈ ex, DjB (.slice sp ys.length cap) y) (hE : ∀ k, (Value.slice sp ys.length cap).ownBlock = some k → k ∉ E) :
    Calls Try.prog 22 #[.pointer (some ⟨B, 0, none⟩), .slice sp ys.length cap] w fun e w' => e = .returned (.tuple #[]) ∧ KF w' base B (N + 1) E ex ∧ (∀ k ∈ E, w'.heap[k]? = w.heap[k]?) ∧ Below base w w' := by
  obtain ⟨v1, v2, L1, L2, zs, hk, q1, q2, q3, q4⟩ := h.kp
  refine (keep_any w base B v1 v2 L1 L2 zs hk (by omega) ys sp cap ho hlen (q4 _ (.head _))).mono ?_
  rintro e w' ⟨rfl, v1', v2', y, hk', ht, hb, hu, hn⟩
  have hE1 : ∀ k ∈ E, k ≠ B ∧ v1.ownBlock ≠ some k ∧ v2.ownBlock ≠ some k := fun k hk => ⟨fun e => q3 k hk (Or.inl e), fun e => q3 k hk (Or.inr (Or.inl e)), fun e => q3 k hk (Or.inr (Or.inr (Or.inl e)))⟩
  refine ⟨rfl, ⟨fun k hk => Nat.lt_of_lt_of_le (h.lt k hk) hb.size, ⟨v1', v2', _, _, _, hk', by simp; omega, fun r => ?_, fun k hkE hB => ?_, fun x hx r hr => ?_⟩⟩, fun k hk => ?_, hb⟩
  · rw [getD_snocZ]; split
    · exact hlen
    · exact q2 r
  · have hlk := h.lt k hkE
    obtain ⟨n1, n2, n3⟩ := hE1 k hkE
    rcases hB with e | e | e | ⟨r, hr, e⟩ | ⟨r, hr, e⟩
    · exact n1 e
    · rcases hn k (Or.inl e) with x | x | x
      · exact n2 x
      · exact n3 x
      · omega
    · rcases hn k (Or.inr (Or.inl e)) with x | x | x
      · exact n2 x
      · exact n3 x
      · omega
    · rw [getD_snocK] at e
      split at e
      · exact hE k e hkE
      · rename_i hne
        exact q3 k hkE (Or.inr (Or.inr (Or.inr (Or.inl ⟨r, by simp at hr; omega, e⟩))))
    · rw [getD_snocK] at e
      split at e
      · rcases hn k (Or.inr (Or.inr e)) with x | x | x
        · exact n2 x
        · exact n3 x
        · omega
      · rename_i hne
        exact q3 k hkE (Or.inr (Or.inr (Or.inr (Or.inr ⟨r, by simp at hr; omega, e⟩))))
  · rw [getD_snocK, hk.l1]
    simp at hr
    by_cases e : r = zs.length
    · rw [if_pos e]; exact hd x hx
    · rw [if_neg e]; exact q4 x (.tail _ hx) r (by omega)
  · obtain ⟨n1, n2, n3⟩ := hE1 k hk
    exact hu k (h.lt k hk) n1 n2 n3
theorem KF.untouched {w : World} {base B N : Nat} {E : List Nat} {ex : List Value} (h : KF w base B N E ex) (hN : N ≤ 100000000) : Calls Try.prog 24 #[.pointer (some ⟨B, 0, none⟩)] w fun e w' => e = .returned (.bool true) ∧ Below w.heap.size w w' := by
  obtain ⟨v1, v2, L1, L2, zs, hk, q1, q2, q3, q4⟩ := h.kp
  exact untouched_any w base B v1 v2 L1 L2 zs hk (by omega)
theorem KF.apart {w : World} {base B N : Nat} {E : List Nat} {ex : List Value} (h : KF w base B N E ex) (hN : N ≤ 100000000) : Calls Try.prog 25 #[.pointer (some ⟨B, 0, none⟩)] w fun e w' => e = .returned (.bool true) ∧ (∀ k ∈ E, w'.heap[k]? = w.heap[k]?) ∧ Below base w w' := by
  obtain ⟨v1, v2, L1, L2, zs, hk, q1, q2, q3, q4⟩ := h.kp
  refine (apart_fr w base B v1 v2 L1 L2 zs hk (by omega) q2).mono ?_
  rintro e w' ⟨rfl, hb, hf⟩
  exact ⟨rfl, fun k hk => hf k (h.lt k hk) (fun r hr e => q3 k hk (Or.inr (Or.inr (Or.inr (Or.inl ⟨r, hr, e⟩))))), hb⟩
theorem KF.start {w : World} {base : Nat} (hb : base ≤ w.heap.size) {E : List Nat} (hE : ∀ k ∈ E, k < w.heap.size) : KF (w.alloc (.cells #[.slice none 0 0, .slice none 0 0] 67)) base w.heap.size 0 E [] := by
  refine ⟨fun k hk => by have := hE k hk; simp; omega, ⟨.slice none 0 0, .slice none 0 0, [], [], [], ⟨⟨hb, hnew w _, OwnK.nil _ _, OwnK.nil _ _, DjB.nil _⟩, rfl, rfl, fun i hi => by simp at hi, fun i hi => by simp at hi, fun i j _ hj => by simp at hj⟩, Nat.le_refl _, fun r => by simp, fun k hk e => ?_, fun x hx => by cases hx⟩⟩
  have := hE k hk
  rcases e with e | e | e | ⟨r, hr, e⟩ | ⟨r, hr, e⟩
  · omega
  · simp [Value.ownBlock] at e
  · simp [Value.ownBlock] at e
  · simp at hr
  · simp at hr
/-! The file and its book, where these blocks stay. -/
theorem built_kp : Try.prog.built 67 [] = some #[.slice none 0 0, .slice none 0 0] := by kernel_rfl
theorem wpList_built {P : Program} {ops : Array Oper} {rest : List Oper} {o : Oper} {a : Act} {w : World} {Q : Exit → Act → World → Prop} (hw : Region.wanted o (yielded ops a.tmps) = true) (t : TypeId) (parts : Array (Nat × Operand)) (ho : o.op = .build t parts) (ps : List (Nat × Value)) (hp : (parts.toList.map fun (i, x) => (i, a.eval x)) = ps) (cs : Array Value) (hb : P.built t ps = some cs)
    (h : wpList P ops Q rest (a.put o.dst (.agg cs)) w) : wpList P ops Q (o :: rest) a w := by
  have e : P.built t (parts.map fun (i, x) => (i, a.eval x)).toList = some cs := by rw [Array.toList_map, hp]; exact hb
  exact BigFrame.wpList_want hw fun _ hK => wp_build t parts ho (by rw [e]; rfl) (by rw [e]; exact hK _ _ h)
/-- A file, its book and nothing else. -/
structure BS (w wr : World) (base p gb g : Nat) (D : DS) (s : Sup) (m : Nat) (ep : Int) (B : Bk) (F G : List Nat) : Prop where
  da : DA wr base F p D
  fk : FK wr g p s m ep
  ba : BA wr base G gb B
  ap : Apart F G
  ng : g ∉ G
  bg : base ≤ g
  bl : Below base w wr
  bw : base ≤ w.heap.size
theorem BS.fr {w wr w2 : World} {base p gb g : Nat} {D D' : DS} {s : Sup} {m : Nat} {ep : Int} {B : Bk} {F G : List Nat} (h : BS w wr base p gb g D s m ep B F G) (hD : DA w2 base F p D') (hF : Fr F wr w2) : BS w w2 base p gb g D' s m ep B F G :=
  ⟨hD, h.fk.other h.da hF, h.ba.other hF h.ap, h.ap, h.ng, h.bg, h.bl.trans (hF.below (fun k hk => (h.da.lt k hk).1) (Nat.le_trans h.bw h.bl.size)), h.bw⟩
theorem BS.below {w wr w2 : World} {base p gb g : Nat} {D : DS} {s : Sup} {m : Nat} {ep : Int} {B : Bk} {F G : List Nat} (h : BS w wr base p gb g D s m ep B F G) (hb : Below wr.heap.size wr w2) : BS w w2 base p gb g D s m ep B F G :=
  ⟨h.da.below hb, h.fk.below hb, h.ba.below hb, h.ap, h.ng, h.bg, h.bl.trans (hb.mono (Nat.le_trans h.bw h.bl.size)), h.bw⟩
theorem BS.stay {w wr w2 : World} {base p gb g : Nat} {D : DS} {s : Sup} {m : Nat} {ep : Int} {B : Bk} {F G E : List Nat} (h : BS w wr base p gb g D s m ep B F G) (hE : ∀ k ∈ g :: (F ++ G), k ∈ E) (hk : ∀ k ∈ E, w2.heap[k]? = wr.heap[k]?) (hb : Below base wr w2) : BS w w2 base p gb g D s m ep B F G :=
  ⟨h.da.of_heap fun k hF => hk k (hE k (List.mem_cons_of_mem _ (List.mem_append_left _ hF))), (hk g (hE g (.head _))).trans h.fk, h.ba.of_heap hb.size fun k hG => hk k (hE k (List.mem_cons_of_mem _ (List.mem_append_right _ hG))), h.ap, h.ng, h.bg, h.bl.trans hb, h.bw⟩
theorem SS.bs {w wr : World} {base p gb n c g : Nat} {D : DS} {s : Sup} {nx : Nat} {ep : Int} {B : Bk} {F G : List Nat} (h : SS w wr base p gb n c g D s nx ep B F G) : BS w wr base p gb g D s nx ep B F G := ⟨h.da, h.fk, h.ba, h.ap, h.ng, h.bg, h.bl, h.bw⟩
theorem BS.ss {w wr : World} {base p gb n c g : Nat} {D : DS} {s : Sup} {nx : Nat} {ep : Int} {B : Bk} {F G : List Nat} (h : BS w wr base p gb g D s nx ep B F G) (hl : Lv D s nx ep B n c) : SS w wr base p gb n c g D s nx ep B F G := ⟨h.da, h.fk, h.ba, h.ap, h.ng, h.bg, hl, h.bl, h.bw⟩
theorem BS.lt {w wr : World} {base p gb g : Nat} {D : DS} {s : Sup} {m : Nat} {ep : Int} {B : Bk} {F G : List Nat} (h : BS w wr base p gb g D s m ep B F G) : ∀ k ∈ g :: (F ++ G), k < wr.heap.size := fun k hk => by
  rcases List.mem_cons.1 hk with e | e
  · rw [e]; exact hlt_ h.fk
  · rcases List.mem_append.1 e with e | e
    · exact (h.da.lt k e).2
    · exact (h.ba.lt k e).2
theorem Gr.all {w : World} {g : Nat} {F G F' G' : List Nat} (h1 : Gr w F F') (h2 : Gr w G G') : Gr w (g :: (F ++ G)) (g :: (F' ++ G')) := fun k hk => by
  rcases List.mem_cons.1 hk with e | e
  · exact Or.inl (e ▸ .head _)
  · rcases List.mem_append.1 e with e | e
    · exact (h1 k e).imp (fun q => List.mem_cons_of_mem _ (List.mem_append_left _ q)) id
    · exact (h2 k e).imp (fun q => List.mem_cons_of_mem _ (List.mem_append_right _ q)) id
theorem Lv.reads {D : DS} {s : Sup} {nx : Nat} {ep : Int} {B : Bk} {n c : Nat} (h : Lv D s nx ep B n c) (hc : c ≤ 100000) (x : Int) (h0 : 0 ≤ x) (hx : x ≤ 1000) : Lv { D with reads := D.reads + x } s nx ep B n (c + 1) := by
  have hcn := h.cnt
  have hok := h.ok
  refine ⟨⟨hok.n, hok.bts, hok.ops, ⟨?_, ?_⟩, hok.writes, hok.syncs, hok.epoch, hok.armed⟩, h.np, h.small, h.pw, h.hep, h.pg, h.val, h.good, ?_, h.bk, h.hnx, h.opn, h.len, h.pgs, ?_⟩
  · show 0 ≤ D.reads + x; have := hok.reads; omega
  · show D.reads + x ≤ _; omega
  · have := h.ge; push_cast; omega
  · refine ⟨by have := hcn.1; show D.ops.length ≤ _; omega, ?_, by have := hcn.2.2.1; push_cast; omega, by have := hcn.2.2.2.1; push_cast; omega, by have := hcn.2.2.2.2; push_cast; omega⟩
    show D.reads + x ≤ _; push_cast; omega
end Go.Proofs.Ythhchbeaefcljaa
