import Derived.Test.YtihkjfbhmlfonaaSc
namespace Go.Proofs.Ytihkjfbhmlfonaa
set_option linter.unusedVariables false
set_option linter.unusedSimpArgs false
open Go.RowKit
open Go.Proofs.Ytihkjfbhmlfonaa.Ca (Ct ct0 ctC argV AS)
attribute [local go_sem ↓] Go.wp_at_zero Go.wp_at_succ

/-- The law's whole. -/
def wholeF (n lo hi : Int) : Int := if n.tmod (hi - lo + 1) < 0 then lo + (n.tmod (hi - lo + 1) + hi - lo + 1) else lo + n.tmod (hi - lo + 1)
theorem tmod_bd (n m : Int) (h : 0 < m) : n.tmod m < m ∧ -m < n.tmod m := by
  have t0 := Int.tmod_lt_of_pos n h
  have := Int.tmod_lt_of_pos (-n) h
  rw [Int.neg_tmod] at this
  omega
theorem wholeF_bd (n lo hi : Int) (h : lo ≤ hi) : lo ≤ wholeF n lo hi ∧ wholeF n lo hi ≤ hi := by
  have := tmod_bd n (hi - lo + 1) (by omega)
  unfold wholeF
  split <;> omega
set_option maxRecDepth 100000 in
set_option maxHeartbeats 1000000 in
theorem hwhole_any (w : World) (n lo hi : Int) (h : lo ≤ hi) (h0 : 0 ≤ lo) (h1 : hi ≤ 100000) :
    Calls Try.prog 5 #[.int .i64 n, .int .i64 lo, .int .i64 hi] w fun e w' => e = .returned (.int .i64 (wholeF n lo hi)) ∧ w' = w := by
  have d0 : ((hi - lo + 1) == 0) = false := by simp; omega
  have d1 : hi - lo + 1 ≠ 0 := by omega
  obtain ⟨t0, t1⟩ := tmod_bd n (hi - lo + 1) (by omega)
  unfold wholeF
  go_enter Try.func5, Try.ntmps5
  go_wp2
  all_goals (go_ret; exact ⟨rfl, rfl⟩)
set_option maxRecDepth 100000 in
set_option maxHeartbeats 1000000 in
theorem hshort_any (w : World) (zs : List Int) (sp : Option Addr) (cap : Nat) (hS : Src w sp cap zs) (hlen : zs.length ≤ 140737488355000) (n : Nat) (hn : n ≤ 1000) :
    Calls Try.prog 23 #[.slice sp zs.length cap, .int .i64 n] w fun e w' => ∃ v, e = .returned v ∧ Own w' w.heap.size v (zs.take n) ∧ Below w.heap.size w w' := by
  obtain ⟨hc, hm, b, o, hb, hsp, hsrc⟩ := hS
  have hO := Own.nil w w.heap.size
  have i0 : (zs.length : Int) ≤ 140737488355000 := by omega
  have i9 : (n : Int) ≤ 1000 := by omega
  go_enter Try.func23, Try.ntmps23
  go_wp2
  go_loopw [5, 6] (fun v i wr => ∃ k : Nat, k ≤ zs.length ∧ k ≤ n ∧ i = .int .i64 k ∧ Own wr w.heap.size v (zs.take k) ∧ Below w.heap.size w wr) (fun _ i _ => zs.length - (intOf i).toNat)
  case atStart => exact ⟨0, by omega, by omega, rfl, hO, Below.refl _ _⟩
  case round =>
    clear hO
    obtain ⟨k, hk, hkn, rfl, hO, hB⟩ := hrel
    by_cases hlt : k < zs.length
    · have i1 : (k : Int) < (zs.length : Int) := by omega
      by_cases hln : k < n
      · have i2 : (k : Int) < (n : Int) := by omega
        obtain rfl := hsp (by omega)
        have c0 := (hB.cell (p := ⟨b, o + k, none⟩) (hb (by omega))).trans (hsrc k hlt)
        have HT := hid (show zs.take (k + 1) = zs.take k ++ [zs.getD k 0] by
          rw [List.take_succ_eq_append_getElem hlt, List.getD_eq_getElem?_getD, List.getElem?_eq_getElem hlt]; rfl)
        have KL := hid (show (zs.take k).length + 1 ≤ 140737488355328 by rw [List.length_take]; omega)
        generalize zs.getD k 0 = x at *
        generalize zs.take k = zk at *
        go_wp2_with (first | (at_builtin; refine wpList_push_any rfl (.tmp 18) (.tmp 23) rfl w.heap.size _ _ x rfl hO rfl KL.out hB.size _ _ ?_; intro v2 w2 hO2 hB2))
        go_roundw
        case rel => exact ⟨k + 1, by omega, by omega, by go_num, (by rw [HT.out]; exact hO2), hB.trans hB2⟩
        case measure => simp [intOf]; omega
      · obtain rfl : k = n := by omega
        go_wp2
        go_ret
        exact ⟨_, rfl, hO, hB⟩
    · obtain rfl : k = zs.length := by omega
      have HT := hid (show zs.take n = zs.take zs.length by rw [List.take_length, List.take_of_length_le (by omega)])
      clear hlt
      go_wp2
      go_ret
      exact ⟨_, rfl, (by rw [HT.out]; exact hO), hB⟩
/-- A disk that was just laid. -/
structure Born (D : DS) (n : Nat) (wd : Int) : Prop where
  ok : DsOk D
  np : D.np = n
  ops : D.ops = []
  pw : D.power = true
  arm : D.armed = 0
  epoch : D.epoch = 0
  reads : D.reads = 2
  writes : D.writes = 2
  syncs : D.syncs = 2
  chs : chooseF (D.readOf 0) (D.readOf 1) = (fS n wd 1, 0)
set_option maxRecDepth 100000 in
set_option maxHeartbeats 1000000 in
theorem begun_any (w : World) (n : Nat) (wd : Int) (hn : 3 ≤ n ∧ n ≤ 64) (hw : 1 ≤ wd ∧ wd ≤ 32) :
    Calls Try.prog 4 #[.int .i64 n, .int .i64 wd] w fun e w' => ∃ p F D, e = .returned (.pointer (some ⟨p, 0, none⟩)) ∧ DA w' w.heap.size F p D ∧ Born D n wd ∧ Below w.heap.size w w' := by
  have HNW := hid (New_ok w n hn.1 (by omega))
  obtain ⟨Z, hZ⟩ : ∃ Z : List Int, Z = List.replicate (256 * n) 0 := ⟨_, rfl⟩
  rw [← hZ] at HNW
  have okN : DsOk (newD Z) := by rw [hZ]; exact newD_ok hn.1 (by omega) List.length_replicate (bts_rep _)
  have npN : (newD Z).np = n := by
    show Z.length / 256 = n
    rw [hZ, List.length_replicate]; omega
  have pz : ∀ q, q < n → pgO Z q = zz 256 := fun q hq => by rw [hZ]; exact pgO_zero n q hq
  have RN := hid (show Rest (newD Z) n 0 from ⟨okN, npN, rfl, rfl, rfl, rfl, (by decide : (0 : Int) ≤ 1000), (by decide : (0 : Int) ≤ 1000), (by decide : (0 : Int) ≤ 1000)⟩)
  have BN := hid (show Blank (pgO (newD Z).img 0) (pgO (newD Z).img 1) from by show Blank (pgO Z 0) (pgO Z 1); rw [pz 0 (by omega), pz 1 (by omega)]; exact zz_blank)
  have j0 : (n : Int) ≤ 64 := by omega
  have HW := hid hw
  have HN := hid hn
  obtain ⟨B, hBB⟩ : ∃ B, B = w.heap.size := ⟨_, rfl⟩
  rw [← hBB] at HNW ⊢
  have B0 := hid (show B ≤ w.heap.size by omega)
  have NPN := hid npN
  clear hw hn hZ hBB okN npN pz
  go_enter Try.func4, Try.ntmps4
  go_wp2_with fail
  refine HNW.out.mono ?_
  rintro e w1 ⟨p, F, rfl, hD1, hB1⟩
  have HD1 := hid hD1
  have HB1 := hid hB1
  have HFT := hid (Format_rest w1 B F p (newD Z) hD1 (Nat.le_trans B0.out hB1.size) n 0 RN.out wd HW.out BN.out)
  clear hD1 hB1 HNW
  go_wp2_with fail
  refine HFT.out.mono ?_
  rintro e w2 ⟨rfl, D2, hFm, hnp2, hN2⟩
  obtain ⟨F2, hDA2, hB2, _⟩ := Nx.go HD1.out HB1.out B0.out hN2
  have hgd := hFm.good HW.out
  rw [show ({ newD Z with reads := (newD Z).reads + 2 } : DS).np = (newD Z).np from rfl, NPN.out] at hgd
  have HBo : Hid (Born D2 n wd) := hid ⟨hFm.ok, hnp2, hFm.ops, hFm.pw, hFm.arm, hFm.epoch, hFm.reads, hFm.writes, hFm.syncs, hgd.chooses hFm.ops⟩
  have HDA2 := hid hDA2
  have HB2 := hid hB2
  clear hFm hnp2 hN2 hDA2 hB2 hgd HFT
  go_wp2
  go_ret
  exact ⟨p, F2, D2, rfl, HDA2.out, HBo.out, HB2.out⟩
end Go.Proofs.Ytihkjfbhmlfonaa
namespace Go.Proofs.Ytihkjfbhmlfonaa
set_option linter.unusedVariables false
set_option linter.unusedSimpArgs false
open Go.RowKit
open Go.Proofs.Ytihkjfbhmlfonaa.Ca (Ct ct0 ctC argV AS)
attribute [local go_sem ↓] Go.wp_at_zero Go.wp_at_succ

/-- A page to be staged. -/
structure MD where
  kind : Int
  load : List Int
def dM : MD := ⟨0, []⟩
def MdOk (m : MD) : Prop := Byts m.load ∧ m.load.length ≤ 140737488351232
/-- What is staged of it. -/
def mdV (m : MD) : Int × List Int := (wholeF m.kind 1 3, m.load.take 246)
def mdL (m : MD) (tp : Option Addr) (tc : Nat) : List Value := [.int .i64 m.kind, .slice tp m.load.length tc]
def Mds (w : World) (B : Nat) (sp : Option Addr) (ms : List MD) : Prop := ∃ b o, (0 < ms.length → b < B ∧ sp = some ⟨b, o, none⟩) ∧ ∀ i, i < ms.length → ∃ tp tc, w.rangeAt b (o + i * 2) (mdL (ms.getD i dM) tp tc) ∧ Src w tp tc (ms.getD i dM).load ∧ (0 < (ms.getD i dM).load.length → ∀ a, tp = some a → a.block < B)
theorem SrcB {w w1 : World} {B : Nat} {sp : Option Addr} {cap : Nat} {zs : List Int} (h : Src w sp cap zs) (hb : Below B w w1) (hB : 0 < zs.length → ∀ a, sp = some a → a.block < B) : Src w1 sp cap zs := by
  obtain ⟨h1, h2, b, o, h3, h4, h5⟩ := h
  refine ⟨h1, h2, b, o, fun hp => Nat.lt_of_lt_of_le (h3 hp) hb.size, h4, fun j hj => ?_⟩
  have : b < B := hB (by omega) _ (h4 (by omega))
  exact (hb.cell (p := ⟨b, o + j, none⟩) this).trans (h5 j hj)
theorem Mds.at {w w1 : World} {B : Nat} {sp : Option Addr} {ms : List MD} (h : Mds w B sp ms) (hb : Below B w w1) (i : Nat) (hi : i < ms.length) : ∃ b o tp tc, sp = some ⟨b, o, none⟩ ∧ b < B ∧ w1.cell? ⟨b, o + i * 2, none⟩ = some (.int .i64 (ms.getD i dM).kind) ∧ w1.cell? ⟨b, o + i * 2 + 1, none⟩ = some (.slice tp (ms.getD i dM).load.length tc) ∧ Src w1 tp tc (ms.getD i dM).load ∧ (0 < (ms.getD i dM).load.length → ∀ a, tp = some a → a.block < B) := by
  obtain ⟨b, o, h1, h2⟩ := h
  obtain ⟨q1, q2⟩ := h1 (by omega)
  obtain ⟨tp, tc, q3, q4, q5⟩ := h2 i hi
  exact ⟨b, o, tp, tc, q2, q1, (hb.cell (p := ⟨b, o + i * 2, none⟩) q1).trans (q3 0 _ rfl), (hb.cell (p := ⟨b, o + i * 2 + 1, none⟩) q1).trans (q3 1 _ rfl), SrcB q4 hb q5, q5⟩
/-- The same store, on other pages staged. -/
structure Sam (S S' : Sto) : Prop where
  p : S'.p = S.p
  g : S'.g = S.g
  st : S'.st = S.st
  pc : S'.pc = S.pc
  D : S'.D = S.D
  s : S'.s = S.s
  nx : S'.nx = S.nx
  ep : S'.ep = S.ep
theorem Sam.refl (S : Sto) : Sam S S := ⟨rfl, rfl, rfl, rfl, rfl, rfl, rfl, rfl⟩
theorem Sam.trans {S S' S'' : Sto} (h : Sam S S') (k : Sam S' S'') : Sam S S'' := ⟨k.p.trans h.p, k.g.trans h.g, k.st.trans h.st, k.pc.trans h.pc, k.D.trans h.D, k.s.trans h.s, k.nx.trans h.nx, k.ep.trans h.ep⟩
theorem SK.fp_lo {w : World} {base : Nat} {S : Sto} (h : SK w base S) {k : Nat} (hk : k ∈ S.fp) : base ≤ k := (h.in_lt (by rcases (Sto.mem S k).1 hk with e | e | e | e | e | e <;> simp [e])).1
end Go.Proofs.Ytihkjfbhmlfonaa
namespace Go.Proofs.Ytihkjfbhmlfonaa
set_option linter.unusedVariables false
set_option linter.unusedSimpArgs false
open Go.RowKit
open Go.Proofs.Ytihkjfbhmlfonaa.Ca (Ct ct0 ctC argV AS)
attribute [local go_sem ↓] Go.wp_at_zero Go.wp_at_succ

end Go.Proofs.Ytihkjfbhmlfonaa
namespace Go.Proofs.Ytihkjfbhmlfonaa
set_option linter.unusedVariables false
set_option linter.unusedSimpArgs false
open Go.RowKit
open Go.Proofs.Ytihkjfbhmlfonaa.Ca (Ct ct0 ctC argV AS)
attribute [local go_sem ↓] Go.wp_at_zero Go.wp_at_succ

theorem Mds.take {w : World} {B : Nat} {sp : Option Addr} {ms : List MD} (h : Mds w B sp ms) (n : Nat) : Mds w B sp (ms.take n) := by
  obtain ⟨b, o, h1, h2⟩ := h
  refine ⟨b, o, fun hp => h1 (by rw [List.length_take] at hp; omega), fun i hi => ?_⟩
  rw [List.length_take] at hi
  have e : (ms.take n).getD i dM = ms.getD i dM := by
    rw [List.getD_eq_getElem?_getD, List.getD_eq_getElem?_getD, List.getElem?_take, if_pos (by omega)]
  rw [e]; exact h2 i (by omega)
/-- A disk that was just laid, opened. -/
def opD (D : DS) : DS := { D with reads := D.reads + 2, epoch := D.epoch + 1 }
theorem Born.live {D : DS} {n : Nat} {wd : Int} (h : Born D n wd) : liveF (opD D) 1 = 0 := by
  unfold liveF opD
  rw [if_neg (by show ¬ (D.epoch + 1 ≠ 1); rw [h.epoch]; decide), if_pos h.pw]
theorem open_born (w : World) (base : Nat) (F : List Nat) (p : Nat) (D : DS) (h : DA w base F p D) (n : Nat) (wd : Int) (hB : Born D n wd) :
    Calls Try.prog 16 #[.pointer (some ⟨p, 0, none⟩)] w fun e w' => ∃ g, e = .returned (.tuple #[.pointer (some ⟨g, 0, none⟩), .int .i64 0]) ∧ w.heap.size ≤ g ∧ FK w' g p (fS n wd 1) 2 1 ∧ DA w' base F p (opD D) ∧ Fr F w w' := by
  have := Open_ok w base F p D h hB.pw (by rw [hB.reads]; decide) (by rw [hB.epoch]; decide) (fS n wd 1) hB.chs (by rw [hB.np]; rfl)
  refine this.mono fun e w' ⟨g, h1, h2, h3, h4, h5⟩ => ⟨g, h1, h2, ?_, h4, h5⟩
  rw [show (fS n wd 1).ma = 2 from rfl, hB.epoch] at h3
  exact h3
/-- A store over it. -/
def bornS (p g st pc : Nat) (F FC : List Nat) (D : DS) (n : Nat) (wd room : Int) : Sto := ⟨p, g, st, pc, F, FC, [], opD D, fS n wd 1, 2, 1, 0, Ca.newA room, .slice none 0 0, [], []⟩
theorem new_born (w : World) (base : Nat) (F : List Nat) (p : Nat) (D : DS) (h : DA w base F p (opD D)) (n : Nat) (wd : Int) (hB : Born D n wd) (g : Nat) (hf : FK w g p (fS n wd 1) 2 1) (hbg : base ≤ g) (room : Int) (hr : 0 ≤ room ∧ room ≤ 4096) :
    Calls Try.prog 17 #[.pointer (some ⟨g, 0, none⟩), .int .i64 room] w fun e w' => ∃ st pc FC, e = .returned (.tuple #[.pointer (some ⟨st, 0, none⟩), .int .i64 0]) ∧ SK w' base (bornS p g st pc F FC D n wd room) ∧ Below base w w' := by
  have := oNew_any w base F p (opD D) h g (fS n wd 1) 2 1 hf hbg hB.live room hr 2 rfl
  refine this.mono fun e w' ⟨st, pc, FC, he, hK, _, _, hF⟩ => ⟨st, pc, FC, he, hK, hF.below (fun k hk => ?_) ?_⟩
  · rcases List.mem_cons.1 hk with e | e
    · rw [e]; exact hbg
    · exact (h.lt k e).1
  · have := hlt_ hf; omega
theorem build97 (w : World) : (Instr.buildSlice 36 1 #[(0, .int .u8 97)]).run Try.prog w = .ok (.slice (some ⟨w.heap.size, 0, none⟩) 1 1) (w.alloc (.cells #[.int .u8 97] 5)) := by kernel_rfl
/-- The bytes of a constant text: what lies behind them is marked. -/
def w97 (w : World) : World := w.alloc (.cells #[.int .u8 97] 5 (1, 2))
theorem push_modify (a : Array Obj) (x : Obj) (f : Obj → Obj) : (a.push x).modify a.size f = a.push (f x) := by
  apply Array.ext
  · simp
  · intro i h1 h2
    simp only [Array.getElem_modify, Array.getElem_push]
    by_cases h : a.size = i
    · subst h; simp
    · have hi : i < a.size := by simp at h1; omega
      simp [h, hi]
theorem conv97 (w : World) : (convert 36 36 (.slice (some ⟨w.heap.size, 0, none⟩) 1 1)).run Try.prog (w.alloc (.cells #[.int .u8 97] 5)) = .ok (.slice (some ⟨w.heap.size, 0, none⟩) 1 1) (w97 w) := by
  have hsh : (w.alloc (.cells #[.int .u8 97] 5)).shape? w.heap.size = some (5, 1) := by
    unfold World.shape?
    rw [hnew w (.cells #[.int .u8 97] 5)]; rfl
  have hfr : (w.alloc (.cells #[.int .u8 97] 5)).freeze ⟨w.heap.size, 1, none⟩ 1 = w97 w := by
    unfold World.freeze
    rw [if_neg (by decide)]
    show ({ w.alloc (.cells #[.int .u8 97] 5) with heap := (w.heap.push (.cells #[.int .u8 97] 5)).modify w.heap.size _ } : World) = _
    rw [push_modify]; rfl
  simp [convert, run_underlying Try.underlying36, run_underlying Try.underlying5, markStringish, hsh, hfr]
theorem src97 (w : World) : Src (w97 w) (some ⟨w.heap.size, 0, none⟩) 1 [97] :=
  ⟨Nat.le_refl _, by decide, w.heap.size, 0, fun _ => by show w.heap.size < (w97 w).heap.size; simp [w97], fun _ => rfl, fun j hj => by
    obtain rfl : j = 0 := by simpa using hj
    show (w97 w).cell? ⟨w.heap.size, 0, none⟩ = _
    unfold w97 World.cell?
    rw [hnew w (.cells #[.int .u8 97] 5 (1, 2))]; rfl⟩
theorem bel97 (w : World) : Below w.heap.size w (w97 w) := below_new w _
set_option maxRecDepth 100000 in
set_option maxHeartbeats 2000000 in
theorem known_any (w : World) : Calls Try.prog 6 #[] w fun e w' => e = .returned (.bool true) ∧ Below w.heap.size w w' := by
  have b97 := build97
  have c97 := conv97
  obtain ⟨base, hbase⟩ : ∃ base, base = w.heap.size := ⟨_, rfl⟩
  have HBA := hid hbase
  go_enter Try.func6, Try.ntmps6
  go_wp2_with fail
  refine (begun_any w 5 32 (by omega) (by omega)).mono ?_
  rintro _ w1 ⟨p, F, D, rfl, hD, hB, hb1⟩
  rw [← HBA.out] at hD hb1
  have HB := hid hB
  have HD := hid hD
  have HB1 := hid hb1
  clear hB hD hb1 hbase
  go_wp2_with fail
  refine (open_born w1 base F p D HD.out 5 32 HB.out).mono ?_
  rintro _ w2 ⟨g, rfl, hg, hf, hD2, hF2⟩
  have HBg := hid (show base ≤ g by have := HB1.out.size; have := HBA.out; omega)
  have HF := hid hf
  have HD2 := hid hD2
  have HB2 := hid (HB1.out.trans (hF2.below (fun k hk => (HD.out.lt k hk).1) (by have := HB1.out.size; have := HBA.out; omega)))
  clear hg hf hD2 hF2
  go_wp2_with fail
  refine (new_born w2 base F p D HD2.out 5 32 HB.out g HF.out HBg.out 1 (by omega)).mono ?_
  rintro _ w3 ⟨st, pc, FC, rfl, hK3, hb3⟩
  have HK3 := hid hK3
  have HB3 := hid (HB2.out.trans hb3)
  clear hK3 hb3
  have KST := hid (show Calls Try.prog 18 #[.pointer (some ⟨st, 0, none⟩), .int .i64 1, .slice (some ⟨w3.heap.size, 0, none⟩) 1 1] (w97 w3) fun e w' => ∃ S2, e = .returned (.tuple #[.int .i64 2, .int .i64 0]) ∧ (Sam (bornS p g st pc F FC D 5 32 1) S2 ∧ S2.N = 1 ∧ S2.vs = [(1, [97])]) ∧ SK w' base S2 ∧ Below base w w' from by
    have hb0 := bel97 w3
    have hS0 := HK3.out.below hb0
    have := oStage_any (w97 w3) base _ hS0 HB.out.live (by show (0 : Nat) ≤ 100000; omega) (by show (2 : Int) ≤ 2 ∧ (2 : Int) ≤ 100000; omega) (by show (0 : Nat) < _; omega) (by show (2 : Int) + ((0 : Nat) : Int) ≠ (((opD D).np : Nat) : Int); rw [show (opD D).np = D.np from rfl, HB.out.np]; decide) 1 (by omega) [97] (fun x hx => by simp at hx; omega) (by decide) _ 1 (src97 w3) (fun q => by cases q)
    refine this.mono fun e w' ⟨FC2, lb, a, sv, c, he, _, hK, hF, hG⟩ => ⟨⟨p, g, st, pc, F, FC2, lb, opD D, fS 5 32 1, 2, 1, 0 + 1, a, sv, [] ++ [c], [] ++ [(1, [97])]⟩, he, ⟨⟨rfl, rfl, rfl, rfl, rfl, rfl, rfl, rfl⟩, rfl, rfl⟩, hK, ?_⟩
    exact HB3.out.trans ((hb0.mono (by have := HB3.out.size; have := HBA.out; omega)).trans (hF.below (fun k hk => hS0.fp_lo hk) (by have := HB3.out.size; have := hb0.size; have := HBA.out; omega))))
  go_wp2_with fail
  refine KST.out.mono ?_
  rintro _ w4 ⟨S2, rfl, hS2, hK4, hb4⟩
  have HB4 := hid hb4
  have HK4 := hid hK4
  have hst2 : S2.st = st := hS2.1.st
  have hcl : S2.cts.length = 1 := by rw [hK4.cl, hS2.2.2]; rfl
  have HLD := hid (show Calls Try.prog 19 #[.pointer (some ⟨st, 0, none⟩), .int .i64 2] w4 fun e w' => ∃ v, e = .returned (.tuple #[.int .i64 1, v, .int .i64 0]) ∧ Own w' w4.heap.size v [97] ∧ (∃ S3, SK w' base S3 ∧ S3.st = st ∧ S3.D = opD D) ∧ Below base w w' from by
    have hci := hK4.cv 0 (by omega)
    rw [hS2.2.2] at hci
    have hval := hK4.held_key 0 (by omega)
    rw [hS2.1.s] at hval
    have := oLoad_hit w4 base S2 hK4 (by rw [hS2.1.D, hS2.1.ep]; exact HB.out.live) (by omega) (by rw [hS2.1.s]; show (2 : Int) ≤ 2 ∧ (2 : Int) ≤ 100000; omega) (by rw [hS2.2.1]; omega) 2 (by rw [hS2.1.s, hcl]; show (2 : Int) ≤ 2 ∧ (2 : Int) < 2 + ((1 : Nat) : Int); omega) _ hval 1 [97] hci
    rw [hst2] at this
    refine this.mono fun e w' ⟨FC2, v, he, hO, hK, hF, hG⟩ => ⟨v, he, hO, ⟨_, hK, rfl, hS2.1.D⟩, ?_⟩
    exact hb4.trans (hF.below (fun k hk => (hK4.in_lt (by simp [hk])).1) (by have := hb4.size; have := HBA.out; omega)))
  clear hK4 hb4 KST hS2 hcl hst2
  go_wp2_with fail
  refine HLD.out.mono ?_
  rintro _ w5 ⟨v5, rfl, hO5, hS5, hb5⟩
  obtain ⟨sp5, cap5, rfl, hs5, hn5⟩ := hO5.form
  have HS5 := hid hS5
  have HB5 := hid hb5
  have HSR := hid hs5
  have HSM := hid (same_any (w97 w5) [97] [97] sp5 (some ⟨w5.heap.size, 0, none⟩) cap5 1 (hs5.below (bel97 w5) (Nat.le_refl _)) (src97 w5))
  rw [show decide (([97] : List Int) = [97]) = true from rfl] at HSM
  have HBA5 := hid (show base ≤ w5.heap.size by have := HB5.out.size; have := HBA.out; omega)
  clear hO5 hS5 hb5 hs5 hn5 HLD
  go_wp2_with fail
  refine HSM.out.mono ?_
  rintro _ w6 ⟨rfl, hb6⟩
  obtain ⟨S3, hK3, hst3, hD3⟩ := HS5.out
  have hK6 := (hK3.below (bel97 w5)).below hb6
  have HPG := hid (oPages_any w6 base S3 hK6)
  rw [hst3, hD3, show (opD D).np = D.np from rfl, HB.out.np] at HPG
  have HB6 := hid (HB5.out.trans (((bel97 w5).trans (hb6.mono (bel97 w5).size)).mono HBA5.out))
  clear hb6 hK3 hK6 hst3 hD3
  go_wp2_with fail
  refine HPG.out.mono ?_
  rintro _ wx ⟨rfl, hw⟩
  obtain rfl := hw
  go_wp2
  go_ret
  exact ⟨rfl, HBA.out ▸ HB6.out⟩
end Go.Proofs.Ytihkjfbhmlfonaa
namespace Go.Proofs.Ytihkjfbhmlfonaa
set_option linter.unusedVariables false
set_option linter.unusedSimpArgs false
open Go.RowKit
open Go.Proofs.Ytihkjfbhmlfonaa.Ca (Ct ct0 ctC argV AS)
attribute [local go_sem ↓] Go.wp_at_zero Go.wp_at_succ

theorem acted_off {D : DS} (h : D.power = false) : D.acted.power = false := by
  unfold DS.acted
  split
  · exact h
  · split
    · rfl
    · exact h
theorem wr_off {D : DS} {o : OW} (h : D.power = false) : (D.wr o).power = false := acted_off (D := ({ D.pushed o with writes := D.writes + 1 } : DS)) h
theorem appD_off : ∀ (l : List (Int × List Int)) (D : DS) (m : Nat), D.power = false → (appD D m l).power = false
  | [], D, m, h => h
  | v :: r, D, m, h => appD_off r _ _ (wr_off h)
/-- Power goes within the appends. -/
theorem appD_dead : ∀ (l : List (Int × List Int)) (D : DS) (m : Nat), 1 ≤ D.armed → D.armed ≤ l.length → (appD D m l).power = false
  | [], D, m, h1, h2 => by simp at h2; omega
  | v :: r, D, m, h1, h2 => by
    obtain ⟨a1, a2, a3⟩ := wr_arm D ⟨m, pageP v.1 m v.2⟩ (by omega)
    by_cases e : D.armed = 1
    · exact appD_off r _ _ (a3 e)
    · rw [if_neg (by omega)] at a1
      simp only [List.length_cons] at h2
      exact appD_dead r _ _ (by rw [a1]; omega) (by rw [a1]; push_cast at h2 ⊢; omega)
/-- .. or behind them. -/
theorem appD_arm : ∀ (l : List (Int × List Int)) (D : DS) (m : Nat), (l.length : Int) < D.armed →
    (appD D m l).armed = D.armed - l.length ∧ (appD D m l).power = D.power ∧ (appD D m l).epoch = D.epoch ∧ (appD D m l).ops.length = D.ops.length + l.length ∧ (appD D m l).writes = D.writes + l.length ∧ (appD D m l).syncs = D.syncs
  | [], D, m, h => by simp [appD]
  | v :: r, D, m, h => by
    simp only [List.length_cons] at h
    obtain ⟨a1, a2, a3⟩ := wr_arm D ⟨m, pageP v.1 m v.2⟩ (by push_cast at h; omega)
    obtain ⟨e1, e2, e3, e4, e5, e6⟩ := wr_img D ⟨m, pageP v.1 m v.2⟩
    rw [if_neg (by push_cast at h; omega)] at a1
    obtain ⟨q1, q2, q3, q4, q5, q6⟩ := appD_arm r (D.wr ⟨m, pageP v.1 m v.2⟩) (m + 1) (by rw [a1]; push_cast at h; omega)
    simp only [appD, List.length_cons]
    refine ⟨by rw [q1, a1]; push_cast; omega, by rw [q2, a2 (by push_cast at h; omega)], by rw [q3, e3], by rw [q4, e2, List.length_append, List.length_singleton]; omega, by rw [q5, e5]; push_cast; omega, by rw [q6, e6]⟩
theorem runS_arm (D : DS) (s2 : Sup) (h : 1 ≤ D.armed) : (runS D [.sync, .lay s2 0 0, .sync]).2 = if D.armed ≤ 3 then 2 else 0 := by
  have hz : ∀ X : DS, X.armed = 1 → St.go .sync X = (X.acted, 2) := fun X hX => by show sy X = _; unfold sy; rw [if_pos hX]
  have hy : ∀ X : DS, X.armed ≠ 1 → St.go .sync X = (X.synced, 0) := fun X hX => by show sy X = _; unfold sy; rw [if_neg hX]
  by_cases e1 : D.armed = 1
  · rw [runS, hz D e1, if_neg (show ¬ ((2 : Int) = 0) by decide), if_pos (by omega)]
  · have s1 := (sync_arm D (by omega) e1).1
    rw [if_neg (by omega)] at s1
    rw [runS, hy D e1, if_pos rfl, runS]
    show (if D.synced.actE = 0 then runS (D.synced.wr _) [.sync] else (D.synced.wr _, D.synced.actE)).2 = _
    by_cases e2 : D.synced.armed = 1
    · rw [actE_2 e2, if_neg (by decide), if_pos (by omega)]
    · rw [actE_0 e2, if_pos rfl, runS]
      have w1 := (wr_arm D.synced ⟨(s2.ge % 2).toNat, secP s2⟩ (by omega)).1
      rw [if_neg (by omega)] at w1
      by_cases e3 : (D.synced.wr ⟨(s2.ge % 2).toNat, secP s2⟩).armed = 1
      · rw [hz _ e3, if_neg (show ¬ ((2 : Int) = 0) by decide), if_pos (by omega)]
      · rw [hy _ e3, if_pos rfl, runS, if_neg (by omega)]
theorem live_pw {D : DS} {ep : Int} (h : liveF D ep = 0) : D.power = true := by
  unfold liveF at h
  by_cases e : D.epoch ≠ ep
  · rw [if_pos e] at h; cases h
  · rw [if_neg e] at h
    by_cases p : D.power = true
    · exact p
    · rw [if_neg p] at h; cases h
/-- How a publish with an armed disk ends. -/
theorem pubEnd_arm {S : Sto} {m : Nat} {hd c : Int} {D' : DS} {s' : Sup} (h : PubEnd S m hd c D' s') (ha : 1 ≤ S.D.armed) :
    (S.D.armed ≤ S.vs.length + 3 → c = 2 ∧ s' = S.s) ∧ (S.vs.length + 3 < S.D.armed → c = 0 ∧ s' = ⟨S.s.wd, S.s.ge + 1, (m + S.vs.length : Nat), hd, S.s.pg⟩) := by
  rcases h with ⟨i, hi, h1, h2, h3, h4, h5⟩ | ⟨h1, h2, h3, h4⟩
  · refine ⟨fun _ => ⟨h3, h5⟩, fun q => ?_⟩
    have hl : (S.vs.take i).length = i := by rw [List.length_take]; omega
    have := (appD_arm (S.vs.take i) S.D m (by rw [hl]; omega)).1
    rw [h1, hl] at this
    omega
  · have hp := live_pw h1
    have hk : (S.vs.length : Int) < S.D.armed := by
      rcases Int.lt_or_le (S.vs.length : Int) S.D.armed with q | q
      · exact q
      · have := appD_dead S.vs S.D m ha q
        rw [this] at hp; cases hp
    obtain ⟨a1, _⟩ := appD_arm S.vs S.D m hk
    rw [runS_arm _ _ (by rw [a1]; omega), a1] at h2
    refine ⟨fun q => ?_, fun q => ?_⟩
    · rw [if_pos (by omega)] at h2
      exact ⟨h2, by rw [h4, h2]; rfl⟩
    · rw [if_neg (by omega)] at h2
      exact ⟨h2, by rw [h4, h2]; rfl⟩
set_option maxRecDepth 100000 in
set_option maxHeartbeats 2000000 in
theorem omark_min (w : World) (st g p : Nat) (s : Sup) (nx ep : Int) (c0 : w.cell? ⟨st, 0, none⟩ = some (.pointer (some ⟨g, 0, none⟩))) (hf : FK w g p s nx ep) :
    Calls Try.prog 29 #[.pointer (some ⟨st, 0, none⟩)] w fun e w' => e = .returned (.int .i64 s.ma) ∧ Below w.heap.size w w' := by
  have HL := hid (FSuper_any w g p s nx ep hf)
  clear hf
  go_enter Try.func29, Try.ntmps29
  go_wp2_with fail
  refine HL.out.mono ?_
  rintro e w1 ⟨rfl, hb⟩
  go_wp2_with (first | refine wpList_fieldS2 rfl _ rfl s s.ma rfl rfl ?_)
  go_ret
  exact ⟨rfl, hb⟩
set_option maxRecDepth 100000 in
set_option maxHeartbeats 2000000 in
theorem oNext_min (w : World) (st g p : Nat) (s : Sup) (nx ep : Int) (c0 : w.cell? ⟨st, 0, none⟩ = some (.pointer (some ⟨g, 0, none⟩))) (hf : FK w g p s nx ep) (sp : Option Addr) (n cap : Nat) (c3 : w.cell? ⟨st, 3, none⟩ = some (.slice sp n cap)) (hl : n ≤ 100000) (hm : 0 ≤ s.ma ∧ s.ma ≤ 100000) :
    Calls Try.prog 12 #[.pointer (some ⟨st, 0, none⟩)] w fun e w' => e = .returned (.int .i64 (s.ma + n)) ∧ Below w.heap.size w w' := by
  have hst : st < w.heap.size := block_lt_of_cell c0
  have HM := hid (fun w1 (q : Below w.heap.size w w1) => omark_min w1 st g p s nx ep ((q.cell (p := ⟨st, 0, none⟩) hst).trans c0) (hf.below q))
  clear hf c0
  generalize s.ma = ma at *
  obtain ⟨m0, m1⟩ := hm
  have i0 : (n : Int) ≤ 100000 := by omega
  go_enter Try.func12, Try.ntmps12
  go_wp2
  refine wp_region_noPanic ?_
  refine wp_region_held_drew (S := fun w' => Below w.heap.size w w') (by kernel_rfl) (Below.refl _ _).drew (fun hHeld => ?_)
  refine wpAnyH_take (i := 0) (oi := { dst := some 3, op := Op.move (Operand.tmp 0), type := 27, pos := "store.go:52", after := #[], guard := none }) (v := .pointer (some ⟨st, 0, none⟩)) rfl (by kernel_rfl) (by kernel_rfl) (by kernel_rfl) (fun _ _ _ h => h) (Or.inl ⟨by rfl, by intro w hS; go_simp⟩) hHeld ?_
  try simp only [Act.put, List.setIfInBounds_toArray, List.set_cons_zero, List.set_cons_succ]
  refine wpAnyH_take (i := 2) (oi := { dst := some 5, op := Op.move (Operand.tmp 0), type := 27, pos := "store.go:52", after := #[], guard := none }) (v := .pointer (some ⟨st, 0, none⟩)) rfl (by kernel_rfl) (by kernel_rfl) (by kernel_rfl) (fun _ _ _ h => h) (Or.inl ⟨by rfl, by intro w hS; go_simp⟩) hHeld ?_
  try simp only [Act.put, List.setIfInBounds_toArray, List.set_cons_zero, List.set_cons_succ]
  refine wpAnyH_take (i := 3) (oi := { dst := some 6, op := Op.nilCheck (Operand.tmp 5), type := 0, pos := "store.go:52", after := #[{ on := 2, ground := Ground.data }], guard := none }) (v := .pointer (some ⟨st, 0, none⟩)) rfl (by kernel_rfl) (by kernel_rfl) (by kernel_rfl) (fun _ _ _ h => h) (Or.inl ⟨by rfl, by intro w hS; go_simp⟩) hHeld ?_
  try simp only [Act.put, List.setIfInBounds_toArray, List.set_cons_zero, List.set_cons_succ]
  refine wpAnyH_take (i := 4) (oi := { dst := some 7, op := Op.fieldAddr 79 (Operand.tmp 6) 3, type := 0, pos := "store.go:52", after := #[{ on := 3, ground := Ground.data }], guard := none }) (v := .pointer (some ⟨st, 3, none⟩)) rfl (by kernel_rfl) (by kernel_rfl) (by kernel_rfl) (fun _ _ _ h => h) (Or.inl ⟨by rfl, by intro w hS; go_simp⟩) hHeld ?_
  try simp only [Act.put, List.setIfInBounds_toArray, List.set_cons_zero, List.set_cons_succ]
  refine wpAnyH_take (i := 5) (oi := { dst := some 8, op := Op.load 77 (Operand.tmp 7), type := 77, pos := "store.go:52", after := #[{ on := 4, ground := Ground.data }], guard := none }) (v := .slice sp n cap) rfl (by kernel_rfl) (by kernel_rfl) (by kernel_rfl) (fun _ _ _ h => h) (Or.inl ⟨by rfl, by intro w hS; have hc := (hS.cell (p := ⟨st, 3, none⟩) hst).trans c3; go_simp⟩) hHeld ?_
  try simp only [Act.put, List.setIfInBounds_toArray, List.set_cons_zero, List.set_cons_succ]
  refine wpAnyH_take (i := 6) (oi := { dst := some 9, op := Op.call { callee := Callee.builtin Builtin.len, args := #[Operand.tmp 8], argTypes := #[77] }, type := 3, pos := "store.go:52", after := #[{ on := 5, ground := Ground.data }], guard := none }) (v := .int .i64 n) rfl (by kernel_rfl) (by kernel_rfl) (by kernel_rfl) (fun _ _ _ h => h) (Or.inl ⟨by rfl, by intro w hS; go_simp⟩) hHeld ?_
  try simp only [Act.put, List.setIfInBounds_toArray, List.set_cons_zero, List.set_cons_succ]
  refine wpAnyH_ready (rs := [1]) (by kernel_rfl) (by simp) ?_
  refine (AllReadyH.cons (o := { dst := some 4, op := Op.call { callee := Callee.value (Operand.func 29), args := #[Operand.tmp 3], argTypes := #[27] }, type := 3, pos := "store.go:52", after := #[{ on := 0, ground := Ground.data }], guard := none }) rfl (fun K hK => ?_) AllReadyH.nil)
  go_simp
  go_at_call 29
  refine (HM.out _ hHeld).mono ?_
  rintro e w4 ⟨rfl, hb4⟩
  go_wp2_with fail
  refine hK.out _ _ (hHeld.trans (hb4.mono hHeld.size)) (fun hHeld2 => ?_)
  clear hK K hHeld
  have hHeld := hHeld2
  clear hHeld2
  clear hb4
  try simp only [Act.put, List.setIfInBounds_toArray, List.set_cons_zero, List.set_cons_succ]
  refine wpAnyH_take (i := 7) (oi := { dst := some 10, op := Op.binOp BinOp.add 3 (Operand.tmp 4) (Operand.tmp 9) 3, type := 3, pos := "store.go:52", after := #[{ on := 1, ground := Ground.data }, { on := 6, ground := Ground.data }], guard := none }) (v := .int .i64 (ma + n)) rfl (by kernel_rfl) (by kernel_rfl) (by kernel_rfl) (fun _ _ _ h => h) (Or.inl ⟨by rfl, by intro w hS; (go_simp; all_goals exact wrap_i64_id _ (by omega) (by omega))⟩) hHeld ?_
  try simp only [Act.put, List.setIfInBounds_toArray, List.set_cons_zero, List.set_cons_succ]
  refine wpAnyH_take (i := 8) (oi := { dst := some 2, op := Op.assign (Operand.tmp 10), type := 3, pos := "store.go:52", after := #[{ on := 7, ground := Ground.data }, { on := 1, ground := Ground.chain }, { on := 0, ground := Ground.phase }, { on := 1, ground := Ground.phase }, { on := 2, ground := Ground.phase }, { on := 3, ground := Ground.phase }, { on := 4, ground := Ground.phase }, { on := 5, ground := Ground.phase }, { on := 6, ground := Ground.phase }, { on := 7, ground := Ground.phase }], guard := none }) (v := .int .i64 (ma + n)) rfl (by kernel_rfl) (by kernel_rfl) (by kernel_rfl) (fun _ _ _ h => h) (Or.inl ⟨by rfl, by intro w hS; go_simp⟩) hHeld ?_
  try simp only [Act.put, List.setIfInBounds_toArray, List.set_cons_zero, List.set_cons_succ]
  refine wpAnyH_done (by kernel_rfl) ?_ _
  refine NoPanic.normal ?_
  go_wp2
  go_ret
  exact ⟨rfl, hHeld⟩
set_option maxRecDepth 100000 in
set_option maxHeartbeats 2000000 in
theorem oStaged_min (w : World) (st : Nat) (sp : Option Addr) (n cap : Nat) (c3 : w.cell? ⟨st, 3, none⟩ = some (.slice sp n cap)) (hl : n ≤ 100000) :
    Calls Try.prog 10 #[.pointer (some ⟨st, 0, none⟩)] w fun e w' => e = .returned (.int .i64 n) ∧ w = w' := by
  have i0 : (n : Int) ≤ 100000 := by omega
  go_enter Try.func10, Try.ntmps10
  go_wp2
  go_ret
  exact ⟨rfl, rfl⟩
end Go.Proofs.Ytihkjfbhmlfonaa
