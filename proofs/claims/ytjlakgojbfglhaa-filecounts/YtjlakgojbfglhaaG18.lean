import Derived.Test.YtjlakgojbfglhaaG17
import Derived.Test.YtjlakgojbfglhaaG9
namespace Go.Proofs.Ytjlakgojbfglhaa
set_option linter.unusedVariables false
set_option linter.unusedSimpArgs false
open Go.RowKit

/-! What a Publish leaves. -/
structure Pub (R : DS × Int) (D : DS) (s2 : Sup) (k : Nat) : Prop where
  ok : DsOk R.1
  np : R.1.np = D.np
  epoch : R.1.epoch = D.epoch
  reads : R.1.reads = D.reads
  writes : R.1.writes ≤ D.writes + 1
  syncs : R.1.syncs ≤ D.syncs + 2
  ops : R.1.ops.length ≤ D.ops.length + 1
  arm : D.armed = 0 → R.2 = 0 ∧ R.1.armed = 0
  two : R.2 = 0 ∨ R.2 = 2
  good : R.2 = 0 → R.1.power = true ∧ R.1.ops = [] ∧ pgO R.1.img k = secP s2 ∧ ∀ q, q < D.np → q ≠ k → pgO R.1.img q = D.readOf q
  bad : R.2 = 2 → R.1.power = false ∧ ((R.1.img = D.img ∧ R.1.ops = D.ops) ∨ (R.1.ops = [⟨k, secP s2⟩] ∧ ∀ q, q < D.np → pgO R.1.img q = D.readOf q))
theorem pub_all {D : DS} (hok : DsOk D) (hp : D.power = true) (hbud : Bud D 3) (s2 : Sup) (hv : validS s2 = true) (k : Nat) (hk : s2.ge % 2 = (k : Int)) : Pub (runS D [.sync, .lay s2 0 0, .sync]) D s2 k := by
  obtain ⟨h3, h4, hn, _⟩ := hok.np
  have hk2 : (s2.ge % 2).toNat = k := by omega
  have hk3 : k < 2 := by omega
  have ha := hok.armed.1
  have hsy : ∀ X : DS, X.armed ≠ 1 → St.go .sync X = (X.synced, 0) := fun X hX => by show sy X = _; unfold sy; rw [if_neg hX]
  have hsz : ∀ X : DS, X.armed = 1 → St.go .sync X = (X.acted, 2) := fun X hX => by show sy X = _; unfold sy; rw [if_pos hX]
  by_cases k1 : D.armed = 1
  · have hr : runS D [.sync, .lay s2 0 0, .sync] = (D.acted, 2) := by rw [runS, hsz D k1]; rfl
    obtain ⟨c1, c2, c3, c4, c5, c6⟩ := acted_same D
    rw [hr]
    exact ⟨acted_ok hok, np_img (by rw [c1]), c3, c4, by show D.acted.writes ≤ _; omega, by show D.acted.syncs ≤ _; omega, by show D.acted.ops.length ≤ _; rw [c2]; omega, fun q => by omega, Or.inr rfl, fun q => absurd (show (2 : Int) = 0 from q) (by decide), fun _ => ⟨(acted_arm D ha).2.2 k1, Or.inl ⟨c1, c2⟩⟩⟩
  -- the first sync
  obtain ⟨D1, hD1⟩ : ∃ D1, D1 = D.synced := ⟨_, rfl⟩
  have ok1 := synced_ok hok (by have := hbud.syncs; omega)
  have np1 := sync_np hok
  have p1 : ∀ q, q < D.np → pgO D1.img q = D.readOf q := fun q hq => by rw [hD1]; exact sync_read hok q hq
  rw [← hD1] at ok1 np1
  have s1 : D1.ops = [] ∧ D1.epoch = D.epoch ∧ D1.reads = D.reads ∧ D1.writes = D.writes ∧ D1.syncs = D.syncs + 1 := by
    obtain ⟨c1, c2, c3, c4, c5, c6⟩ := acted_same D
    rw [hD1]; exact ⟨rfl, c3, c4, c5, rfl⟩
  have a1 := sync_arm D ha k1
  rw [← hD1] at a1
  have r0 : runS D [.sync, .lay s2 0 0, .sync] = runS D1 [.lay s2 0 0, .sync] := by rw [runS, hsy D k1, if_pos rfl, hD1]
  -- the write
  obtain ⟨D2, hD2⟩ : ∃ D2, D2 = D1.wr ⟨k, secP s2⟩ := ⟨_, rfl⟩
  have e2 := wr_img D1 ⟨k, secP s2⟩
  have ok2 := wr_ok ok1 (o := ⟨k, secP s2⟩) ⟨by show k < D1.np; omega, secP_len _, secP_byts hv⟩ (by rw [s1.1]; decide) (by rw [s1.2.2.2.1]; have := hbud.writes; omega)
  have n1 : 0 ≤ D1.armed := ok1.armed.1
  have a2 := wr_arm D1 ⟨k, secP s2⟩ n1
  rw [← hD2] at e2 ok2 a2
  rw [s1.1, List.nil_append] at e2
  have np2 : D2.np = D.np := (np_img (by rw [e2.1])).trans np1
  have st2 : St.go (.lay s2 0 0) D1 = (D2, D1.actE) := by rw [hD2]; show (D1.wr ⟨(s2.ge % 2).toNat, secP s2⟩, D1.actE) = _; rw [hk2]
  have p2 : ∀ q, q < D.np → pgO D2.img q = D.readOf q := fun q hq => by rw [e2.1]; exact p1 q hq
  by_cases k2 : D1.armed = 1
  · have hr : runS D [.sync, .lay s2 0 0, .sync] = (D2, 2) := by rw [r0, runS, st2, actE_2 k2]; rfl
    rw [hr]
    exact ⟨ok2, np2, e2.2.2.1.trans s1.2.1, e2.2.2.2.1.trans s1.2.2.1, by show D2.writes ≤ _; omega, by show D2.syncs ≤ _; omega, by show D2.ops.length ≤ _; rw [e2.2.1]; simp, fun q => by rw [a1.1, if_pos q] at k2; omega, Or.inr rfl, fun q => absurd (show (2 : Int) = 0 from q) (by decide), fun _ => ⟨a2.2.2 k2, Or.inr ⟨e2.2.1, p2⟩⟩⟩
  have r1 : runS D [.sync, .lay s2 0 0, .sync] = runS D2 [.sync] := by rw [r0, runS, st2, actE_0 k2, if_pos rfl]
  have n2 : 0 ≤ D2.armed := ok2.armed.1
  by_cases k3 : D2.armed = 1
  · have hr : runS D [.sync, .lay s2 0 0, .sync] = (D2.acted, 2) := by rw [r1, runS, hsz D2 k3]; rfl
    obtain ⟨c1, c2, c3, c4, c5, c6⟩ := acted_same D2
    rw [hr]
    exact ⟨acted_ok ok2, (np_img (by rw [c1])).trans np2, c3.trans (e2.2.2.1.trans s1.2.1), c4.trans (e2.2.2.2.1.trans s1.2.2.1), by show D2.acted.writes ≤ _; omega, by show D2.acted.syncs ≤ _; omega, by show D2.acted.ops.length ≤ _; rw [c2, e2.2.1]; simp, fun q => by rw [a2.1, a1.1, if_pos q, if_pos rfl] at k3; omega, Or.inr rfl, fun q => absurd (show (2 : Int) = 0 from q) (by decide), fun _ => ⟨(acted_arm D2 n2).2.2 k3, Or.inr ⟨c2.trans e2.2.1, fun q hq => by show pgO D2.acted.img q = _; rw [c1]; exact p2 q hq⟩⟩⟩
  obtain ⟨D3, hD3⟩ : ∃ D3, D3 = D2.synced := ⟨_, rfl⟩
  have ok3 := synced_ok ok2 (by rw [e2.2.2.2.2.2, s1.2.2.2.2]; have := hbud.syncs; omega)
  have np3 := (sync_np ok2).trans np2
  have p3 := sync_one ok2 k _ e2.2.1 (by omega)
  have a3 := sync_arm D2 n2 k3
  rw [← hD3] at ok3 np3 p3 a3
  have hr : runS D [.sync, .lay s2 0 0, .sync] = (D3, 0) := by rw [r1, runS, hsy D2 k3, if_pos rfl, hD3]; rfl
  obtain ⟨c1, c2, c3, c4, c5, c6⟩ := acted_same D2
  rw [hr]
  refine ⟨ok3, np3, by rw [hD3]; exact c3.trans (e2.2.2.1.trans s1.2.1), by rw [hD3]; exact c4.trans (e2.2.2.2.1.trans s1.2.2.1), ?_, ?_, ?_, fun q => ⟨rfl, ?_⟩, Or.inl rfl, fun _ => ⟨?_, by rw [hD3]; rfl, p3.1, fun q hq hne => ?_⟩, fun q => absurd (show (0 : Int) = 2 from q) (by decide)⟩
  · show D3.writes ≤ _; rw [hD3]; show D2.acted.writes ≤ _; omega
  · show D3.syncs ≤ _; rw [hD3]; show D2.syncs + 1 ≤ _; omega
  · show D3.ops.length ≤ _; rw [hD3]; show ([] : List OW).length ≤ _; simp
  · show D3.armed = 0; rw [a3.1, a2.1, a1.1, if_pos q]; rfl
  · show D3.power = true; rw [a3.2, a2.2.1 k2, a1.2, hp]
  · show pgO D3.img q = _; rw [p3.2 q (by omega) hne]; exact p2 q hq
/-! The state between two calls. -/
structure Lv (D : DS) (s : Sup) (nx : Nat) (ep : Int) (B : Bk) (n c : Nat) : Prop where
  ok : DsOk D
  np : D.np = n
  small : n ≤ 64
  pw : D.power = true
  hep : D.epoch = ep
  pg : s.pg = (n : Int)
  val : validS s = true
  good : ∃ o, Good s o (pgO D.img 0) (pgO D.img 1)
  ge : s.ge ≤ c + 1
  bk : B.mrk = s.ma ∧ B.gn = s.ge ∧ B.hd = s.hd ∧ B.im = 0
  hnx : s.ma ≤ (nx : Int) ∧ nx ≤ n
  opn : ∀ o ∈ D.ops, s.ma ≤ (o.page : Int)
  len : B.Ks.length = B.Ls.length ∧ nx - 2 ≤ B.Ls.length ∧ B.Ls.length ≤ n
  pgs : Pgs D B nx
  cnt : D.ops.length ≤ 10 * (c + 1) ∧ D.reads ≤ 1000 * (c + 1) ∧ D.writes ≤ 10 * (c + 1) ∧ D.syncs ≤ 10 * (c + 1) ∧ D.epoch ≤ 10 * (c + 1)
/-- What a crash may leave. -/
structure Cr (D : DS) (B : Bk) (n c : Nat) : Prop where
  ok : DsOk D
  np : D.np = n
  small : n ≤ 64
  len : B.Ks.length = B.Ls.length ∧ B.Ls.length ≤ n
  ge : B.gn ≤ c + 1
  im : 0 ≤ B.im
  mono : 0 < B.im → B.mrk ≤ B.im
  keep : ∀ (fs : List Int) (q : Nat), 2 ≤ q → (q : Int) < B.mrk → q < n → pgO (D.crashed fs).img q = pgO D.img q
  cnt : D.reads ≤ 1000 * (c + 1) ∧ D.writes ≤ 10 * (c + 1) ∧ D.syncs ≤ 10 * (c + 1) ∧ D.epoch ≤ 10 * (c + 1)
  all : ∀ fs : List Int, ∃ (s2 o : Sup) (m : Nat), Good s2 o (pgO (D.crashed fs).img 0) (pgO (D.crashed fs).img 1) ∧ validS s2 = true ∧ s2.pg = (n : Int) ∧ s2.ma = (m : Int) ∧ m ≤ n ∧ m - 2 ≤ B.Ls.length ∧ Pgs (D.crashed fs) B m ∧ ((s2.ge = B.gn ∧ s2.ma = B.mrk ∧ s2.hd = B.hd) ∨ (0 < B.im ∧ s2.ge = B.gn + 1 ∧ s2.ma = B.im ∧ s2.hd = B.ih))
theorem sup_ma {s : Sup} {n : Nat} (h : validS s = true) (hp : s.pg = (n : Int)) : ∃ m : Nat, s.ma = (m : Int) ∧ 2 ≤ m ∧ m ≤ n := by
  have := (validS_iff s).1 h
  exact ⟨s.ma.toNat, by omega, by omega, by omega⟩
theorem crash_read {D : DS} (hok : DsOk D) (fs : List Int) (q : Nat) (hq : q < D.np) (hx : ∀ o ∈ D.ops, o.page ≠ q) : (D.crashed fs).readOf q = D.readOf q := by
  rw [readOf_nil rfl, read_page q hx]; exact crash_page hok fs q hq hx
/-- Nothing that was published is written. -/
theorem Cr.old {D : DS} {s : Sup} {nx : Nat} {B : Bk} {n c : Nat} (hok : DsOk D) (hnp : D.np = n) (hsm : n ≤ 64) (hv : validS s = true) (hp : s.pg = (n : Int)) (hg : ∃ o, Good s o (pgO D.img 0) (pgO D.img 1)) (hge : s.ge ≤ c + 1) (hm : B.mrk = s.ma ∧ B.gn = s.ge ∧ B.hd = s.hd) (him : 0 ≤ B.im) (hmo : 0 < B.im → B.mrk ≤ B.im) (hnx : s.ma ≤ (nx : Int) ∧ nx ≤ n) (ho : ∀ o ∈ D.ops, s.ma ≤ (o.page : Int)) (hl : B.Ks.length = B.Ls.length ∧ nx - 2 ≤ B.Ls.length ∧ B.Ls.length ≤ n) (hpg : ∀ q : Nat, 2 ≤ q → (q : Int) < s.ma → unpackF q (D.readOf q) = (B.Ks.getD (q - 2) 0, B.Ls.getD (q - 2) [], 0))
    (hcnt : D.reads ≤ 1000 * (c + 1) ∧ D.writes ≤ 10 * (c + 1) ∧ D.syncs ≤ 10 * (c + 1) ∧ D.epoch ≤ 10 * (c + 1)) : Cr D B n c := by
  obtain ⟨o, hg⟩ := hg
  obtain ⟨m, hm1, hm2, hm3⟩ := sup_ma hv hp
  refine ⟨hok, hnp, hsm, ⟨hl.1, hl.2.2⟩, by omega, him, hmo, fun fs q h2 hq hqn => crash_page hok fs q (by omega) (fun o ho2 => by have := ho o ho2; omega), hcnt, fun fs => ⟨s, o, m, ?_, hv, hp, hm1, hm3, by omega, fun q h2 hq => ?_, Or.inl ⟨hm.2.1.symm, hm.1.symm, hm.2.2.symm⟩⟩⟩
  · have e0 := crash_page hok fs 0 (by have := hok.np; omega) (fun o ho2 => by have := ho o ho2; omega)
    have e1 := crash_page hok fs 1 (by have := hok.np; omega) (fun o ho2 => by have := ho o ho2; omega)
    show Good s o (pgO (crashTo D.img D.ops fs D.ops.length) 0) (pgO (crashTo D.img D.ops fs D.ops.length) 1)
    rw [e0, e1]; exact hg
  · rw [crash_read hok fs q (by omega) (fun o ho2 => by have := ho o ho2; omega)]
    exact hpg q h2 (by omega)
theorem Lv.crash {D : DS} {s : Sup} {nx : Nat} {ep : Int} {B : Bk} {n c : Nat} (h : Lv D s nx ep B n c) : Cr D B n c :=
  Cr.old h.ok h.np h.small h.val h.pg h.good h.ge ⟨h.bk.1, h.bk.2.1, h.bk.2.2.1⟩ (by rw [h.bk.2.2.2]; decide) (fun q => by rw [h.bk.2.2.2] at q; omega) h.hnx h.opn h.len (fun q h2 hq => h.pgs q h2 (by have := h.hnx.1; omega)) h.cnt.2
theorem Lv.live {D : DS} {s : Sup} {nx : Nat} {ep : Int} {B : Bk} {n c : Nat} (h : Lv D s nx ep B n c) : liveF D ep = 0 := by
  unfold liveF; rw [if_neg (fun q => q h.hep), if_pos h.pw]
/-- A page more. -/
theorem Lv.append {D : DS} {s : Sup} {nx : Nat} {ep : Int} {B : Bk} {n c : Nat} (h : Lv D s nx ep B n c) (hlt : nx < n) (hc : c ≤ 1000) (kd : Int) (hk : kindOk kd = true) (l : List Int) (h8 : Byts l) (hl : l.length ≤ 246) (ha : D.armed ≠ 1) :
    Lv { D.wr ⟨nx, pageP kd nx l⟩ with reads := (D.wr ⟨nx, pageP kd nx l⟩).reads + ((nx + 1 - 2 : Nat) : Int) } s (nx + 1) ep { B with Ls := B.Ls.take (nx - 2) ++ [l], Ks := B.Ks.take (nx - 2) ++ [kd] } n (c + 1) ∧ Pgs (D.wr ⟨nx, pageP kd nx l⟩) { B with Ls := B.Ls.take (nx - 2) ++ [l], Ks := B.Ks.take (nx - 2) ++ [kd] } (nx + 1) := by
  obtain ⟨m, hm1, hm2, hm3⟩ := sup_ma h.val h.pg
  have hv := (validS_iff s).1 h.val
  have hnp := h.ok.np
  have hnpn := h.np
  have hsm := h.small
  have e := wr_img D ⟨nx, pageP kd nx l⟩
  have hcn := h.cnt
  have hnx := h.hnx
  have hk1 := (kindOk_iff kd).1 hk
  have ok1 := wr_ok h.ok (o := ⟨nx, pageP kd nx l⟩) ⟨by show nx < D.np; rw [h.np]; exact hlt, pageP_len kd nx l hl, pageP_byts kd nx l ⟨by omega, by omega⟩ hl h8⟩ (by omega) (by omega)
  have hw := wr_arm D ⟨nx, pageP kd nx l⟩ h.ok.armed.1
  have rd : ∀ q, (D.wr ⟨nx, pageP kd nx l⟩).readOf q = if nx = q then pageP kd nx l else D.readOf q := fun q => readOf_snoc e.1 e.2.1 q
  have n2 : 2 ≤ nx := by omega
  have pgs : Pgs (D.wr ⟨nx, pageP kd nx l⟩) { B with Ls := B.Ls.take (nx - 2) ++ [l], Ks := B.Ks.take (nx - 2) ++ [kd] } (nx + 1) := by
    intro q h2 hq
    rw [rd q]
    show unpackF q _ = ((B.Ks.take (nx - 2) ++ [kd]).getD (q - 2) 0, (B.Ls.take (nx - 2) ++ [l]).getD (q - 2) [], 0)
    have hll := h.len
    by_cases c1 : nx = q
    · subst c1
      rw [if_pos rfl, unpack_page kd nx nx l hk ((placeOk_iff _).2 ⟨by omega, by omega⟩) hl h8, if_pos rfl]
      have a1 : (B.Ks.take (nx - 2) ++ [kd]).getD (nx - 2) 0 = kd := by
        rw [List.getD_eq_getElem?_getD, List.getElem?_append_right (by rw [List.length_take]; omega), show nx - 2 - (List.take (nx - 2) B.Ks).length = 0 by rw [List.length_take]; omega]; rfl
      have a2 : (B.Ls.take (nx - 2) ++ [l]).getD (nx - 2) [] = l := by
        rw [List.getD_eq_getElem?_getD, List.getElem?_append_right (by rw [List.length_take]; omega), show nx - 2 - (List.take (nx - 2) B.Ls).length = 0 by rw [List.length_take]; omega]; rfl
      rw [a1, a2]
    · rw [if_neg c1, h.pgs q h2 (by omega)]
      have a1 : (B.Ks.take (nx - 2) ++ [kd]).getD (q - 2) 0 = B.Ks.getD (q - 2) 0 := by
        rw [List.getD_eq_getElem?_getD, List.getElem?_append_left (by rw [List.length_take]; omega), List.getElem?_take, if_pos (by omega), ← List.getD_eq_getElem?_getD]
      have a2 : (B.Ls.take (nx - 2) ++ [l]).getD (q - 2) [] = B.Ls.getD (q - 2) [] := by
        rw [List.getD_eq_getElem?_getD, List.getElem?_append_left (by rw [List.length_take]; omega), List.getElem?_take, if_pos (by omega), ← List.getD_eq_getElem?_getD]
      rw [a1, a2]
  refine ⟨⟨⟨ok1.n, ok1.bts, ok1.ops, ?_, ok1.writes, ok1.syncs, ok1.epoch, ok1.armed⟩, (np_img (by rw [e.1])).trans h.np, h.small, (hw.2.1 ha).trans h.pw, e.2.2.1.trans h.hep, h.pg, h.val, ?_, by have := h.ge; push_cast; omega, h.bk, ⟨by omega, by omega⟩, ?_, ?_, pgs, ?_⟩, pgs⟩
  · show 0 ≤ (D.wr ⟨nx, pageP kd nx l⟩).reads + ((nx + 1 - 2 : Nat) : Int) ∧ (D.wr ⟨nx, pageP kd nx l⟩).reads + ((nx + 1 - 2 : Nat) : Int) ≤ _
    rw [e.2.2.2.1]; have := h.ok.reads; omega
  · show ∃ o, Good s o (pgO (D.wr ⟨nx, pageP kd nx l⟩).img 0) (pgO (D.wr ⟨nx, pageP kd nx l⟩).img 1)
    rw [e.1]; exact h.good
  · intro o ho
    change o ∈ (D.wr ⟨nx, pageP kd nx l⟩).ops at ho
    rw [e.2.1] at ho
    rcases List.mem_append.1 ho with q | q
    · exact h.opn o q
    · rw [List.mem_singleton] at q; rw [q]; exact hnx.1
  · have hll := h.len
    refine ⟨?_, ?_, ?_⟩
    · show (B.Ks.take (nx - 2) ++ [kd]).length = (B.Ls.take (nx - 2) ++ [l]).length
      rw [List.length_append, List.length_append, List.length_take, List.length_take]; simp; omega
    · show nx + 1 - 2 ≤ (B.Ls.take (nx - 2) ++ [l]).length
      rw [List.length_append, List.length_take]; simp; omega
    · show (B.Ls.take (nx - 2) ++ [l]).length ≤ n
      rw [List.length_append, List.length_take]; simp; omega
  · refine ⟨?_, ?_, ?_, ?_, ?_⟩
    · show (D.wr ⟨nx, pageP kd nx l⟩).ops.length ≤ _
      rw [e.2.1, List.length_append]; simp; omega
    · show (D.wr ⟨nx, pageP kd nx l⟩).reads + ((nx + 1 - 2 : Nat) : Int) ≤ _
      rw [e.2.2.2.1]
      have := h.small; push_cast; omega
    · show (D.wr ⟨nx, pageP kd nx l⟩).writes ≤ _
      rw [e.2.2.2.2.1]; push_cast; omega
    · show (D.wr ⟨nx, pageP kd nx l⟩).syncs ≤ _
      rw [e.2.2.2.2.2]; push_cast; omega
    · show (D.wr ⟨nx, pageP kd nx l⟩).epoch ≤ _
      rw [e.2.2.1]; push_cast; omega
/-- Power went at the page's write. -/
theorem Lv.append_down {D : DS} {s : Sup} {nx : Nat} {ep : Int} {B : Bk} {n c : Nat} (h : Lv D s nx ep B n c) (hlt : nx < n) (hc : c ≤ 1000) (kd : Int) (hk : kindOk kd = true) (l : List Int) (h8 : Byts l) (hl : l.length ≤ 246) : Cr (D.wr ⟨nx, pageP kd nx l⟩) B n (c + 1) := by
  obtain ⟨m, hm1, hm2, hm3⟩ := sup_ma h.val h.pg
  have hnp := h.ok.np
  have hnpn := h.np
  have hsm := h.small
  have e := wr_img D ⟨nx, pageP kd nx l⟩
  have hcn := h.cnt
  have hnx := h.hnx
  have hk1 := (kindOk_iff kd).1 hk
  have ok1 := wr_ok h.ok (o := ⟨nx, pageP kd nx l⟩) ⟨by show nx < D.np; rw [h.np]; exact hlt, pageP_len kd nx l hl, pageP_byts kd nx l ⟨by omega, by omega⟩ hl h8⟩ (by omega) (by omega)
  have rd : ∀ q, (D.wr ⟨nx, pageP kd nx l⟩).readOf q = if nx = q then pageP kd nx l else D.readOf q := fun q => readOf_snoc e.1 e.2.1 q
  refine Cr.old ok1 ((np_img (by rw [e.1])).trans h.np) h.small h.val h.pg (by rw [e.1]; exact h.good) (by have := h.ge; push_cast; omega) ⟨h.bk.1, h.bk.2.1, h.bk.2.2.1⟩ (by rw [h.bk.2.2.2]; decide) (fun q => by rw [h.bk.2.2.2] at q; omega) h.hnx ?_ h.len ?_ ?_
  · intro o ho
    rw [e.2.1] at ho
    rcases List.mem_append.1 ho with q | q
    · exact h.opn o q
    · rw [List.mem_singleton] at q; rw [q]; exact hnx.1
  · intro q h2 hq
    rw [rd q, if_neg (by omega)]
    exact h.pgs q h2 (by omega)
  · rw [e.2.2.1, e.2.2.2.1, e.2.2.2.2.1, e.2.2.2.2.2]
    push_cast; omega
/-- The next superblock. -/
def nextS (s : Sup) (nx hd : Int) : Sup := ⟨s.wd, s.ge + 1, nx, hd, s.pg⟩
theorem nextS_valid {s : Sup} {n nx : Nat} {hd : Int} (h : validS s = true) (hp : s.pg = (n : Int)) (hx : s.ma ≤ (nx : Int) ∧ nx ≤ n) (hh : hd = 0 ∨ (2 ≤ hd ∧ hd < (nx : Int))) (hg : s.ge ≤ 1000000) : validS (nextS s nx hd) = true := by
  have := (validS_iff s).1 h
  rw [validS_iff]
  show 1 ≤ s.wd ∧ s.wd ≤ 32 ∧ 0 ≤ s.ge + 1 ∧ s.ge + 1 ≤ 1099511627776 ∧ 3 ≤ s.pg ∧ s.pg ≤ 4096 ∧ 2 ≤ (nx : Int) ∧ (nx : Int) ≤ s.pg ∧ (hd = 0 ∨ 2 ≤ hd ∧ hd < (nx : Int))
  exact ⟨this.1, this.2.1, by omega, by omega, by omega, by omega, by omega, by omega, hh⟩
theorem nextS_fol {s : Sup} {nx : Nat} {hd : Int} (hx : s.ma ≤ (nx : Int)) : Fol (nextS s nx hd) s := ⟨rfl, rfl, rfl, hx⟩
theorem Lv.publish {D : DS} {s : Sup} {nx : Nat} {ep : Int} {B : Bk} {n c : Nat} (h : Lv D s nx ep B n c) (hc : c ≤ 1000) (hd : Int) (hh : hd = 0 ∨ (2 ≤ hd ∧ hd < (nx : Int))) (R : DS × Int) (hR : R = runS D [.sync, .lay (nextS s nx hd) 0 0, .sync]) :
    (R.2 = 0 ∧ Lv R.1 (nextS s nx hd) nx ep { B with mrk := nx, hd := hd, gn := B.gn + 1 } n (c + 1) ∨ R.2 = 2 ∧ R.1.power = false ∧ R.1.epoch = ep ∧ Cr R.1 { B with im := nx, ih := hd } n (c + 1)) ∧ (D.armed = 0 → R.2 = 0 ∧ R.1.armed = 0) := by
  obtain ⟨m, hm1, hm2, hm3⟩ := sup_ma h.val h.pg
  have hv := (validS_iff s).1 h.val
  have hnp := h.ok.np
  have hnpn := h.np
  have hsm := h.small
  have hcn := h.cnt
  have hnx := h.hnx
  have hge := h.ge
  have hv2 := nextS_valid h.val h.pg hnx hh (by omega)
  obtain ⟨k, hk⟩ : ∃ k : Nat, (s.ge + 1) % 2 = (k : Int) := ⟨((s.ge + 1) % 2).toNat, by omega⟩
  have P := pub_all h.ok h.pw ⟨h.pw, by omega, by omega, by omega⟩ (nextS s nx hd) hv2 k hk
  rw [← hR] at P
  obtain ⟨o, hgood⟩ := h.good
  have hk2 : k < 2 := by omega
  have r01 : ∀ q, q < 2 → D.readOf q = pgO D.img q := fun q hq => read_page q (fun o ho => by have := h.opn o ho; omega)
  have cn : R.1.reads ≤ 1000 * ((c + 1 : Nat) + 1) ∧ R.1.writes ≤ 10 * ((c + 1 : Nat) + 1) ∧ R.1.syncs ≤ 10 * ((c + 1 : Nat) + 1) ∧ R.1.epoch ≤ 10 * ((c + 1 : Nat) + 1) := by
    have := P.reads; have := P.writes; have := P.syncs; have := P.epoch
    push_cast; omega
  refine ⟨?_, P.arm⟩
  rcases P.two with h0 | h2
  · obtain ⟨g1, g2, g3, g4⟩ := P.good h0
    refine Or.inl ⟨h0, ⟨P.ok, P.np.trans h.np, h.small, g1, P.epoch.trans h.hep, h.pg, hv2, ⟨s, ?_⟩, by show s.ge + 1 ≤ _; push_cast; omega, ⟨rfl, ?_, rfl, h.bk.2.2.2⟩, ⟨Int.le_refl _, hnx.2⟩, ?_, h.len, ?_, ?_⟩⟩
    · have hn := hgood.next k hk hv2 (nextS_fol hnx.1) (List.replicate 192 0) List.length_replicate (rep_byts _)
      have e0 : sel k 0 (secS (nextS s nx hd) ++ List.replicate 192 0) (pgO D.img 0) = pgO R.1.img 0 := by
        unfold sel
        by_cases c0 : k = 0
        · rw [if_pos c0]; subst c0; exact g3.symm
        · rw [if_neg c0, g4 0 (by omega) (fun e => c0 e.symm), r01 0 (by omega)]
      have e1 : sel k 1 (secS (nextS s nx hd) ++ List.replicate 192 0) (pgO D.img 1) = pgO R.1.img 1 := by
        unfold sel
        by_cases c0 : k = 1
        · rw [if_pos c0]; subst c0; exact g3.symm
        · rw [if_neg c0, g4 1 (by omega) (fun e => c0 e.symm), r01 1 (by omega)]
      rw [← e0, ← e1]; exact hn
    · show B.gn + 1 = s.ge + 1
      rw [h.bk.2.1]
    · intro o ho; rw [g2] at ho; cases ho
    · intro q h2 hq
      rw [readOf_nil g2, g4 q (by omega) (by omega)]
      exact h.pgs q h2 hq
    · exact ⟨by rw [g2]; simp, cn⟩
  · obtain ⟨b1, b2⟩ := P.bad h2
    refine Or.inr ⟨h2, b1, P.epoch.trans h.hep, ?_⟩
    rcases b2 with ⟨b2, b3⟩ | ⟨b2, b3⟩
    · refine Cr.old (s := s) (nx := nx) P.ok (P.np.trans h.np) h.small h.val h.pg ⟨o, by rw [b2]; exact hgood⟩ (by push_cast; omega) ⟨h.bk.1, h.bk.2.1, h.bk.2.2.1⟩ (by show (0 : Int) ≤ (nx : Int); omega) (fun _ => by show B.mrk ≤ (nx : Int); rw [h.bk.1]; exact hnx.1) hnx (by rw [b3]; exact h.opn) h.len (fun q h2 hq => ?_) cn
      have : R.1.readOf q = D.readOf q := by unfold DS.readOf; rw [b2, b3]
      rw [this]
      exact h.pgs q h2 (by omega)
    · refine ⟨P.ok, P.np.trans h.np, h.small, ⟨h.len.1, h.len.2.2⟩, by show B.gn ≤ _; rw [h.bk.2.1]; push_cast; omega, by show (0 : Int) ≤ (nx : Int); omega, (fun _ => by show B.mrk ≤ (nx : Int); rw [h.bk.1]; exact hnx.1), (fun fs q h2 hq hqn => crash_page P.ok fs q (by rw [P.np, h.np]; exact hqn) (fun o ho => by rw [b2, List.mem_singleton] at ho; rw [ho]; show k ≠ q; omega)), cn, fun fs => ?_⟩
      have hnpR : R.1.np = n := P.np.trans h.np
      obtain ⟨b, T, hT, hT8, hE⟩ := crash_one P.ok fs k (by omega) _ b2
      have oth : ∀ q, q < n → q ≠ k → pgO (R.1.crashed fs).img q = D.readOf q := fun q hq hne => by
        rw [← b3 q (by rw [h.np]; exact hq)]
        exact crash_page P.ok fs q (by omega) (fun o ho => by rw [b2, List.mem_singleton] at ho; rw [ho]; exact fun e => hne e.symm)
      have pk : pgO (R.1.crashed fs).img k = (if b then secP (nextS s nx hd) else pgO R.1.img k).take 64 ++ T := hE
      have o0 : k ≠ 0 → pgO (R.1.crashed fs).img 0 = pgO D.img 0 := fun hne => by rw [oth 0 (by omega) (fun e => hne e.symm), r01 0 (by omega)]
      have o1 : k ≠ 1 → pgO (R.1.crashed fs).img 1 = pgO D.img 1 := fun hne => by rw [oth 1 (by omega) (fun e => hne e.symm), r01 1 (by omega)]
      have pgsA : ∀ M, M ≤ nx → Pgs (R.1.crashed fs) { B with im := nx, ih := hd } M := fun M hM q h2 hq => by
        rw [readOf_nil rfl, oth q (by omega) (by omega)]
        exact h.pgs q h2 (by omega)
      cases b with
      | true =>
        have hn := hgood.next k hk hv2 (nextS_fol hnx.1) T hT hT8
        have pk2 : pgO (R.1.crashed fs).img k = secS (nextS s nx hd) ++ T := by rw [pk]; show (secP (nextS s nx hd)).take 64 ++ T = _; rw [secP_take]
        have e0 : sel k 0 (secS (nextS s nx hd) ++ T) (pgO D.img 0) = pgO (R.1.crashed fs).img 0 := by
          unfold sel
          by_cases c0 : k = 0
          · rw [if_pos c0]; subst c0; exact pk2.symm
          · rw [if_neg c0, o0 c0]
        have e1 : sel k 1 (secS (nextS s nx hd) ++ T) (pgO D.img 1) = pgO (R.1.crashed fs).img 1 := by
          unfold sel
          by_cases c0 : k = 1
          · rw [if_pos c0]; subst c0; exact pk2.symm
          · rw [if_neg c0, o1 c0]
        refine ⟨nextS s nx hd, s, nx, by rw [← e0, ← e1]; exact hn, hv2, h.pg, rfl, hnx.2, by have := h.len; show nx - 2 ≤ B.Ls.length; omega, pgsA nx (Nat.le_refl _), Or.inr ⟨by show (0 : Int) < (nx : Int); omega, by show s.ge + 1 = B.gn + 1; rw [h.bk.2.1], rfl, rfl⟩⟩
      | false =>
        obtain ⟨Z, hZ, hold⟩ := hgood.older k hk
        have hn := hgood.keep k hk T hT hT8
        have pk2 : pgO (R.1.crashed fs).img k = secS o ++ T := by
          rw [pk]
          show (pgO R.1.img k).take 64 ++ T = _
          rw [b3 k (by omega), r01 k hk2]
          have : pgO D.img k = secS o ++ Z := by
            rw [← hold]; unfold sel
            by_cases c0 : k = 0
            · rw [if_pos c0, c0]
            · rw [if_neg c0, show k = 1 by omega]
          rw [this, List.take_left' (secS_len o)]
        have e0 : sel k 0 (secS o ++ T) (pgO D.img 0) = pgO (R.1.crashed fs).img 0 := by
          unfold sel
          by_cases c0 : k = 0
          · rw [if_pos c0]; subst c0; exact pk2.symm
          · rw [if_neg c0, o0 c0]
        have e1 : sel k 1 (secS o ++ T) (pgO D.img 1) = pgO (R.1.crashed fs).img 1 := by
          unfold sel
          by_cases c0 : k = 1
          · rw [if_pos c0]; subst c0; exact pk2.symm
          · rw [if_neg c0, o1 c0]
        refine ⟨s, o, m, by rw [← e0, ← e1]; exact hn, h.val, h.pg, hm1, hm3, by have := h.len; show m - 2 ≤ B.Ls.length; omega, pgsA m (by omega), Or.inl ⟨h.bk.2.1.symm, h.bk.1.symm, h.bk.2.2.1.symm⟩⟩
/-- What is published stays. -/
def Kp (D : DS) (s : Sup) (D' : DS) (s' : Sup) : Prop := s.ma ≤ s'.ma ∧ (∀ q : Nat, 2 ≤ q → (q : Int) < s.ma → pgO D'.img q = pgO D.img q) ∧ s'.wd = s.wd ∧ s.ge ≤ s'.ge
theorem Kp.same {D D' : DS} {s : Sup} (h : D'.img = D.img) : Kp D s D' s := ⟨Int.le_refl _, fun q _ _ => by rw [h], rfl, Int.le_refl _⟩
theorem Lv.kp_publish {D : DS} {s : Sup} {nx : Nat} {ep : Int} {B : Bk} {n c : Nat} (h : Lv D s nx ep B n c) (hc : c ≤ 1000) (hd : Int) (hh : hd = 0 ∨ (2 ≤ hd ∧ hd < (nx : Int))) (R : DS × Int) (hR : R = runS D [.sync, .lay (nextS s nx hd) 0 0, .sync]) : Kp D s R.1 (nextS s nx hd) ∧ Kp D s R.1 s := by
  have hcn := h.cnt
  have hnx := h.hnx
  have hge := h.ge
  have hnpn := h.np
  obtain ⟨m, hm1, hm2, hm3⟩ := sup_ma h.val h.pg
  have hv := (validS_iff s).1 h.val
  have hv2 := nextS_valid h.val h.pg hnx hh (by omega)
  obtain ⟨k, hk⟩ : ∃ k : Nat, (s.ge + 1) % 2 = (k : Int) := ⟨((s.ge + 1) % 2).toNat, by omega⟩
  have P := pub_all h.ok h.pw ⟨h.pw, by omega, by omega, by omega⟩ (nextS s nx hd) hv2 k hk
  rw [← hR] at P
  have key : ∀ q : Nat, 2 ≤ q → (q : Int) < s.ma → pgO R.1.img q = pgO D.img q := fun q h2 hq => by
    have r : D.readOf q = pgO D.img q := read_page q (fun o ho => by have := h.opn o ho; omega)
    rcases P.two with h0 | h2'
    · obtain ⟨_, _, _, g4⟩ := P.good h0
      rw [g4 q (by omega) (by omega), r]
    · rcases (P.bad h2').2 with ⟨b2, _⟩ | ⟨_, b3⟩
      · rw [b2]
      · rw [b3 q (by omega), r]
  exact ⟨⟨hnx.1, key, rfl, by show s.ge ≤ s.ge + 1; omega⟩, ⟨Int.le_refl _, key, rfl, Int.le_refl _⟩⟩
theorem Lv.forget {D : DS} {s : Sup} {nx : Nat} {ep : Int} {B : Bk} {n c : Nat} (h : Lv D s nx ep B n c) : ∃ m : Nat, s.ma = (m : Int) ∧ Lv D s m ep B n (c + 1) := by
  obtain ⟨m, hm1, hm2, hm3⟩ := sup_ma h.val h.pg
  have := h.hnx; have := h.len; have hc := h.cnt
  exact ⟨m, hm1, ⟨h.ok, h.np, h.small, h.pw, h.hep, h.pg, h.val, h.good, by have := h.ge; push_cast; omega, h.bk, ⟨by omega, hm3⟩, h.opn, ⟨h.len.1, by omega, h.len.2.2⟩, fun q h2 hq => h.pgs q h2 (by omega), by push_cast; omega⟩⟩
theorem Lv.more {D : DS} {s : Sup} {nx : Nat} {ep : Int} {B : Bk} {n c : Nat} (h : Lv D s nx ep B n c) : Lv D s nx ep B n (c + 1) :=
  ⟨h.ok, h.np, h.small, h.pw, h.hep, h.pg, h.val, h.good, by have := h.ge; push_cast; omega, h.bk, h.hnx, h.opn, h.len, h.pgs, by have := h.cnt; push_cast; omega⟩
theorem Lv.arm {D : DS} {s : Sup} {nx : Nat} {ep : Int} {B : Bk} {n c : Nat} (h : Lv D s nx ep B n c) (z : Int) (hz : z ≤ 9223372036854775807) : Lv (D.arm z) s nx ep B n (c + 1) := by
  have hm := h.more
  have e : D.arm z = { D with armed := max z 0 } := by unfold DS.arm; rw [if_pos h.pw]
  have ok := arm_ok h.ok z hz
  rw [e] at ok ⊢
  exact ⟨ok, h.np, h.small, h.pw, h.hep, h.pg, h.val, h.good, hm.ge, h.bk, h.hnx, h.opn, h.len, h.pgs, hm.cnt⟩
end Go.Proofs.Ytjlakgojbfglhaa
