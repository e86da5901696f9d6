import Derived.Maps.RangeWalk
import Derived.Test.YtbnghhgeoodphaaGreatDoorIe1
import Derived.Test.YtbnghhgeoodphaaGreatDoorId1
namespace Go.Proofs.YtbnghhgeoodphaaGreatDoor
set_option maxRecDepth 100000
set_option maxHeartbeats 40000000
set_option linter.unusedVariables false
set_option linter.unusedSimpArgs false
def fN (i : Nat) : Nat := i &&& (i - 1)
theorem fN_pow (b : Nat) : fN (2 ^ b) = 0 := by unfold fN; rw [Nat.and_two_pow_sub_one_eq_mod]; exact Nat.mod_self _
theorem por {b r : Nat} (h : r < 2 ^ b) : 2 ^ b + r = 2 ^ b ||| r := by
 have := Nat.two_pow_add_eq_or_of_lt h 1
 simpa using this
theorem fN_add {b r : Nat} (h0 : 0 < r) (h : r < 2 ^ b) : fN (2 ^ b + r) = 2 ^ b + fN r := by
 unfold fN
 have h1 : r &&& (r - 1) < 2 ^ b := Nat.lt_of_le_of_lt Nat.and_le_left h
 rw [show 2 ^ b + r - 1 = 2 ^ b + (r - 1) by omega, por h, por (show r - 1 < 2 ^ b by omega), <- Nat.or_and_distrib_left, por h1]
theorem fN_top (q c : Nat) : fN (q <<< (c + 1) + 2 ^ c) = q <<< (c + 1) := by
 have hc : 0 < 2 ^ c := Nat.two_pow_pos c
 have h2 : 2 ^ c < 2 ^ (c + 1) := by rw [Nat.pow_succ]; omega
 unfold fN
 rw [Nat.add_sub_assoc hc, Nat.shiftLeft_add_eq_or_of_lt h2, Nat.shiftLeft_add_eq_or_of_lt (show 2 ^ c - 1 < 2 ^ (c + 1) by omega), <- Nat.or_and_distrib_left]
 rw [Nat.and_two_pow_sub_one_eq_mod, Nat.mod_self, Nat.or_zero]
inductive Wl (t : Nat) : Nat -> Nat -> Prop
 | stop : Wl t t 1
 | far {i n : Nat} (h : t < i) (hf : t <= fN i) (hw : Wl t (fN i) n) : Wl t i (n + 1)
 | back {i n : Nat} (h : t < i) (hf : fN i < t) (hw : Wl t (i - 1) n) : Wl t i (n + 1)
theorem Wl.down {t : Nat} : ∀ (c q r n : Nat), r < 2 ^ c -> t <= q <<< c -> Wl t (q <<< c + r) n -> ∃ m, Wl t (q <<< c) m /\ n <= m + c
 | 0, q, r, n, hr, ht, h => by
   obtain rfl : r = 0 := by simpa using hr
   exact ⟨n, h, by omega⟩
 | c + 1, q, r, n, hr, ht, h => by
   have e : q <<< (c + 1) = (2 * q) <<< c := by rw [Nat.shiftLeft_eq, Nat.shiftLeft_eq, Nat.pow_succ]; rw [Nat.mul_comm (2 ^ c) 2, <- Nat.mul_assoc, Nat.mul_comm q 2]
   have e2 : q <<< (c + 1) + 2 ^ c = (2 * q + 1) <<< c := by rw [e, Nat.shiftLeft_eq, Nat.shiftLeft_eq, Nat.add_mul, Nat.one_mul]
   by_cases hl : r < 2 ^ c
   · rw [e] at h ht
     obtain ⟨m, hm, hn⟩ := Wl.down c (2 * q) r n hl ht h
     rw [e]; exact ⟨m, hm, by omega⟩
   · have hp := Nat.two_pow_pos c
     rw [Nat.pow_succ] at hr
     rw [show q <<< (c + 1) + r = (2 * q + 1) <<< c + (r - 2 ^ c) by rw [<- e2]; omega] at h
     obtain ⟨m, hm, hn⟩ := Wl.down c (2 * q + 1) (r - 2 ^ c) n (by omega) (by rw [<- e2]; omega) h
     rw [<- e2] at hm
     generalize hi : q <<< (c + 1) + 2 ^ c = i at hm
     cases hm with
     | stop => omega
     | far h1 h2 h3 =>
       rw [<- hi, fN_top] at h3
       exact ⟨_, h3, by omega⟩
     | back h1 h2 h3 =>
       rw [<- hi, fN_top] at h2
       omega
theorem Wl.shift {b s t : Nat} (ht : t = 2 ^ b + s) (hs : 1 <= s) {i n : Nat} (h : Wl t i n) : ∀ r, i = 2 ^ b + r -> r < 2 ^ b -> Wl s r n := by
 induction h with
 | stop =>
   intro r hr _; obtain rfl : r = s := by omega
   exact .stop
 | @far i n h hf hw ih =>
   intro r hr hl
   subst hr
   rw [fN_add (by omega) hl] at hf ih
   exact .far (by omega) (by omega) (ih (fN r) rfl (Nat.lt_of_le_of_lt Nat.and_le_left hl))
 | @back i n h hf hw ih =>
   intro r hr hl
   subst hr
   rw [fN_add (by omega) hl] at hf
   exact .back (by omega) (by omega) (ih (r - 1) (by omega) (by omega))
theorem Wl.few {t : Nat} (h1 : 1 <= t) : ∀ (b i n : Nat), t <= i -> i < 2 ^ b -> Wl t i n -> 2 * n <= b * (b + 1) := by
 intro b
 induction b generalizing t with
 | zero => intro i n h2 h3 h; simp at h3; omega
 | succ b ih =>
   intro i n h2 h3 h
   have hm : (b + 1) * (b + 1 + 1) = b * (b + 1) + 2 * (b + 1) := by rw [<- Nat.add_mul, Nat.mul_comm]
   rw [hm]
   by_cases hl : i < 2 ^ b
   · have := ih h1 i n h2 hl h; omega
   · rw [Nat.pow_succ] at h3
     by_cases ht : t <= 2 ^ b
     · have e : (1 : Nat) <<< b = 2 ^ b := by rw [Nat.shiftLeft_eq, Nat.one_mul]
       obtain ⟨m, hmm, hn⟩ := Wl.down (t := t) b 1 (i - 2 ^ b) n (by omega) (by rw [e]; exact ht) (by rw [e, show 2 ^ b + (i - 2 ^ b) = i by omega]; exact h)
       rw [e] at hmm
       generalize hp : 2 ^ b = p at hmm ht
       cases hmm with
       | stop => omega
       | far a1 a2 a3 => rw [<- hp, fN_pow] at a2; omega
       | back a1 a2 a3 =>
         have := ih h1 (p - 1) _ (by omega) (by omega) a3
         omega
     · have := ih (t := t - 2 ^ b) (by omega) (i - 2 ^ b) n (by omega) (by omega) (h.shift (b := b) (s := t - 2 ^ b) (by omega) (by omega) (i - 2 ^ b) (by omega) (by omega))
       omega
theorem Wl.pos {t i n : Nat} (h : Wl t i n) : 1 <= n /\ (t < i -> 2 <= n) := by
 induction h with
 | stop => exact ⟨by omega, fun q => by omega⟩
 | far h hf hw ih => exact ⟨by omega, fun _ => by omega⟩
 | back h hf hw ih => exact ⟨by omega, fun _ => by omega⟩
theorem farN_fN (k : Nat) (h1 : 1 <= k) (h2 : k <= 1073741825) : farN k = fN k := by
 unfold farN far fN
 show (IntKind.i64.wrap ((BitVec.ofInt 64 (k : Int) &&& BitVec.ofInt 64 ((k : Int) - 1)).toNat : Int)).toNat = _
 have e1 : (BitVec.ofInt 64 (k : Int)).toNat = k := by rw [BitVec.toNat_ofInt]; omega
 have e2 : (BitVec.ofInt 64 ((k : Int) - 1)).toNat = k - 1 := by rw [BitVec.toNat_ofInt]; omega
 have hle : k &&& (k - 1) <= k := Nat.and_le_left
 rw [BitVec.toNat_and, e1, e2, IntKind.wrap_i64]
 omega
theorem ChOk.wayB {first : Int} {T : Nat} {xs : List IR} (h : ChOk first T xs) (t : Nat) (ht : 1 <= t) : ∀ (i j : Nat), j < i -> j < xs.length -> t <= j + 1 -> ∃ Y, Way (chP first T xs) t (pgN T (j + 1)) (recN first T (j + 1) (xs.getD j dIR)) Y /\ (∀ y ∈ Y, y.2.2 = 0) /\ Y.getLast? = some (pgN T t, recN first T t (xs.getD (t - 1) dIR), 0) /\ Wl t (j + 1) Y.length := by
 intro i
 induction i with
 | zero => intro j hj; omega
 | succ i ih =>
   intro j hji hj htj
   have hn4 := h.n4
   have hnum := num_recN first h.f0 T (j + 1) (by omega) (xs.getD j dIR)
   by_cases hc : t = j + 1
   · refine ⟨_, .stop (by rw [hnum]; omega), by simp, ?_, by rw [<- hc]; exact .stop⟩
     rw [hc]; rfl
   · obtain ⟨fl, fe⟩ := farN_lt (j + 1) (by omega) (by omega)
     have ff := farN_fN (j + 1) (by omega) (by omega)
     have key : ∀ j2, j2 < j -> t <= j2 + 1 -> linkP (recN first T (j + 1) (xs.getD j dIR)) t = (pgN T (j2 + 1), ((j2 + 1 : Nat) : Int)) -> (∀ n, Wl t (j2 + 1) n -> Wl t (j + 1) (n + 1)) -> ∃ Y, Way (chP first T xs) t (pgN T (j + 1)) (recN first T (j + 1) (xs.getD j dIR)) Y /\ (∀ y ∈ Y, y.2.2 = 0) /\ Y.getLast? = some (pgN T t, recN first T t (xs.getD (t - 1) dIR), 0) /\ Wl t (j + 1) Y.length := by
       intro j2 h2 h3 hl hw
       obtain ⟨Y, hY, y1, y2, y3⟩ := ih j2 (by omega) (by omega) h3
       have hfo : followP (chP first T xs) (recN first T (j + 1) (xs.getD j dIR)) t = some (pgN T (j2 + 1), recN first T (j2 + 1) (xs.getD j2 dIR)) := by
         unfold followP
         rw [hl]
         show (match lookP (chP first T xs) (pgN T (j2 + 1)) with | some y => _ | none => none) = _
         rw [(h.stands j2 (by omega)).lk]
         exact if_pos ⟨rfl, num_recN first h.f0 T (j2 + 1) (by omega) _⟩
       refine ⟨_, .go (by rw [hnum]; omega) hfo hY, ?_, ?_, ?_⟩
       · intro y hy
         rcases List.mem_cons.1 hy with rfl | q
         · rfl
         · exact y1 y q
       · have := way_ne hY
         rcases Y with _ | ⟨a, Y⟩
         · exact absurd rfl this
         · rw [<- y2]; simp [List.getLast?_cons_cons]
       · exact hw _ y3
     by_cases hf : (t : Int) <= far ((j + 1 : Nat) : Int)
     · refine key (farN (j + 1) - 1) (by omega) (by omega) ?_ (fun n hw => ?_)
       · unfold linkP
         rw [hnum, if_pos hf]
         show (pgN T (farN (j + 1)), far ((j + 1 : Nat) : Int)) = _
         rw [fe, show farN (j + 1) - 1 + 1 = farN (j + 1) by omega]
       · rw [show farN (j + 1) - 1 + 1 = farN (j + 1) by omega, ff] at hw
         exact .far (by omega) (by rw [fe, ff] at hf; omega) hw
     · refine key (j - 1) (by omega) (by omega) ?_ (fun n hw => ?_)
       · unfold linkP
         rw [hnum, if_neg hf]
         show (pgN T (j + 1 - 1), ((j + 1 : Nat) : Int) - 1) = _
         rw [show j - 1 + 1 = j by omega, show j + 1 - 1 = j by omega]
         congr 1
         omega
       · exact .back (by omega) (by rw [fe, ff] at hf; omega) (by rw [show j + 1 - 1 = j - 1 + 1 by omega]; exact hw)
end Go.Proofs.YtbnghhgeoodphaaGreatDoor
namespace Go.Proofs.YtbnghhgeoodphaaGreatDoor
set_option maxRecDepth 100000
set_option maxHeartbeats 40000000
set_option linter.unusedVariables false
set_option linter.unusedSimpArgs false
open Go.RowKit
open Go.Proofs.YtbnghhgeoodphaaGreatDoor.Ca (Ct ct0 ctC argV AS)
attribute [local go_sem ↓] Go.wp_at_zero Go.wp_at_succ
theorem hdigits_any (w : World) (i : Nat) (hi : i <= 4095) : Calls Tryz.prog 26 #[.int .i64 i] w fun e w' => ∃ b : Nat, e = .returned (.int .i64 b) /\ w = w' /\ i < 2 ^ b /\ b <= 12 := by
 go_enter Tryz.func26, Tryz.ntmps26
 go_wp2
 go_loopw [0, 3] (fun x y w' => ∃ (k b : Nat), x = .int .i64 k /\ y = .int .i64 b /\ w = w' /\ i < 2 ^ b * (k + 1) /\ 2 ^ b * k <= i /\ b <= 12) (fun x _ _ => (intOf x).toNat)
 case atStart => exact ⟨i, 0, rfl, rfl, rfl, by omega, by omega, by omega⟩
 case round =>
   obtain ⟨k, b, rfl, rfl, rfl, h1, h2, h3⟩ := hrel
   have H1 := hid h1
   have H2 := hid h2
   have h3i : (b : Int) <= 12 := by omega
   by_cases hk : 0 < k
   · have hki : 0 < (k : Int) := by omega
     have hb : b < 12 := by
       rcases Nat.lt_or_ge b 12 with q | q
       · exact q
       · exfalso
         obtain rfl : b = 12 := by omega
         omega
     have hk5 : (k : Int) <= 4095 := by
       have a1 : k <= 2 ^ b * k := Nat.le_mul_of_pos_left _ (Nat.two_pow_pos b)
       omega
     have HKB := hid (show i < 2 ^ (b + 1) * (k / 2 + 1) /\ 2 ^ (b + 1) * (k / 2) <= i by
       rw [Nat.pow_succ, Nat.mul_assoc, Nat.mul_assoc]
       have a1 : 2 ^ b * (k + 1) <= 2 ^ b * (2 * (k / 2 + 1)) := Nat.mul_le_mul_left _ (by omega)
       have a2 : 2 ^ b * (2 * (k / 2)) <= 2 ^ b * k := Nat.mul_le_mul_left _ (by omega)
       omega)
     clear h1 h2
     go_wp2
     go_roundw
     case rel => exact ⟨k / 2, b + 1, by first | rfl | go_num | (congr 1), by first | rfl | go_num, by first | rfl | trivial, HKB.out.1, HKB.out.2, by omega⟩
     case measure => simp [intOf]; omega
   · obtain rfl : k = 0 := by omega
     clear h1 h2
     go_wp2
     go_ret
     exact ⟨b, rfl, rfl, by have := H1.out; simpa using this, h3⟩
theorem hwrapped_any (w : World) (i : Int) (hi : -9223372036854775808 <= i /\ i <= 9223372036854775807) (n : Nat) (h1 : 1 <= n) (h2 : n <= 4096) : Calls Tryz.prog 12 #[.int .i64 i, .int .i64 n] w fun e w' => ∃ r : Nat, r < n /\ e = .returned (.int .i64 r) /\ w = w' := by
 have hn0 : (n : Int) ≠ 0 := by omega
 have hni : (n : Int) <= 4096 := by omega
 have hn1 : 1 <= (n : Int) := by omega
 obtain ⟨m, hm⟩ : ∃ m, i.tmod (n : Int) = m := ⟨_, rfl⟩
 have hm1 : -(n : Int) < m /\ m < (n : Int) := by
   rw [<- hm]
   have a1 := Int.lt_tmod_of_pos i (b := (n : Int)) (by omega)
   have a2 := Int.tmod_lt_of_pos i (b := (n : Int)) (by omega)
   omega
 obtain ⟨m1, m2⟩ := hm1
 have m3 : -4096 <= m := by omega
 have m4 : m <= 4096 := by omega
 by_cases hz : m < 0
 · go_enter Tryz.func12, Tryz.ntmps12
   go_wp2
   go_ret
   exact ⟨(m + n).toNat, by omega, by rw [Int.toNat_of_nonneg (by omega)]; first | rfl | (rw [<- hm]) | (rw [hm]), rfl⟩
 · go_enter Tryz.func12, Tryz.ntmps12
   go_wp2
   go_ret
   exact ⟨m.toNat, by omega, by rw [Int.toNat_of_nonneg (by omega)]; first | rfl | (rw [<- hm]) | (rw [hm]), rfl⟩
theorem ibounds_any (w : World) (base : Nat) (S : Sto) (P : List (Int × List Int)) (b : Nat) (h : Ls w base S P b) (hb : b <= 1000000000000000000) (q : Int) (r : Rc) (hst : Stands P q r) :
   Calls Tryz.prog 16 #[.pointer (some ⟨S.st, 0, none⟩), .int .i64 q] w fun e w' => ∃ S', e = .returned (.tuple #[.int .i64 r.f, .int .i64 r.v, .int .i64 0]) /\ Ls w' base S' P (b + 1) /\ Stp w S w' S' := by
 have KR := hid (h.ready q (Or.inr ⟨hst.lo, hst.hi⟩) w (Below.refl _ _))
 have AS2 := hid allocSp
 have LC0 := hid (spC_len 0 rc0_ok)
 have LQ := hid (spC_len q hst.ok)
 have OQ := hid (spC_one q r)
 have q1 := hid (show (spC q r)[1]? = some (.int .i64 r.v) from rfl)
 have q2 := hid (show (spC q r)[2]? = some (.int .i64 r.f) from rfl)
 have hq0 : (q == 0) = false := by have := hst.lo; simp; omega
 have KL := hid (fun (w1 : World) (hl : Ls w1 base S P b) => look_any w1 base S P b hl hb q ⟨hst.lo, hst.hi⟩)
 have EV := hid (show lookS P q = spC q r by unfold lookS; rw [hst.lk])
 have EE := hid (show lookE P q = 0 by unfold lookE; rw [hst.lk])
 generalize spC q r = Z at *
 generalize spC 0 rc0 = Z0 at *
 generalize r.v = rv at *
 generalize r.f = rf at *
 have HL1 := hid (Lc.start h)
 clear h hst
 go_enter Tryz.func16, Tryz.ntmps16
 go_wp2_with fail
 refine KR.out.mono ?_
 rintro e W1 ⟨rfl, hb1⟩
 have HL1' := hid (HL1.out.call hb1)
 clear HL1 KR hb1
 go_wp2_with fail
 refine (KL.out W1 HL1'.out.ls).mono ?_
 rintro e W2 ⟨S2, rfl, hl2, hs2⟩
 have HL2 := hid (HL1'.out.store hl2 hs2)
 clear hl2 hs2 HL1' KL
 rw [EV.out, EE.out]
 go_wp2_with (first
   | (refine wpList_new AS2.out LC0.out Tryz.sizeSp rfl rfl rfl _ _ rfl rfl Z rfl rfl LQ.out OQ.out ?_; refine Hid.out ?_))
 refine hid ?_
 have HL3 := hid (HL2.out.alloc Z 91)
 generalize W2.heap.size = G8 at *
 clear HL2
 generalize W2.alloc (.cells Z.toArray 91) = W3 at *
 have c81 := HL3.out.cell (k := G8) (C := Z) (t := 91) (j := 1) (by simp) q1.out
 have c82 := HL3.out.cell (k := G8) (C := Z) (t := 91) (j := 2) (by simp) q2.out
 have HLD := hid HL3.out.drew
 go_upto_region 9 with fail
 go_region
 go_wp2_with fail
 go_ret3
 exact ⟨S2, rfl, HLD.out.ls, HLD.out.sp⟩
end Go.Proofs.YtbnghhgeoodphaaGreatDoor
namespace Go.Proofs.YtbnghhgeoodphaaGreatDoor
set_option maxRecDepth 100000
set_option maxHeartbeats 40000000
set_option linter.unusedVariables false
set_option linter.unusedSimpArgs false
open Go.RowKit
open Go.Proofs.YtbnghhgeoodphaaGreatDoor.Ca (Ct ct0 ctC argV AS)
attribute [local go_sem ↓] Go.wp_at_zero Go.wp_at_succ
attribute [local go_sem] Oper.semAt_some
def lastRc (Y : List Wy) : Rc := match Y.getLast? with | some x => fxR x.2.1 | none => rc0
theorem lastRc_snoc (Y : List Wy) (x : Wy) : lastRc (Y ++ [x]) = fxR x.2.1 := by simp [lastRc]
theorem lastRc_ok (Y : List Wy) : RcOk (lastRc Y) := by
 unfold lastRc
 split
 · exact fxR_is _
 · exact rc0_ok
theorem exec_load_mid {P : Program} {o : Oper} {a : Act} {w : World} (ty : TypeId) (x : Operand) (ho : o.op = .load ty x) (b off : Nat) (hx : a.eval x = .pointer (some ⟨b, off, none⟩)) (cs : List Value) (d : TypeDesc) (hc : w.rangeAt b off cs) (hu : P.underlying ty = some d) (hd : d.isRow = true) (hi : (P.info? ty).map (·.size) = some cs.length) :
   (execOp a.eval o).run P w = .ok (.value (.agg cs.toArray)) w := by
 unfold execOp
 simp only [ho, hx, Instr.loadAt, Instr.sureAddr, Sem.run_bind, Sem.run_pure, Result.andThen_ok, run_loadVar_mid w b off ty cs d hc hu hd hi]
theorem exec_build {P : Program} {o : Oper} {a : Act} {w : World} (ty : TypeId) (fs : Array (Nat × Operand)) (ho : o.op = .build ty fs) (hf : fs = #[]) (cs : Array Value) (hb : P.built ty [] = some cs) :
   (execOp a.eval o).run P w = .ok (.value (.agg cs)) w := by
 subst hf
 unfold execOp
 simp only [ho]
 simp [Sem.run_bind, run_build w ty _ cs hb]
theorem results_rii {P : Program} {fn : Func} {p q s : Tmp} {tr ty ty2 : TypeId} (h : fn.results = #[.cell p tr, .cell q ty, .cell s ty2]) (tmps : Array Value) (w : World) (g0 g g2 : Nat) (x0 x y : Value) (hp0 : tmps.getD p undef = .pointer (some ⟨g0, 0, none⟩)) (hp : tmps.getD q undef = .pointer (some ⟨g, 0, none⟩)) (hq : tmps.getD s undef = .pointer (some ⟨g2, 0, none⟩)) (hx0 : (loadVar tr ⟨g0, 0, none⟩).run P w = .ok x0 w) (hx : (loadVar ty ⟨g, 0, none⟩).run P w = .ok x w) (hy : (loadVar ty2 ⟨g2, 0, none⟩).run P w = .ok y w) :
   (results fn tmps).run P w = .ok (.tuple #[x0, x, y]) w := by
 have hp0' : tmps[p]?.getD undef = .pointer (some ⟨g0, 0, none⟩) := by simpa using hp0
 have hp' : tmps[q]?.getD undef = .pointer (some ⟨g, 0, none⟩) := by simpa using hp
 have hq' : tmps[s]?.getD undef = .pointer (some ⟨g2, 0, none⟩) := by simpa using hq
 simp [results, h, hp0', hp', hq', asAddr, hx0, hx, hy]
def LastP (w : World) (base : Nat) (S : Sto) (P : List (Int × List Int)) (b : Nat) (C : List Value) (n : Int) (e : Ending) (w' : World) : Prop := ∃ S', e = .returned (.tuple #[.agg C.toArray, .int .i64 n, .int .i64 0]) /\ Ls w' base S' P b /\ Stp w S w' S'
theorem last_way (w : World) (base : Nat) (S : Sto) (P : List (Int × List Int)) (b : Nat) (h : Ls w base S P b) (q : Int) (r : Rc) (hst : Stands P q r) (t : Int) (ht : 1 <= t) (Y : List Wy) (hY : Way P t q r Y) (hb : b + Y.length <= 1000000000000000000) (hy0 : ∀ y ∈ Y, y.2.2 = 0) :
   Calls Tryz.prog 39 #[.pointer (some ⟨S.st, 0, none⟩), .agg (spC q r).toArray, .int .i64 t] w (LastP w base S P (b + Y.length) (rcC (lastRc Y)) (Y.length : Int)) := by
 have L1 := ((((((Lc.start h).alloc (spC q r) 91).alloc (rcC rc0) 49).alloc [.int .i64 0] 3).alloc [.int .i64 0] 35).alloc (rcC rc0) 49).alloc [.int .i64 0] 3
 simp only [World.size_alloc] at L1
 obtain ⟨G6, hG6⟩ : ∃ G6, w.heap.size + 1 = G6 := ⟨_, rfl⟩
 obtain ⟨G7, hG7⟩ : ∃ G7, w.heap.size + 1 + 1 = G7 := ⟨_, rfl⟩
 obtain ⟨G8, hG8⟩ : ∃ G8, w.heap.size + 1 + 1 + 1 = G8 := ⟨_, rfl⟩
 obtain ⟨G9, hG9⟩ : ∃ G9, w.heap.size + 1 + 1 + 1 + 1 = G9 := ⟨_, rfl⟩
 obtain ⟨G10, hG10⟩ : ∃ G10, w.heap.size + 1 + 1 + 1 + 1 + 1 = G10 := ⟨_, rfl⟩
 rw [hG10, hG9, hG8, hG7, hG6] at L1
 have HG := hid (show w.heap.size + 1 = G6 /\ G6 + 1 = G7 /\ G7 + 1 = G8 /\ G8 + 1 = G9 /\ G9 + 1 = G10 by omega)
 have HS := hid (show (Tryz.prog.info? 91).map (·.size) = some (spC q r).toArray.size by rw [Tryz.sizeSp, List.size_toArray, spC_len q hst.ok])
 have KW := hid (fun w1 => way_make w1 S.st q r t)
 have R0 := hid (L1.row (k := w.heap.size) (C := spC q r) (t := 91) (by simp))
 have HL1 := hid L1
 have HST := hid hst
 have HT := hid ht
 have HY := hid hY
 have HY0 := hid hy0
 have HBB := hid hb
 have HGE := hid (And.intro hG6 (And.intro hG7 (And.intro hG8 (And.intro hG9 hG10))))
 generalize hZ : spC q r = Z at *
 have HZ := hid hZ
 obtain ⟨C0, hC0⟩ : ∃ C0, rcC rc0 = C0 := ⟨_, rfl⟩
 have HC0 := hid hC0
 have HR0 := hid rc0_ok
 have LC0 := hid (show C0.length = 38 by rw [<- hC0]; exact rcC_len rc0_ok)
 have OC0 := hid (show ∀ y ∈ C0, y.oneCell' = true by rw [<- hC0]; exact rcC_one rc0)
 have BC0 := hid (show Tryz.prog.built 49 [] = some C0.toArray by rw [<- hC0]; kernel_rfl)
 rw [hC0] at HL1 R0
 clear h hst L1 hZ ht hY hb hy0 hG6 hG7 hG8 hG9 hG10
 refine (callsIn_wide (n := 9)).1 ?_
 refine callsIn_of_wp_marks Tryz.func39 rfl trivial ?_ rfl
 refine wpIn_wide.2 ?_
 simp only [Tryz.ntmps39, List.size_toArray, List.length_cons, List.length_nil, Nat.reduceAdd, Nat.reduceSub, Array.replicate_succ, Array.replicate_zero, List.push_toArray, List.append_toArray, List.nil_append, List.cons_append]
 go_upto_region 3 with (first | refine wpList_allocRc (by rfl) rfl ?_)
 clear hC0
 have WE : Hid (((((((w.alloc (.cells Z.toArray 91)).alloc (.cells C0.toArray 49)).alloc (.cells #[.int .i64 0] 3)).alloc (.cells #[.int .i64 0] 35)).alloc (.cells C0.toArray 49)).alloc (.cells #[.int .i64 0] 3)).heap.size = G10 + 1) := hid (by simp only [World.size_alloc]; have := HG.out; omega)
 have HL2 := hid (show Lc w base S P b ((((((w.alloc (.cells Z.toArray 91)).alloc (.cells C0.toArray 49)).alloc (.cells #[.int .i64 0] 3)).alloc (.cells #[.int .i64 0] 35)).alloc (.cells C0.toArray 49)).alloc (.cells #[.int .i64 0] 3)) S _ from HL1.out)
 clear HL1
 rw [HGE.out.2.2.2.2, HGE.out.2.2.2.1, HGE.out.2.2.1, HGE.out.2.1, HGE.out.1]
 clear HGE
 generalize (((((w.alloc (.cells Z.toArray 91)).alloc (.cells C0.toArray 49)).alloc (.cells #[.int .i64 0] 3)).alloc (.cells #[.int .i64 0] 35)).alloc (.cells C0.toArray 49)).alloc (.cells #[.int .i64 0] 3) = w4 at *
 go_wp2_with (first | refine wpList_load_row_w (by rfl) 91 (.tmp 4) (by rfl) _ (by rfl) 91 _ _ _ R0.out Tryz.underlying91 rfl HS.out ?_)
 refine (KW.out _).mono ?_
 rintro e w5 ⟨rfl, hw5⟩
 have L5 := ((HL2.out.alloc [.pointer (some ⟨S.st, 0, none⟩)] 27).alloc Z 91).alloc [.int .i64 t] 3
 simp only [World.size_alloc] at L5
 have hw6 : w5 = ((w4.alloc (.cells #[.pointer (some ⟨S.st, 0, none⟩)] 27)).alloc (.cells Z.toArray 91)).alloc (.cells #[.int .i64 t] 3) := hw5
 have sz5 : w5.heap.size = w4.heap.size + 1 + 1 + 1 := by rw [hw6]; simp
 have L6 : Lc w base S P b w5 S [(w4.heap.size + 1 + 1, [.int .i64 t], 3), (w4.heap.size + 1, Z, 91), (w4.heap.size, [.pointer (some ⟨S.st, 0, none⟩)], 27), (G10, [.int .i64 0], 3), (G9, C0, 49), (G8, [.int .i64 0], 35), (G7, [.int .i64 0], 3), (G6, C0, 49), (w.heap.size, Z, 91)] := by rw [hw6]; exact L5
 clear L5 hw5 hw6 HL2 R0 KW
 obtain ⟨g3, hg3⟩ : ∃ g3, w4.heap.size = g3 := ⟨_, rfl⟩
 have n1 : w.heap.size < G6 /\ G6 < G7 /\ G7 < G8 /\ G8 < G9 /\ G9 < G10 /\ g3 = G10 + 1 /\ w5.heap.size = g3 + 1 + 1 + 1 := by
   have a1 := HG.out
   have a2 := WE.out
   refine ⟨?_, ?_, ?_, ?_, ?_, ?_, ?_⟩ <;> omega
 rw [hg3] at L6
 have NN := hid n1
 have HL6 := hid L6
 have HG3e := hid hg3
 clear n1 L6 hg3 sz5 WE HG
 rw [HG3e.out]
 go_wp2_with fail
 clear HG3e
 refine (wpIn_wide (n := 9)).1 ?_
 have rowI : ∀ {W : World} {k : Nat} {x : Int} {ty : TypeId}, W.heap[k]? = some (.cells #[.int .i64 x] ty (0, 0)) -> W.cell? ⟨k, 0, none⟩ = some (.int .i64 x) /\ W.frozen? ⟨k, 0, none⟩ = false := fun hr => ⟨by rw [cell_of_row _ _ _ _ _ _ hr]; rfl, frozen_of_row _ _ _ _ _ hr⟩
 have setI : ∀ {W : World} {k : Nat} {x : Int} {ty : TypeId} (y : Int), W.heap[k]? = some (.cells #[.int .i64 x] ty (0, 0)) -> (W.setCell ⟨k, 0, none⟩ (.int .i64 y)).heap[k]? = some (.cells #[.int .i64 y] ty (0, 0)) := fun y hr => heap_setCell_same _ _ _ _ _ _ hr
 refine range_iter (F := Fence.wide) (n := 9) rfl (by omega) (gf := 101) (lb := #[.pointer (some ⟨g3 + 1, 0, none⟩), .pointer (some ⟨g3 + 2, 0, none⟩), .pointer (some ⟨g3, 0, none⟩)]) rfl trivial (enters_of Tryz.func101 (by kernel_rfl) rfl) (encs := wyC) (own := [G6, G7, G8, G9, G10]) (Sq := fun xs => xs = Y) (Sp := fun pre => pre <+: Y) (N := Y.length)
   (Z := fun W' => ∃ S', Lc w base S P (b + Y.length) W' S' [] /\ S'.st = S.st /\ ∀ k ∈ w5.heap.size :: (w5.heap.size + 1) :: [G6, G7, G8, G9, G10], k ∉ S'.fp) ?own ?it ?z (fun x => rfl)
   (fun pre W => (W.heap[G6]? = some (.cells C0.toArray 49 (0, 0)) /\ W.heap[G7]? = some (.cells #[.int .i64 0] 3 (0, 0)) /\ W.heap[G8]? = some (.cells #[.int .i64 0] 35 (0, 0))) /\ W.heap[G9]? = some (.cells (rcC (lastRc pre)).toArray 49 (0, 0)) /\ W.heap[G10]? = some (.cells #[.int .i64 (pre.length : Int)] 3 (0, 0)) /\ ∀ x ∈ pre, x.2.2 = 0)
   (fun c pre W => lastEr pre ≠ 0)
   ?rI ?rIx ?i0
   (fun x a' W => ∃ Bx, Bx ≠ w5.heap.size + 1 /\ Bx ≠ G6 /\ Bx ≠ G7 /\ Bx ≠ G8 /\ Bx ≠ G9 /\ Bx ≠ G10 /\ W.heap[Bx]? = some (.cells (spC x.1 (fxR x.2.1)).toArray 91 (0, 0)) /\ a' = { tmps := #[.pointer (some ⟨S.st, 0, none⟩), .agg Z.toArray, .int .i64 t, undef, .pointer (some ⟨w.heap.size, 0, none⟩), undef, .pointer (some ⟨G6, 0, none⟩), .pointer (some ⟨G7, 0, none⟩), .pointer (some ⟨G8, 0, none⟩), .pointer (some ⟨G9, 0, none⟩), .pointer (some ⟨G10, 0, none⟩), .pointer (some ⟨Bx, 0, none⟩), .int .i64 x.2.2, .pointer (some ⟨S.st, 0, none⟩), .agg Z.toArray, .int .i64 t, .func (.func 101) #[] #[.pointer (some ⟨g3 + 1, 0, none⟩), .pointer (some ⟨g3 + 2, 0, none⟩), .pointer (some ⟨g3, 0, none⟩)], .agg (spC x.1 (fxR x.2.1)).toArray, .int .i64 x.2.2, undef, undef, undef, undef, undef, undef, undef, undef, undef, undef], defers := [] }) ?ax ?assign ?body ?done ?stop
 case own =>
   intro k hk
   simp only [List.mem_cons, List.not_mem_nil, or_false] at hk
   have := NN.out
   rcases hk with rfl | rfl | rfl | rfl | rfl <;> omega
 case it =>
   intro o
   have hbel : Below w5.heap.size w5 ((w5.alloc (.deferred (some []))).alloc o) := ((Below.refl _ w5).alloc (Nat.le_refl _) _).alloc (by simp) _
   have L7 := HL6.out.call hbel
   have hN := NN.out
   refine way_iter 8 w base S P b _ S g3 (g3 + 1) (g3 + 2) w5.heap.size [G6, G7, G8, G9, G10] q r t Y ?_ HBB.out HST.out HT.out HY.out ?_
   · rw [HZ.out]
     exact L7.sub (fun x hx => by
       simp only [List.mem_cons, List.not_mem_nil, or_false] at hx ⊢
       rcases hx with rfl | rfl | rfl <;> simp)
   · intro k hk
     have hfp : ∀ i, w5.heap.size <= i -> i ∉ S.fp := fun i hi z => by have := (HL6.out.ls.sk.fpIn z).2; omega
     have r6 := (HL6.out.rows (G6, C0, 49) (by simp)).2.2
     have r7 := (HL6.out.rows (G7, [.int .i64 0], 3) (by simp)).2.2
     have r8 := (HL6.out.rows (G8, [.int .i64 0], 35) (by simp)).2.2
     have r9 := (HL6.out.rows (G9, C0, 49) (by simp)).2.2
     have r10 := (HL6.out.rows (G10, [.int .i64 0], 3) (by simp)).2.2
     simp only [List.mem_cons, List.not_mem_nil, or_false] at hk
     rcases hk with rfl | rfl | rfl | rfl | rfl | rfl | rfl
     · exact ⟨by simp; omega, hfp _ (Nat.le_refl _), by omega, by omega, by omega⟩
     · exact ⟨by simp, hfp _ (by omega), by omega, by omega, by omega⟩
     · exact ⟨by simp; omega, r6, by omega, by omega, by omega⟩
     · exact ⟨by simp; omega, r7, by omega, by omega, by omega⟩
     · exact ⟨by simp; omega, r8, by omega, by omega, by omega⟩
     · exact ⟨by simp; omega, r9, by omega, by omega, by omega⟩
     · exact ⟨by simp; omega, r10, by omega, by omega, by omega⟩
 case z =>
   rintro W o ⟨S', l9, s9, k9⟩
   exact ⟨S', l9.put ⟨by have := NN.out; omega, k9 _ (by simp)⟩ o, s9, k9⟩
 case rI =>
   rintro pre W W' ⟨⟨a1, a2, a3⟩, a4, a5, a6⟩ hk
   exact ⟨⟨(hk G6 (by simp)).trans a1, (hk G7 (by simp)).trans a2, (hk G8 (by simp)).trans a3⟩, (hk G9 (by simp)).trans a4, (hk G10 (by simp)).trans a5, a6⟩
 case rIx => exact fun c pre W W' h _ => h
 case i0 => exact ⟨⟨HL6.out.row (k := G6) (C := C0) (t := 49) (by simp), HL6.out.row (k := G7) (C := [.int .i64 0]) (t := 3) (by simp), HL6.out.row (k := G8) (C := [.int .i64 0]) (t := 35) (by simp)⟩, by rw [show rcC (lastRc []) = C0 from HC0.out]; exact HL6.out.row (k := G9) (C := C0) (t := 49) (by simp), HL6.out.row (k := G10) (C := [.int .i64 0]) (t := 3) (by simp), fun x hx => by cases hx⟩
 case ax =>
   rintro x a' W o ⟨Bx, b1, b2, b3, b4, b5, b6, b7, b8⟩
   exact ⟨Bx, b1, b2, b3, b4, b5, b6, (World.putObj_heap_other b1).trans b7, b8⟩
 case assign =>
   rintro l pre x W K hI hlt hK
   have hN := NN.out
   have hB := fun Y9 => below_new W (.cells Y9 91)
   have ef : ∀ T : Array Value, Array.foldl (fun (t : Array Value) (x : Tmp × Value) => match x with | (p, v) => t.setIfInBounds p v) T ((#[17, 18] : Array Tmp).zip (wyC x)) = (T.setIfInBounds 17 (.agg (spC x.1 (fxR x.2.1)).toArray)).setIfInBounds 18 (.int .i64 x.2.2) := fun T => by simp [wyC]
   rw [ef]
   show Code.wpIn (Fence.wide.inRound l) 7 Tryz.prog _ _ { tmps := #[.pointer (some ⟨S.st, 0, none⟩), .agg Z.toArray, .int .i64 t, undef, .pointer (some ⟨w.heap.size, 0, none⟩), undef, .pointer (some ⟨G6, 0, none⟩), .pointer (some ⟨G7, 0, none⟩), .pointer (some ⟨G8, 0, none⟩), .pointer (some ⟨G9, 0, none⟩), .pointer (some ⟨G10, 0, none⟩), undef, undef, .pointer (some ⟨S.st, 0, none⟩), .agg Z.toArray, .int .i64 t, .func (.func 101) #[] #[.pointer (some ⟨g3 + 1, 0, none⟩), .pointer (some ⟨g3 + 2, 0, none⟩), .pointer (some ⟨g3, 0, none⟩)], .agg (spC x.1 (fxR x.2.1)).toArray, .int .i64 x.2.2, undef, undef, undef, undef, undef, undef, undef, undef, undef, undef], defers := [] } W
   refine wpIn_seq ?_
   refine wpIn_region_lit ?_
   refine rl_val rfl (fun c z => by cases z) (allocSp _ _ _ rfl) ?_
   refine rl_skip rfl (fun c z => by cases z) (exec_store_row 91 _ _ rfl W.heap.size (spC x.1 (fxR x.2.1)).toArray rfl rfl 91 (spC 0 rc0).toArray (hnew W _) (by rw [Tryz.sizeSp, List.size_toArray, spC_len _ (fxR_is _)]) (by rw [List.size_toArray, List.size_toArray, spC_len _ (fxR_is _), spC_len _ rc0_ok]) (all_oneCell_toArray (spC_one _ _))) ?_
   refine wpListIn_nil ?_
   rw [setRow_alloc]
   show Code.wpIn _ _ _ _ _ _ _
   refine wpIn_region_lit ?_
   refine rl_val (v := .int .i64 x.2.2) rfl (fun c z => by cases z) (by rfl) ?_
   refine wpListIn_nil ?_
   obtain ⟨⟨j1, j2, j3⟩, j4, j5, j6⟩ := hI
   refine hK _ _ (Fr.of_below (hB _)) ⟨⟨((hB _).block _ (by omega)).trans j1, ((hB _).block _ (by omega)).trans j2, ((hB _).block _ (by omega)).trans j3⟩, ((hB _).block _ (by omega)).trans j4, ((hB _).block _ (by omega)).trans j5, j6⟩ ⟨W.heap.size, by omega, by omega, by omega, by omega, by omega, by omega, hnew W _, rfl⟩
 case body =>
   rintro l pre x a' W ⟨⟨i1, i2, i3⟩, i4, i5, i6⟩ ⟨Bx, b1, b2, b3, b4, b5, b6, b7, rfl⟩ hlen
   have hN := NN.out
   obtain ⟨cc7, ff7⟩ := rowI i2
   obtain ⟨cc8, ff8⟩ := rowI i3
   obtain ⟨cc10, ff10⟩ := rowI i5
   have I1 := hid i1
   have I2 := hid i2
   have I3 := hid i3
   have I4 := hid i4
   have I5 := hid i5
   have I6 := hid i6
   have B7 := hid b7
   have LL := hid (rcC_len (lastRc_ok pre))
   have hpl : (pre.length : Int) <= 1000000000000000000 := by have := HBB.out; omega
   have hp0 : 0 <= (pre.length : Int) := by omega
   have NE := hid (show G9 ≠ G10 /\ G9 ≠ G6 /\ G9 ≠ G7 /\ G9 ≠ G8 /\ G10 ≠ G6 /\ G10 ≠ G7 /\ G10 ≠ G8 by omega)
   clear i1 i2 i3 i4 i5 i6 b7 b1 b2 b3 b4 b5 b6 hN hlen
   by_cases hx : x.2.2 = 0
   · have hx1 : (x.2.2 != 0) = false := by simpa using hx
     have HX0 : Hid (∀ y ∈ pre ++ [x], y.2.2 = 0) := hid (fun y hy => by
       rcases List.mem_append.1 hy with z | z
       · exact I6.out y z
       · rw [List.mem_singleton.1 z]; exact hx)
     have HRG : Hid (W.rangeAt Bx 1 (rcC (fxR x.2.1))) := hid (fun j v hv => by
       rw [cell_of_row _ _ _ _ _ _ B7.out]
       simp only [List.getElem?_toArray, spC]
       rw [Nat.add_comm 1 j, List.getElem?_cons_succ]; exact hv)
     have LX := hid (rcC_len (fxR_is x.2.1))
     have SX := hid (show (Tryz.prog.info? 49).map (·.size) = some (rcC (fxR x.2.1)).length by rw [Tryz.sizeRc, rcC_len (fxR_is x.2.1)])
     have OX := hid (rcC_one (fxR x.2.1))
     have EL := hid (lastRc_snoc pre x)
     clear hx
     generalize spC x.1 (fxR x.2.1) = XX at *
     generalize hCX : rcC (fxR x.2.1) = CX at *
     have HCX := hid hCX
     clear hCX
     generalize hCL : rcC (lastRc pre) = CL at *
     clear hCL
     generalize x.2.2 = xe at *
     have I10 := hid (show (W.setRow G9 CX.toArray).heap[G10]? = some (.cells #[.int .i64 (pre.length : Int)] 3 (0, 0)) from (setRow_other W _ _ _ (fun z => NE.out.1 z.symm)).trans I5.out)
     clear cc10 ff10 cc7 ff7 cc8 ff8
     obtain ⟨cc10, ff10⟩ := rowI I10.out
     gi_wp2_with (first
       | refine rl_val rfl (fun c z => by cases z) (exec_load_mid 49 _ rfl Bx 1 rfl CX _ HRG.out Tryz.underlying49 rfl SX.out) ?_
       | refine rl_skip rfl (fun c z => by cases z) (exec_store_row 49 _ _ rfl G9 CX.toArray rfl rfl 49 CL.toArray I4.out (by rw [Tryz.sizeRc, List.size_toArray, LX.out]) (by rw [List.size_toArray, List.size_toArray, LL.out, LX.out]) (all_oneCell_toArray OX.out)) ?_)
     have frR : Fr [G6, G7, G8, G9, G10] W (W.setRow G9 CX.toArray) := ⟨rfl, rfl, rfl, by simp, fun k _ hn => setRow_other W _ _ _ (fun e => hn (by simp [e]))⟩
     obtain ⟨n1, n2, n3, n4, n5, n6, n7⟩ := NE.out
     refine ⟨frR.setCell (by simp) 0 _, ⟨?_, ?_, ?_⟩, ?_, ?_, HX0.out⟩
     · exact (heap_setCell_other _ ⟨G10, 0, none⟩ G6 _ (fun z => n5 z.symm)).trans ((setRow_other W _ _ _ (fun z => n2 z.symm)).trans I1.out)
     · exact (heap_setCell_other _ ⟨G10, 0, none⟩ G7 _ (fun z => n6 z.symm)).trans ((setRow_other W _ _ _ (fun z => n3 z.symm)).trans I2.out)
     · exact (heap_setCell_other _ ⟨G10, 0, none⟩ G8 _ (fun z => n7 z.symm)).trans ((setRow_other W _ _ _ (fun z => n4 z.symm)).trans I3.out)
     · rw [EL.out, HCX.out]
       exact (heap_setCell_other _ ⟨G10, 0, none⟩ G9 _ n1).trans (setRow_heap W _ _ _ _ _ I4.out)
     · have := setI ((pre.length : Int) + 1) I10.out
       rw [List.length_append, List.length_singleton, show ((pre.length + 1 : Nat) : Int) = (pre.length : Int) + 1 by push_cast; rfl]
       exact this
   · have hx1 : (x.2.2 != 0) = true := by simpa using hx
     have HX0 := hid (show lastEr (pre ++ [x]) ≠ 0 by rw [lastEr_snoc]; exact hx)
     clear hx cc10 ff10 cc7 ff7 cc8 ff8
     generalize spC x.1 (fxR x.2.1) = XX at *
     generalize x.2.2 = xe at *
     have I7 := hid (show (W.setRow G6 C0.toArray).heap[G7]? = some (.cells #[.int .i64 0] 3 (0, 0)) from (setRow_other W _ _ _ (by have := NN.out; omega)).trans I2.out)
     have I8 := hid (show (W.setRow G6 C0.toArray).heap[G8]? = some (.cells #[.int .i64 0] 35 (0, 0)) from (setRow_other W _ _ _ (by have := NN.out; omega)).trans I3.out)
     obtain ⟨cc7, ff7⟩ := rowI I7.out
     obtain ⟨cc8, ff8⟩ := rowI I8.out
     have n78 : G7 ≠ G8 := by have := NN.out; omega
     gi_wp2_with (first
       | refine rl_val rfl (fun c z => by cases z) (exec_build 49 _ rfl rfl _ BC0.out) ?_
       | refine rl_skip rfl (fun c z => by cases z) (exec_store_row 49 _ _ rfl G6 C0.toArray rfl rfl 49 C0.toArray I1.out (by rw [Tryz.sizeRc, List.size_toArray, LC0.out]) rfl (all_oneCell_toArray OC0.out)) ?_)
     have frR : Fr [G6, G7, G8, G9, G10] W (W.setRow G6 C0.toArray) := ⟨rfl, rfl, rfl, by simp, fun k _ hn => setRow_other W _ _ _ (fun e => hn (by simp [e]))⟩
     exact ⟨(frR.setCell (by simp) 0 _).setCell (by simp) 0 _, HX0.out⟩
 case done =>
   rintro xs W hxs ⟨S9, l9, s9, k9⟩ hi hD
   rw [show xs = Y from hxs] at hi
   obtain ⟨⟨i1, i2, i3⟩, i4, i5, i6⟩ := hi
   have hN := NN.out
   have LL := hid (rcC_len (lastRc_ok Y))
   have OL := hid (rcC_one (lastRc Y))
   have SL := hid (show (Tryz.prog.info? 49).map (·.size) = some (rcC (lastRc Y)).length by rw [Tryz.sizeRc, rcC_len (lastRc_ok Y)])
   generalize rcC (lastRc Y) = CL at *
   generalize (Y.length : Int) = n at *
   have D9 := (l9.drew)
   have j1 : W.drew.heap[G6]? = some (.cells C0.toArray 49 (0, 0)) := i1
   have j2 : W.drew.heap[G7]? = some (.cells #[.int .i64 0] 3 (0, 0)) := i2
   have j3 : W.drew.heap[G8]? = some (.cells #[.int .i64 0] 35 (0, 0)) := i3
   have j4 : W.drew.heap[G9]? = some (.cells CL.toArray 49 (0, 0)) := i4
   have j5 : W.drew.heap[G10]? = some (.cells #[.int .i64 n] 3 (0, 0)) := i5
   have jD : W.drew.heap[w5.heap.size]? = some (.deferred (some [])) := hD
   have K6 := k9 G6 (by simp)
   have K7 := k9 G7 (by simp)
   have K8 := k9 G8 (by simp)
   have KD := k9 w5.heap.size (by simp)
   obtain ⟨WA, hWA⟩ : ∃ WA, W.drew.setRow G6 CL.toArray = WA := ⟨_, rfl⟩
   have mA : ∀ k, k ≠ G6 -> WA.heap[k]? = W.drew.heap[k]? := fun k hk => by rw [<- hWA]; exact setRow_other _ _ _ _ hk
   have a6 : WA.heap[G6]? = some (.cells CL.toArray 49 (0, 0)) := by rw [<- hWA]; exact setRow_heap _ _ _ _ _ _ j1
   have a7 := (mA G7 (by omega)).trans j2
   have a8 := (mA G8 (by omega)).trans j3
   have a9 := (mA G9 (by omega)).trans j4
   have a10 := (mA G10 (by omega)).trans j5
   have aD := (mA w5.heap.size (by omega)).trans jD
   have A9 : Lc w base S P (b + Y.length) WA S9 [] := by
     rw [<- hWA]
     refine D9.round (B := [G6]) ⟨rfl, rfl, rfl, by simp, fun k _ hn => setRow_other _ _ _ _ (fun e => hn (by simp [e]))⟩ (fun i hi => ?_) (fun x q => by cases q)
     rw [List.mem_singleton.1 hi]; exact ⟨by omega, K6⟩
   obtain ⟨WB, hWB⟩ : ∃ WB, WA.setCell ⟨G7, 0, none⟩ (.int .i64 n) = WB := ⟨_, rfl⟩
   have mB : ∀ k, k ≠ G7 -> WB.heap[k]? = WA.heap[k]? := fun k hk => by rw [<- hWB]; exact heap_setCell_other WA ⟨G7, 0, none⟩ k _ hk
   have b6 := (mB G6 (by omega)).trans a6
   have b7 : WB.heap[G7]? = some (.cells #[.int .i64 n] 3 (0, 0)) := by rw [<- hWB]; exact setI _ a7
   have b8 := (mB G8 (by omega)).trans a8
   have b9 := (mB G9 (by omega)).trans a9
   have b10 := (mB G10 (by omega)).trans a10
   have bD := (mB w5.heap.size (by omega)).trans aD
   have B9 : Lc w base S P (b + Y.length) WB S9 [] := by rw [<- hWB]; exact A9.own ⟨by omega, K7⟩ 0 _
   obtain ⟨WC, hWC⟩ : ∃ WC, WB.setCell ⟨G8, 0, none⟩ (.int .i64 0) = WC := ⟨_, rfl⟩
   have mC : ∀ k, k ≠ G8 -> WC.heap[k]? = WB.heap[k]? := fun k hk => by rw [<- hWC]; exact heap_setCell_other WB ⟨G8, 0, none⟩ k _ hk
   have c6 := (mC G6 (by omega)).trans b6
   have c7 := (mC G7 (by omega)).trans b7
   have c8 : WC.heap[G8]? = some (.cells #[.int .i64 0] 35 (0, 0)) := by rw [<- hWC]; exact setI _ b8
   have c9 := (mC G9 (by omega)).trans b9
   have c10 := (mC G10 (by omega)).trans b10
   have cD := (mC w5.heap.size (by omega)).trans bD
   have C9 : Lc w base S P (b + Y.length) WC S9 [] := by rw [<- hWC]; exact B9.own ⟨by omega, K8⟩ 0 _
   have d6 : (WC.putObj w5.heap.size (.deferred none)).heap[G6]? = some (.cells CL.toArray 49 (0, 0)) := (World.putObj_heap_other (by omega)).trans c6
   have d7 : (WC.putObj w5.heap.size (.deferred none)).heap[G7]? = some (.cells #[.int .i64 n] 3 (0, 0)) := (World.putObj_heap_other (by omega)).trans c7
   have d8 : (WC.putObj w5.heap.size (.deferred none)).heap[G8]? = some (.cells #[.int .i64 0] 35 (0, 0)) := (World.putObj_heap_other (by omega)).trans c8
   have E9 := hid (C9.put (k := w5.heap.size) ⟨by omega, KD⟩ (.deferred none))
   have rg : ∀ {W' : World}, W'.heap[G9]? = some (.cells CL.toArray 49 (0, 0)) -> W'.rangeAt G9 0 CL := fun hr j v hv => by rw [cell_of_row _ _ _ _ _ _ hr, Nat.zero_add]; simpa using hv
   have X0 := hid (And.intro (rg j4) (rowI j5).1)
   have XA := hid (And.intro (rg a9) (rowI a10).1)
   have XB := hid (And.intro (rg b9) (rowI b10).1)
   have XC := hid (And.intro (rg c9) (rowI c10).1)
   have HA := hid hWA
   have HB := hid hWB
   have HC := hid hWC
   have J1 := hid j1
   have A7 := hid (rowI a7)
   have B8 := hid (rowI b8)
   have CD := hid cD
   have D6 := hid d6
   have D7 := hid d7
   have D8 := hid d8
   clear i1 i2 i3 i4 i5 i6 j1 j2 j3 j4 j5 jD a6 a7 a8 a9 a10 aD b6 b7 b8 b9 b10 bD c6 c7 c8 c9 c10 cD d6 d7 d8 A9 B9 C9 D9 mA mB mC hWA hWB hWC K6 K7 K8 KD hN rg hD l9
   go_upto_region 10 with fail
   refine wp_region_noPanic ?_
   refine wp_region_held_drew (S := fun w' => w'.rangeAt G9 0 CL /\ w'.cell? ⟨G10, 0, none⟩ = some (.int .i64 n)) (by kernel_rfl) X0.out (fun hHeld => ?_)
   refine tqA 0 (.agg CL.toArray) rfl (yieldsIf_load_mid (by rfl) 49 _ rfl G9 0 rfl CL _ (fun w hS => hS.1) Tryz.underlying49 rfl SL.out) hHeld ?_
   try go_frame
   refine tqA 1 (.int .i64 n) rfl (yA (by intro w hS; have hc := hS.2; go_simp)) hHeld ?_
   try go_frame
   refine rdA 2 rfl (fun K hK => ?_)
   refine step_storeRowC rfl 49 (.tmp 6) (.tmp 27) rfl G6 CL.toArray rfl rfl 49 C0.toArray J1.out (by rw [Tryz.sizeRc, List.size_toArray, LL.out]) (by rw [List.size_toArray, List.size_toArray, LC0.out, LL.out]) (all_oneCell_toArray OL.out) ?_
   rw [HA.out]
   refine hK.out _ _ (XA.out) ?_
   clear hK K hHeld
   intro hHeld
   try go_frame
   refine rdA 3 rfl (fun K hK => ?_)
   have hc := A7.out.1
   have hf := A7.out.2
   go_simp
   rw [HB.out]
   refine hK.out _ _ (XB.out) ?_
   clear hK K hHeld
   intro hHeld
   try go_frame
   clear hc hf
   refine rdA 4 rfl (fun K hK => ?_)
   have hc := B8.out.1
   have hf := B8.out.2
   go_simp
   rw [HC.out]
   refine hK.out _ _ (XC.out) ?_
   clear hK K hHeld
   intro hHeld
   try go_frame
   clear hc hf
   refine wdA ?_
   clear hHeld
   go_wp2_with fail
   refine ⟨by simp, .inl ⟨_, _, rfl, run_takeDeferred CD.out, ?_⟩⟩
   generalize WC.putObj w5.heap.size (.deferred none) = WF at *
   obtain ⟨d7, _⟩ := rowI D7.out
   obtain ⟨d8, _⟩ := rowI D8.out
   refine ⟨.tuple #[.agg CL.toArray, .int .i64 n, .int .i64 0], results_rii Tryz.results39 _ _ G6 G7 G8 _ _ _ rfl rfl rfl (run_loadVar_row _ G6 49 49 CL.toArray (0, 0) _ D6.out Tryz.underlying49 rfl (by rw [List.size_toArray]; exact SL.out)) ?_ ?_, S9, rfl, E9.out.ls, E9.out.sp⟩
   · clear E9 D6 D7 D8 d8
     go_simp
   · clear E9 D6 D7 D8 d7
     go_simp
 case stop =>
   rintro c pre W hp _ i3 hD
   exact absurd (all_err fun x hx => HY0.out x (hp.subset hx)) i3
end Go.Proofs.YtbnghhgeoodphaaGreatDoor
