import Derived.Test.YtblcpcfonnaiiaaDoorTs9
namespace Go.Proofs.YtblcpcfonnaiiaaDoor
set_option linter.unusedVariables false
set_option linter.unusedSimpArgs false
open Go.RowKit

def pickN (x y z : Nat) : Nat := Nat.xor (Nat.land x y) (Nat.land (Nat.xor 4294967295 x) z)
def mostN (x y z : Nat) : Nat := Nat.xor (Nat.xor (Nat.land x y) (Nat.land x z)) (Nat.land y z)
def high1N (x : Nat) : Nat := Nat.xor (Nat.xor (rrN x 6) (rrN x 11)) (rrN x 25)
def high0N (x : Nat) : Nat := Nat.xor (Nat.xor (rrN x 2) (rrN x 13)) (rrN x 22)
def low1N (x : Nat) : Nat := Nat.xor (Nat.xor (rrN x 17) (rrN x 19)) (Nat.shiftRight x 10)
def low0N (x : Nat) : Nat := Nat.xor (Nat.xor (rrN x 7) (rrN x 18)) (Nat.shiftRight x 3)
def adN (a b : Nat) : Nat := Nat.mod (Nat.add a b) 4294967296
theorem adN_lt (a b : Nat) : adN a b < 4294967296 := Nat.mod_lt _ (by decide)
theorem wrap_add (a b : Nat) : IntKind.u32.wrap ((a : Int) + (b : Int)) = ((adN a b : Nat) : Int) := by
  rw [IntKind.wrap_u32]; show _ = (((a + b) % 4294967296 : Nat) : Int); omega
def B32 (l : List Nat) : Prop := ∀ x ∈ l, x < 4294967296
theorem pick_nat (x y z : Nat) (hx : x < 4294967296) (hy : y < 4294967296) (hz : z < 4294967296) : pickF (x : Int) (y : Int) (z : Int) = ((pickN x y z : Nat) : Int) := by
  unfold pickF pickN
  rw [show (IntKind.u32.max : Int) = ((4294967295 : Nat) : Int) from rfl, bxr _ _ (by decide) hx, bnd _ _ hx hy, bnd _ _ (ltx _ _ (by decide) hx) hz, bxr _ _ (ltn _ _ hy) (ltn _ _ hz)]
theorem most_nat (x y z : Nat) (hx : x < 4294967296) (hy : y < 4294967296) (hz : z < 4294967296) : mostF (x : Int) (y : Int) (z : Int) = ((mostN x y z : Nat) : Int) := by
  unfold mostF mostN
  rw [bnd _ _ hx hy, bnd _ _ hx hz, bnd _ _ hy hz, bxr _ _ (ltn _ _ hy) (ltn _ _ hz), bxr _ _ (ltx _ _ (ltn _ _ hy) (ltn _ _ hz)) (ltn _ _ hz)]
theorem high1_nat (x : Nat) (hx : x < 4294967296) : high1F (x : Int) = ((high1N x : Nat) : Int) := by
  unfold high1F high1N
  rw [ror_nat x 6 hx (by omega), ror_nat x 11 hx (by omega), ror_nat x 25 hx (by omega), bxr _ _ (rrN_lt _ _) (rrN_lt _ _), bxr _ _ (ltx _ _ (rrN_lt _ _) (rrN_lt _ _)) (rrN_lt _ _)]
theorem high0_nat (x : Nat) (hx : x < 4294967296) : high0F (x : Int) = ((high0N x : Nat) : Int) := by
  unfold high0F high0N
  rw [ror_nat x 2 hx (by omega), ror_nat x 13 hx (by omega), ror_nat x 22 hx (by omega), bxr _ _ (rrN_lt _ _) (rrN_lt _ _), bxr _ _ (ltx _ _ (rrN_lt _ _) (rrN_lt _ _)) (rrN_lt _ _)]
theorem shr_nat (x n : Nat) : Nat.shiftRight x n = x / 2 ^ n := Nat.shiftRight_eq_div_pow x n
theorem low1_nat (x : Nat) (hx : x < 4294967296) : low1F (x : Int) = ((low1N x : Nat) : Int) := by
  unfold low1F low1N
  have hs : Nat.shiftRight x 10 < 4294967296 := by rw [shr_nat]; omega
  rw [show (x : Int) / 1024 = ((Nat.shiftRight x 10 : Nat) : Int) by rw [shr_nat]; simp, ror_nat x 17 hx (by omega), ror_nat x 19 hx (by omega), bxr _ _ (rrN_lt _ _) (rrN_lt _ _), bxr _ _ (ltx _ _ (rrN_lt _ _) (rrN_lt _ _)) hs]
theorem low0_nat (x : Nat) (hx : x < 4294967296) : low0F (x : Int) = ((low0N x : Nat) : Int) := by
  unfold low0F low0N
  have hs : Nat.shiftRight x 3 < 4294967296 := by rw [shr_nat]; omega
  rw [show (x : Int) / 8 = ((Nat.shiftRight x 3 : Nat) : Int) by rw [shr_nat]; simp, ror_nat x 7 hx (by omega), ror_nat x 18 hx (by omega), bxr _ _ (rrN_lt _ _) (rrN_lt _ _), bxr _ _ (ltx _ _ (rrN_lt _ _) (rrN_lt _ _)) hs]
def oneN (k x e f g h : Nat) : Nat := adN (adN (adN (adN h (high1N e)) (pickN e f g)) k) x
def stepN (k x : Nat) : List Nat → List Nat
  | [a, b, c, d, e, f, g, h] => [adN (oneN k x e f g h) (adN (high0N a) (mostN a b c)), a, b, c, adN d (oneN k x e f g h), e, f, g]
  | l => l
def up (l : List Nat) : List Int := l.map fun (n : Nat) => (n : Int)
theorem step_nat (k x : Nat) (l : List Nat) (hl : l.length = 8) (hb : B32 l) : step1 (k : Int) (x : Int) (up l) = up (stepN k x l) ∧ B32 (stepN k x l) ∧ (stepN k x l).length = 8 := by
  match l, hl with
  | [a, b, c, d, e, f, g, h], _ =>
    have ha := hb a (by simp)
    have hb' := hb b (by simp)
    have hc := hb c (by simp)
    have hd := hb d (by simp)
    have he := hb e (by simp)
    have hf := hb f (by simp)
    have hg := hb g (by simp)
    have hh := hb h (by simp)
    refine ⟨?_, ?_, rfl⟩
    · simp only [up, List.map_cons, List.map_nil, step1, stepN, oneN]
      rw [high1_nat e he, pick_nat e f g he hf hg, high0_nat a ha, most_nat a b c ha hb' hc, wrap_add, wrap_add, wrap_add, wrap_add, wrap_add, wrap_add, wrap_add]
    · intro y hy
      simp only [stepN, List.mem_cons, List.not_mem_nil, or_false] at hy
      rcases hy with rfl | rfl | rfl | rfl | rfl | rfl | rfl | rfl
      · exact adN_lt _ _
      · exact ha
      · exact hb'
      · exact hc
      · exact adN_lt _ _
      · exact he
      · exact hf
      · exact hg
def kN : List Nat := [1116352408, 1899447441, 3049323471, 3921009573, 961987163, 1508970993, 2453635748, 2870763221, 3624381080, 310598401, 607225278, 1426881987, 1925078388, 2162078206, 2614888103, 3248222580, 3835390401, 4022224774, 264347078, 604807628, 770255983, 1249150122, 1555081692, 1996064986, 2554220882, 2821834349, 2952996808, 3210313671, 3336571891, 3584528711, 113926993, 338241895, 666307205, 773529912, 1294757372, 1396182291, 1695183700, 1986661051, 2177026350, 2456956037, 2730485921, 2820302411, 3259730800, 3345764771, 3516065817, 3600352804, 4094571909, 275423344, 430227734, 506948616, 659060556, 883997877, 958139571, 1322822218, 1537002063, 1747873779, 1955562222, 2024104815, 2227730452, 2361852424, 2428436474, 2756734187, 3204031479, 3329325298]
def fN : List Nat := [1779033703, 3144134277, 1013904242, 2773480762, 1359893119, 2600822924, 528734635, 1541459225]
theorem kN_up : kTab = up kN := by decide
theorem fN_up : fTab = up fN := by decide
theorem up_get (l : List Nat) (j : Nat) : (up l)[j]?.getD 0 = ((l[j]?.getD 0 : Nat) : Int) := by
  unfold up
  rw [List.getElem?_map]
  cases l[j]? <;> rfl
def nextN (acc : List Nat) : Nat := adN (adN (adN (low1N (acc[1]?.getD 0)) (acc[6]?.getD 0)) (low0N (acc[14]?.getD 0))) (acc[15]?.getD 0)
def schT (acc : List Nat) : Nat → List Nat
  | 0 => acc
  | n + 1 => nextN (schT acc n) :: schT acc n
theorem schT_len (acc : List Nat) : ∀ n, (schT acc n).length = acc.length + n
  | 0 => rfl
  | n + 1 => by simp [schT, schT_len acc n]; omega
theorem schT_b (acc : List Nat) (h : B32 acc) : ∀ n, B32 (schT acc n)
  | 0 => h
  | n + 1 => fun x hx => by
    rcases List.mem_cons.1 hx with rfl | hx
    · exact adN_lt _ _
    · exact schT_b acc h n x hx
theorem get_b (l : List Nat) (h : B32 l) (j : Nat) : l[j]?.getD 0 < 4294967296 := by
  cases hq : l[j]? with
  | none => simp
  | some x => exact h x (List.mem_of_getElem? hq)
theorem rev_get (l : List Nat) (j : Nat) (h : j < l.length) : l.reverse[l.length - 1 - j]?.getD 0 = l[j]?.getD 0 := by
  rw [List.getElem?_reverse (by omega), show l.length - 1 - (l.length - 1 - j) = j by omega]
theorem sched_nat (bs : List Int) (ws : List Nat) (hw : w16 bs 16 = up ws) (hl : ws.length = 16) (hb : B32 ws) : ∀ n, schedTo bs n = up (schT ws.reverse n).reverse
  | 0 => by simp only [schedTo, schT, List.reverse_reverse]; exact hw
  | n + 1 => by
    have ih := sched_nat bs ws hw hl hb n
    have hL : (schT ws.reverse n).length = 16 + n := by rw [schT_len]; simp [hl]
    have hB := schT_b ws.reverse (fun x hx => hb x (by simpa using hx)) n
    unfold schedTo
    rw [ih, show up (schT ws.reverse (n + 1)).reverse = up (schT ws.reverse n).reverse ++ [((nextN (schT ws.reverse n) : Nat) : Int)] by simp [schT, up]]
    congr 2
    unfold nextW nextN
    generalize schT ws.reverse n = acc at *
    have e2 := rev_get acc 1 (by omega)
    have e7 := rev_get acc 6 (by omega)
    have e15 := rev_get acc 14 (by omega)
    have e16 := rev_get acc 15 (by omega)
    rw [hL] at e2 e7 e15 e16
    rw [up_get, up_get, up_get, up_get, show 16 + n - 2 = 16 + n - 1 - 1 by omega, show 16 + n - 7 = 16 + n - 1 - 6 by omega, show 16 + n - 15 = 16 + n - 1 - 14 by omega, show 16 + n - 16 = 16 + n - 1 - 15 by omega, e2, e7, e15, e16, low1_nat _ (get_b acc hB 1), low0_nat _ (get_b acc hB 14), wrap_add, wrap_add, wrap_add]
def rndT (st ws : List Nat) : Nat → List Nat
  | 0 => st
  | n + 1 => stepN (kN[n]?.getD 0) (ws[n]?.getD 0) (rndT st ws n)
theorem rounds_nat (st ws : List Nat) (hl : st.length = 8) (hb : B32 st) : ∀ n, roundsTo (up st) (up ws) n = up (rndT st ws n) ∧ B32 (rndT st ws n) ∧ (rndT st ws n).length = 8
  | 0 => ⟨rfl, hb, hl⟩
  | n + 1 => by
    obtain ⟨h1, h2, h3⟩ := rounds_nat st ws hl hb n
    unfold roundsTo rndT
    rw [h1, kN_up, up_get, up_get]
    exact step_nat _ _ _ h3 h2
def mixN (st ws : List Nat) : List Nat := List.zipWith adN st (rndT st (schT ws.reverse 48).reverse 64)
theorem zip_nat : ∀ a b : List Nat, List.zipWith (fun (x y : Int) => IntKind.u32.wrap (x + y)) (up a) (up b) = up (List.zipWith adN a b)
  | [], _ => by simp [up]
  | _ :: _, [] => by simp [up]
  | x :: a, y :: b => by
    have ih := zip_nat a b
    simp only [up, List.map_cons, List.zipWith_cons_cons] at ih ⊢
    rw [ih, wrap_add]
theorem mix_nat (st ws : List Nat) (bs : List Int) (hl : st.length = 8) (hb : B32 st) (hw : w16 bs 16 = up ws) (hwl : ws.length = 16) (hwb : B32 ws) : mixF (up st) bs = up (mixN st ws) ∧ B32 (mixN st ws) ∧ (mixN st ws).length = 8 := by
  have hs := sched_nat bs ws hw hwl hwb 48
  obtain ⟨h1, h2, h3⟩ := rounds_nat st (schT ws.reverse 48).reverse hl hb 64
  refine ⟨?_, ?_, by simp [mixN, hl, h3]⟩
  · unfold mixF sched mixN
    rw [hs, h1, zip_nat]
  · intro x hx
    unfold mixN at hx
    obtain ⟨i, hi, e⟩ := List.mem_iff_getElem.1 hx
    rw [List.getElem_zipWith] at e
    rw [← e]; exact adN_lt _ _
end Go.Proofs.YtblcpcfonnaiiaaDoor
