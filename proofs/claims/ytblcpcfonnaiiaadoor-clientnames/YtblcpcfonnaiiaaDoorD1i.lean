import Derived.Test.YtblcpcfonnaiiaaDoorD1h
namespace Go.Proofs.YtblcpcfonnaiiaaDoor
set_option linter.unusedVariables false
set_option linter.unusedSimpArgs false
open Go.RowKit

/-! The text that a hasher has taken. -/
/-- The state behind the first n blocks of a text. -/
def stN (m : List Int) : Nat → List Int
  | 0 => fTab
  | n + 1 => mixF (stN m n) ((m.drop (64 * n)).take 64)
def stOf (m : List Int) : List Int := stN m (m.length / 64)
def restOf (m : List Int) : List Int := m.drop (64 * (m.length / 64))
theorem fTab_bd : Bd8 fTab := by intro x hx; revert x hx; decide
theorem stN_ok (m : List Int) : ∀ n, (stN m n).length = 8 ∧ Bd8 (stN m n)
  | 0 => ⟨rfl, fTab_bd⟩
  | n + 1 => ⟨mixF_len _ _ (stN_ok m n).1 (stN_ok m n).2, mixF_bd _ _⟩
theorem stOf_len (m : List Int) : (stOf m).length = 8 := (stN_ok m _).1
theorem stOf_bd (m : List Int) : Bd8 (stOf m) := (stN_ok m _).2
theorem restOf_len (m : List Int) : (restOf m).length = m.length % 64 := by simp [restOf]; omega
theorem stN_append (m y : List Int) : ∀ n, 64 * n ≤ m.length → stN (m ++ y) n = stN m n
  | 0, _ => rfl
  | n + 1, h => by
    rw [stN, stN, stN_append m y n (by omega), List.drop_append_of_le_length (by omega), List.take_append_of_le_length (by simp; omega)]
/-- A piece that doesn't fill the block. -/
theorem text_part (m y : List Int) (h : (restOf m).length + y.length < 64) : stOf (m ++ y) = stOf m ∧ restOf (m ++ y) = restOf m ++ y := by
  rw [restOf_len] at h
  have e : (m ++ y).length / 64 = m.length / 64 := by simp; omega
  constructor
  · rw [stOf, e, stN_append m y _ (by omega)]; rfl
  · rw [restOf, e, List.drop_append_of_le_length (by omega)]; rfl
/-- A piece that fills it. -/
theorem text_full (m y : List Int) (h : (restOf m).length + y.length = 64) : stOf (m ++ y) = mixF (stOf m) (restOf m ++ y) ∧ restOf (m ++ y) = [] := by
  have h' := h
  rw [restOf_len] at h
  have e : (m ++ y).length / 64 = m.length / 64 + 1 := by simp; omega
  constructor
  · rw [stOf, e, stN, stN_append m y _ (by omega), List.drop_append_of_le_length (by omega)]
    show mixF (stOf m) ((restOf m ++ y).take 64) = _
    rw [List.take_of_length_le (by simp; omega)]
  · rw [restOf, e]; exact List.drop_eq_nil_of_le (by simp; omega)
/-- At block g lies a hasher that has taken the text m. -/
def HsT (w : World) (g : Nat) (m : List Int) : Prop := Hs w g (stOf m) (padz (restOf m) 64) m.length
theorem HsT.below {w w1 : World} {B g : Nat} {m : List Int} (h : HsT w g m) (hb : Below B w w1) (hg : g < B) : HsT w1 g m := Hs.below h hb hg
theorem HsT.keeps {w w1 : World} {g g1 : Nat} {m : List Int} (h : HsT w g m) (hk : Keeps g1 w w1) (hne : g ≠ g1) : HsT w1 g m := ⟨hk.heap h.1 hne, h.2.1, h.2.2⟩
theorem HsT.nil {w : World} {g : Nat} (h : w.heap[g]? = some (.cells (hcells fTab z64 0).toArray 77 (0, 0))) : HsT w g [] := ⟨h, rfl, rfl⟩
/-- The published function. -/
def sha (m : List Int) : List Int := stBytes (padS (stOf m) (padz (restOf m) 64) m.length)
theorem sha_len (m : List Int) : (sha m).length = 32 := by rw [sha, stBytes_len, padS_len _ _ _ (stOf_len m) (stOf_bd m)]
theorem hsumT_any (w : World) (g : Nat) (m : List Int) (h : HsT w g m) (hG : Glob w) (hm : m.length ≤ 4611686018427387904) :
    Calls Tryd.prog 21 #[.pointer (some ⟨g, 0, none⟩)] w fun e w' => e = .returned (.agg (ints .u8 (sha m)).toArray) ∧ Below w.heap.size w w' :=
  hsum_any w g _ _ _ h (stOf_bd m) hG (by omega) (by omega)

/-- The bytes that a copy lays into a hasher's block. -/
theorem hc_splice (st r y : List Int) (tk : Int) (h1 : st.length = 8) (h2 : r.length + y.length ≤ 64) : (hcells st (padz r 64) tk).take (8 + r.length) ++ ints .u8 y ++ (hcells st (padz r 64) tk).drop (8 + r.length + (ints .u8 y).length) = hcells st (padz (r ++ y) 64) tk := by
  have e1 : (ints .u32 st).length = 8 := by rw [ints_len, h1]
  have e2 : (ints .u8 r).length = r.length := ints_len _ _
  have e3 : (ints .u8 y).length = y.length := ints_len _ _
  have ep : ints .u8 (padz r 64) = ints .u8 r ++ List.replicate (64 - r.length) (.int .u8 0) := by simp [ints, padz]
  have ep2 : ints .u8 (padz (r ++ y) 64) = ints .u8 r ++ (ints .u8 y ++ List.replicate (64 - (r.length + y.length)) (.int .u8 0)) := by simp [ints, padz]
  unfold hcells
  rw [ep, ep2, e3]
  have hsplit : List.replicate (64 - r.length) (Value.int .u8 0) = List.replicate y.length (.int .u8 0) ++ List.replicate (64 - (r.length + y.length)) (.int .u8 0) := by
    rw [List.replicate_append_replicate]; congr 1; omega
  rw [hsplit]
  have t1 : (ints .u32 st ++ (ints .u8 r ++ (List.replicate y.length (Value.int .u8 0) ++ List.replicate (64 - (r.length + y.length)) (.int .u8 0)) ++ [Value.int .u64 tk])) = (ints .u32 st ++ ints .u8 r) ++ (List.replicate y.length (Value.int .u8 0) ++ (List.replicate (64 - (r.length + y.length)) (.int .u8 0) ++ [Value.int .u64 tk])) := by simp only [List.append_assoc]
  rw [t1, List.take_left' (by simp [e1, e2]), ← List.append_assoc (ints .u32 st ++ ints .u8 r) (List.replicate y.length _), List.drop_left' (by simp [e1, e2]; omega)]
  simp
end Go.Proofs.YtblcpcfonnaiiaaDoor
