import Derived.Test.YtbgjnihkiolmlaaG23
import Derived.Test.YtbgjnihkiolmlaaGs
namespace Go.Proofs.Ytbgjnihkiolmlaa
set_option linter.unusedVariables false
set_option linter.unusedSimpArgs false
open Go.RowKit
attribute [local go_sem ↓] Go.wp_at_zero Go.wp_at_succ


theorem again_in (w : World) (base : Nat) (F : List Nat) (p : Nat) (D : DS) (h : DA w base F p D) (hbw : base ≤ w.heap.size) (G : List Nat) (gb : Nat) (B : Bk) (hb : BA w base G gb B) (hap : Apart F G) (n c : Nat) (hcr : Cr D B n c) (hc : c ≤ 1000) (fs : List Int) (hfb : Bts fs) (sp : Option Addr) (cap : Nat) (hS : Src w sp cap fs) (hsb : ∀ a, 0 < fs.length → sp = some a → a.block ∉ F) :
    Calls Try.prog 30 #[.pointer (some ⟨gb, 0, none⟩), .pointer (some ⟨p, 0, none⟩), .slice sp fs.length cap] w fun e w' => ∃ (g : Nat) (D' : DS) (s' : Sup) (nx' : Nat) (ep' : Int) (B' : Bk) (F' : List Nat), e = .returned (.pointer (some ⟨g, 0, none⟩)) ∧ w.heap.size ≤ g ∧ DA w' base F' p D' ∧ FK w' g p s' nx' ep' ∧ BA w' base G gb B' ∧ Apart F' G ∧ Fr (F ++ G) w w' ∧ Gr w F F' ∧ Lv D' s' nx' ep' B' n (c + 1) ∧ D'.armed = 0 ∧ B.mrk ≤ s'.ma ∧ (∀ q : Nat, 2 ≤ q → (q : Int) < B.mrk → pgO D'.img q = pgO D.img q) := by
  obtain ⟨s2, o, m, hg, hv, hp, hm, hmn, hml, hpg, hE | ⟨hI, hE⟩⟩ := hcr.all fs
  · by_cases hI : 0 < B.im
    · exact again_b w base F p D h hbw G gb B hb hap n c hcr hc fs hfb sp cap hS hsb s2 o m hg hv hp hm hmn hml hpg hE hI
    · exact again_a w base F p D h hbw G gb B hb hap n c hcr hc fs hfb sp cap hS hsb s2 o m hg hv hp hm hmn hml hpg hE hI
  · exact again_c w base F p D h hbw G gb B hb hap n c hcr hc fs hfb sp cap hS hsb s2 o m hg hv hp hm hmn hml hpg hE hI
end Go.Proofs.Ytbgjnihkiolmlaa
