/- Contracts of package order: what the fields of a kind's orders may be. -/
import Derived.Test.YtlcbbkookjmnkaaShapes2
import Derived.Deep.DrawnRows
namespace Go.Proofs.Ytlcbbkookjmnkaa
open Go.RowKit Go.My Go.Maps
set_option linter.unusedSimpArgs false
set_option linter.unusedVariables false
attribute [local go_sem ↓] Go.wp_at_zero Go.wp_at_succ

/-- answers b, and changes nothing -/
def AnsB (f : FuncId) (args : Array Value) (b : Bool) : Prop := ∀ W, Calls Try.prog f args W fun e w' => e = .returned (.bool b) ∧ Fr No W w'
theorem ans1 (s : ByteArray) : AnsB 62 #[.string s] s.data.toList.isEmpty := fun W => by
  go_enter Try.func62, Try.ntmps62
  go_wp2
  go_ret
  refine ⟨?_, Fr.refl _ _⟩
  rw [← ByteArray.toList_eq]
  rfl
theorem ans7 (s : ByteArray) : AnsB 68 #[.string s] s.data.toList.isEmpty := fun W => by
  go_enter Try.func68, Try.ntmps68
  go_wp2
  go_ret
  refine ⟨?_, Fr.refl _ _⟩
  rw [← ByteArray.toList_eq]
  rfl
theorem ans2 (s t : ByteArray) : AnsB 63 #[.string s, .string t] s.data.toList.isEmpty := fun W => by
  go_enter Try.func63, Try.ntmps63
  go_wp2
  go_ret
  refine ⟨?_, Fr.refl _ _⟩
  rw [← ByteArray.toList_eq]
  rfl
theorem ans3 (n : Int) : AnsB 64 #[.int .i64 n] (n == 0) := fun W => by
  go_enter Try.func64, Try.ntmps64
  go_wp2
  go_ret
  exact ⟨rfl, Fr.refl _ _⟩
theorem ans5 (n : Int) : AnsB 66 #[.int .i64 n] (n == 0) := fun W => by
  go_enter Try.func66, Try.ntmps66
  go_wp2
  go_ret
  exact ⟨rfl, Fr.refl _ _⟩
theorem ans6 (n : Int) : AnsB 67 #[.int .i64 n] (n == 0) := fun W => by
  go_enter Try.func67, Try.ntmps67
  go_wp2
  go_ret
  exact ⟨rfl, Fr.refl _ _⟩
theorem ans8 (n : Int) : AnsB 70 #[.int .i64 n] (decide (0 ≤ n)) := fun W => by
  go_enter Try.func70, Try.ntmps70
  go_wp2
  go_ret
  exact ⟨rfl, Fr.refl _ _⟩
theorem ans4 (A : Option Addr) (n c : Nat) : AnsB 65 #[.slice A n c] (n == 0) := fun W => by
  go_enter Try.func65, Try.ntmps65
  go_wp2
  go_ret
  refine ⟨?_, Fr.refl _ _⟩
  cases n <;> simp <;> omega
theorem ansSum (n : Int) : AnsB 74 #[.int .i64 n] (decide (1 ≤ n)) := fun W => by
  go_enter Try.func74, Try.ntmps74
  go_wp2
  go_ret
  exact ⟨rfl, Fr.refl _ _⟩
theorem ansPeriod (n : Int) : AnsB 72 #[.int .i64 n] (decide (1 ≤ n) && decide (n ≤ 1000)) := fun W => by
  by_cases h : 1 ≤ n
  · go_enter Try.func72, Try.ntmps72
    go_wp2
    go_ret
    exact ⟨by simp [h], Fr.refl _ _⟩
  · go_enter Try.func72, Try.ntmps72
    go_wp2
    go_ret
    exact ⟨by rw [show decide (1 ≤ n) = false from decide_eq_false (by omega)]; rfl, Fr.refl _ _⟩
theorem ansHold (n : Int) : AnsB 76 #[.int .i64 n] (decide (1 ≤ n) && decide (n ≤ 9999)) := fun W => by
  by_cases h : 1 ≤ n
  · go_enter Try.func76, Try.ntmps76
    go_wp2
    go_ret
    exact ⟨by simp [h], Fr.refl _ _⟩
  · go_enter Try.func76, Try.ntmps76
    go_wp2
    go_ret
    exact ⟨by rw [show decide (1 ≤ n) = false from decide_eq_false (by omega)]; rfl, Fr.refl _ _⟩
theorem ansNote (s : ByteArray) : AnsB 73 #[.string s] (decide (s.data.toList.length ≤ 20)) := fun W => by
  go_enter Try.func73, Try.ntmps73
  go_wp2
  go_ret
  refine ⟨?_, Fr.refl _ _⟩
  obtain ⟨⟨l⟩⟩ := s
  simp [ByteArray.size]
  omega
theorem ansName (s : ByteArray) (hs : s.size ≤ maxLen) : AnsB 69 #[.string s] (nameB s.data.toList) := fun W => (name_any s W hs).mono fun e w' h => ⟨h.1, Fr.of_below h.2 _⟩
theorem ansPeer (s t : ByteArray) (hs : s.size ≤ maxLen) : AnsB 75 #[.string s, .string t] (nameB s.data.toList && !(s.data.toList == t.data.toList)) := fun W => by
  have HN := Lib.hid (ansName s hs)
  cases hn : nameB s.data.toList
  · rw [hn] at HN
    clear hn
    go_enter Try.func75, Try.ntmps75
    go_wp2_with fail
    refine (HN.out _).mono ?_
    rintro e w1 ⟨rfl, hf⟩
    go_wp2
    go_ret
    exact ⟨rfl, hf⟩
  · rw [hn] at HN
    clear hn
    go_enter Try.func75, Try.ntmps75
    go_wp2_with fail
    refine (HN.out _).mono ?_
    rintro e w1 ⟨rfl, hf⟩
    go_wp2
    go_ret
    refine ⟨?_, hf⟩
    rw [← ByteArray.toList_eq, ← ByteArray.toList_eq]
    rfl
/-- may an Id be? -/
def idB (c s : Int) : Bool := decide (0 ≤ c) && (decide (c ≤ 9) && (decide (1 ≤ s) && decide (s ≤ 999)))
theorem ansId (c s : Int) : AnsB 40 #[.agg #[.int .i64 c, .int .i64 s]] (idB c s) := fun W => by
  have hf : Fr No W (W.alloc (.cells #[.int .i64 c, .int .i64 s] 23)) := (Fr.refl _ _).alloc _
  by_cases h1 : 0 ≤ c
  · by_cases h2 : c ≤ 9
    · by_cases h3 : 1 ≤ s
      · go_enter Try.func40, Try.ntmps40
        go_wp2
        go_ret
        exact ⟨by simp [idB, h1, h2, h3], hf⟩
      · go_enter Try.func40, Try.ntmps40
        go_wp2
        go_ret
        exact ⟨by unfold idB; rw [decide_eq_true h1, decide_eq_true h2, show decide (1 ≤ s) = false from decide_eq_false (by omega)]; rfl, hf⟩
    · go_enter Try.func40, Try.ntmps40
      go_wp2
      go_ret
      exact ⟨by unfold idB; rw [decide_eq_true h1, show decide (c ≤ 9) = false from decide_eq_false (by omega)]; rfl, hf⟩
  · go_enter Try.func40, Try.ntmps40
    go_wp2
    go_ret
    exact ⟨by unfold idB; rw [show decide (0 ≤ c) = false from decide_eq_false (by omega)]; rfl, hf⟩
end Go.Proofs.Ytlcbbkookjmnkaa
