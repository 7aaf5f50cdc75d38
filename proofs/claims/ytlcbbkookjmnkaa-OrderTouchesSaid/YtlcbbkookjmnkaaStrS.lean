/- slices.DeleteFunc, Sort and Compact of strings, of rows of the call's own. -/
import Derived.Test.YtlcbbkookjmnkaaStrM
import Derived.Test.YtlcbbkookjmnkaaStrF
import Derived.Test.YtlcbbkookjmnkaaKit0
namespace Go.Proofs.Ytlcbbkookjmnkaa
open Go.RowKit Go.My Go.Maps Go.Sort Go.Lib
set_option linter.unusedSimpArgs false
set_option linter.unusedVariables false

theorem oneS : OneCell encStr := fun _ => rfl
theorem eqS (T : TypeId) : EqlAt Try.prog T encStr (fun x y => decide (x = y)) := by
  have h := EqlAt.string Try.prog T
  refine ⟨fun x y w => ?_, fun op a b x y w => h.2 op a b ⟨x.toArray⟩ ⟨y.toArray⟩ w⟩
  have e := h.1 ⟨x.toArray⟩ ⟨y.toArray⟩ w
  have e1 : ((⟨x.toArray⟩ : ByteArray).toList == (⟨y.toArray⟩ : ByteArray).toList) = decide (x = y) := by
    rw [ByteArray.toList_eq, ByteArray.toList_eq]
    show (x == y) = _
    by_cases hxy : x = y
    · subst hxy; simp
    · rw [decide_eq_false hxy]; exact beq_eq_false_iff_ne.2 hxy
  simp only [e1] at e
  exact e
theorem neS (T : TypeId) : NeqAt Try.prog T encStr (fun x y => decide (x = y)) := by
  have h := NeqAt.string Try.prog T
  refine ⟨fun x y w => ?_, fun op a b x y w => h.2 op a b ⟨x.toArray⟩ ⟨y.toArray⟩ w⟩
  have e := h.1 ⟨x.toArray⟩ ⟨y.toArray⟩ w
  have e1 : ((⟨x.toArray⟩ : ByteArray).toList == (⟨y.toArray⟩ : ByteArray).toList) = decide (x = y) := by
    rw [ByteArray.toList_eq, ByteArray.toList_eq]
    show (x == y) = _
    by_cases hxy : x = y
    · subst hxy; simp
    · rw [decide_eq_false hxy]; exact beq_eq_false_iff_ne.2 hxy
  simp only [e1] at e
  exact e
/-- handed back: the row at g, of k texts -/
def RetS (w : World) (g cap : Nat) (e : Ending) (L : List (List UInt8)) (w' : World) : Prop :=
  e = .returned (.slice (some ⟨g, 0, none⟩) L.length cap) ∧ Own w' 9 1 (.slice (some ⟨g, 0, none⟩) L.length cap) L.length (ts L) ∧ Fr (At1 g) w w'

theorem delS_any (f : FuncId) (p : List UInt8 → Bool) (L : List (List UInt8)) (g cap : Nat) (w : World) (h : Own w 9 1 (.slice (some ⟨g, 0, none⟩) L.length cap) L.length (ts L)) (hl : L.length ≤ 1000000)
    (eg : ∀ args w, (callFunc f args).run Try.prog w = .ok (.enter f args) w) (hf : ∀ (W : World) (x : List UInt8), FnGives Try.prog f #[] #[encStr x] (.bool (p x)) W) :
    Calls Try.prog 43 #[.slice (some ⟨g, 0, none⟩) L.length cap, .func (.func f) #[] #[]] w fun e w' => RetS w g cap e (L.filter fun x => !p x) w' := by
  obtain ⟨hH, hlt, hlen, hcap⟩ := own_holds h
  have hcon := AnyE.slices_DeleteFunc Try.delS encStr oneS p f #[] eg [] Try.zeroValue9 g 0 cap L.toArray w (fun W x _ => hf W x) (fun n os dk x _ => hf _ x) hH (by simp; omega) (by simpa using hcap)
  have e0 : L.toArray.size = L.length := by simp
  rw [e0] at hcon
  refine Calls.mono hcon ?_
  rintro e w' ⟨rfl, q, rfl⟩
  have hle : (L.filter fun x => !p x).length ≤ L.length := List.length_filter_le _ _
  have h1 := own_put h q #[] ((L.filter fun x => !p x) ++ List.replicate (L.length - (L.filter fun x => !p x).length) []).toArray (by simp; omega) (L.filter fun x => !p x).length hle
  rw [grow_empty] at h1
  have e1 : (((L.filter fun x => !p x) ++ List.replicate (L.length - (L.filter fun x => !p x).length) []).toArray.toList.take (L.filter fun x => !p x).length) = L.filter fun x => !p x := by simp
  rw [e1] at h1
  exact ⟨rfl, h1⟩
theorem sortS_any (L : List (List UInt8)) (g cap : Nat) (w : World) (h : Own w 9 1 (.slice (some ⟨g, 0, none⟩) L.length cap) L.length (ts L)) (hl : L.length ≤ 1000000) :
    Calls Try.prog 45 #[.slice (some ⟨g, 0, none⟩) L.length cap] w fun e w' => e = .returned (.tuple #[]) ∧ Own w' 9 1 (.slice (some ⟨g, 0, none⟩) L.length cap) L.length (ts (L.mergeSort fun x y => decide (x ≤ y))) ∧ Fr (At1 g) w w' := by
  obtain ⟨hH, hlt, hlen, hcap⟩ := own_holds h
  refine Calls.mono (AnyM.slices_Sort_string Try.sortS g 0 cap L w hH hlt (by omega)) ?_
  rintro e w' ⟨rfl, n, os, rfl⟩
  have h1 := own_put h n os (L.mergeSort fun x y => decide (x ≤ y)).toArray (by simp) L.length (Nat.le_refl _)
  have e1 : ((L.mergeSort fun x y => decide (x ≤ y)).toArray.toList.take L.length) = L.mergeSort fun x y => decide (x ≤ y) := by
    rw [List.take_of_length_le (by simp)]
  rw [e1] at h1
  exact ⟨rfl, h1⟩
theorem compS_any (L : List (List UInt8)) (g cap : Nat) (w : World) (h : Own w 9 1 (.slice (some ⟨g, 0, none⟩) L.length cap) L.length (ts L)) (hl : L.length ≤ 1000000) :
    Calls Try.prog 46 #[.slice (some ⟨g, 0, none⟩) L.length cap] w fun e w' => RetS w g cap e (compact L) w' := by
  obtain ⟨hH, hlt, hlen, hcap⟩ := own_holds h
  have hcon := AnyE.slices_Compact Try.compS encStr oneS (eqS _) (neS _) [] Try.zeroValue9 g 0 cap L.toArray w hH (by simp; omega) (by simpa using hcap)
  have e0 : L.toArray.size = L.length := by simp
  rw [e0] at hcon
  have hce : compactUpTo L.toArray L.length = compact L := rfl
  rw [hce] at hcon
  refine Calls.mono hcon ?_
  rintro e w' ⟨rfl, q, rfl⟩
  have hle : (compact L).length ≤ L.length := compact_length_le L
  have h1 := own_put h q #[] (compact L ++ List.replicate (L.length - (compact L).length) []).toArray (by simp; omega) (compact L).length hle
  rw [grow_empty] at h1
  have e1 : ((compact L ++ List.replicate (L.length - (compact L).length) []).toArray.toList.take (compact L).length) = compact L := by simp
  rw [e1] at h1
  exact ⟨rfl, h1⟩
end Go.Proofs.Ytlcbbkookjmnkaa
