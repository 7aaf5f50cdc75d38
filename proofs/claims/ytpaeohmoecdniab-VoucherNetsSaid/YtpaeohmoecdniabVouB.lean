/- Legs and their opposites, in lists. -/
import Derived.Test.YtpaeohmoecdniabVouW
import Derived.Test.YtpaeohmoecdniabVouM
namespace Go.Proofs.Ytpaeohmoecdniab
open Go.RowKit Go.My Go.Maps
set_option linter.unusedSimpArgs false
set_option linter.unusedVariables false

theorem negL_nm (L : List Lg) : (negL L).map Lg.nm = L.map Lg.nm := by
  unfold negL
  rw [List.map_map]
  rfl
theorem negL_neg (L : List Lg) : negL (negL L) = L := by
  unfold negL
  rw [List.map_map]
  have : ((fun g : Lg => (⟨g.acct, -g.sum⟩ : Lg)) ∘ fun g => ⟨g.acct, -g.sum⟩) = id := by
    funext g
    cases g
    simp
  rw [this, List.map_id]
theorem total_neg (l : List Int) : total (l.map fun x => -x) = -total l := by
  induction l with
  | nil => rfl
  | cons x r ih => rw [List.map_cons, total_cons, total_cons, ih]; omega
theorem sums_neg (L : List Lg) : sums (negL L) = (sums L).map fun x => -x := by
  unfold sums negL
  rw [List.map_map, List.map_map]
  rfl
theorem sumsOf_append (L R : List Lg) (k : List UInt8) : sumsOf (L ++ R) k = sumsOf L k ++ sumsOf R k := by
  unfold sumsOf
  rw [List.filter_append, List.map_append]
theorem sumsOf_neg (L : List Lg) (k : List UInt8) : sumsOf (negL L) k = (sumsOf L k).map fun x => -x := by
  unfold sumsOf negL
  rw [List.filter_map, List.map_map, List.map_map]
  rfl
theorem net_back (L : List Lg) : netE (L ++ negL L) = 0 ∧ netL (L ++ negL L) = [] := by
  have h0 : ∀ k, total (sumsOf (L ++ negL L) k) = 0 := fun k => by
    rw [sumsOf_append, sumsOf_neg, total_append, total_neg]
    omega
  have hin : ∀ a ∈ nmA (L ++ negL L), In64 (total (sumsOf (L ++ negL L) a.name)) := fun a _ => by rw [h0]; unfold In64; omega
  refine ⟨netE_ok hin, ?_⟩
  rw [netL_ok hin]
  unfold netsOf
  rw [List.filterMap_eq_nil_iff]
  intro a _
  unfold netLg
  rw [if_pos (h0 _)]
theorem byOf_neg (L : List Lg) (nm : List UInt8) : byOf (negL L) nm = -byOf L nm := by
  unfold byOf negL
  rw [List.map_map, ← total_neg, List.map_map]
  congr 1
  refine List.map_congr_left fun g _ => ?_
  show (if (⟨g.acct, -g.sum⟩ : Lg).nm = nm then _ else _) = -(if g.nm = nm then _ else _)
  rw [show (⟨g.acct, -g.sum⟩ : Lg).nm = g.nm from rfl]
  split <;> rfl
theorem right_sum {L : List Lg} (h : rightB L = true) : ∀ g ∈ L, nameB g.nm = true ∧ g.sum ≠ 0 := by
  unfold rightB at h
  simp only [Bool.and_eq_true, decide_eq_true_eq, List.all_eq_true] at h
  exact h.1.2
theorem right_neg {L : List Lg} (h : rightB L = true) : rightB (negL L) = true := by
  have h0 := right_sum h
  unfold rightB at h ⊢
  simp only [Bool.and_eq_true, decide_eq_true_eq, List.all_eq_true] at h ⊢
  rw [negL_nm, negL_length]
  refine ⟨⟨h.1.1, fun g hg => ?_⟩, h.2⟩
  unfold negL at hg
  obtain ⟨b, hb, rfl⟩ := List.mem_map.1 hg
  have := h0 b hb
  exact ⟨this.1, by simpa using this.2⟩
theorem check_none_min {S : List Ac} {L : List Lg} (h : checkE S L = 0) : ∀ g ∈ L, g.sum ≠ -9223372036854775808 := fun g hg => by
  obtain ⟨h1, _, h3⟩ := check_zero h
  have h4 := (legs_each S L S (right_nodup h1) (fun _ _ => rfl)).1 h3 g hg
  obtain ⟨_, _, _, hm, _⟩ := leg_some h4
  exact hm
/-- what is mirrored is posted, or an account owes -/
theorem make_back {S : List Ac} (hI : Inv S) {L : List Lg} (hok : ∀ g ∈ L, g.ok) (h : checkE S L = 0) : (checkE (makeS S L) (negL L) = 0 ∧ makeS (makeS S L) (negL L) = S) ∨ checkE (makeS S L) (negL L) = 9 := by
  obtain ⟨h1, h2, h3⟩ := check_zero h
  have hd := right_nodup h1
  have hd' : ((negL L).map Lg.nm).Nodup := by rw [negL_nm]; exact hd
  have hU := (make_weighs hI h).1
  have hIU : Inv (makeS S L) := inv_make hI L
  have hc : checkE (makeS S L) (negL L) = legsE (makeS S L) (negL L) := by
    unfold checkE
    rw [if_neg (by rw [right_neg h1]; decide), if_pos (by rw [sums_neg, total_neg, h2]; rfl)]
  have each : ∀ g ∈ negL L, legE (makeS S L) g = 0 ∨ legE (makeS S L) g = 9 := fun g hg => by
    unfold negL at hg
    obtain ⟨b, hb, rfl⟩ := List.mem_map.1 hg
    have hb0 := (legs_each S L S hd (fun _ _ => rfl)).1 h3 b hb
    obtain ⟨a, ha, hin, hmin, _, _⟩ := leg_some hb0
    have hby : byOf L b.nm = b.sum := by
      rw [byOf_find L b.nm hd]
      have : L.find? (fun g => g.nm == b.nm) = some b := by
        rw [List.find?_eq_some_iff_append]
        obtain ⟨A, B, rfl⟩ := List.append_of_mem hb
        refine ⟨by simp, A, B, rfl, fun x hx => ?_⟩
        simp only [Bool.not_eq_true', beq_eq_false_iff_ne]
        intro e
        rw [List.map_append, List.map_cons, List.nodup_append] at hd
        exact hd.2.2 _ (List.mem_map.2 ⟨x, hx, rfl⟩) _ List.mem_cons_self e
      rw [this]
    have hg' : getA (makeS S L) b.nm = some (updA L a) := by
      rw [hU, getA_map (updA L) (fun _ => rfl), ha]
      rfl
    have hn := (getA_some ha).2
    have hoka := hI.ok a (getA_some ha).1
    unfold legE
    rw [show (⟨b.acct, -b.sum⟩ : Lg).nm = b.nm from rfl, hg']
    simp only [Option.isSome_some, Bool.true_eq_false, if_false]
    have hne : ¬ (-b.sum = -9223372036854775808) := by
      have h6 := (hok b hb).2
      unfold In64 at h6
      omega
    rw [if_neg hne]
    unfold actE
    rw [hg']
    simp only [Int.neg_neg]
    have e1 : (updA L a).hv - b.sum = a.hv := by unfold updA; simp only [hn, hby]; omega
    unfold giveE
    rw [e1, if_pos hoka.1]
    split
    · exact .inr rfl
    · exact .inl rfl
  by_cases h0 : legsE (makeS S L) (negL L) = 0
  · left
    refine ⟨by rw [hc, h0], ?_⟩
    have hc0 : checkE (makeS S L) (negL L) = 0 := by rw [hc, h0]
    rw [(make_weighs hIU hc0).1, hU, List.map_map]
    have : (updA (negL L) ∘ updA L) = id := by
      funext a
      unfold updA
      simp only [Function.comp, byOf_neg, id]
      cases a
      simp
      omega
    rw [this, List.map_id]
  · right
    rw [hc, legs_first _ _ _ hd' (fun _ _ => rfl)]
    rw [legs_first _ _ _ hd' (fun _ _ => rfl)] at h0
    cases hf : (negL L).find? fun g => decide (legE (makeS S L) g ≠ 0) with
    | none => rw [hf] at h0; exact absurd rfl h0
    | some g =>
      have hm := List.mem_of_find?_eq_some hf
      have hp := List.find?_some hf
      simp only [decide_eq_true_eq] at hp
      rcases each g hm with h | h
      · exact absurd h hp
      · simp [h]
end Go.Proofs.Ytpaeohmoecdniab
