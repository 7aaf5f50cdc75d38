/- What legs change, in lists: the total stays, each account grows by its leg. -/
import Derived.Test.YtgklifbfbjdobaaGreatVouRow
import Derived.Test.YtgklifbfbjdobaaGreatMJ
namespace Go.Proofs.YtgklifbfbjdobaaGreat
open Go.RowKit Go.My Go.Maps
set_option linter.unusedSimpArgs false
set_option linter.unusedVariables false

theorem total_set : ∀ (S : List Ac) (k : Nat) (hk : k < S.length) (b : Ac), total (hvs (S.set k b)) = total (hvs S) - S[k].hv + b.hv
  | c :: r, 0, _, b => by
    show total (b.hv :: hvs r) = total (c.hv :: hvs r) - c.hv + b.hv
    rw [total_cons, total_cons]; omega
  | c :: r, k + 1, hk, b => by
    have ih := total_set r k (by simpa using hk) b
    have hk' : k < r.length := by simpa using hk
    show total (c.hv :: hvs (r.set k b)) = total (c.hv :: hvs r) - r[k].hv + b.hv
    rw [total_cons, total_cons, ih]; omega
theorem total_put {S : List Ac} (hr : Rise S) {a b : Ac} {nm : List UInt8} (hg : getA S nm = some a) (hb : b.name = a.name) : total (hvs (putA b S)) = total (hvs S) - a.hv + b.hv := by
  obtain ⟨k, hk, rfl⟩ := List.getElem_of_mem (getA_some hg).1
  rw [put_set S k hk b hr hb.symm, total_set S k hk b]
theorem legs_total : ∀ (L : List Lg) {T : List Ac}, Inv T → legsE T L = 0 → total (hvs (legsS T L)) = total (hvs T) + total (sums L)
  | [], T, _, _ => by simp [legsS, sums, total_nil]
  | g :: r, T, hI, h => by
    unfold legsE at h
    by_cases h0 : legE T g = 0
    · rw [if_pos h0] at h
      have ih := legs_total r (inv_leg hI g) h
      obtain ⟨a, ha, _, _, _, he⟩ := leg_some h0
      have e : legsS T (g :: r) = legsS (legS T g) r := by
        show (if legE T g = 0 then _ else _) = _
        rw [if_pos h0]
      rw [e, ih, he, total_put (b := { a with hv := a.hv + g.sum }) hI.rise ha rfl]
      show _ = _ + total (g.sum :: sums r)
      rw [total_cons]
      simp only
      omega
    · rw [if_neg h0] at h
      exact absurd h h0

/-- what legs add to an account -/
def byOf (L : List Lg) (nm : List UInt8) : Int := total (L.map fun g => if g.nm = nm then g.sum else 0)
theorem byOf_take {L : List Lg} {k : Nat} (hk : k < L.length) (nm : List UInt8) : byOf (L.take (k + 1)) nm = byOf (L.take k) nm + if L[k].nm = nm then L[k].sum else 0 := by
  unfold byOf
  rw [List.take_succ_eq_append_getElem hk, List.map_append, total_append]
  simp [total_cons, total_nil]
theorem byOf_none : ∀ (L : List Lg) (nm : List UInt8), (∀ g ∈ L, g.nm ≠ nm) → byOf L nm = 0
  | [], _, _ => rfl
  | g :: r, nm, h => by
    have ih := byOf_none r nm fun x hx => h x (List.mem_cons_of_mem _ hx)
    unfold byOf at ih ⊢
    rw [List.map_cons, total_cons, ih, if_neg (h g List.mem_cons_self)]
    rfl
theorem byOf_find : ∀ (L : List Lg) (nm : List UInt8), (L.map Lg.nm).Nodup → byOf L nm = match L.find? (fun g => g.nm == nm) with | some g => g.sum | none => 0
  | [], _, _ => rfl
  | g :: r, nm, hd => by
    rw [List.map_cons, List.nodup_cons] at hd
    rw [List.find?_cons]
    by_cases h : g.nm = nm
    · have h0 := byOf_none r nm fun x hx e => hd.1 (List.mem_map.2 ⟨x, hx, by rw [e, h]⟩)
      unfold byOf at h0 ⊢
      rw [List.map_cons, total_cons, h0, if_pos h, Int.add_zero]
      simp [h]
    · have ih := byOf_find r nm hd.2
      rw [beq_eq_false_iff_ne.2 h]
      simp only
      rw [← ih]
      unfold byOf
      rw [List.map_cons, total_cons, if_neg h, Int.zero_add]
/-- an account behind the legs -/
def updA (L : List Lg) (a : Ac) : Ac := { a with hv := a.hv + byOf L a.name }
theorem getA_map (f : Ac → Ac) (hf : ∀ a, (f a).name = a.name) : ∀ (S : List Ac) (k : List UInt8), getA (S.map f) k = (getA S k).map f
  | [], _ => rfl
  | a :: r, k => by
    rw [List.map_cons, getA_cons, getA_cons, hf, getA_map f hf r k]
    split <;> rfl
theorem rise_map (f : Ac → Ac) (hf : ∀ a, (f a).name = a.name) {S : List Ac} (h : Rise S) : Rise (S.map f) :=
  List.pairwise_map.2 (h.imp fun {a b} hab => by unfold Ac.key at hab ⊢; rw [hf, hf]; exact hab)
theorem right_nodup {L : List Lg} (h : rightB L = true) : (L.map Lg.nm).Nodup := by
  unfold rightB at h
  simp only [Bool.and_eq_true, decide_eq_true_eq] at h
  exact h.2
theorem check_zero {S : List Ac} {L : List Lg} (h : checkE S L = 0) : rightB L = true ∧ total (sums L) = 0 ∧ legsE S L = 0 := by
  unfold checkE at h
  cases hb : rightB L with
  | false => rw [hb] at h; simp at h
  | true =>
    rw [hb] at h
    simp only [Bool.true_eq_false, if_false] at h
    split at h
    · rename_i h0; exact ⟨rfl, h0, h⟩
    · cases h
theorem legs_map {S : List Ac} (hI : Inv S) {L : List Lg} (hd : (L.map Lg.nm).Nodup) (h : legsE S L = 0) : legsS S L = S.map (updA L) := by
  have h2 := (legs_each S L S hd (fun _ _ => rfl)).1 h
  refine rise_ext _ _ (inv_legs hI L).rise (rise_map (updA L) (fun _ => rfl) hI.rise) fun k => ?_
  rw [legs_get S L S hd (fun _ _ => rfl) h2 k, getA_map (updA L) (fun _ => rfl)]
  have hb := byOf_find L k hd
  cases hf : L.find? (fun g => g.nm == k) with
  | some g =>
    rw [hf] at hb
    simp only at hb ⊢
    cases hq : getA S k with
    | none => rfl
    | some a =>
      have hn := (getA_some hq).2
      simp only [Option.map_some, updA, hn, hb]
  | none =>
    rw [hf] at hb
    simp only at hb ⊢
    cases hq : getA S k with
    | none => rfl
    | some a =>
      have hn := (getA_some hq).2
      simp only [Option.map_some, updA, hn, hb, Int.add_zero]
      rw [← hn]
theorem make_weighs {S : List Ac} (hI : Inv S) {L : List Lg} (h : checkE S L = 0) : makeS S L = S.map (updA L) ∧ total (hvs (makeS S L)) = total (hvs S) := by
  obtain ⟨h1, h2, h3⟩ := check_zero h
  unfold makeS
  rw [if_pos h]
  exact ⟨legs_map hI (right_nodup h1) h3, by rw [legs_total L hI h3, h2, Int.add_zero]⟩
theorem make_err {S : List Ac} {L : List Lg} (h : checkE S L ≠ 0) : makeS S L = S := by
  unfold makeS
  rw [if_neg h]
theorem two_inj {a b c d : Int} (h : #[Value.int .i64 a, Value.int .i64 b] = #[Value.int .i64 c, Value.int .i64 d]) : a = c ∧ b = d := by
  injection h with h
  injection h with h1 h2
  injection h2 with h2
  injection h1 with _ h1
  injection h2 with _ h2
  exact ⟨h1, h2⟩
end Go.Proofs.YtgklifbfbjdobaaGreat
