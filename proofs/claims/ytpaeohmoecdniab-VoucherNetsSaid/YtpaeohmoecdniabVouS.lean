/- What accounts grow by together: in any row, and in all; lists of lists of legs that the call makes. -/
import Derived.Test.YtpaeohmoecdniabVouB
import Derived.Test.YtpaeohmoecdniabVouC
namespace Go.Proofs.Ytpaeohmoecdniab
open Go.RowKit Go.My Go.Maps
set_option linter.unusedSimpArgs false
set_option linter.unusedVariables false

theorem nmA_perm {F G : List Lg} (h : F.Perm G) : nmA F = nmA G :=
  rise_mem_ext (rise_nmA F) (rise_nmA G) (fun a ha => nmA_nm0 ha) (fun a ha => nmA_nm0 ha) fun k => by
    rw [mem_nmA, mem_nmA]
    constructor
    · rintro ⟨g, hg, e⟩
      exact ⟨g, h.mem_iff.1 hg, e⟩
    · rintro ⟨g, hg, e⟩
      exact ⟨g, h.mem_iff.2 hg, e⟩
theorem tot_perm {F G : List Lg} (h : F.Perm G) (k : List UInt8) : total (sumsOf F k) = total (sumsOf G k) := total_perm ((h.filter _).map _)
theorem net_perm {F G : List Lg} (h : F.Perm G) : netE F = netE G ∧ netL F = netL G := by
  have e1 : netE F = netE G := by
    unfold netE
    rw [nmA_perm h]
    simp only [tot_perm h]
  refine ⟨e1, ?_⟩
  unfold netL
  rw [e1, nmA_perm h]
  have : netsOf F = netsOf G := by
    funext S
    unfold netsOf
    congr 1
    funext a
    unfold netLg
    rw [tot_perm h]
  rw [this]

/-- legs of small sums -/
def Small (F : List Lg) : Prop := ∀ g ∈ F, -1099511627776 ≤ g.sum ∧ g.sum ≤ 1099511627776
theorem small_total : ∀ (l : List Int), (∀ x ∈ l, -1099511627776 ≤ x ∧ x ≤ 1099511627776) → -1099511627776 * (l.length : Int) ≤ total l ∧ total l ≤ 1099511627776 * (l.length : Int)
  | [], _ => by simp [total_nil]
  | x :: r, h => by
    have h1 := h x List.mem_cons_self
    have h2 := small_total r fun y hy => h y (List.mem_cons_of_mem _ hy)
    rw [total_cons]
    simp only [List.length_cons, Int.natCast_add]
    omega
theorem small_net {F : List Lg} (h : Small F) (hl : F.length ≤ 1000) : ∀ a ∈ nmA F, In64 (total (sumsOf F a.name)) := fun a _ => by
  have h1 := small_total (sumsOf F a.name) (fun x hx => by
    unfold sumsOf at hx
    obtain ⟨g, hg, rfl⟩ := List.mem_map.1 hx
    exact h g (List.mem_filter.1 hg).1)
  have h2 := sumsOf_length F a.name
  unfold In64
  omega
theorem small_all {F : List Lg} (h : Small F) (hl : F.length ≤ 1000) : In64 (total (sums F)) := by
  have h1 := small_total (sums F) (fun x hx => by
    unfold sums at hx
    obtain ⟨g, hg, rfl⟩ := List.mem_map.1 hx
    exact h g hg)
  rw [sums_length] at h1
  unfold In64
  omega
theorem once_total (x : Int) (n : List UInt8) : ∀ (K : List (List UInt8)), K.Nodup → n ∈ K → total (K.map fun k => if n = k then x else 0) = x
  | [], _, h => by cases h
  | k :: r, hd, h => by
    rw [List.nodup_cons] at hd
    rw [List.map_cons, total_cons]
    by_cases hk : n = k
    · subst hk
      rw [if_pos rfl]
      have : total (r.map fun k => if n = k then x else 0) = 0 := by
        have h0 : ∀ (l : List (List UInt8)), n ∉ l → total (l.map fun k => if n = k then x else 0) = 0 := by
          intro l
          induction l with
          | nil => intro _; rfl
          | cons y l ih =>
            intro hn
            rw [List.map_cons, total_cons, ih (fun h => hn (List.mem_cons_of_mem _ h)), if_neg (fun e => hn (by rw [e]; exact List.mem_cons_self))]
            rfl
        exact h0 r hd.1
      omega
    · rw [if_neg hk, once_total x n r hd.2 ((List.mem_cons.1 h).resolve_left hk)]
      omega
theorem total_zip (f g : List UInt8 → Int) : ∀ K : List (List UInt8), total (K.map fun k => f k + g k) = total (K.map f) + total (K.map g)
  | [] => rfl
  | k :: r => by
    have := total_zip f g r
    rw [List.map_cons, List.map_cons, List.map_cons, total_cons, total_cons, total_cons, this]
    omega
theorem groups_total (K : List (List UInt8)) (hd : K.Nodup) : ∀ (F : List Lg), (∀ g ∈ F, g.nm ∈ K) → total (K.map fun k => total (sumsOf F k)) = total (sums F)
  | [], _ => by
    have : (K.map fun k => total (sumsOf [] k)) = K.map fun _ => (0 : Int) := List.map_congr_left fun _ _ => rfl
    rw [this, List.map_const', total_replicate]
    simp [sums, total_nil]
  | g :: r, h => by
    have ih := groups_total K hd r fun x hx => h x (List.mem_cons_of_mem _ hx)
    have e : (K.map fun k => total (sumsOf (g :: r) k)) = K.map fun k => (if g.nm = k then g.sum else 0) + total (sumsOf r k) := List.map_congr_left fun k _ => by
      unfold sumsOf
      rw [List.filter_cons]
      by_cases hk : g.nm = k
      · rw [if_pos (by simpa using hk), if_pos hk, List.map_cons, total_cons]
      · rw [if_neg (by simpa using hk), if_neg hk, Int.zero_add]
    rw [e, total_zip, once_total g.sum g.nm K hd (h g List.mem_cons_self), ih]
    rfl
theorem nets_total (F : List Lg) : ∀ S : List Ac, total (sums (netsOf F S)) = total (S.map fun a => total (sumsOf F a.name))
  | [] => rfl
  | a :: r => by
    have ih := nets_total F r
    rw [List.map_cons, total_cons, ← ih]
    unfold netsOf
    rw [List.filterMap_cons]
    unfold netLg
    by_cases h : total (sumsOf F a.name) = 0
    · rw [if_pos h, h, Int.zero_add]
    · rw [if_neg h]
      rfl
theorem names_nodup {S : List Ac} (h : Rise S) : (S.map Ac.name).Nodup := by
  refine List.pairwise_map.2 (h.imp fun {a b} hab e => ?_)
  have hab' : bytesBefore a.name b.name = true := hab
  rw [e, WideAt.bytes_irrefl] at hab'
  cases hab'
/-- all together they are what all legs are together -/
theorem net_all (F : List Lg) (h : ∀ a ∈ nmA F, In64 (total (sumsOf F a.name))) : total (sums (netL F)) = total (sums F) := by
  rw [netL_ok h, nets_total]
  have := groups_total ((nmA F).map Ac.name) (names_nodup (rise_nmA F)) F fun g hg => List.mem_map.2 ⟨nm0 g.nm, (mem_nmA F _).2 ⟨g, hg, rfl⟩, rfl⟩
  rw [List.map_map] at this
  exact this
/-- they rise, and none is 0 -/
theorem nets_rise {F : List Lg} : ∀ {S : List Ac}, Rise S → (netsOf F S).Pairwise fun a b => bytesBefore a.nm b.nm = true
  | [], _ => List.Pairwise.nil
  | a :: r, h => by
    obtain ⟨h1, h2⟩ := List.pairwise_cons.1 h
    have ih := nets_rise (F := F) h2
    unfold netsOf at ih ⊢
    rw [List.filterMap_cons]
    cases hq : netLg F a with
    | none => exact ih
    | some g =>
      refine List.pairwise_cons.2 ⟨fun b hb => ?_, ih⟩
      obtain ⟨c, hc, hcb⟩ := List.mem_filterMap.1 hb
      have hn : ∀ {a : Ac} {g : Lg}, netLg F a = some g → g.nm = a.name := fun {a g} h => by
        unfold netLg at h
        split at h
        · cases h
        · injection h with h
          rw [← h]
          rfl
      rw [hn hq, hn hcb]
      exact h1 c hc
theorem nets_ne {F : List Lg} {S : List Ac} : ∀ g ∈ netsOf F S, g.sum ≠ 0 := fun g hg => by
  unfold netsOf at hg
  obtain ⟨a, _, h⟩ := List.mem_filterMap.1 hg
  unfold netLg at h
  split at h
  · cases h
  · injection h with h
    rw [← h]
    assumption

/-! ### memory -/

def RowL (w : World) (B : Nat) (k : Nat) : Prop := k < w.heap.size ∧ (k < B ∨ ∃ cur, Blk w k 47 cur)
/-- a list of lists of legs in a row of the call's own, each in memory that came in, or in rows of legs -/
def LsO (w : World) (B : Nat) (ov : Value) (Ls : List (List Lg)) : Prop :=
  (∃ cells, Own w 23 1 ov Ls.length cells ∧ (∀ u ∈ cells, u.oneCell' = true) ∧ ∀ i (h : i < Ls.length), ∃ A' c', cells[i]? = some (.slice A' Ls[i].length c') ∧ Rd w (RowL w B) 2 A' Ls[i].length (lgs Ls[i])) ∧ ∀ k, ov.ownBlock = some k → B ≤ k
theorem LsO.nil (w : World) (B : Nat) : LsO w B (.slice none 0 0) [] := ⟨⟨[], Own.nil _ _ _, by simp, fun i h => by simp at h⟩, fun k hk => by simp [Value.ownBlock] at hk⟩
theorem RowL.no {w w' : World} {B k : Nat} {S : Nat → Prop} (h : RowL w B k) (hf : Fr S w w') (hn : ¬ S k) : RowL w' B k := by
  refine ⟨Nat.lt_of_lt_of_le h.1 hf.size, ?_⟩
  rcases h.2 with h1 | ⟨cur, h1⟩
  · exact .inl h1
  · exact .inr ⟨cur, h1.fr hf hn⟩
theorem rowL_fr {w w' : World} {B n : Nat} {S : Nat → Prop} {A : Option Addr} {xs : List Value} (h : Rd w (RowL w B) 2 A n xs) (hf : Fr S w w') (hn : ∀ k, RowL w B k → ¬ S k) : Rd w' (RowL w' B) 2 A n xs :=
  ((h.lt (by omega)).keep fun p hp => hf.cell hp.2 (hn _ hp.1)).more fun k hk => hk.1.no hf (hn k hk.1)
theorem LsO.no {w w' : World} {B : Nat} {ov : Value} {Ls : List (List Lg)} (h : LsO w B ov Ls) (hf : Fr No w w') : LsO w' B ov Ls := by
  obtain ⟨⟨cells, h1, h1', h2⟩, h3⟩ := h
  refine ⟨⟨cells, h1.fr hf (fun _ _ h => h), h1', fun i hi => ?_⟩, h3⟩
  obtain ⟨A', c', h4, h5⟩ := h2 i hi
  exact ⟨A', c', h4, rowL_fr h5 hf fun _ _ h => h⟩
theorem LsO.form {w : World} {B : Nat} {ov : Value} {Ls : List (List Lg)} (h : LsO w B ov Ls) : ∃ A c, ov = .slice A Ls.length c ∧ Ls.length ≤ c ∧ c ≤ maxLen := by
  obtain ⟨⟨cells, h1, _⟩, _⟩ := h
  exact h1.form
theorem LsO.ls {w : World} {B c : Nat} {A : Option Addr} {Ls : List (List Lg)} (h : LsO w B (.slice A Ls.length c) Ls) : LsS w A Ls := by
  obtain ⟨⟨cells, h1, h1', h2⟩, h3⟩ := h
  refine ⟨cells, h1.rd.more fun _ _ => trivial, fun i hi => ?_⟩
  obtain ⟨A', c', h4, h5⟩ := h2 i hi
  exact ⟨A', c', h4, h5.more fun _ _ => trivial⟩
/-- one list more -/
theorem LsO.push {w w' : World} {B : Nat} {ov v' : Value} {Ls : List (List Lg)} {A : Option Addr} {c : Nat} {L : List Lg} {cells : List Value} (h : LsO w B ov Ls) (hr : Rd w (RowL w B) 2 A L.length (lgs L))
    (hc : Own w 23 1 ov Ls.length cells) (ho : Own w' 23 1 v' (Ls.length + 1) (cells ++ [.slice A L.length c])) (hf : Fr (AtO ov.ownBlock) w w') (hn : v'.ownBlock = ov.ownBlock ∨ v'.ownBlock = some w.heap.size) (hB : B ≤ w.heap.size) : LsO w' B v' (Ls ++ [L]) := by
  obtain ⟨⟨cs, h1, h1', h2⟩, h3⟩ := h
  have hcc : cs = cells := by
    rcases h1.2 with ⟨_, h0⟩ | ⟨g, cap, cur, e1, hg, _, _, _, ht⟩
    · have e1 : cs = [] := List.eq_nil_of_length_eq_zero (by rw [h1.1, h0])
      have e2 : cells = [] := List.eq_nil_of_length_eq_zero (by rw [hc.1, h0])
      rw [e1, e2]
    · rcases hc.2 with ⟨e2, _⟩ | ⟨g', cap', cur', e2, hg', _, _, _, ht'⟩
      · rw [e1] at e2; cases e2
      · rw [e1] at e2
        injection e2 with e2
        injection e2 with e2
        injection e2 with e2
        subst e2
        rw [hg] at hg'
        injection hg' with hg'
        injection hg' with hg'
        subst hg'
        rw [← ht, ← ht']
  subst hcc
  have hno : ∀ k, RowL w B k → ¬ AtO ov.ownBlock k := fun k hk ha => by
    have ha' : ov.ownBlock = some k := ha
    rcases hk.2 with h4 | ⟨cur, h4⟩
    · have := h3 k ha'
      omega
    · obtain ⟨cur', h5⟩ := h1.blk k ha'
      exact Blk.ne_ h4 h5 (by decide) rfl
  refine ⟨⟨cs ++ [.slice A L.length c], by simpa using ho, fun u hu => ?_, fun i hi => ?_⟩, fun k hk => ?_⟩
  · rcases List.mem_append.1 hu with hu | hu
    · exact h1' u hu
    · simp only [List.mem_singleton] at hu
      subst hu
      rfl
  · rw [List.length_append, List.length_singleton] at hi
    have hcl : cs.length = Ls.length := by have := h1.1; omega
    by_cases hil : i < Ls.length
    · obtain ⟨A', c', h4, h5⟩ := h2 i hil
      rw [List.getElem_append_left hil]
      exact ⟨A', c', by rw [List.getElem?_append_left (by omega)]; exact h4, rowL_fr h5 hf hno⟩
    · obtain rfl : i = Ls.length := by omega
      rw [List.getElem_append_right (Nat.le_refl _)]
      simp only [Nat.sub_self, List.getElem_cons_zero]
      exact ⟨A, c, by rw [List.getElem?_append_right (by omega), hcl]; simp, rowL_fr hr hf hno⟩
  · rcases hn with hn | hn
    · exact h3 k (by rw [← hn]; exact hk)
    · rw [hn] at hk
      injection hk with hk
      omega
end Go.Proofs.Ytpaeohmoecdniab
