/- The document's own voucher: may legs be? -/
import Derived.Test.YtcjdkifojkjjeaaGreatVouLg
import Derived.Test.YtcjdkifojkjjeaaGreatVouW
namespace Go.Proofs.YtcjdkifojkjjeaaGreat
open Go.RowKit Go.My Go.Maps
set_option linter.unusedSimpArgs false
set_option linter.unusedVariables false
attribute [local go_sem ↓] Go.wp_at_zero Go.wp_at_succ

theorem nodup_snoc {L : List Lg} {i : Nat} (hi : i < L.length) (h : ((L.take i).map Lg.nm).Nodup) (hn : ∀ x ∈ L.take i, x.nm ≠ L[i].nm) : ((L.take (i + 1)).map Lg.nm).Nodup := by
  rw [List.take_succ_eq_append_getElem hi, List.map_append, List.nodup_append]
  refine ⟨h, by simp, fun a ha b hb => ?_⟩
  obtain ⟨x, hx, rfl⟩ := List.mem_map.1 ha
  simp only [List.map_cons, List.map_nil, List.mem_singleton] at hb
  rw [hb]
  exact hn x hx
theorem not_nodup {L : List Lg} {i k : Nat} (hi : i < L.length) (hk : k < i) (h : L[k].nm = L[i].nm) : rightB L = false := by
  cases hb : rightB L with
  | false => rfl
  | true =>
    have h1 := right_nodup hb
    have h2 := List.pairwise_iff_getElem.1 h1 k i (by simp; omega) (by simpa using hi) hk
    simp [h] at h2
theorem right_end {L : List Lg} (h1 : L.all okLg = true) (h2 : (L.map Lg.nm).Nodup) : rightB L = (decide (2 ≤ L.length) && decide (L.length ≤ 6)) := by
  unfold rightB
  have e : L.all (fun g => nameB g.nm && decide (g.sum ≠ 0)) = true := h1
  rw [e, decide_eq_true h2]
  simp

def RrRel (w : World) (L : List Lg) (iv : Value) (wr : World) : Prop := ∃ i j : Nat, i ≤ L.length ∧ iv = .int .i64 i ∧ (L.take i).all okLg = true ∧ ((L.take i).map Lg.nm).Nodup ∧ wr = w.drewN j
def RkRel (w : World) (L : List Lg) (i : Nat) (nm : List UInt8) (kv : Value) (wr : World) : Prop := ∃ k j : Nat, k ≤ i ∧ kv = .int .i64 k ∧ (∀ x ∈ L.take k, x.nm ≠ nm) ∧ wr = w.drewN j

set_option maxRecDepth 100000 in
set_option maxHeartbeats 2000000 in
theorem refright_any (F : Nat → Prop) (A : Option Addr) (c : Nat) (cells : List Value) (L : List Lg) (w : World) (hr : Rd w F 2 A L.length cells) (hE : Each RdLg 2 cells L) (hL : L.length ≤ 100) :
    Calls Tryz.prog 81 #[.slice A L.length c] w fun e w' => e = .returned (.bool (rightB L)) ∧ Fr No w w' := by
  have HR := Lib.hid hr
  have HE := Lib.hid hE
  clear hr hE
  go_enter Tryz.func81, Tryz.ntmps81
  go_wp2_with fail
  go_loopw [3] (fun iv wr => RrRel w L iv wr) (fun iv _ => L.length - (intOf iv).toNat)
  case atStart => exact ⟨0, 0, Nat.zero_le _, rfl, rfl, List.nodup_nil, rfl⟩
  case round =>
    obtain ⟨i, j0, hi, rfl, hall, hnd, rfl⟩ := hrel
    have HALL := Lib.hid hall
    have HND := Lib.hid hnd
    clear hall hnd
    by_cases hil : i < L.length
    · obtain ⟨ad, rfl, _, hok, q0, q1⟩ := lg_at HR.out HE.out i hil hil
      have HBAD : Hid (okLg L[i] = false → rightB L = false) := rightB_bad hil
      have HNX : Hid (okLg L[i] = true → (L.take (i + 1)).all okLg = true) := fun h => by
        rw [List.take_succ_eq_append_getElem hil, List.all_append, HALL.out]
        simp [h]
      have HSN : Hid ((∀ x ∈ L.take i, x.nm ≠ L[i].nm) → ((L.take (i + 1)).map Lg.nm).Nodup) := nodup_snoc hil HND.out
      have HNN : Hid (∀ k (hk : k < i), L[k].nm = L[i].nm → rightB L = false) := fun k hk h => not_nodup hil hk h
      generalize hg : L[i] = g at *
      obtain ⟨nm, sm⟩ := g
      unfold Lg.ok at hok
      simp only at q0 q1 hok
      obtain ⟨lo, hlo, hlo2⟩ : ∃ lo : List UInt8, nm = ⟨lo.toArray⟩ ∧ nm.data.toList = lo := ⟨nm.data.toList, by simp, rfl⟩
      have hN := refname_any nm (w.drewN j0) hok.1
      unfold Lg.nm at HSN HNN
      unfold okLg Lg.nm at HBAD HNX
      simp only at HSN HNN HBAD HNX
      rw [hlo2] at hN HSN HNN HBAD HNX
      subst hlo
      have HN := Lib.hid hN
      clear hN hok hlo2 hg
      cases hnb : nameB lo with
      | false =>
        rw [hnb] at HN HBAD
        have HB : Hid (rightB L = false) := HBAD.out rfl
        clear hnb
        go_wp2_with fail
        refine HN.out.mono ?_
        rintro e w3 ⟨rfl, rfl⟩
        go_wp2
        go_ret
        exact ⟨by rw [HB.out]; rfl, (Fr.refl _ _).drewN _⟩
      | true =>
        rw [hnb] at HN HBAD HNX
        clear hnb
        by_cases hs0 : sm = 0
        · subst hs0
          have HB : Hid (rightB L = false) := HBAD.out rfl
          go_wp2_with fail
          refine HN.out.mono ?_
          rintro e w3 ⟨rfl, rfl⟩
          go_wp2
          go_ret
          exact ⟨by rw [HB.out]; rfl, (Fr.refl _ _).drewN _⟩
        · have hz : (sm == 0) = false := beq_eq_false_iff_ne.2 hs0
          have HA : Hid ((L.take (i + 1)).all okLg = true) := HNX.out (by simp [hs0])
          clear hs0 HBAD HNX
          go_wp2_with fail
          refine HN.out.mono ?_
          rintro e w3 ⟨rfl, rfl⟩
          go_wp2_with fail
          go_loopw [4] (fun kv ws => RkRel w L i lo kv ws) (fun kv _ => i - (intOf kv).toNat)
          case atStart => exact ⟨0, j0, Nat.zero_le _, rfl, fun x hx => by simp at hx, rfl⟩
          case round =>
            obtain ⟨k, j1, hk, rfl, hno, rfl⟩ := hrel
            by_cases hki : k < i
            · obtain ⟨bd, hbd, _, hok2, p0, p1⟩ := lg_at HR.out HE.out k (by omega) (by omega)
              injection hbd with hbd
              subst hbd
              have HTK : Hid (L.take (k + 1) = L.take k ++ [L[k]]) := List.take_succ_eq_append_getElem (by omega)
              have HNK := Lib.hid (HNN.out k hki)
              have HNO := Lib.hid hno
              generalize L[k] = h at *
              obtain ⟨nk, sk⟩ := h
              simp only at p0 p1
              obtain ⟨lk, hlk, hlk2⟩ : ∃ lo : List UInt8, nk = ⟨lo.toArray⟩ ∧ nk.data.toList = lo := ⟨nk.data.toList, by simp, rfl⟩
              simp only [hlk2] at HNK
              subst hlk
              clear hno hok2 hlk2 HN HNN
              by_cases hn : lk = lo
              · subst hn
                have HB : Hid (rightB L = false) := HNK.out rfl
                go_wp2
                go_quiet (fail)
                go_wp2
                go_ret
                exact ⟨by rw [HB.out]; rfl, ((Fr.refl _ _).drewN _).drewN _⟩
              · have hz1 : (lk == lo) = false := beq_eq_false_iff_ne.2 hn
                have hz2 : ((⟨lk.toArray⟩ : ByteArray).toList == (⟨lo.toArray⟩ : ByteArray).toList) = false := by rw [ByteArray.toList_eq, ByteArray.toList_eq]; exact hz1
                have HNE := Lib.hid hn
                clear hn
                go_wp2
                go_quiet (fail)
                go_wp2
                go_roundw
                case rel =>
                  refine ⟨k + 1, _, by omega, by go_num, fun x hx => ?_, rfl⟩
                  rw [HTK.out, List.mem_append, List.mem_singleton] at hx
                  rcases hx with hx | hx
                  · exact HNO.out x hx
                  · rw [hx]; exact HNE.out
                case measure => simp [intOf]; omega
            · obtain rfl : k = i := by omega
              have HD : Hid (((L.take (k + 1)).map Lg.nm).Nodup) := HSN.out hno
              clear hno
              go_wp2
              go_roundw
              case rel => exact ⟨k + 1, _, by omega, by go_num, HA.out, HD.out, rfl⟩
              case measure => simp [intOf]; omega
    · obtain rfl : i = L.length := by omega
      have HEN : Hid (rightB L = (decide (2 ≤ L.length) && decide (L.length ≤ 6))) := by
        have h1 := HALL.out
        have h2 := HND.out
        rw [List.take_length] at h1 h2
        exact right_end h1 h2
      by_cases h2 : 2 ≤ L.length
      · have h2' : ¬ (L.length : Int) < 2 := by omega
        by_cases h6 : L.length ≤ 6
        · have h6' : decide ((L.length : Int) ≤ 6) = true := decide_eq_true (by omega)
          have HB : Hid (rightB L = true) := by show _ = _; rw [HEN.out, decide_eq_true h2, decide_eq_true h6]; rfl
          go_wp2
          go_ret
          exact ⟨by rw [HB.out]; rfl, (Fr.refl _ _).drewN _⟩
        · have h6' : decide ((L.length : Int) ≤ 6) = false := decide_eq_false (by omega)
          have HB : Hid (rightB L = false) := by show _ = _; rw [HEN.out, decide_eq_false h6]; simp
          go_wp2
          go_ret
          exact ⟨by rw [HB.out]; rfl, (Fr.refl _ _).drewN _⟩
      · have h2' : (L.length : Int) < 2 := by omega
        have HB : Hid (rightB L = false) := by show _ = _; rw [HEN.out, decide_eq_false h2]; rfl
        go_wp2
        go_ret
        exact ⟨by rw [HB.out]; rfl, (Fr.refl _ _).drewN _⟩
end Go.Proofs.YtcjdkifojkjjeaaGreat
