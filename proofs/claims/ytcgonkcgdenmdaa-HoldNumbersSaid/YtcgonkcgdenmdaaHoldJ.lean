/- HoldNumbers' walk. -/
import Derived.Test.YtcgonkcgdenmdaaHoldN
import Derived.Deep.RegionHeld3
import Derived.Deep.DrawnRows
namespace Go.Proofs.Ytcgonkcgdenmdaa
open Go.RowKit Go.My Go.Maps
set_option linter.unusedSimpArgs false
set_option linter.unusedVariables false
attribute [local go_sem ↓] Go.wp_at_zero Go.wp_at_succ

theorem umod_one (k m : Int) (hm : 0 < m) (hm2 : m ≤ 10000) : wrap64 (1 + wrap64 ((IntKind.u64.wrap k).tmod m)) = 1 + (k % 18446744073709551616) % m := by
  rw [IntKind.wrap_u64, Int.tmod_eq_emod_of_nonneg (by omega)]
  have h1 := Int.emod_nonneg (k % 18446744073709551616) (by omega : m ≠ 0)
  have h2 := Int.emod_lt_of_pos (k % 18446744073709551616) hm
  rw [IntWalk.wrap64_in ((k % 18446744073709551616) % m) ⟨by omega, by omega⟩]
  exact IntWalk.wrap64_in _ ⟨by omega, by omega⟩
theorem own1 {w : World} {v : Value} {h : Hd} (ho : Own w 44 3 v 1 (hds [h])) : ∃ g c cur, v = .slice (some ⟨g, 0, none⟩) 1 c ∧ Blk w g 44 cur ∧ 1 ≤ c ∧ c ≤ maxLen ∧ cur[0]? = some (.int .i64 h.num) ∧ cur[1]? = some (.string ⟨h.acct.toArray⟩) ∧ cur[2]? = some (.int .i64 h.sum) := by
  rcases ho.2 with ⟨_, h0⟩ | ⟨g, cap, cur, rfl, hg, hle, hm, hs, ht⟩
  · cases h0
  · have e : ∀ i, i < 3 → cur[i]? = (hds [h])[i]? := fun i hi => by
      rw [← ht, List.getElem?_take, if_pos (by omega), Array.getElem?_toList]
    exact ⟨g, cap, cur, rfl, hg, hle, hm, e 0 (by omega), e 1 (by omega), e 2 (by omega)⟩
set_option maxRecDepth 100000 in
set_option maxHeartbeats 8000000 in
theorem holdNumbers_walk (k0 x0 y0 : Int) (w : World) : Calls Try.prog 6 #[.int .i64 k0, .int .i64 x0, .int .i64 y0] w (RetTrue w) := by
  have E1 := Lib.hid (umod_one k0 9999 (by omega) (by omega))
  have E2 := Lib.hid (umod_one x0 30 (by omega) (by omega))
  have E3 := Lib.hid (umod_one y0 10 (by omega) (by omega))
  have hn : 1 ≤ 1 + (k0 % 18446744073709551616) % 9999 ∧ 1 + (k0 % 18446744073709551616) % 9999 ≤ 9999 := by omega
  have ha : 1 ≤ 1 + (x0 % 18446744073709551616) % 30 ∧ 1 + (x0 % 18446744073709551616) % 30 ≤ 30 := by omega
  have hb : 1 ≤ 1 + (y0 % 18446744073709551616) % 10 ∧ 1 + (y0 % 18446744073709551616) % 10 ≤ 10 := by omega
  generalize 1 + (k0 % 18446744073709551616) % 9999 = n at *
  generalize 1 + (x0 % 18446744073709551616) % 30 = a at *
  generalize 1 + (y0 % 18446744073709551616) % 10 = b at *
  go_enter Try.func6, Try.ntmps6
  go_wp2_with fail
  refine (lives8 _).mono ?_
  rintro e w1 ⟨rfl, hb1⟩
  go_wp2_with fail
  refine (begin_any _).mono ?_
  rintro e w2 ⟨p, m, q, rfl, hc2, -, hf2, hp2, hm2, -⟩
  have HB2 : Hid (∀ W, Fr No w2 W → Below w.heap.size w W) := fun W hW => below_fr_no (below_fr_no hb1 hf2 hb1.size) hW (by have := hb1.size; have := hf2.size; omega)
  have hml := hc2.2.lt
  rw [E1.out, E2.out, E3.out]
  clear E1 E2 E3
  go_wp2_with fail
  refine (newH_any _).mono ?_
  rintro e w3 ⟨ph, mh, rfl, hh3, hf3, hp3, hm3⟩
  have hmh : mh ≠ m := by omega
  have hc3 := hc2.no hf3
  have P1 := put_any p m ph mh abcS [] ⟨#[97]⟩ n a w3 hc3 kpB.inv hh3 (by simp) hmh (by decide) (by unfold In64; omega) (by unfold In64; omega)
  rw [show (⟨#[97]⟩ : ByteArray).data.toList = [97] from rfl, (n1 hn ha).1, (n1 hn ha).2.1, (n1 hn ha).2.2] at P1
  have s1 := stB.put n a [97] (by omega)
  rw [(n1 hn ha).2.1, (n1 hn ha).2.2] at s1
  have P1 := Lib.hid P1
  go_wp2_with fail
  refine P1.out.mono ?_
  rintro e w4 ⟨rfl, hc4, hh4, hf4⟩
  have P2 := put_any p m ph mh (nS1 a) (nH1 n a) ⟨#[98]⟩ n b w4 hc4 s1.kp.inv hh4 (by simp [nH1]) hmh (by decide) (by unfold In64; omega) (by unfold In64; omega)
  rw [show (⟨#[98]⟩ : ByteArray).data.toList = [98] from rfl, (n2 hn ha hb).1, (n2 hn ha hb).2.1, (n2 hn ha hb).2.2] at P2
  have s2 := s1.put n b [98] (by omega)
  rw [(n2 hn ha hb).2.1, (n2 hn ha hb).2.2] at s2
  have P2 := Lib.hid P2
  go_wp2_with fail
  refine P2.out.mono ?_
  rintro e w5 ⟨rfl, hc5, hh5, hf5⟩
  have P3 := put_any p m ph mh (nS2 a b) (nH2 n a b) ⟨#[97]⟩ n 1 w5 hc5 s2.kp.inv hh5 (by simp [nH2]) hmh (by decide) (by unfold In64; omega) (by unfold In64; omega)
  unfold putSS putHH at P3
  rw [show (⟨#[97]⟩ : ByteArray).data.toList = [97] from rfl, n3 hn ha hb] at P3
  have P3 := Lib.hid P3
  go_wp2_with fail
  refine P3.out.mono ?_
  rintro e w6 ⟨rfl, hc6, hh6, hf6⟩
  rw [if_neg (by decide)] at hc6 hh6
  have O1 := ofH_any ph mh (nH2 n a b) ⟨#[98]⟩ w6 hh6 (by simp [nH2])
  rw [show (⟨#[98]⟩ : ByteArray).data.toList = [98] from rfl, (nOfB hn ha hb).1] at O1
  have O1 := Lib.hid O1
  go_wp2_with fail
  refine O1.out.mono ?_
  rintro e w7 ⟨l, rfl, ho7, hf7, hn7⟩
  have hf7' : Fr No w6 w7 := fr_at_none hf7
  have hc7 := hc6.no hf7'
  have hh7 := hh6.no hf7'
  have T1 := take_any p m ph mh (nS2 a b) (nH2 n a b) ⟨#[97]⟩ ⟨#[99]⟩ n a w7 hc7 s2.kp.inv s2.kp.good hh7 s2.pos (by simp [nH2]) hmh (by decide) (by decide) (by unfold In64; omega) (by unfold In64; omega)
  have s3 := s2.take ⟨#[97]⟩ ⟨#[99]⟩ n a
  obtain ⟨t1, t2, t3⟩ := n4 hn ha hb
  rw [t1, t2] at T1
  rw [t2] at s3
  generalize takeSS (nS2 a b) (nH2 n a b) ⟨#[97]⟩ n ⟨#[99]⟩ a = T at *
  have T1 := Lib.hid T1
  obtain ⟨g7, c7, u7, rfl, hb7, hl7, hcm7, l0, l1, l2⟩ := own1 (h := ⟨n, [98], b⟩) ho7
  go_wp2_with fail
  refine T1.out.mono ?_
  rintro e w8 ⟨rfl, hc8, hh8, hf8⟩
  have O2 := ofH_any ph mh (nH3 n b) ⟨#[98]⟩ w8 hh8 (by simp [nH3])
  rw [show (⟨#[98]⟩ : ByteArray).data.toList = [98] from rfl, (nOfB (a := a) hn ha hb).2.1] at O2
  have O2 := Lib.hid O2
  go_wp2_with fail
  refine O2.out.mono ?_
  rintro e w9 ⟨l9, rfl, ho9, hf9, hn9⟩
  obtain ⟨g9, c9, u9, rfl, hb9, hl9, hcm9, m0, m1, m2⟩ := own1 (h := ⟨n, [98], b⟩) ho9
  have hf9' : Fr No w8 w9 := fr_at_none hf9
  have hc9 := hc8.no hf9'
  have G1 := get_any p m T ⟨#[98]⟩ w9 hc9 (by decide) s3.kp.inv.len
  unfold GotC getV at G1
  rw [show (⟨#[98]⟩ : ByteArray).data.toList = [98] from rfl, t3] at G1
  have G1 : Hid (Calls Try.prog 20 #[.pointer (some ⟨p, 0, none⟩), .string ⟨#[98]⟩] w9 fun e w' => e = .returned (.tuple #[.agg #[.string ⟨#[98]⟩, .int .i64 10, .int .i64 b, .int .i64 5], .int .i64 0]) ∧ ChS w' p m T ∧ Fr (At1 m) w9 w') := G1
  go_wp2_with fail
  refine G1.out.mono ?_
  rintro e w10 ⟨rfl, hc10, hf10⟩
  have hh9 := hh8.no hf9'
  have hh10 := hh9.at1 hc9 hmh hf10
  have hb8 := hb7.fr hf8 (fun e => e.elim (fun e => hc7.2.ne_ hb7 e.symm) (fun e => hh7.2.ne_ hb7 e.symm))
  have hb10 := (hb8.fr hf9' (fun h => h)).fr hf10 (fun e => hc9.2.ne_ (hb8.fr hf9' (fun h => h)) (show g7 = m from e).symm)
  have hd10 := hb9.fr hf10 (fun e => hc9.2.ne_ hb9 (show g9 = m from e).symm)
  go_wp2
  have hx11 := Blk.new w10 42 #[.string ⟨#[98]⟩, .int .i64 10, .int .i64 b, .int .i64 5]
  have hf11 : Fr No w10 (w10.alloc (.cells #[.string ⟨#[98]⟩, .int .i64 10, .int .i64 b, .int .i64 5] 42)) := (Fr.refl _ _).alloc _
  have hbk : Below w.heap.size w w10 := by
    have h1 := (((hf4.trans hf5).trans hf6).trans (no2 hf7')).trans ((hf8.trans (no2 hf9')).trans (hf10.mono (T := At2 m mh) fun _ _ h => .inl h))
    have h2 := hf2.size
    have h3 := hb1.size
    have h4 := hf3.size
    exact below_fr (below_fr_no (below_fr_no hb1 hf2 h3) hf3 (by omega)) h1 (by omega) (fun i hi => by rcases hi with rfl | rfl <;> omega)
  have HLB : Hid (w.heap.size ≤ m ∧ w.heap.size ≤ mh ∧ w.heap.size ≤ w10.heap.size) := by
    have h2 := hf2.size
    have h3 := hb1.size
    have h4 := hf3.size
    exact ⟨by omega, by omega, hbk.size⟩
  have hhB := hh10.no hf11
  have hcB := hc10.no hf11
  have hbB := hb10.fr hf11 (fun h => h)
  have hdB := hd10.fr hf11 (fun h => h)
  generalize (w10.alloc (.cells #[.string ⟨#[98]⟩, .int .i64 10, .int .i64 b, .int .i64 5] 42)) = w11 at *
  have HCX : Hid (∀ W, Fr (At2 m mh) w11 W → Fr (At2 m mh) w11 W ∧ W.cell? ⟨g7, 0, none⟩ = some (.int .i64 n) ∧ W.cell? ⟨g7, 1, none⟩ = some (.string ⟨#[98]⟩) ∧ W.cell? ⟨g7, 2, none⟩ = some (.int .i64 b) ∧ W.cell? ⟨g9, 0, none⟩ = some (.int .i64 n) ∧ W.cell? ⟨g9, 1, none⟩ = some (.string ⟨#[98]⟩) ∧ W.cell? ⟨g9, 2, none⟩ = some (.int .i64 b) ∧ W.cell? ⟨w10.heap.size, 2, none⟩ = some (.int .i64 b)) := fun W hW => by
    have e1 := hbB.fr hW (fun e => e.elim (fun e => hcB.2.ne_ hbB e.symm) (fun e => hhB.2.ne_ hbB e.symm))
    have e2 := hdB.fr hW (fun e => e.elim (fun e => hcB.2.ne_ hdB e.symm) (fun e => hhB.2.ne_ hdB e.symm))
    have e3 := hx11.fr hW (fun e => e.elim (fun e => hcB.2.ne_ hx11 e.symm) (fun e => hhB.2.ne_ hx11 e.symm))
    exact ⟨hW, (e1.cell 0).trans l0, (e1.cell 1).trans l1, (e1.cell 2).trans l2, (e2.cell 0).trans m0, (e2.cell 1).trans m1, (e2.cell 2).trans m2, e3.cell 2⟩
  have HOF : Hid (∀ W, HdS W ph mh (nH3 n b) → Calls Try.prog 15 #[.pointer (some ⟨ph, 0, none⟩), .string ⟨#[97]⟩] W fun e w' => (∃ A c, e = .returned (.slice A 0 c)) ∧ HdS w' ph mh (nH3 n b) ∧ Fr No W w') := fun W hW => by
    have h := ofH_any ph mh (nH3 n b) ⟨#[97]⟩ W hW (by simp [nH3])
    rw [show (⟨#[97]⟩ : ByteArray).data.toList = [97] from rfl, (nOfB (a := a) hn ha hb).2.2] at h
    refine h.mono ?_
    rintro e w' ⟨v, rfl, ho, hf, _⟩
    obtain ⟨A, c, rfl, _, _⟩ := ho.form
    exact ⟨⟨A, c, rfl⟩, hW.no (fr_at_none hf), fr_at_none hf⟩
  have HFA : Hid (∀ W, ChS W p m T → HdS W ph mh (nH3 n b) → Calls Try.prog 19 #[.pointer (some ⟨ph, 0, none⟩), .pointer (some ⟨p, 0, none⟩), .string ⟨#[97]⟩, .int .i64 n] W fun e w' => e = .returned (.int .i64 6) ∧ ChS w' p m T ∧ HdS w' ph mh (nH3 n b) ∧ Fr (At2 m mh) W w') := fun W h1 h2 => by
    have h := free_any p m ph mh T (nH3 n b) ⟨#[97]⟩ n W h1 s3.kp.inv h2 s3.pos (by simp [nH3]) hmh (by decide) (by unfold In64; omega)
    have q1 := (n5 hn ha hb T t3).1
    have q2 := (s3.free [97] n).2 (by rw [q1]; decide)
    rw [show (⟨#[97]⟩ : ByteArray).data.toList = [97] from rfl, q1, q2] at h
    unfold freeHH at h
    rw [q1, if_neg (by decide)] at h
    exact h.mono fun e w' h => ⟨h.ret, h.ch, h.hd, h.fr⟩
  have HFB : Hid (∀ W, ChS W p m T → HdS W ph mh (nH3 n b) → Calls Try.prog 19 #[.pointer (some ⟨ph, 0, none⟩), .pointer (some ⟨p, 0, none⟩), .string ⟨#[98]⟩, .int .i64 n] W fun e w' => e = .returned (.int .i64 0) ∧ Fr (At2 m mh) W w') := fun W h1 h2 => by
    have h := free_any p m ph mh T (nH3 n b) ⟨#[98]⟩ n W h1 s3.kp.inv h2 s3.pos (by simp [nH3]) hmh (by decide) (by unfold In64; omega)
    have q1 := (n5 hn ha hb T t3).2
    rw [show (⟨#[98]⟩ : ByteArray).data.toList = [98] from rfl, q1] at h
    exact h.mono fun e w' h => ⟨h.ret, h.fr⟩
  have HE : Hid (∀ W, Fr (At2 m mh) w11 W → RetTrue w (.returned (.bool true)) W) := fun W hW => ⟨rfl, below_fr (below_fr_no hbk hf11 HLB.out.2.2) hW (by have := hf11.size; have := HLB.out.2.2; omega) (fun i hi => by rcases hi with rfl | rfl; exact HLB.out.1; exact HLB.out.2.1)⟩
  have hwd : Fr (At2 m mh) w11 w11.drew := (Fr.refl _ w11).drew
  have hhd := hhB.no (Fr.refl No w11).drew
  have hcd := hcB.no (Fr.refl No w11).drew
  clear HB2 P1 P2 P3 O1 T1 O2 G1 hb1 hf2 hf3 hf4 hf5 hf6 hf7 hf8 hf9 hf10 hf11 hbk hc2 hc3 hc4 hc5 hc6 hc7 hc8 hc9 hc10 hh3 hh4 hh5 hh6 hh7 hh8 hh9 hh10 hcB hhB hbB hdB hx11 ho7 ho9 s1 s2 s3
  go_region_held3 (fun W => Fr (At2 m mh) w11 W ∧ W.cell? ⟨g7, 0, none⟩ = some (.int .i64 n) ∧ W.cell? ⟨g7, 1, none⟩ = some (.string ⟨#[98]⟩) ∧ W.cell? ⟨g7, 2, none⟩ = some (.int .i64 b) ∧ W.cell? ⟨g9, 0, none⟩ = some (.int .i64 n) ∧ W.cell? ⟨g9, 1, none⟩ = some (.string ⟨#[98]⟩) ∧ W.cell? ⟨g9, 2, none⟩ = some (.int .i64 b) ∧ W.cell? ⟨w10.heap.size, 2, none⟩ = some (.int .i64 b))
    (exact HCX.out _ (by assumption))
    (first
      | (go_at_call 15; (with_reducible refine (HOF.out _ (by first | assumption | (go_split_ands; assumption))).mono ?_); rintro e w12 ⟨⟨A12, c12, rfl⟩, hh12, hf12⟩; have hc12 := ChS.no (by first | assumption | (go_split_ands; assumption)) hf12; have hg12 := (fun h => Fr.trans (S := At2 m mh) (a := w11) h (no2 hf12)) (by first | assumption | (go_split_ands; assumption)))
      | (go_at_call 19; (with_reducible refine (HFA.out _ (by first | assumption | (go_split_ands; assumption)) (by first | assumption | (go_split_ands; assumption))).mono ?_); rintro e w13 ⟨rfl, hc13, hh13, hf13⟩; have hg13 := (fun h => Fr.trans (S := At2 m mh) (a := w11) h hf13) (by first | assumption | (go_split_ands; assumption)))
      | (go_at_call 19; (with_reducible refine (HFB.out _ (by first | assumption | (go_split_ands; assumption)) (by first | assumption | (go_split_ands; assumption))).mono ?_); rintro e w14 ⟨rfl, hf14⟩; have hg14 := (fun h => Fr.trans (S := At2 m mh) (a := w11) h hf14) (by first | assumption | (go_split_ands; assumption))))
  all_goals
    go_wp2
    go_ret
    exact HE.out _ (by first | assumption | (go_split_ands; assumption))
end Go.Proofs.Ytcgonkcgdenmdaa
