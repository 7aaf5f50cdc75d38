/- The laws of package disk, as walks: DiskRoom. -/
import Derived.Test.YtjfbpnhkdlbinaaDiskLaw4
namespace Go.Proofs.Ytjfbpnhkdlbinaa
open Go.RowKit Go.My
set_option linter.unusedSimpArgs false
set_option linter.unusedVariables false

/-- a step of a script that lies in memory -/
theorem script_at {w : World} {F : Nat → Prop} {B n : Nat} {A : Option Addr} {cells : List Value} {T : List OpD} (h : Rd w F 5 A n cells) (hE : Each (RdOp w B) 5 cells T) (hn : n = T.length) (k : Nat) (hk : k < T.length) :
    ∃ ad A1 c1 A2 c2 A3 c3, A = some ad ∧ F ad.block ∧ w.cell? (ad.add (k * 5)) = some (.int .i64 T[k].kind) ∧ w.cell? ⟨(ad.add (k * 5)).block, (ad.add (k * 5)).off + 1, none⟩ = some (.int .i64 T[k].n) ∧
      w.cell? ⟨(ad.add (k * 5)).block, (ad.add (k * 5)).off + 2, none⟩ = some (.slice A1 T[k].b.length c1) ∧ w.cell? ⟨(ad.add (k * 5)).block, (ad.add (k * 5)).off + 3, none⟩ = some (.slice A2 T[k].at_.length c2) ∧
      w.cell? ⟨(ad.add (k * 5)).block, (ad.add (k * 5)).off + 4, none⟩ = some (.slice A3 T[k].by_.length c3) ∧
      RdOp w B [.int .i64 T[k].kind, .int .i64 T[k].n, .slice A1 T[k].b.length c1, .slice A2 T[k].at_.length c2, .slice A3 T[k].by_.length c3] T[k] := by
  subst hn
  have hek := each_at hE k hk
  have hop := hek
  obtain ⟨A1, c1, A2, c2, A3, c3, hcs, _⟩ := hek
  obtain ⟨ad, rfl, hF, hcell⟩ := h.2 (by omega)
  have q0 := hcell _ _ (cells_at hcs 0 _ rfl)
  have q1 := hcell _ _ (cells_at hcs 1 _ rfl)
  have q2 := hcell _ _ (cells_at hcs 2 _ rfl)
  have q3 := hcell _ _ (cells_at hcs 3 _ rfl)
  have q4 := hcell _ _ (cells_at hcs 4 _ rfl)
  rw [Nat.add_zero] at q0
  rw [add_lits ad (k * 5) _ (by omega)] at q1 q2 q3 q4
  rw [hcs] at hop
  exact ⟨ad, A1, c1, A2, c2, A3, c3, rfl, hF, q0, q1, q2, q3, q4, hop⟩

/-- the same, where only the disk's own block has changed since -/
theorem script_in {w : World} {F : Nat → Prop} {B n p : Nat} {A : Option Addr} {cells : List Value} {T : List OpD} (h : Rd w F 5 A n cells) (hE : Each (RdOp w B) 5 cells T) (hF : ∀ k, F k → k ≠ p) (hB : ∀ W, Fr (At1 p) w W → Below B w W) (hn : n = T.length) (k : Nat) (hk : k < T.length) :
    ∃ ad A1 c1 A2 c2 A3 c3, A = some ad ∧ (T[k].b.length ≤ c1 ∧ c1 ≤ maxLen) ∧ ∀ W, Fr (At1 p) w W → (W.cell? (ad.add (k * 5)) = some (.int .i64 T[k].kind) ∧ W.cell? ⟨(ad.add (k * 5)).block, (ad.add (k * 5)).off + 1, none⟩ = some (.int .i64 T[k].n) ∧
      W.cell? ⟨(ad.add (k * 5)).block, (ad.add (k * 5)).off + 2, none⟩ = some (.slice A1 T[k].b.length c1) ∧ W.cell? ⟨(ad.add (k * 5)).block, (ad.add (k * 5)).off + 3, none⟩ = some (.slice A2 T[k].at_.length c2) ∧
      W.cell? ⟨(ad.add (k * 5)).block, (ad.add (k * 5)).off + 4, none⟩ = some (.slice A3 T[k].by_.length c3) ∧
      RdOp W B [.int .i64 T[k].kind, .int .i64 T[k].n, .slice A1 T[k].b.length c1, .slice A2 T[k].at_.length c2, .slice A3 T[k].by_.length c3] T[k]) := by
  obtain ⟨ad, A1, c1, A2, c2, A3, c3, rfl, hf, q0, q1, q2, q3, q4, hop⟩ := script_at h hE hn k hk
  have hop' := hop
  obtain ⟨_, _, _, _, _, _, he, _, _, _, hc, _⟩ := hop'
  simp only [List.cons.injEq, Value.slice.injEq, and_true, true_and] at he
  obtain ⟨⟨rfl, rfl⟩, _⟩ := he
  have hne : ¬ At1 p (ad.add (k * 5)).block := by rw [block_of_add]; exact hF _ hf
  exact ⟨ad, A1, c1, A2, c2, A3, c3, rfl, hc, fun W hW => ⟨hW.cell_some q0 hne, hW.cell_some q1 hne, hW.cell_some q2 hne, hW.cell_some q3 hne, hW.cell_some q4 hne, hop.below (hB W hW)⟩⟩

/-- a script's loop: of what was there at the beginning W only the disk's own block has changed -/
def ScrRel (W : World) (p cap : Nat) (f : Nat → DSt → Prop) (n : Nat) (iv : Value) (wr : World) : Prop :=
  ∃ (i : Nat) (s : DSt) (g : Option Nat), i ≤ n ∧ iv = .int .i64 i ∧ DkS wr p g cap s ∧ Fr (At1 p) W wr ∧ Newer W.heap.size none g ∧ f i s

theorem fr_p {W a b : World} {p : Nat} {g : Option Nat} (h : Fr (At1 p) W a) (hn : Newer W.heap.size none g) (k : Fr (At2 p g) a b) : Fr (At1 p) W b :=
  h.trans' k fun i hi hlt => by
    rcases hi with rfl | hi
    · rfl
    · have := newer_none hn i hi; omega

set_option maxRecDepth 100000 in
set_option maxHeartbeats 2000000 in
theorem diskRoom_walk (room : Int) (A : Option Addr) (c : Nat) (cells : List Value) (l : List OpD) (w : World) (hroom : -9223372036854775808 ≤ room ∧ room ≤ 9223372036854775807)
    (rd : Rd w (Lt w.heap.size) 5 A l.length cells) (lc : l.length ≤ c) (cm : c ≤ maxLen) (hE : Each (RdOp w w.heap.size) 5 cells l) :
    Calls Try.prog 13 #[.int .i64 room, .slice A l.length c] w (RetTrue w) := by
  have HRD := Lib.hid rd
  have HEA := Lib.hid hE
  have HCM := Lib.hid cm
  obtain ⟨hr1, hr2⟩ := hroom
  clear rd hE cm
  go_enter Try.func13, Try.ntmps13
  go_wp2_with fail
  refine (livesD _).mono ?_
  rintro e w1 ⟨rfl, hb1⟩
  have hs1 := hb1.size
  go_wp2_with fail
  refine (new_disk room _ hr1 hr2).mono ?_
  rintro e w2 ⟨p, rfl, hd2, hf2, hp⟩
  have hb2 : Below w.heap.size w w2 := below_fr_no hb1 hf2 hs1
  have hs2 := hb2.size
  have hd2' : DkS w2 p none (capOf room) ⟨[], 0, false⟩ := hd2
  clear hd2 hf2
  go_upto_region 4 with (fail)
  go_cut [0] (fun s0 wx => s0 = .int .i64 (capOf room : Int) ∧ w2 = wx)
  case first =>
    go_wp2
    all_goals
      go_meet
      refine ⟨?_, rfl⟩
      congr 1
      unfold capOf
      omega
  case rest =>
    obtain ⟨rfl, rfl⟩ := hcut
    generalize hcap : capOf room = cap at *
    have hcl : cap ≤ 65536 := by rw [← hcap]; exact capOf_le room
    go_wp2_with fail
    refine (early_any w.heap.size (Lt w.heap.size) A c cells l w2 hs2 (HRD.out.below hb2 fun _ h => h) (Each.mono HEA.out fun _ _ h => h.below hb2) lc HCM.out).mono ?_
    rintro e w3 ⟨v3, cs3, rfl, ho3, he3, hf3, hn3⟩
    have hb3 : Below w.heap.size w w3 := below_fr_no hb2 hf3 hs2
    have hs3 := hb3.size
    have hd3 : DkS w3 p none cap ⟨[], 0, false⟩ := Dk.fr hd2' hf3 (fun h => h) (fun _ _ h => h)
    have hn3' := newer_none hn3
    obtain ⟨A3, c3, rfl, hc3, hc3'⟩ := ho3.form
    go_wp2_with fail
    have HRS := Lib.hid ho3.rd
    have HES := Lib.hid he3
    have hpw := hd2'.lt
    have hown : Hid (∀ k, (Value.slice A3 ((l.take 100).map truncD).length c3).ownBlock = some k → k ≠ p) := fun k hk => by have := hn3' k hk; omega
    have hfb2 : Hid (∀ W, Fr (At1 p) w3 W → Below w.heap.size w3 W) := fun W hW => hW.below_at hs3 fun k hk h => by simp only [At1] at h; omega
    have hfb : Hid (∀ W, Fr (At1 p) w3 W → Below w.heap.size w W) := fun W hW => hb3.trans (hfb2.out W hW)
    have hstart : ScrRel w3 p cap (fun _ _ => True) ((l.take 100).map truncD).length (.int .i64 0) w3 := ⟨0, _, none, Nat.zero_le _, rfl, hd3, Fr.refl _ _, .inl rfl, trivial⟩
    have htl : ((l.take 100).map truncD).length ≤ 100 := by simp; omega
    have htb : ∀ o ∈ (l.take 100).map truncD, o.b.length ≤ 60 := by
      intro o ho
      obtain ⟨x, _, rfl⟩ := List.mem_map.1 ho
      simp [truncD]
      omega
    have hlm : min 100 l.length = ((l.take 100).map truncD).length := by simp
    rw [hlm]
    clear ho3 he3 hd3 hn3 hd2' hf3 hlm hc3'
    generalize (l.take 100).map truncD = T at *
    go_loopw [6] (fun a wr => ScrRel w3 p cap (fun _ _ => True) T.length a wr) (fun a _ => T.length - (intOf a).toNat)
    case atStart => exact hstart
    case round =>
      clear hstart
      obtain ⟨k, s, g, hk, rfl, hdk, hfr, hng, _⟩ := hrel
      by_cases hlt : k < T.length
      · obtain ⟨ad, A1, c1, A2, c2, A4, c4, rfl, ⟨hl1, hm1⟩, hQ⟩ := script_in HRS.out HES.out hown.out hfb2.out rfl k hlt
        have hob := htb T[k] (List.getElem_mem hlt)
        have hbd := kindD_bd T[k].kind
        have HQ := Lib.hid hQ
        have hm1' : c1 ≤ 9223372036854775807 := by simp only [maxLen] at hm1; omega
        clear hQ hm1
        generalize T[k] = o at *
        go_wp2_with fail
        refine (bytes_at p g cap s.sure s.b s.br wr hdk).mono ?_
        rintro e w4 ⟨v4, rfl, ho4, hf4, hn4⟩
        have hcs : s.b.length ≤ cap := by obtain ⟨_, _, _, _, _, h, _⟩ := hdk; exact h
        have hd4 : DkS w4 p g cap s := Dk.fr hdk (fr_at_none hf4) (fun h => h) (fun _ _ h => h)
        have hfr4 : Fr (At1 p) w3 w4 := hfr.trans ((fr_at_none hf4).mono fun _ _ h => False.elim h)
        obtain ⟨A5, c5, rfl, _, _⟩ := ho4.form
        have hbr : Calls Try.prog 50 #[.pointer (some ⟨p, 0, none⟩)] w4 fun e w' => e = .returned (.bool s.br) ∧ w4 = w' := by
          obtain ⟨v, hb, _⟩ := hd4
          exact broken_at p _ _ _ s.br w4 hb
        have HBR := Lib.hid hbr
        clear hdk hfr hf4 hn4 ho4 hbr
        obtain ⟨q0, q1, q2, q3, q4, hop⟩ := HQ.out w4 hfr4
        go_wp2_with (go_at_call 50; refine HBR.out.mono ?_; rintro e w9 ⟨rfl, rfl⟩)
        refine (does_at p g cap s _ o w.heap.size w4 hd4 hop (by omega) (fun k hk => by have := newer_none hng k hk; omega)).mono ?_
        rintro e w5 ⟨rfl, g5, hd5, hf5, hg5⟩
        have hfr5 := fr_p hfr4 hng hf5
        have hng5 : Newer w3.heap.size none g5 := hng.trans hg5 hfr4.size
        clear hd4 hfr4 q0 q1 q2 q3 q4 hop hf5 hg5 HBR
        go_wp2_with fail
        refine (bytes_at p g5 cap (doesD cap s o).sure (doesD cap s o).b (doesD cap s o).br w5 hd5).mono ?_
        rintro e w6 ⟨v6, rfl, ho6, hf6, hn6⟩
        have hd6 : DkS w6 p g5 cap (doesD cap s o) := Dk.fr hd5 (fr_at_none hf6) (fun h => h) (fun _ _ h => h)
        have hfr6 : Fr (At1 p) w3 w6 := hfr5.trans ((fr_at_none hf6).mono fun _ _ h => False.elim h)
        obtain ⟨A6, c6, rfl, _, _⟩ := ho6.form
        have hcap6 : (doesD cap s o).b.length ≤ cap := by obtain ⟨_, _, _, _, _, h, _⟩ := hd6; exact h
        have HRM := Lib.hid (room_at p g5 cap (doesD cap s o).sure (doesD cap s o).b (doesD cap s o).br w6 hd6)
        have hend : Hid (∀ n W, Below (w6.drewN n).heap.size (w6.drewN n) W → ScrRel w3 p cap (fun _ _ => True) T.length (.int .i64 ((k : Int) + 1)) W) := fun n W hW =>
          ⟨k + 1, doesD cap s o, g5, by omega, by go_num, Dk.fr hd6 (((Fr.refl No w6).drewN n).trans (Fr.of_below hW _)) (fun h => h) (fun _ _ h => h), (hfr6.drewN n).trans (Fr.of_below hW _), hng5, trivial⟩
        have hq9 : Hid (∀ n W, Below (w6.drewN n).heap.size (w6.drewN n) W → W.cell? ⟨(ad.add (k * 5)).block, (ad.add (k * 5)).off + 2, none⟩ = some (.slice A1 o.b.length c1)) := fun n W hW =>
          (HQ.out W ((hfr6.drewN n).trans (Fr.of_below hW _))).2.2.1
        have hkin : Hid (∀ j n, kindD o.kind = j → Calls Try.prog 44 #[.agg #[.int .i64 o.kind, .int .i64 o.n, .slice A1 o.b.length c1, .slice A2 o.at_.length c2, .slice A4 o.by_.length c4]] (w6.drewN n) fun e w' => e = .returned (.int .i64 j) ∧ Below (w6.drewN n).heap.size (w6.drewN n) w') := fun j n hj =>
          kind_is _ o w.heap.size (w6.drewN n) (HQ.out _ (hfr6.drewN n)).2.2.2.2.2 j hj
        obtain ⟨q0, q1, q2, q3, q4, _⟩ := HQ.out w6 hfr6
        clear hd5 hfr5 hd6 ho6 hf6 hn6 HQ hfr6
        have hE : Hid (kindD o.kind = 0 → doesE cap s o = appE s.br cap s.b.length o.b.length ∧ (doesD cap s o).b.length = if appE s.br cap s.b.length o.b.length = 0 then s.b.length + o.b.length else s.b.length) := fun h => by
          unfold doesE doesD
          rw [if_pos h, if_pos h]
          refine ⟨rfl, ?_⟩
          unfold appD
          simp only
          split <;> simp
        generalize doesD cap s o = s' at *
        generalize doesE cap s o = e' at *
        generalize hm : s'.b.length = m at *
        by_cases hk0 : kindD o.kind = 0
        · have HKI := Lib.hid (hkin.out 0 · hk0)
          obtain ⟨hE1, hE2⟩ := hE.out hk0
          clear hE hkin hk0
          generalize o.b.length = ob at *
          generalize s.b.length = was at *
          unfold appE at hE1 hE2
          subst hE1
          clear hbd
          cases hbr : s.br
          · simp only [hbr] at hE2 ⊢
            simp only [Bool.false_eq_true, if_false] at hE2 ⊢
            by_cases hfit : cap - was < ob
            · rw [if_pos hfit] at hE2 ⊢
              simp at hE2
              have hf1 : ¬ (was : Int) + ob ≤ cap := by omega
              subst hE2
              go_wp2_with (first
                | (go_at_call 51; refine HRM.out.mono ?_; rintro e w7 ⟨rfl, j, rfl⟩)
                | (go_at_call 44; refine (HKI.out _).mono ?_; rintro e w8 ⟨rfl, hb8⟩; have q9 := hq9.out _ _ hb8))
              go_roundw
              case rel => exact hend.out _ _ hb8
              case measure => simp [intOf]; omega
            · rw [if_neg hfit] at hE2 ⊢
              simp at hE2
              have hf1 : (was : Int) + ob ≤ cap := by omega
              subst hE2
              have hne : ((((was + ob : Nat) : Int)) != (was : Int) + ob) = false := by rw [bne_eq_false_iff_eq]; omega
              go_wp2_with (first
                | (go_at_call 51; refine HRM.out.mono ?_; rintro e w7 ⟨rfl, j, rfl⟩)
                | (go_at_call 44; refine (HKI.out _).mono ?_; rintro e w8 ⟨rfl, hb8⟩; have q9 := hq9.out _ _ hb8))
              go_roundw
              case rel => exact hend.out _ _ hb8
              case measure => simp [intOf]; omega
          · simp only [hbr, if_true] at hE2 ⊢
            simp at hE2
            subst hE2
            go_wp2_with (first
              | (go_at_call 51; refine HRM.out.mono ?_; rintro e w7 ⟨rfl, j, rfl⟩)
              | (go_at_call 44; refine (HKI.out _).mono ?_; rintro e w8 ⟨rfl, hb8⟩; have q9 := hq9.out _ _ hb8))
            all_goals
              go_roundw
              case rel => exact hend.out _ _ hb8
              case measure => simp [intOf]; omega
        · have HKI := Lib.hid (hkin.out _ · rfl)
          generalize kindD o.kind = kd at *
          have hkb : (kd != 0) = true := by rw [bne_iff_ne]; exact hk0
          clear hE hkin
          go_wp2_with (first
            | (go_at_call 51; refine HRM.out.mono ?_; rintro e w7 ⟨rfl, j, rfl⟩)
            | (go_at_call 44; refine (HKI.out _).mono ?_; rintro e w4 ⟨rfl, hb4⟩))
          go_roundw
          case rel => exact hend.out _ _ hb4
          case measure => simp [intOf]; omega
      · go_wp2
        go_ret
        exact ⟨rfl, hfb.out _ hfr⟩
end Go.Proofs.Ytjfbpnhkdlbinaa
