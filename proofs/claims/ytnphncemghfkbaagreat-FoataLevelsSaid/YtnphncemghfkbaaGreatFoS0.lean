/- FoataLevels: its great region. -/
import Derived.Test.YtnphncemghfkbaaGreatFoR
import Derived.Test.YtnphncemghfkbaaGreatQ02
namespace Go.Proofs.YtnphncemghfkbaaGreat
open Go.RowKit Go.My Go.Maps Go.WideMaps Go.BigFrame
set_option linter.unusedSimpArgs false
set_option linter.unusedVariables false
attribute [local go_sem ↓] Go.wp_at_zero Go.wp_at_succ

noncomputable def lvl21s : { c : Code // regOf 21 Tryz.f7 = c } := ⟨_, by conv => lhs; whnf⟩
noncomputable def lvl21c : Code := lvl21s.1
theorem lvl21_lex : Region.lexB .any (opsOf lvl21c) = true := by kernel_rfl
set_option maxRecDepth 100000 in
set_option maxHeartbeats 4000000 in
theorem lvl21 (w : World) (ad od : Addr) (sn sc i k j rl cr : Nat) (Bj Bk : Option Addr) (dj dk lgj lgk : Nat) (clj sqj kdj sumj perj holdj clk sqk kdk sumk perk holdk : Int) (acctj peerj notej acctk peerk notek : ByteArray) (hi : (i : Int) < sn) (hk : (k : Int) < rl) (hj : (j : Int) < rl) (hs : clj < clk ∨ clj = clk ∧ sqj < sqk)
    (z : w.cell? (ad.add i) = some (.slice (some od) rl cr)) (p0 : w.cell? (od.add (j * 10)) = some (.int .i64 clj)) (p1 : w.cell? ⟨(od.add (j * 10)).block, (od.add (j * 10)).off + 1, none⟩ = some (.int .i64 sqj)) (p2 : w.cell? ⟨(od.add (j * 10)).block, (od.add (j * 10)).off + 2, none⟩ = some (.int .i64 kdj)) (p3 : w.cell? ⟨(od.add (j * 10)).block, (od.add (j * 10)).off + 3, none⟩ = some (.string acctj)) (p4 : w.cell? ⟨(od.add (j * 10)).block, (od.add (j * 10)).off + 4, none⟩ = some (.string peerj)) (p5 : w.cell? ⟨(od.add (j * 10)).block, (od.add (j * 10)).off + 5, none⟩ = some (.int .i64 sumj)) (p6 : w.cell? ⟨(od.add (j * 10)).block, (od.add (j * 10)).off + 6, none⟩ = some (.slice Bj lgj dj)) (p7 : w.cell? ⟨(od.add (j * 10)).block, (od.add (j * 10)).off + 7, none⟩ = some (.int .i64 perj)) (p8 : w.cell? ⟨(od.add (j * 10)).block, (od.add (j * 10)).off + 8, none⟩ = some (.int .i64 holdj)) (p9 : w.cell? ⟨(od.add (j * 10)).block, (od.add (j * 10)).off + 9, none⟩ = some (.string notej))
    (q0 : w.cell? (od.add (k * 10)) = some (.int .i64 clk)) (q1 : w.cell? ⟨(od.add (k * 10)).block, (od.add (k * 10)).off + 1, none⟩ = some (.int .i64 sqk)) (q2 : w.cell? ⟨(od.add (k * 10)).block, (od.add (k * 10)).off + 2, none⟩ = some (.int .i64 kdk)) (q3 : w.cell? ⟨(od.add (k * 10)).block, (od.add (k * 10)).off + 3, none⟩ = some (.string acctk)) (q4 : w.cell? ⟨(od.add (k * 10)).block, (od.add (k * 10)).off + 4, none⟩ = some (.string peerk)) (q5 : w.cell? ⟨(od.add (k * 10)).block, (od.add (k * 10)).off + 5, none⟩ = some (.int .i64 sumk)) (q6 : w.cell? ⟨(od.add (k * 10)).block, (od.add (k * 10)).off + 6, none⟩ = some (.slice Bk lgk dk)) (q7 : w.cell? ⟨(od.add (k * 10)).block, (od.add (k * 10)).off + 7, none⟩ = some (.int .i64 perk)) (q8 : w.cell? ⟨(od.add (k * 10)).block, (od.add (k * 10)).off + 8, none⟩ = some (.int .i64 holdk)) (q9 : w.cell? ⟨(od.add (k * 10)).block, (od.add (k * 10)).off + 9, none⟩ = some (.string notek))
    (HC : Hid (∀ W, Fr No w W → Calls Tryz.prog 26 #[.agg #[.int .i64 clj, .int .i64 sqj, .int .i64 kdj, .string acctj, .string peerj, .int .i64 sumj, .slice Bj lgj dj, .int .i64 perj, .int .i64 holdj, .string notej], .agg #[.int .i64 clk, .int .i64 sqk, .int .i64 kdk, .string acctk, .string peerk, .int .i64 sumk, .slice Bk lgk dk, .int .i64 perk, .int .i64 holdk, .string notek]] W fun e w' => e = .returned (.bool false) ∧ Fr No W w')) {sl0 sl1 sl2 sl4 sl7 sl8 sl10 sl11 sl12 sl13 sl14 sl15 sl16 sl17 sl18 sl19 sl20 sl21 sl22 sl23 sl24 sl25 sl26 sl27 sl28 sl29 sl30 sl31 sl32 sl33 sl34 sl35 sl36 sl37 sl38 sl39 sl40 sl41 sl42 sl43 sl44 sl45 sl46 sl47 sl48 sl49 sl50 sl51 sl52 sl53 sl54 sl55 sl56 sl57 sl58 sl59 sl60 sl61 sl62 sl63 sl64 sl65 sl66 sl67 sl68 sl69 sl70 sl71 sl72 sl73 sl74 sl75 sl76 sl77 sl78 sl79 sl80 sl81 sl82 sl83 sl84 sl85 sl86 sl87 sl88 sl89 sl90 sl91 sl92 sl93 sl94 sl95 sl96 sl97 sl98 sl99 sl100 sl101 sl102 sl103 sl104 sl105 sl106 sl107 sl108 sl109 sl110 sl111 sl112 sl113 sl114 sl115 sl116 sl117 sl118 sl119 sl120 sl121 sl122 sl123 sl124 sl125 sl126 sl127 sl128 sl129 sl130 sl131 sl132 sl133 sl134 sl135 sl136 sl137 sl138 sl139 sl140 sl141 sl142 sl143 sl144 sl145 sl146 sl147 sl148 sl149 sl150 sl151 sl152 sl153 sl154 sl155 sl156 sl157 sl158 sl159 sl160 sl161 sl162 : Value} {Q : Exit → Act → World → Prop}
    (hQ : ∀ (wl79 wl80 wl81 wl82 wl83 wl84 wl85 wl86 wl87 wl88 wl89 wl90 wl91 wl92 wl93 wl94 wl95 wl96 wl97 wl98 wl99 wl100 wl101 wl102 wl103 wl104 wl105 wl106 wl107 wl108 wl109 wl110 wl111 wl112 wl113 wl114 wl115 wl116 wl117 wl118 wl119 wl120 wl121 wl122 wl123 wl124 wl125 wl126 wl127 wl128 wl129 wl130 wl131 wl132 wl133 wl134 wl135 wl136 wl137 wl138 wl139 wl140 wl141 wl142 wl143 wl144 wl145 wl146 wl147 wl148 wl149 wl150 wl151 wl152 wl153 wl154 wl155 : Value) (wq : World), Fr No w wq → Q .normal ⟨(sl0 :: sl1 :: sl2 :: .slice (some ad) sn sc :: sl4 :: .int .i64 i :: .int .i64 k :: sl7 :: sl8 :: .int .i64 j :: sl10 :: sl11 :: sl12 :: sl13 :: sl14 :: sl15 :: sl16 :: sl17 :: sl18 :: sl19 :: sl20 :: sl21 :: sl22 :: sl23 :: sl24 :: sl25 :: sl26 :: sl27 :: sl28 :: sl29 :: sl30 :: sl31 :: sl32 :: sl33 :: sl34 :: sl35 :: sl36 :: sl37 :: sl38 :: sl39 :: sl40 :: sl41 :: sl42 :: sl43 :: sl44 :: sl45 :: sl46 :: sl47 :: sl48 :: sl49 :: sl50 :: sl51 :: sl52 :: sl53 :: sl54 :: sl55 :: sl56 :: sl57 :: sl58 :: sl59 :: sl60 :: sl61 :: sl62 :: sl63 :: sl64 :: sl65 :: sl66 :: sl67 :: sl68 :: sl69 :: sl70 :: sl71 :: sl72 :: sl73 :: sl74 :: sl75 :: sl76 :: sl77 :: sl78 :: wl79 :: wl80 :: wl81 :: wl82 :: wl83 :: wl84 :: wl85 :: wl86 :: wl87 :: wl88 :: wl89 :: wl90 :: wl91 :: wl92 :: wl93 :: wl94 :: wl95 :: wl96 :: wl97 :: wl98 :: wl99 :: wl100 :: wl101 :: wl102 :: wl103 :: wl104 :: wl105 :: wl106 :: wl107 :: wl108 :: wl109 :: wl110 :: wl111 :: wl112 :: wl113 :: wl114 :: wl115 :: wl116 :: wl117 :: wl118 :: wl119 :: wl120 :: wl121 :: wl122 :: wl123 :: wl124 :: wl125 :: wl126 :: wl127 :: wl128 :: wl129 :: wl130 :: wl131 :: wl132 :: wl133 :: wl134 :: wl135 :: wl136 :: wl137 :: wl138 :: wl139 :: wl140 :: wl141 :: wl142 :: wl143 :: wl144 :: wl145 :: wl146 :: wl147 :: wl148 :: wl149 :: wl150 :: wl151 :: wl152 :: wl153 :: wl154 :: wl155 :: .bool false :: sl157 :: sl158 :: sl159 :: sl160 :: sl161 :: sl162 :: []).toArray, []⟩ wq) :
    Code.wp Tryz.prog lvl21c Q ⟨(sl0 :: sl1 :: sl2 :: .slice (some ad) sn sc :: sl4 :: .int .i64 i :: .int .i64 k :: sl7 :: sl8 :: .int .i64 j :: sl10 :: sl11 :: sl12 :: sl13 :: sl14 :: sl15 :: sl16 :: sl17 :: sl18 :: sl19 :: sl20 :: sl21 :: sl22 :: sl23 :: sl24 :: sl25 :: sl26 :: sl27 :: sl28 :: sl29 :: sl30 :: sl31 :: sl32 :: sl33 :: sl34 :: sl35 :: sl36 :: sl37 :: sl38 :: sl39 :: sl40 :: sl41 :: sl42 :: sl43 :: sl44 :: sl45 :: sl46 :: sl47 :: sl48 :: sl49 :: sl50 :: sl51 :: sl52 :: sl53 :: sl54 :: sl55 :: sl56 :: sl57 :: sl58 :: sl59 :: sl60 :: sl61 :: sl62 :: sl63 :: sl64 :: sl65 :: sl66 :: sl67 :: sl68 :: sl69 :: sl70 :: sl71 :: sl72 :: sl73 :: sl74 :: sl75 :: sl76 :: sl77 :: sl78 :: sl79 :: sl80 :: sl81 :: sl82 :: sl83 :: sl84 :: sl85 :: sl86 :: sl87 :: sl88 :: sl89 :: sl90 :: sl91 :: sl92 :: sl93 :: sl94 :: sl95 :: sl96 :: sl97 :: sl98 :: sl99 :: sl100 :: sl101 :: sl102 :: sl103 :: sl104 :: sl105 :: sl106 :: sl107 :: sl108 :: sl109 :: sl110 :: sl111 :: sl112 :: sl113 :: sl114 :: sl115 :: sl116 :: sl117 :: sl118 :: sl119 :: sl120 :: sl121 :: sl122 :: sl123 :: sl124 :: sl125 :: sl126 :: sl127 :: sl128 :: sl129 :: sl130 :: sl131 :: sl132 :: sl133 :: sl134 :: sl135 :: sl136 :: sl137 :: sl138 :: sl139 :: sl140 :: sl141 :: sl142 :: sl143 :: sl144 :: sl145 :: sl146 :: sl147 :: sl148 :: sl149 :: sl150 :: sl151 :: sl152 :: sl153 :: sl154 :: sl155 :: sl156 :: sl157 :: sl158 :: sl159 :: sl160 :: sl161 :: sl162 :: []).toArray, []⟩ w := by
  have HQ : Hid _ := hQ
  clear hQ
  conv => arg 2; whnf
  simp only [List.append_eq, List.cons_append, List.nil_append]
  have hne : Nonempty (WIn (Fr No w)) := ⟨⟨_, Fr.refl _ _⟩⟩
  have Z := fun x : WIn (Fr No w) => x.h.cell_some z (fun h => h)
  have P0 := fun x : WIn (Fr No w) => x.h.cell_some p0 (fun h => h)
  have Q0 := fun x : WIn (Fr No w) => x.h.cell_some q0 (fun h => h)
  have P1 := fun x : WIn (Fr No w) => x.h.cell_some p1 (fun h => h)
  have Q1 := fun x : WIn (Fr No w) => x.h.cell_some q1 (fun h => h)
  have P2 := fun x : WIn (Fr No w) => x.h.cell_some p2 (fun h => h)
  have Q2 := fun x : WIn (Fr No w) => x.h.cell_some q2 (fun h => h)
  have P3 := fun x : WIn (Fr No w) => x.h.cell_some p3 (fun h => h)
  have Q3 := fun x : WIn (Fr No w) => x.h.cell_some q3 (fun h => h)
  have P4 := fun x : WIn (Fr No w) => x.h.cell_some p4 (fun h => h)
  have Q4 := fun x : WIn (Fr No w) => x.h.cell_some q4 (fun h => h)
  have P5 := fun x : WIn (Fr No w) => x.h.cell_some p5 (fun h => h)
  have Q5 := fun x : WIn (Fr No w) => x.h.cell_some q5 (fun h => h)
  have P6 := fun x : WIn (Fr No w) => x.h.cell_some p6 (fun h => h)
  have Q6 := fun x : WIn (Fr No w) => x.h.cell_some q6 (fun h => h)
  have P7 := fun x : WIn (Fr No w) => x.h.cell_some p7 (fun h => h)
  have Q7 := fun x : WIn (Fr No w) => x.h.cell_some q7 (fun h => h)
  have P8 := fun x : WIn (Fr No w) => x.h.cell_some p8 (fun h => h)
  have Q8 := fun x : WIn (Fr No w) => x.h.cell_some q8 (fun h => h)
  have P9 := fun x : WIn (Fr No w) => x.h.cell_some p9 (fun h => h)
  have Q9 := fun x : WIn (Fr No w) => x.h.cell_some q9 (fun h => h)
  clear z p0 p1 p2 p3 p4 p5 p6 p7 p8 p9 q0 q1 q2 q3 q4 q5 q6 q7 q8 q9
  refine wp_region_in (D := Fr No w) (by kernel_rfl) lvl21_lex (Fr.refl _ _).drew ?_
  by_cases hcl : clj < clk
  · have g1 : decide (clk < clj) = false := decide_eq_false (by omega)
    have g2 : (clj == clk) = false := beq_eq_false_iff_ne.2 (by omega)
    have g3 : ¬ clk < clj := by omega
    have g4 : ¬ clj = clk := by omega
    repeat (go_big_quiet_step ((first | (go_at_call 26; refine Calls.in_of (v := .bool false) _ fun W hW => ?_; (with_reducible refine (HC.out W hW).mono ?_); exact fun _ _ h => ⟨h.1, Fr.trans hW h.2⟩))))
    refine wpQuiet_nil ?_
    rintro _ ⟨⟨wq, hq⟩, rfl⟩
    exact HQ.out _ _ _ _ _ _ _ _ _ _ _ _ _ _ _ _ _ _ _ _ _ _ _ _ _ _ _ _ _ _ _ _ _ _ _ _ _ _ _ _ _ _ _ _ _ _ _ _ _ _ _ _ _ _ _ _ _ _ _ _ _ _ _ _ _ _ _ _ _ _ _ _ _ _ _ _ _ _ hq
  · obtain rfl : clj = clk := by omega
    have hsq : sqj < sqk := by omega
    have g1 : decide (clj < clj) = false := decide_eq_false (by omega)
    have g2 : (clj == clj) = true := beq_self_eq_true _
    have g3 : ¬ clj < clj := by omega
    have g4 : decide (sqk ≤ sqj) = false := decide_eq_false (by omega)
    have g5 : ¬ sqk ≤ sqj := by omega
    repeat (go_big_quiet_step ((first | (go_at_call 26; refine Calls.in_of (v := .bool false) _ fun W hW => ?_; (with_reducible refine (HC.out W hW).mono ?_); exact fun _ _ h => ⟨h.1, Fr.trans hW h.2⟩))))
    refine wpQuiet_nil ?_
    rintro _ ⟨⟨wq, hq⟩, rfl⟩
    exact HQ.out _ _ _ _ _ _ _ _ _ _ _ _ _ _ _ _ _ _ _ _ _ _ _ _ _ _ _ _ _ _ _ _ _ _ _ _ _ _ _ _ _ _ _ _ _ _ _ _ _ _ _ _ _ _ _ _ _ _ _ _ _ _ _ _ _ _ _ _ _ _ _ _ _ _ _ _ _ _ hq
end Go.Proofs.YtnphncemghfkbaaGreat
