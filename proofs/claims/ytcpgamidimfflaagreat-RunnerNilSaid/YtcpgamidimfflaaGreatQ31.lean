/- All knots in order: Knots. -/
import Derived.Test.YtcpgamidimfflaaGreatQ30
import Derived.Deep.DeepCutAuto
import Derived.Deep.CutBlock
import Derived.Deep.LoopGhost
import Derived.WalkMore
import Derived.WalkSpells
import Derived.Deep.QuietTactic
namespace Go.Proofs.YtcpgamidimfflaaGreat
open Go.RowKit Go.My Go.My.Hp Go.My.Kn Go.Maps
set_option linter.unusedSimpArgs false
set_option linter.unusedVariables false
attribute [local go_sem ↓] Go.wp_at_zero Go.wp_at_succ
def KnR (w : World) (G : List (List Int)) (e : Ending) (w' : World) : Prop :=
  ∃ (L : List (List Nat)) (A : Option Addr) (c : Nat), e = .returned (.slice A L.length c) ∧ KnSeq G.length (via' G) [] L ∧ RdG w' (fun k => w.heap.size ≤ k) A (L.map il) ∧ L.length ≤ c ∧ c ≤ maxLen ∧ Fr No w w'
def KO (n kb nb : Nat) (Fd : List (List Nat)) (vs : List Value) (nmf : Nat → Nat) (w4 : World) (iv : Value) (w : World) : Prop :=
  ∃ (i : Nat) (KV : List Value) (f : Nat → Nat), iv = .int .i64 (i : Int) ∧ i ≤ Fd.length ∧ KP n Fd vs i KV ∧ NP Fd nmf i f ∧ Own w 66 1 (.slice (some ⟨kb, 0, none⟩) n n) n KV ∧ Own w 3 1 (.slice (some ⟨nb, 0, none⟩) n n) n (ns f n) ∧ Fr (fun k => k = kb ∨ k = nb) w4 w
def KJ (n kb nb : Nat) (Fd : List (List Nat)) (vs : List Value) (nmf : Nat → Nat) (w4 : World) (i : Nat) (K : List Nat) (iv : Value) (w : World) : Prop :=
  ∃ (j : Nat) (KV : List Value) (f : Nat → Nat), iv = .int .i64 (j : Int) ∧ j ≤ K.length ∧ KP n Fd vs (i + 1) KV ∧ NP Fd nmf i f ∧ (∀ x ∈ K.take j, f x = nmf x) ∧ Own w 66 1 (.slice (some ⟨kb, 0, none⟩) n n) n KV ∧ Own w 3 1 (.slice (some ⟨nb, 0, none⟩) n n) n (ns f n) ∧ Fr (fun k => k = kb ∨ k = nb) w4 w
def KE (G : List (List Int)) (n kb nb : Nat) (W3 : World) (w : World) : Prop :=
  ∃ (kv : Nat → Value) (KB : Nat → Prop), Own w 66 1 (.slice (some ⟨kb, 0, none⟩) n n) n ((List.range n).map kv) ∧ Own w 3 1 (.slice (some ⟨nb, 0, none⟩) n n) n (ns (nm n (via' G)) n) ∧
    (∀ a, a < n → nm n (via' G) a = a → ∃ (A : Addr) (c : Nat), kv a = .slice (some A) (cls n (via' G) a).length c ∧ Rd w KB 1 (some A) (cls n (via' G) a).length (nl (cls n (via' G) a)) ∧ (cls n (via' G) a).length ≤ c ∧ c ≤ maxLen) ∧
    (∀ a, a < n → nm n (via' G) a ≠ a → kv a = .slice none 0 0) ∧ (∀ k, KB k → W3.heap.size ≤ k ∧ k < w.heap.size) ∧ Fr (fun k => k = kb ∨ k = nb) W3 w
theorem IRows.lower {B B' : Nat} {w : World} {gs : Nat} {vs : List Value} {R : List (List Int)} (h : IRows B w gs vs R) (hB : B' ≤ B) : IRows B' w gs vs R :=
  ⟨h.len, h.own, fun i v k h1 h2 => Nat.le_trans hB (h.new i v k h1 h2), h.apart, h.out, Nat.le_trans hB h.base⟩
def BZ (n : Nat) (wc : World) (a9 a10 : Value) (w : World) : Prop :=
  ∃ wb bs : Nat, a9 = .slice (some ⟨wb, 0, none⟩) n n ∧ a10 = .slice (some ⟨bs, 0, none⟩) n n ∧ wc.heap.size ≤ wb ∧ Own w 3 1 (.slice (some ⟨wb, 0, none⟩) n n) n (ns (fun _ => 0) n) ∧ IRows wc.heap.size w bs (zrow n (.slice none 0 0)) (List.replicate n []) ∧ Fr No wc w
theorem bz1 (n : Nat) (hn : n ≤ 1000) (wc : World) : BZ n wc (.slice (some ⟨wc.heap.size, 0, none⟩) n n) (.slice (some ⟨wc.heap.size + 1, 0, none⟩) n n) ((wc.alloc (.cells (zrow n (.int .i64 0)).toArray 3)).alloc (.cells (zrow n (.slice none 0 0)).toArray 66)).drew := by
  refine ⟨_, _, rfl, rfl, Nat.le_refl _, ?_, ?_, (((Fr.refl _ _).alloc _).alloc _).drew⟩
  · rw [ns_zero]
    exact (zrow_own ((Blk.new wc _ _).alloc _) hn).drew
  · have h1 := IRows.zero (wc.alloc (.cells (zrow n (.int .i64 0)).toArray 3)) n (by omega)
    rw [World.size_alloc] at h1
    exact (h1.lower (Nat.le_succ _)).no (Fr.refl _ _).drew
theorem bz2 (n : Nat) (hn : n ≤ 1000) (wc : World) : BZ n wc (.slice (some ⟨wc.heap.size + 1, 0, none⟩) n n) (.slice (some ⟨wc.heap.size, 0, none⟩) n n) ((wc.alloc (.cells (zrow n (.slice none 0 0)).toArray 66)).alloc (.cells (zrow n (.int .i64 0)).toArray 3)).drew := by
  refine ⟨_, _, rfl, rfl, Nat.le_succ _, ?_, (IRows.zero wc n (by omega)).no ((Fr.refl _ _).alloc _).drew, (((Fr.refl _ _).alloc _).alloc _).drew⟩
  rw [ns_zero]
  have h1 := Blk.new (wc.alloc (.cells (zrow n (.slice none 0 0)).toArray 66)) 3 (zrow n (.int .i64 0)).toArray
  rw [World.size_alloc] at h1
  exact (zrow_own h1 hn).drew
def BE (G : List (List Int)) (n wb bs i j : Nat) (wc : World) (w : World) : Prop :=
  ∃ vs : List Value, IRows wc.heap.size w bs vs (betR G i j) ∧ Own w 3 1 (.slice (some ⟨wb, 0, none⟩) n n) n (ns (betW G i j) n) ∧ (∀ v ∈ vs, v.ownBlock ≠ some wb) ∧ Fr (fun k => wc.heap.size ≤ k) wc w
def BO (G : List (List Int)) (n wb bs : Nat) (wc : World) (iv : Value) (w : World) : Prop := ∃ i, iv = .int .i64 ((i : Nat) : Int) ∧ i ≤ n ∧ BE G n wb bs i 0 wc w
def BJ (G : List (List Int)) (n wb bs i : Nat) (wc : World) (iv : Value) (w : World) : Prop := ∃ j, iv = .int .i64 ((j : Nat) : Int) ∧ j ≤ (gn G i).length ∧ BE G n wb bs i j wc w
theorem bet_put {G : List (List Int)} {n i j a b : Nat} (hn : n = G.length) (hj : j < (gn G i).length) (ha : a = nm n (via' G) i) (hb : b = nm n (via' G) (gn G i)[j]) (hne : a ≠ b) :
    (betR G i j).set a (il (betF G i j a) ++ [(b : Int)]) = betR G i (j + 1) ∧ upN (betW G i j) a (betW G i j a + 1) = betW G i (j + 1) := by
  subst hn ha hb; exact ⟨betR_push hj hne, betW_push hj hne⟩
theorem bet_same {G : List (List Int)} {n i j a b : Nat} (hn : n = G.length) (hj : j < (gn G i).length) (ha : a = nm n (via' G) i) (hb : b = nm n (via' G) (gn G i)[j]) (he : a = b) :
    betR G i j = betR G i (j + 1) ∧ betW G i j = betW G i (j + 1) := by
  subst hn ha hb; exact ⟨betR_skip hj he, betW_skip hj he⟩
theorem betR_at {G : List (List Int)} {n i j a : Nat} (hn : n = G.length) (ha : a < n) : (betR G i j)[a]? = some (il (betF G i j a)) := by
  subst hn; exact rows_get _ _ _ ha
theorem betR_len (G : List (List Int)) (i j : Nat) : (betR G i j).length = G.length := rows_length _ _
theorem gn_len {G : List (List Int)} {M : Nat} (h : ∀ L ∈ G, L.length ≤ M) (k : Nat) : (gn G k).length ≤ M := by
  unfold gn
  rw [List.length_map]
  exact propG_row h k
def BL (G : List (List Int)) (n hp : Nat) (W6 W7 : World) (a : Nat) (w : World) : Prop :=
  ∃ (H : List Nat) (hA : Option Addr) (hc : Nat), HpS (fun k => W6.heap.size ≤ k) w hp hA hc (il H) ∧ Hp (at_ (il H)) (il H).length ∧ H.Nodup ∧ (∀ b, b ∈ H ↔ b < a ∧ nm n (via' G) b = b ∧ betW G n 0 b = 0) ∧ Fr (fun k => W6.heap.size ≤ k) W7 w
theorem heap_new (W6 : World) : HpS (fun k => W6.heap.size ≤ k) ((W6.alloc (.cells #[] 3)).alloc (.cells #[.slice (some ⟨W6.heap.size, 0, none⟩) 0 0] 223)) (W6.heap.size + 1) (some ⟨W6.heap.size, 0, none⟩) 0 (il []) where
  lo := Nat.le_succ _
  up k hk := by rw [World.size_alloc, World.size_alloc] at hk; show W6.heap.size ≤ k; omega
  blk := by
    have h1 := Blk.new (W6.alloc (.cells #[] 3)) 223 #[.slice (some ⟨W6.heap.size, 0, none⟩) 0 0]
    rw [World.size_alloc] at h1
    exact h1
  row := ⟨rfl, .inr ⟨W6.heap.size, 0, #[], rfl, (Blk.new W6 3 #[]).alloc _, Nat.le_refl _, Nat.zero_le _, Nat.le_refl _, rfl⟩⟩
  new k hk := by
    have hk : some W6.heap.size = some k := hk
    injection hk with hk
    show W6.heap.size ≤ k
    omega
theorem bl_push {G : List (List Int)} {n a : Nat} {H H' : List Nat} (hnd : H.Nodup) (h : ∀ b, b ∈ H ↔ b < a ∧ nm n (via' G) b = b ∧ betW G n 0 b = 0) (hp : H'.Perm (a :: H)) (h1 : nm n (via' G) a = a) (h2 : betW G n 0 a = 0) :
    H'.Nodup ∧ ∀ b, b ∈ H' ↔ b < a + 1 ∧ nm n (via' G) b = b ∧ betW G n 0 b = 0 := by
  refine ⟨hp.nodup_iff.2 (List.nodup_cons.2 ⟨fun hm => by have := ((h a).1 hm).1; omega, hnd⟩), fun b => ?_⟩
  rw [hp.mem_iff, List.mem_cons, h]
  constructor
  · rintro (rfl | ⟨x, y⟩)
    · exact ⟨Nat.lt_succ_self _, h1, h2⟩
    · exact ⟨by omega, y⟩
  · rintro ⟨x, y⟩
    by_cases e : b = a
    · exact .inl e
    · exact .inr ⟨by omega, y⟩
theorem bl_skip {G : List (List Int)} {n a : Nat} {H : List Nat} (h : ∀ b, b ∈ H ↔ b < a ∧ nm n (via' G) b = b ∧ betW G n 0 b = 0) (hno : ¬ (nm n (via' G) a = a ∧ betW G n 0 a = 0)) :
    ∀ b, b ∈ H ↔ b < a + 1 ∧ nm n (via' G) b = b ∧ betW G n 0 b = 0 := fun b => by
  rw [h]
  constructor
  · rintro ⟨x, y⟩; exact ⟨by omega, y⟩
  · rintro ⟨x, y⟩
    by_cases e : b = a
    · subst e; exact absurd y hno
    · exact ⟨by omega, y⟩
theorem propG_n (G : List (List Int)) {n : Nat} (h : n = G.length) : (propG G).length = n := by rw [propG_len, h]
set_option maxRecDepth 100000 in
set_option maxHeartbeats 8000000 in
theorem knots_any (w : World) (F : Nat → Prop) (A : Option Addr) (c M : Nat) (G : List (List Int)) (hg : RdG w F A G) (hn : G.length ≤ 1000) (hm : ∀ L ∈ G, L.length ≤ M) (hM : M ≤ 10000) (hnM : G.length * M ≤ 20000) :
    Calls Tryz.prog 124 #[.slice A G.length c] w (KnR w G) := by
  obtain ⟨n, hgn⟩ : ∃ n, n = G.length := ⟨_, rfl⟩
  have HPR : Hid (Calls Tryz.prog 128 #[.slice A n c] w fun e w' => ∃ (gs : Nat) (vs : List Value), e = .returned (.slice (some ⟨gs, 0, none⟩) n n) ∧ IRows w.heap.size w' gs vs (propG G) ∧ Fr No w w') := Lib.hid (by
    have h1 := proper_any w F A c G hg (by omega) (fun L hL => Nat.le_trans (hm L hL) (by omega))
    unfold RetG at h1
    rw [propG_len, ← hgn] at h1
    exact h1)
  rw [← hgn] at hn hnM ⊢
  have hmk1 := fun W => run_make1 (P := Tryz.prog) elKI zeroKI rfl .i64 .i64 n (by omega) (by simp only [maxLen]; omega) W
  have hmk2 := fun W => run_make1 (P := Tryz.prog) elG zeroG rfl .i64 .i64 n (by omega) (by simp only [maxLen]; omega) W
  have HM := Lib.hid hm
  have HNM := Lib.hid hnM
  have HGN := Lib.hid hgn
  clear hg hm hnM hgn
  go_enter Tryz.func124, Tryz.ntmps124
  go_upto_region 4 with (go_at_call 128; (with_reducible refine HPR.out.mono ?_); rintro _ w1 ⟨gs, vsP, rfl, hI1, hf1⟩; have HI1 := Lib.hid hI1; have HF1 := Lib.hid hf1; clear hI1 hf1)
  obtain ⟨kb, hkb⟩ : ∃ kb, kb = w1.heap.size := ⟨_, rfl⟩
  obtain ⟨nb, hnb⟩ : ∃ nb, nb = w1.heap.size + 1 := ⟨_, rfl⟩
  have HOK : Hid (∃ W3, W3 = (w1.alloc (.cells (zrow n (.slice none 0 0)).toArray 66)).alloc (.cells (zrow n (.int .i64 0)).toArray 3) ∧ Own W3 66 1 (.slice (some ⟨kb, 0, none⟩) n n) n (zrow n (.slice none 0 0)) ∧ Own W3 3 1 (.slice (some ⟨nb, 0, none⟩) n n) n (ns (fun _ => 0) n) ∧ Fr No w1 W3 ∧ W3.heap.size = w1.heap.size + 2) := Lib.hid (by
    refine ⟨_, rfl, ?_, ?_, ((Fr.refl _ _).alloc _).alloc _, by rw [World.size_alloc, World.size_alloc]⟩
    · rw [hkb]; exact zrow_own ((Blk.new w1 _ _).alloc _) hn
    · rw [hnb, ns_zero]
      have h1 := Blk.new (w1.alloc (.cells (zrow n (.slice none 0 0)).toArray 66)) 3 (zrow n (.int .i64 0)).toArray
      rw [World.size_alloc] at h1
      exact zrow_own h1 hn)
  obtain ⟨W3, hW3, hok, hon, hf3, hsz3⟩ := HOK.out
  rw [← hnb, ← hkb, ← hW3]
  have HFIND : Hid (Calls Tryz.prog 160 #[.slice (some ⟨gs, 0, none⟩) n n] W3 (FindR W3 n (propG G))) := Lib.hid (by
    have h1 := find_any W3 _ (some ⟨gs, 0, none⟩) n (propG G) ((HI1.out.rdG.no hf3).lt) (fun k hk => hk.2) (propG_pl G) (by rw [propG_n G HGN.out]; exact hn)
    rw [propG_n G HGN.out] at h1
    exact h1)
  have HKB : Hid (kb = w1.heap.size ∧ nb = w1.heap.size + 1 ∧ W3.heap.size = w1.heap.size + 2) := Lib.hid ⟨hkb, hnb, hsz3⟩
  have HON := Lib.hid hon
  have HOK2 := Lib.hid hok
  have HF3 := Lib.hid hf3
  clear hkb hnb hW3 hok hon hf3 hsz3 HOK
  go_upto_block 0 with (go_at_call 160; (with_reducible refine HFIND.out.mono ?_); rintro _ w4 ⟨s, p, vs, KB, rfl, hti, hall, hfd, hfa, hf4⟩; have HTI := Lib.hid hti; have HALL := Lib.hid hall; have HFD := Lib.hid hfd; have HFA := Lib.hid hfa; have HF4 := Lib.hid hf4; clear hti hall hfd hfa hf4)
  have HT := Lib.hid (TI.all HTI.out HALL.out)
  have HK : Hid (∀ K ∈ s.found, IsKnot (gn G) K) := Lib.hid HT.out.1
  have HX : Hid (∀ x, x < n ↔ ∃ K ∈ s.found, x ∈ K) := Lib.hid HT.out.2.1
  have HD : Hid (s.found.flatten.Nodup) := Lib.hid HT.out.2.2
  have HFl : Hid (s.found.length ≤ n) := Lib.hid (TI.found_le HTI.out)
  have HROW : Hid (∀ (i : Nat) (K : List Nat), s.found[i]? = some K → ∃ A c, vs[i]? = some (.slice A K.length c) ∧ Rd w4 KB 1 A K.length (nl K) ∧ K.length ≤ c ∧ c ≤ maxLen) := Lib.hid HFD.out.row
  have HNEW : Hid (∀ k, KB k → W3.heap.size ≤ k ∧ k < w4.heap.size) := Lib.hid fun k hk => ⟨(HFD.out.new k hk).1, (HFD.out.new k hk).2.1⟩
  have HOUT : Hid (Own w4 66 1 (.slice p.fa s.found.length p.fc) s.found.length vs) := Lib.hid HFD.out.out
  clear HFD HT HTI HALL
  generalize s.found = Fd at *
  go_cut [3] (fun a3 wx => a3 = .slice (some ⟨kb, 0, none⟩) n n ∧ KE G n kb nb W3 wx)
  case first =>
    go_wp2
    go_loopw [30] (fun iv wr => KO n kb nb Fd vs (nm n (via' G)) w4 iv wr) (fun iv _ => Fd.length - (intOf iv).toNat)
    case atStart => exact ⟨0, _, _, rfl, Nat.zero_le _, KP.zero, NP.zero, HOK2.out.fr HF4.out (fun _ _ h => h), HON.out.fr HF4.out (fun _ _ h => h), Fr.refl _ _⟩
    case round =>
      obtain ⟨i, KV, f, rfl, hi, hkp, hnp, hk, hna, hf⟩ := hrel
      have HKP := Lib.hid hkp
      have HNP := Lib.hid hnp
      have HKO := Lib.hid hk
      have HNO := Lib.hid hna
      have HFR := Lib.hid hf
      clear hkp hnp hk hna hf
      by_cases hil : i < Fd.length
      · obtain ⟨K, hK⟩ : ∃ K, Fd[i]? = some K := ⟨_, List.getElem?_eq_getElem hil⟩
        have hKm : K ∈ Fd := List.mem_of_getElem? hK
        have hKn : ∀ y ∈ K, y < n := fun y hy => (HX.out y).2 ⟨K, hKm, hy⟩
        obtain ⟨a0, r, eK, eN⟩ := knot_head (HK.out K hKm) (fun y hy => by rw [← HGN.out]; exact hKn y hy)
        rw [← HGN.out] at eN
        obtain ⟨Ak, ck, r1, r2, r3, r4⟩ := HROW.out i K hK
        have hKl : 0 < K.length := by rw [eK]; simp
        obtain ⟨adk, hAk, _⟩ := r2.2 hKl
        subst hAk
        have ha0 : a0 ∈ K := by rw [eK]; exact List.mem_cons_self
        have ha0n : a0 < n := hKn a0 ha0
        have hKle : K.length ≤ n := nodup_leN ((HK.out K hKm).up.imp fun h e => by omega) hKn
        have hfno : ∀ k, (Value.slice p.fa Fd.length p.fc).ownBlock = some k → ¬ (k = kb ∨ k = nb) := fun k hk hS => by
          have h1 := HFA.out k hk
          have h2 := HKB.out
          omega
        have hkno : ∀ k, KB k → ¬ (k = kb ∨ k = nb) := fun k hk hS => by
          have h1 := (HNEW.out k hk).1
          have h2 := HKB.out
          omega
        have HRK : Hid (∀ W, Fr (fun k => k = kb ∨ k = nb) w4 W → Rd W KB 1 (some adk) K.length (nl K)) := Lib.hid (fun W hW => r2.fr (by omega) hW fun k hk _ => hkno k hk)
        obtain ⟨adf, uf, hA, _, hu, c1⟩ := ((HOUT.out.rd).fr (by omega) HFR.out fun k hk _ => hfno k hk).at_ (k := i) hil
        rw [r1] at hu
        injection hu with hu
        subst hu
        obtain ⟨ad2, u2, e2, _, hu2, hc0⟩ := (HRK.out wr HFR.out).at_ (k := 0) hKl
        injection e2 with e2
        subst e2
        have hK0 : K[0] = a0 := by simp [eK]
        rw [nl_at _ _ hKl, hK0] at hu2
        injection hu2 with hu2
        subst hu2
        rw [hA]
        have hc0' : wr.cell? adk = some (.int .i64 (a0 : Int)) := by
          have h1 : adk.add 0 = adk := by unfold Addr.add; rfl
          rw [h1] at hc0; exact hc0
        have hilI : (i : Int) < (Fd.length : Int) := by omega
        have ha0I : (a0 : Int) < (n : Int) := by omega
        have hKlI : (0 : Int) < (K.length : Int) := by omega
        have hKlI0 := Lib.hid hKl
        obtain ⟨o1, ⟨y1, e1⟩, z1⟩ := HKO.out.store a0 ha0n (.slice (some adk) K.length ck)
        have HO1 := Lib.hid o1
        obtain ⟨i1, hi1⟩ : ∃ i1, i1 = i + 1 := ⟨_, rfl⟩
        have hwi : wrap64 ((i : Int) + 1) = (i1 : Int) := by
          have := HFl.out
          unfold wrap64; omega
        have HI1' := Lib.hid hi1
        have HKD := Lib.hid hK
        have HEK := Lib.hid eK
        have HEN := Lib.hid eN
        have HR1 := Lib.hid r1
        have HKN := Lib.hid hKn
        have HKL := Lib.hid hKle
        clear hfno hkno o1 hK hKm hKn eK eN r1 r2 r3 r4 hi1 hKle hK0 ha0
        go_wp2
        have hF1 : Fr (fun k => k = kb ∨ k = nb) w4 (wr.setCell ⟨kb, a0, none⟩ (.slice (some adk) K.length ck)) := HFR.out.setCell (p := ⟨kb, a0, none⟩) (fun _ => .inl rfl) _
        have hnk : kb ≠ nb := by have := HKB.out; omega
        have HN1 : Hid (Own (wr.setCell ⟨kb, a0, none⟩ (.slice (some adk) K.length ck)) 3 1 (.slice (some ⟨nb, 0, none⟩) n n) n (ns f n)) := Lib.hid (HNO.out.setCell (p := ⟨kb, a0, none⟩) (by intro e; injection e with e; exact hnk e.symm) _)
        have HFB := Lib.hid hF1
        clear hF1 hnk c1
        generalize wr.setCell ⟨kb, a0, none⟩ (.slice (some adk) K.length ck) = w6 at *
        generalize wr = wo at *
        go_loopw [42] (fun jv wr => KJ n kb nb Fd vs (nm n (via' G)) w4 i K jv wr) (fun jv _ => K.length - (intOf jv).toNat)
        case atStart =>
          exact ⟨0, _, f, rfl, Nat.zero_le _, HKP.out.step HD.out HKD.out (by rw [HEK.out]; rfl) ha0n HR1.out, HNP.out, fun x hx => by simp at hx, HO1.out, HN1.out, HFB.out⟩
        case round =>
          obtain ⟨j, KV2, f2, rfl, hj, hkp2, hnp2, hft, hk2, hna2, hf2⟩ := hrel
          have HKP2 := Lib.hid hkp2
          have HNP2 := Lib.hid hnp2
          have HFT := Lib.hid hft
          have HKO2 := Lib.hid hk2
          have HNO2 := Lib.hid hna2
          have HFR2 := Lib.hid hf2
          clear hkp2 hnp2 hft hk2 hna2 hf2
          by_cases hjl : j < K.length
          · obtain ⟨x, hx⟩ : ∃ x, x = K[j] := ⟨_, rfl⟩
            have hxK : x ∈ K := by rw [hx]; exact List.getElem_mem hjl
            have hxn : x < n := HKN.out x hxK
            have hxa : nm n (via' G) x = a0 := (HEN.out x hxK).1
            obtain ⟨ad3, u3, e3, _, hu3, hc3⟩ := (HRK.out wr HFR2.out).at_ (k := j) hjl
            injection e3 with e3
            subst e3
            rw [nl_at _ _ hjl, ← hx] at hu3
            injection hu3 with hu3
            subst hu3
            obtain ⟨ad4, u4, e4, _, hu4, hc4⟩ := (HRK.out wr HFR2.out).at_ (k := 0) hKlI0.out
            injection e4 with e4
            subst e4
            have hK0 : K[0]'hKlI0.out = a0 := by
              have h1 : K[0]? = some a0 := by rw [HEK.out]; rfl
              rw [List.getElem?_eq_getElem hKlI0.out] at h1
              injection h1
            rw [nl_at _ _ hKlI0.out, hK0] at hu4
            injection hu4 with hu4
            subst hu4
            have hc4' : wr.cell? adk = some (.int .i64 (a0 : Int)) := by
              have h1 : adk.add 0 = adk := by unfold Addr.add; rfl
              rw [h1] at hc4; exact hc4
            obtain ⟨o2, ⟨y2, e2⟩, z2⟩ := HNO2.out.store x hxn (.int .i64 (a0 : Int))
            rw [ns_set _ _ _ _ hxn] at o2
            have HO2 := Lib.hid o2
            have hjlI : (j : Int) < (K.length : Int) := by omega
            have hxnI : (x : Int) < (n : Int) := by omega
            obtain ⟨j1, hj1⟩ : ∃ j1, j1 = j + 1 := ⟨_, rfl⟩
            have hwj : wrap64 ((j : Int) + 1) = (j1 : Int) := by
              have := HKL.out
              unfold wrap64; omega
            have HJ1 := Lib.hid hj1
            have HXX : Hid (∃ h : j < K.length, x = K[j]) := Lib.hid ⟨hjl, hx⟩
            have HXA := Lib.hid hxa
            clear o2 hj1 hx hxa hxK hK0
            go_wp2
            go_roundw
            case measure =>
              show K.length - (intOf (Value.int .i64 (wrap64 ((j : Int) + 1)))).toNat < K.length - (intOf (Value.int .i64 (j : Int))).toNat
              rw [hwj]
              exact meas_lt hjl HJ1.out
            case rel =>
              refine ⟨j1, KV2, _, by rw [hwj], by rw [HJ1.out]; exact hjl, HKP2.out, ?_, fun y hy => ?_, HKO2.out.setCell (p := ⟨nb, x, none⟩) (by intro e; injection e with e; have e : kb = nb := e; have := HKB.out; omega) _, HO2.out, HFR2.out.setCell (p := ⟨nb, x, none⟩) (fun _ => .inr rfl) _⟩
              · rw [← HXA.out]; exact HNP2.out.up
              · obtain ⟨hj3, hx3⟩ := HXX.out
                rw [HJ1.out, List.take_succ_eq_append_getElem hj3, ← hx3, List.mem_append, List.mem_singleton] at hy
                by_cases e : y = x
                · rw [e, upN_at]; exact HXA.out.symm
                · rw [upN_ne _ _ e]; exact HFT.out y (hy.resolve_right e)
          · have hjlI : ¬ (j : Int) < (K.length : Int) := by omega
            have hje : j = K.length := by omega
            go_wp2
            go_roundw
            case measure =>
              show Fd.length - (intOf (Value.int .i64 (wrap64 ((i : Int) + 1)))).toNat < Fd.length - (intOf (Value.int .i64 (i : Int))).toNat
              rw [hwi]
              exact meas_lt hil HI1'.out
            case rel =>
              exact ⟨i1, KV2, f2, by rw [hwi], by rw [HI1'.out]; exact hil, by rw [HI1'.out]; exact HKP2.out, by rw [HI1'.out]; exact HNP2.out.next HKD.out (fun y hy => HFT.out y (by rw [hje, List.take_length]; exact hy)), HKO2.out, HNO2.out, HFR2.out⟩
      · have hilI : ¬ (i : Int) < (Fd.length : Int) := by omega
        have hie : i = Fd.length := by omega
        go_wp2
        go_meet
        case rel =>
          refine ⟨rfl, ?_⟩
          have hkn := HGN.out
          subst hkn
          subst hie
          obtain ⟨kv, k1, k2, k3⟩ := kp_all HKP.out HK.out HX.out (fun t K hK => by
            obtain ⟨A', c', r1, r2, r3⟩ := HROW.out t K hK
            exact ⟨A', c', r1, r2.fr (by omega) HFR.out fun k hk _ hS => by
              have h1 := (HNEW.out k hk).1
              have h2 := HKB.out
              omega, r3⟩)
          refine ⟨kv, KB, ?_, ?_, k2, k3, fun k hk => ⟨(HNEW.out k hk).1, Nat.lt_of_lt_of_le (HNEW.out k hk).2 HFR.out.size⟩, (HF4.out.mono fun _ _ h => nomatch h).trans HFR.out⟩
          · rw [← k1]; exact HKO.out
          · rw [← ns_congr (f := f) (fun x hx => ?_)]
            · exact HNO.out
            · obtain ⟨K, hK, hxK⟩ := (HX.out x).1 hx
              obtain ⟨t, ht, e⟩ := List.mem_iff_getElem.1 hK
              exact HNP.out t K ht (by rw [List.getElem?_eq_getElem ht, e]) x hxK
  case rest =>
    obtain ⟨rfl, kv, KB, hok, hon, hk1, hk2, hkb, hfr⟩ := hcut
    have HOK3 := Lib.hid hok
    have HON3 := Lib.hid hon
    have HK1 := Lib.hid hk1
    have HK2 := Lib.hid hk2
    have HKB3 := Lib.hid hkb
    have HFC := Lib.hid hfr
    clear hok hon hk1 hk2 hkb hfr HOK2 HON HFIND
    generalize wc = W4 at *
    have HSZ : Hid (w1.heap.size + 2 ≤ W4.heap.size) := Lib.hid (by have h1 := HKB.out; have h2 := HFC.out.size; omega)
    have HCH : Hid (∀ W, Fr (fun k => W4.heap.size ≤ k) W4 W → Fr (fun k => w1.heap.size ≤ k) w1 W) := Lib.hid (fun W hW => by
      have h2 := HSZ.out
      exact ((HF3.out.mono fun _ _ h => nomatch h).trans' HFC.out fun k hk _ => by have h3 := HKB.out; omega).trans' hW fun k hk _ => by omega)
    have HNR : Hid (∀ W, Fr (fun k => W4.heap.size ≤ k) W4 W → Own W 3 1 (.slice (some ⟨nb, 0, none⟩) n n) n (ns (nm n (via' G)) n)) := Lib.hid (fun W hW => HON3.out.fr hW fun k hk hS => by
      injection hk with hk
      have hk : nb = k := hk
      have h3 := HKB.out
      have h4 := HSZ.out
      omega)
    go_upto_region 14 with (fail)
    go_cut [9, 10] (fun a9 a10 wx => BZ n W4 a9 a10 wx)
    case first =>
      go_region_law (fail)
      all_goals go_wp2
      all_goals go_meet
      · exact bz1 n hn W4
      · exact bz2 n hn W4
    case rest =>
      obtain ⟨wb, bs, rfl, rfl, hwb, how, hob, hfz⟩ := hcut
      generalize wc = W5 at *
      have HWB := Lib.hid hwb
      have HOW := Lib.hid how
      have HOB := Lib.hid hob
      have HFZ := Lib.hid hfz
      clear hwb how hob hfz hmk1 hmk2
      go_upto_block 4 with (fail)
      go_cut [9] (fun a9 wx => a9 = .slice (some ⟨wb, 0, none⟩) n n ∧ BE G n wb bs n 0 W4 wx)
      case first =>
        go_wp2
        go_loopw [62] (fun iv wr => BO G n wb bs W4 iv wr) (fun iv _ => n - (intOf iv).toNat)
        case atStart =>
          refine ⟨0, rfl, Nat.zero_le _, zrow n (.slice none 0 0), ?_, ?_, fun v hv => by rw [(List.mem_replicate.1 hv).2]; simp [Value.ownBlock], HFZ.out.mono fun _ _ h => nomatch h⟩
          · have h1 := HOB.out
            have h2 := HGN.out
            subst h2
            rw [← betR_zero] at h1
            exact h1
          · rw [betW_zero]; exact HOW.out
        case round =>
          obtain ⟨i, rfl, hi, vs5, hir, hwt, hnw, hf⟩ := hrel
          have HNW := Lib.hid hnw
          have HIR := Lib.hid hir
          have HWT := Lib.hid hwt
          have HFR := Lib.hid hf
          clear hir hwt hf hnw
          by_cases hil : i < n
          · have hiP : i < (propG G).length := by rw [propG_n G HGN.out]; exact hil
            obtain ⟨Ar, cr, -, hc1, ho1, hcl1, -⟩ := HI1.out.cell hiP
            rw [← gat_at hiP] at hc1 ho1 hcl1
            have hgs : gs < w1.heap.size := HI1.out.out.lt gs rfl
            have hcr := (HCH.out wr HFR.out).cell_some hc1 (fun h => by have h : w1.heap.size ≤ gs := h; omega)
            have hgl : (gat (propG G) i).length = (gn G i).length := by unfold gn; rw [List.length_map]
            rw [hgl] at hcr
            have hilI : (i : Int) < (n : Int) := by omega
            have hgM : (gn G i).length ≤ 10000 := Nat.le_trans (gn_len HM.out i) hM
            obtain ⟨i1, hi1⟩ : ∃ i1, i1 = i + 1 := ⟨_, rfl⟩
            have hwi : wrap64 ((i : Int) + 1) = (i1 : Int) := by unfold wrap64; omega
            have HI1' := Lib.hid hi1
            have HGL := Lib.hid hgl
            have HGM := Lib.hid hgM
            have HRR : Hid (∀ W, Fr (fun k => W4.heap.size ≤ k) W4 W → Rd W (fun k => k < w1.heap.size) 1 Ar (gat (propG G) i).length (is_ (gat (propG G) i))) := Lib.hid (fun W hW =>
              ((ho1.rd.lt (by omega)).fr (by omega) (HCH.out W hW) fun k hk _ hS => by have h1 := hk.2; have hS : w1.heap.size ≤ k := hS; omega).more fun k hk => hk.2)
            obtain ⟨a, ha⟩ : ∃ a, a = nm n (via' G) i := ⟨_, rfl⟩
            have han : a < n := by rw [ha]; exact nm_lt hil
            have hanI : (a : Int) < (n : Int) := by omega
            have HAN := Lib.hid ha
            clear hi1 hgl hc1 ho1 hcl1 hgM hiP hgs ha
            go_wp2
            generalize wr = wo at *
            go_loopw [69] (fun jv wr => BJ G n wb bs i W4 jv wr) (fun jv _ => (gn G i).length - (intOf jv).toNat)
            case atStart => exact ⟨0, rfl, Nat.zero_le _, vs5, HIR.out, HWT.out, HNW.out, HFR.out⟩
            case round =>
              obtain ⟨j, rfl, hj, vs6, hir6, hwt6, hnw6, hf6⟩ := hrel
              have HNW6 := Lib.hid hnw6
              have HIR6 := Lib.hid hir6
              have HWT6 := Lib.hid hwt6
              have HFR6 := Lib.hid hf6
              clear hir6 hwt6 hf6 hnw6
              by_cases hjl : j < (gn G i).length
              · obtain ⟨hy1, hy2⟩ := gm_at (propG_pl G) i j hjl
                rw [propG_n G HGN.out] at hy2
                obtain ⟨t, ht⟩ : ∃ t, t = (gn G i)[j] := ⟨_, rfl⟩
                have hjg : j < (gat (propG G) i).length := by rw [HGL.out]; exact hjl
                obtain ⟨ad, u, rfl, _, hu, hxc⟩ := (HRR.out wr HFR6.out).at_ hjg
                rw [is_at _ j hjg] at hu
                injection hu with hu
                subst hu
                rw [List.getElem?_eq_getElem hjg] at hy1
                injection hy1 with hy1
                have hy1 : (gat (propG G) i)[j] = ((gn G i)[j] : Int) := hy1
                have hy2 : (gn G i)[j] < n := hy2
                rw [hy1, ← ht] at hxc
                rw [← ht] at hy2
                obtain ⟨b, hb⟩ : ∃ b, b = nm n (via' G) t := ⟨_, rfl⟩
                have hnmc : ∀ z, z < n → wr.cell? ⟨nb, z, none⟩ = some (.int .i64 (nm n (via' G) z : Int)) := fun z hz => by
                  obtain ⟨ad6, u6, he6, _, hu6, d6⟩ := (HNR.out wr HFR6.out).rd.at_ (k := z) hz
                  injection he6 with he6
                  subst he6
                  rw [ns_at _ _ _ hz] at hu6
                  injection hu6 with hu6
                  subst hu6
                  rwa [add_zero] at d6
                have hci := hnmc i hil
                have hct := hnmc t hy2
                rw [← HAN.out] at hci
                rw [← hb] at hct
                have hjlI : (j : Int) < ((gn G i).length : Int) := by omega
                have htnI : (t : Int) < (n : Int) := by omega
                obtain ⟨j1, hj1⟩ : ∃ j1, j1 = j + 1 := ⟨_, rfl⟩
                have hwj : wrap64 ((j : Int) + 1) = (j1 : Int) := by
                  have := HGM.out
                  unfold wrap64; omega
                have HJ1 := Lib.hid hj1
                have HB : Hid (b = nm n (via' G) (gn G i)[j]) := Lib.hid (by rw [hb, ht])
                clear hj1 hb ht hnmc
                by_cases hab : a = b
                · have habI : ((a : Int) != (b : Int)) = false := by rw [hab]; simp
                  have HABE := Lib.hid hab
                  clear hab
                  go_wp2
                  go_roundw
                  case measure =>
                    show (gn G i).length - (intOf (Value.int .i64 (wrap64 ((j : Int) + 1)))).toNat < (gn G i).length - (intOf (Value.int .i64 (j : Int))).toNat
                    rw [hwj]
                    exact meas_lt hjl HJ1.out
                  case rel =>
                    obtain ⟨e1, e2⟩ := bet_same HGN.out hjl HAN.out HB.out HABE.out
                    refine ⟨j1, by rw [hwj], by rw [HJ1.out]; exact hjl, vs6, ?_, ?_, HNW6.out, HFR6.out⟩
                    · rw [HJ1.out, ← e1]; exact HIR6.out
                    · rw [HJ1.out, ← e2]; exact HWT6.out
                · have habI : ((a : Int) != (b : Int)) = true := by simp; omega
                  have HABN := Lib.hid hab
                  have haR : a < (betR G i j).length := by rw [betR_len, ← HGN.out]; exact han
                  obtain ⟨A1, c1, hv1, hcell, hown, hlc1, hcm1⟩ := HIR6.out.cell haR
                  have hra : (betR G i j)[a] = il (betF G i j a) := by
                    have h1 := betR_at (i := i) (j := j) HGN.out han
                    rw [List.getElem?_eq_getElem haR] at h1
                    injection h1
                  rw [hra, il_len] at hv1 hcell hown hlc1
                  have hbl := betF_len (G := G) (gn_len HM.out) i j a
                  have hbl2 : (i + 1) * M ≤ 20000 := Nat.le_trans (Nat.mul_le_mul_right M (show i + 1 ≤ n by omega)) HNM.out
                  obtain ⟨cur, hcur⟩ := HIR6.out.out.blk bs rfl
                  obtain ⟨ad7, u7, he7, _, hu7, d7⟩ := HWT6.out.rd.at_ (k := a) han
                  injection he7 with he7
                  subst he7
                  rw [ns_at _ _ _ han] at hu7
                  injection hu7 with hu7
                  subst hu7
                  rw [add_zero] at d7
                  have HBP := Lib.hid (bet_put HGN.out hjl HAN.out HB.out hab)
                  have HRA : Hid ((betR G i j)[a]? = some (il (betF G i j a))) := Lib.hid (betR_at HGN.out han)
                  have HBW : Hid (betW G i j a = (betF G i j a).length) := Lib.hid rfl
                  obtain ⟨m, hmm⟩ : ∃ m, m = betW G i j a := ⟨_, rfl⟩
                  rw [← hmm] at d7
                  have HMM := Lib.hid hmm
                  obtain ⟨m1, hm1⟩ : ∃ m1, m1 = m + 1 := ⟨_, rfl⟩
                  have hwm : wrap64 ((m : Int) + 1) = (m1 : Int) := by
                    have h1 := HBW.out
                    unfold wrap64; omega
                  have HM1 := Lib.hid hm1
                  have HV1 := Lib.hid hv1
                  have HOW7 := Lib.hid hown
                  have HCUR := Lib.hid hcur
                  have hbsl := hcur.lt
                  generalize hL : betF G i j a = L at *
                  have hLX : Hid (L.length + 1 ≤ maxLen ∧ (L.length + 1) * 8 ≤ 140737488355328) := by
                    refine ⟨?_, ?_⟩ <;> (try simp only [maxLen]) <;> omega
                  have hwbs : wb ≠ bs := fun e => by
                    obtain ⟨cw, hcw⟩ := HWT6.out.blk wb rfl
                    exact Blk.ne_ hcw hcur (by decide) e
                  have hnbl := (HNR.out wr HFR6.out).lt nb rfl
                  clear hab hv1 hown hcur hbl hbl2 hra haR hmm hm1 hlc1 hcm1 hL
                  go_wp2
                  go_region_law (refine step_app _ rfl (.tmp 88) (.tmp 93) 66 66 rfl elKI (HOW7.out.alloc _) rfl (Src.of_new (cs := #[.int .i64 (b : Int)]) (t := 3) wr.heap.size (heap_alloc_new wr _) Tryz.underlying66 rfl (by simp [Value.oneCell'])) rfl hLX.out.1 hLX.out.2 ?_; intro v3 w3 hown3 hf3 hn3; obtain ⟨A3, c3, rfl, -, -⟩ := hown3.form; have hb3 := (HCUR.out.alloc (.cells #[.int .i64 (b : Int)] 3)).drew.fr hf3 (HOW7.out.ne_ HCUR.out (by decide)); have z3 := hb3.frozen a; have k3 := (hb3.cell a).trans ((HCUR.out.cell a).symm.trans hcell); have HO := Lib.hid hown3; have HF := Lib.hid hf3; have HN := Lib.hid hn3; clear hown3 hf3 hn3 hb3)
                  all_goals
                    have hsz3 : (wr.alloc (Obj.cells #[Value.int IntKind.i64 (b : Int)] 3)).drew.heap.size = wr.heap.size + 1 := World.size_alloc ..
                    have hrow : ∀ k, (Value.slice A1 L.length c1).ownBlock = some k → W4.heap.size ≤ k ∧ k ≠ wb := fun k hk => ⟨HIR6.out.new a _ k HV1.out hk, fun e => HNW6.out _ (List.mem_of_getElem? HV1.out) (by rw [hk, e])⟩
                    have hbsB := HIR6.out.base
                    have hown4 : Own w3 3 1 (.slice A3 (L.length + 1) c3) (il L ++ [(b : Int)]).length (is_ (il L ++ [(b : Int)])) := by
                      have h1 := HO.out
                      rw [List.length_append, il_len]
                      rwa [show is_ (il L) ++ (#[Value.int .i64 (b : Int)] : Array Value).toList = is_ (il L ++ [(b : Int)]) by simp [is_]] at h1
                    have hput := (HIR6.out.no (((Fr.refl No wr).alloc (.cells #[.int .i64 (b : Int)] 3)).drew)).put (L' := il L ++ [(b : Int)]) HV1.out HRA.out HF.out hown4 (HN.out.imp id (fun e => ⟨_, e, Nat.le_refl _⟩)) (by have h1 := HFR6.out.size; omega) rfl
                    have hput2 := hput
                    rw [HBP.out.1] at hput2
                    have HPT := Lib.hid hput2
                    have hF1 : Fr (fun k => W4.heap.size ≤ k ∧ k ≠ wb) wr (w3.setCell ⟨bs, a, none⟩ (.slice A3 (L.length + 1) c3)) := ((((Fr.refl _ wr).alloc (.cells #[.int .i64 (b : Int)] 3)).drew).trans' HF.out (fun k hk _ => hrow k hk)).setCell (p := ⟨bs, a, none⟩) (fun _ => ⟨hbsB, fun e => hwbs e.symm⟩) _
                    have HF1 := Lib.hid hF1
                    have hw9 := HWT6.out.fr hF1 (fun k hk hS => by injection hk with hk; exact hS.2 hk.symm)
                    have HNW9 : Hid (∀ v ∈ vs6.set a (.slice A3 (L.length + 1) c3), v.ownBlock ≠ some wb) := Lib.hid (fun v hv => by
                      rcases List.mem_or_eq_of_mem_set hv with hv | rfl
                      · exact HNW6.out v hv
                      · rcases HN.out with e | e
                        · rw [e]; exact HNW6.out _ (List.mem_of_getElem? HV1.out)
                        · rw [e]; intro e2; injection e2 with e2; have h1 := HWT6.out.lt wb rfl; omega)
                    obtain ⟨ad8, u8, he8, _, hu8, d8⟩ := hw9.rd.at_ (k := a) han
                    injection he8 with he8
                    subst he8
                    rw [ns_at _ _ _ han, ← HMM.out] at hu8
                    injection hu8 with hu8
                    subst hu8
                    rw [add_zero] at d8
                    obtain ⟨o8, _, z8⟩ := hw9.store a han (.int .i64 (m1 : Int))
                    rw [ns_set _ _ _ _ han] at o8
                    have HO8 := Lib.hid o8
                    clear hput hput2 hown4 hw9 o8 hF1 hsz3 hrow k3 z3 hcell hbsl hci hct d7 hnbl
                    generalize w3.setCell ⟨bs, a, none⟩ (.slice A3 (L.length + 1) c3) = w9 at *
                    go_wp2
                    go_roundw
                    case measure =>
                      show (gn G i).length - (intOf (Value.int .i64 (wrap64 ((j : Int) + 1)))).toNat < (gn G i).length - (intOf (Value.int .i64 (j : Int))).toNat
                      rw [hwj]
                      exact meas_lt hjl HJ1.out
                    case rel =>
                      have hse : Fr (At1 wb) w9 (w9.setCell ⟨wb, a, none⟩ (.int .i64 (m1 : Int))) := fr_set _ _ _ _
                      refine ⟨j1, by rw [hwj], by rw [HJ1.out]; exact hjl, _, ?_, ?_, HNW9.out, (HFR6.out.trans' HF1.out fun k hk _ => hk.1).trans' hse fun k hk _ => by have hk : k = wb := hk; rw [hk]; exact HWB.out⟩
                      · rw [HJ1.out]
                        exact HPT.out.fr hse (fun e => hwbs e.symm) fun v hv k hk e => HNW9.out v hv (by rw [hk, show k = wb from e])
                      · rw [HJ1.out, ← HBP.out.2, ← HMM.out, ← HM1.out]
                        exact HO8.out
              · have hjlI : ¬ (j : Int) < ((gn G i).length : Int) := by omega
                have hje : j = (gn G i).length := by omega
                go_wp2
                go_roundw
                case measure =>
                  first
                    | (show n - (intOf (Value.int .i64 (wrap64 ((i : Int) + 1)))).toNat < n - (intOf (Value.int .i64 (i : Int))).toNat; rw [hwi]; exact meas_lt hil HI1'.out)
                    | (show n - (intOf (Value.int .i64 ((i : Int) + 1))).toNat < n - (intOf (Value.int .i64 (i : Int))).toNat; exact meas_lt hil rfl)
                case rel =>
                  refine ⟨i1, by first | rw [hwi] | (rw [HI1'.out]; rfl), by rw [HI1'.out]; exact hil, vs6, ?_, ?_, HNW6.out, HFR6.out⟩
                  · rw [HI1'.out, ← betR_next, ← hje]; exact HIR6.out
                  · rw [HI1'.out, ← betW_next, ← hje]; exact HWT6.out
          · have hilI : ¬ (i : Int) < (n : Int) := by omega
            have hie : i = n := by omega
            go_wp2
            go_meet
            case rel =>
              rw [hie] at HIR HWT
              exact ⟨rfl, vs5, HIR.out, HWT.out, HNW.out, HFR.out⟩
      case rest =>
        obtain ⟨rfl, vs6, hir, hwt, hnw, hf⟩ := hcut
        generalize wc = W6 at *
        have HIR := Lib.hid hir
        have HWT := Lib.hid hwt
        have HNW := Lib.hid hnw
        have HFR := Lib.hid hf
        clear hir hwt hnw hf
        have hwbl := HWT.out.lt wb rfl
        have HWBL := Lib.hid hwbl
        have qT : ∀ (w : World) (a : Option Addr) (n c n' c' : Nat), (binOp .neq 66 (.slice a n c) (.slice none n' c')).run Tryz.prog w = .ok (.bool (!a.isNone)) w := fun w a n c n' c' => run_neq_slice_nil_any w _ _ a n c n' c' Tryz.underlying66
        have hH0 := heap_new W6
        have hF7 : Fr No W6 ((W6.alloc (.cells #[] 3)).alloc (.cells #[.slice (some ⟨W6.heap.size, 0, none⟩) 0 0] 223)) := ((Fr.refl _ _).alloc _).alloc _
        have HH0 := Lib.hid hH0
        have HF7 := Lib.hid hF7
        clear hH0 hF7 hwbl
        go_upto_block 8 with (fail)
        generalize (W6.alloc (.cells #[] 3)).alloc (.cells #[.slice (some ⟨W6.heap.size, 0, none⟩) 0 0] 223) = W7 at *
        generalize hhp : W6.heap.size + 1 = hp at *
        have HHP := Lib.hid hhp
        clear hhp
        have HC2 : Hid (∀ W, Fr (fun k => W6.heap.size ≤ k) W7 W → Fr (fun k => W4.heap.size ≤ k) W4 W ∧ Fr (fun k => W6.heap.size ≤ k) W6 W) := Lib.hid (fun W hW => by
          have h1 := HFR.out.size
          exact ⟨(HFR.out.trans' HF7.out fun _ h _ => nomatch h).trans' hW fun k hk _ => by omega, (HF7.out.mono fun _ _ h => nomatch h).trans hW⟩)
        go_cut [16] (fun a16 wx => a16 = .pointer (some ⟨hp, 0, none⟩) ∧ BL G n hp W6 W7 n wx)
        case first =>
          go_wp2
          go_loopw [108] (fun iv wr => ∃ a, iv = .int .i64 ((a : Nat) : Int) ∧ a ≤ n ∧ BL G n hp W6 W7 a wr) (fun iv _ => n - (intOf iv).toNat)
          case atStart => exact ⟨0, rfl, Nat.zero_le _, [], _, 0, HH0.out, fun k h0 h1 => by simp [il] at h1, List.nodup_nil, fun b => by simp, Fr.refl _ _⟩
          case round =>
            obtain ⟨a, rfl, ha, H, hA, hc, hps, hhp, hnd, hmem, hf⟩ := hrel
            have HPS := Lib.hid hps
            have HHH := Lib.hid hhp
            have HND := Lib.hid hnd
            have HME := Lib.hid hmem
            have HFL := Lib.hid hf
            by_cases hal : a < n
            · have hcv : wr.cell? ⟨kb, a, none⟩ = some (kv a) := by
                obtain ⟨ad6, u6, he6, _, hu6, d6⟩ := (HOK3.out.fr (HC2.out wr hf).1 (fun k hk hS => by
                  injection hk with hk
                  have hk : kb = k := hk
                  have h3 := HKB.out
                  have h4 := HSZ.out
                  omega)).rd.at_ (k := a) hal
                injection he6 with he6
                subst he6
                rw [List.getElem?_map, List.getElem?_range hal] at hu6
                injection hu6 with hu6
                subst hu6
                rwa [add_zero] at d6
              have hcw : wr.cell? ⟨wb, a, none⟩ = some (.int .i64 (betW G n 0 a : Int)) := by
                obtain ⟨ad6, u6, he6, _, hu6, d6⟩ := (HWT.out.fr (HC2.out wr hf).2 (fun k hk hS => by
                  injection hk with hk
                  have hk : wb = k := hk
                  have h4 := HWBL.out
                  omega)).rd.at_ (k := a) hal
                injection he6 with he6
                subst he6
                rw [ns_at _ _ _ hal] at hu6
                injection hu6 with hu6
                subst hu6
                rwa [add_zero] at d6
              have halI : (a : Int) < (n : Int) := by omega
              obtain ⟨a1, ha1⟩ : ∃ a1, a1 = a + 1 := ⟨_, rfl⟩
              have hwa : wrap64 ((a : Int) + 1) = (a1 : Int) := by unfold wrap64; omega
              have HA1 := Lib.hid ha1
              have hHl : (il H).length ≤ 900000 := by
                rw [il_len]
                have := nodup_leN hnd (n := n) fun x hx => by have := ((hmem x).1 hx).1; omega
                omega
              have HPU := Lib.hid (push_nat hps a hhp hHl)
              clear hps hhp hnd hmem hf ha1 hHl
              by_cases hna : nm n (via' G) a = a
              · obtain ⟨ak, ck, hkva, _⟩ := HK1.out a hal hna
                have HNA := Lib.hid hna
                rw [hkva] at hcv
                generalize (cls n (via' G) a).length = lk at *
                clear hkva hna
                by_cases hw0 : betW G n 0 a = 0
                · have hwI : ((betW G n 0 a : Int) == 0) = true := by rw [hw0]; rfl
                  have HW0 := Lib.hid hw0
                  clear hw0
                  go_wp2_with (go_at_call 161; (with_reducible refine HPU.out.mono ?_); rintro _ w9 ⟨rfl, A9, c9, H9, p1, p2, p3, p4⟩; have HP91 := Lib.hid p1; have HP92 := Lib.hid p2; have HP93 := Lib.hid p3; have HP94 := Lib.hid p4; clear p1 p2 p3 p4)
                  go_roundw
                  case measure =>
                    first
                      | (show n - (intOf (Value.int .i64 (wrap64 ((a : Int) + 1)))).toNat < n - (intOf (Value.int .i64 (a : Int))).toNat; rw [hwa]; exact meas_lt hal HA1.out)
                      | (show n - (intOf (Value.int .i64 ((a : Int) + 1))).toNat < n - (intOf (Value.int .i64 (a : Int))).toNat; exact meas_lt hal rfl)
                  case rel =>
                    obtain ⟨q1, q2⟩ := bl_push HND.out HME.out HP91.out HNA.out HW0.out
                    exact ⟨a1, by first | rw [hwa] | (rw [HA1.out]; rfl), by rw [HA1.out]; exact hal, H9, A9, c9, HP93.out, HP92.out, q1, by rw [HA1.out]; exact q2, HFL.out.trans' HP94.out fun k hk _ => hk.1⟩
                · have hwI : ((betW G n 0 a : Int) == 0) = false := by rw [beq_eq_false_iff_ne]; omega
                  have HW0 := Lib.hid hw0
                  clear hw0
                  go_wp2
                  go_roundw
                  case measure =>
                    first
                      | (show n - (intOf (Value.int .i64 (wrap64 ((a : Int) + 1)))).toNat < n - (intOf (Value.int .i64 (a : Int))).toNat; rw [hwa]; exact meas_lt hal HA1.out)
                      | (show n - (intOf (Value.int .i64 ((a : Int) + 1))).toNat < n - (intOf (Value.int .i64 (a : Int))).toNat; exact meas_lt hal rfl)
                  case rel => exact ⟨a1, by first | rw [hwa] | (rw [HA1.out]; rfl), by rw [HA1.out]; exact hal, H, hA, hc, HPS.out, HHH.out, HND.out, by rw [HA1.out]; exact bl_skip HME.out (fun e => HW0.out e.2), HFL.out⟩
              · have hkva := HK2.out a hal hna
                have HNA := Lib.hid hna
                rw [hkva] at hcv
                clear hkva hna
                go_wp2
                go_roundw
                case measure =>
                  first
                    | (show n - (intOf (Value.int .i64 (wrap64 ((a : Int) + 1)))).toNat < n - (intOf (Value.int .i64 (a : Int))).toNat; rw [hwa]; exact meas_lt hal HA1.out)
                    | (show n - (intOf (Value.int .i64 ((a : Int) + 1))).toNat < n - (intOf (Value.int .i64 (a : Int))).toNat; exact meas_lt hal rfl)
                case rel => exact ⟨a1, by first | rw [hwa] | (rw [HA1.out]; rfl), by rw [HA1.out]; exact hal, H, hA, hc, HPS.out, HHH.out, HND.out, by rw [HA1.out]; exact bl_skip HME.out (fun e => HNA.out e.1), HFL.out⟩
            · have halI : ¬ (a : Int) < (n : Int) := by omega
              have hae : a = n := by omega
              clear hps hhp hnd hmem hf
              go_wp2
              go_meet
              case rel =>
                rw [hae] at HME
                exact ⟨rfl, H, hA, hc, HPS.out, HHH.out, HND.out, HME.out, HFL.out⟩
        case rest =>
          obtain ⟨rfl, H, hA, hc, hps, hhp, hnd, hmem, hf8⟩ := hcut
          generalize wc = W8 at *
          have hlen : (betR G n 0).length = n := by rw [betR_len, HGN.out]
          have HUS : Hid (Calls Tryz.prog 127 #[.slice (some ⟨bs, 0, none⟩) n n] W8 fun e w' => ∃ (gu : Nat) (vu : List Value), e = .returned (.slice (some ⟨gu, 0, none⟩) n n) ∧ IRows W8.heap.size w' gu vu (usersG (betR G n 0)) ∧ Fr No W8 w') := Lib.hid (by
            have hrd := (HIR.out.rdG.lt).fr (HC2.out W8 hf8).2 (fun k hk _ hS => by have h1 := hk.2; have hS : W6.heap.size ≤ k := hS; omega)
            have h1 := users_any2 W8 _ (some ⟨bs, 0, none⟩) n (betR G n 0) hrd (by rw [hlen]; exact hn) (fun L hL => by
              obtain ⟨k, hk, e⟩ := List.mem_iff_getElem.1 hL
              have h2 := betR_at (i := n) (j := 0) HGN.out (a := k) (by rw [← hlen]; exact hk)
              rw [List.getElem?_eq_getElem hk, e] at h2
              injection h2 with h2
              rw [h2, il_len]
              exact Nat.le_trans (betF_len0 (gn_len HM.out) n k) HNM.out) (fun L hL x hx => by
              obtain ⟨k, hk, e⟩ := List.mem_iff_getElem.1 hL
              have h2 := betR_at (i := n) (j := 0) HGN.out (a := k) (by rw [← hlen]; exact hk)
              rw [List.getElem?_eq_getElem hk, e] at h2
              injection h2 with h2
              rw [h2] at hx
              obtain ⟨y, hy, rfl⟩ := List.mem_map.1 hx
              have h3 : y < G.length := betG_lt (a := k) (by unfold betG; rw [← HGN.out]; exact hy)
              rw [hlen, HGN.out]
              omega)
            unfold RetG at h1
            rw [show (usersG (betR G n 0)).length = n by rw [show (usersG (betR G n 0)).length = (betR G n 0).length from rows_length _ _, hlen], hlen] at h1
            exact h1)
          have HIN : Hid (∀ (W9 : World) (gu : Nat) (vu : List Value), IRows W8.heap.size W9 gu vu (usersG (betR G n 0)) → Fr No W8 W9 → Calls Tryz.prog 162 #[.slice (some ⟨kb, 0, none⟩) n n, .slice (some ⟨wb, 0, none⟩) n n, .slice (some ⟨gu, 0, none⟩) n n, .pointer (some ⟨hp, 0, none⟩)] W9 (KnR w G)) := Lib.hid (fun W9 gu vu hI9 hf9 => by
            have hs8 : W7.heap.size ≤ W8.heap.size := hf8.size
            have hs9 : W8.heap.size ≤ W9.heap.size := hf9.size
            have hhl := hps.blk.lt
            have hkbl : kb < W4.heap.size := by have h3 := HKB.out; have h4 := HSZ.out; omega
            have hs64 : W4.heap.size ≤ W6.heap.size := HFR.out.size
            have hs76 : W6.heap.size ≤ W7.heap.size := HF7.out.size
            have hhpe := HHP.out
            have hwbl := HWBL.out
            have hc2 := HC2.out W8 hf8
            have hc49 : Fr (fun k => W4.heap.size ≤ k) W4 W9 := hc2.1.trans' hf9 fun k h _ => nomatch h
            have hc69 : Fr (fun k => W6.heap.size ≤ k) W6 W9 := hc2.2.trans' hf9 fun k h _ => nomatch h
            have hps9 := hps.no hf9
            have hrl : ∀ k, (Value.slice hA (il H).length hc).ownBlock = some k → W6.heap.size ≤ k ∧ k < W8.heap.size := fun k hk => ⟨hps.new k hk, hps.row.lt k hk⟩
            have hsm : ∀ b, betW G n 0 b ≤ 1000000 := fun b => by
              have h1 := betF_len0 (gn_len HM.out) n b
              have h2 := HNM.out
              unfold betW
              omega
            have hkv : ∀ a, a < n → ∃ A m c, kv a = .slice A m c := fun a ha => by
              by_cases e : nm n (via' G) a = a
              · obtain ⟨A, c, e, _⟩ := HK1.out a ha e; exact ⟨_, _, _, e⟩
              · exact ⟨_, _, _, HK2.out a ha e⟩
            have hin := inOrder_any (R := stp G) (V := via' G) (Bt := betG G) (fun k => k = hp ∨ (Value.slice hA (il H).length hc).ownBlock = some k ∨ W9.heap.size ≤ k) W9 hp wb n kv
              (fun k => k < W9.heap.size ∧ k ≠ wb ∧ k ≠ hp ∧ (Value.slice hA (il H).length hc).ownBlock ≠ some k) (some ⟨kb, 0, none⟩) (some ⟨gu, 0, none⟩) n n (usersG (betR G n 0)) (usN G) (betW G n 0) H hA hc
              ((HOK3.out.fr hc49 (fun k hk hS => by injection hk with hk; have hk : kb = k := hk; have hS : W4.heap.size ≤ k := hS; omega)).rd.more fun k hk => by
                injection hk with hk
                have hk : kb = k := hk
                subst hk
                exact ⟨by omega, by have h1 := HWB.out; omega, by omega, fun e => by have h1 := (hrl _ e).1; omega⟩)
              ((hI9.rdG.lt).more fun k hk => ⟨hk.2, by have h1 := hk.1; omega, by have h1 := hk.1; omega, fun e => by have h1 := (hrl _ e).2; have h2 := hk.1; omega⟩)
              (fun k hk => ⟨fun hS => by
                rcases hS with e | e | e
                · exact hk.2.2.1 e
                · exact hk.2.2.2 e
                · have h1 := hk.1; omega, hk.2.1⟩)
              (by rw [show (usersG (betR G n 0)).length = (betR G n 0).length from rows_length _ _, hlen])
              (fun a ha => by have h1 := users_us G a (by rw [← HGN.out]; exact ha); rw [← HGN.out] at h1; exact h1)
              (fun a => by
                have h1 := usN_len (G := G) (M := 20000) (fun x => by
                  have h2 := betF_len0 (gn_len HM.out) G.length x
                  have h3 := HNM.out
                  have h4 := HGN.out
                  unfold betG
                  rw [h4] at h3
                  omega) a
                have h3 := HGN.out
                omega)
              (fun a b => usN_count G a b)
              { heap := ⟨.inl rfl, fun k hk => .inr (.inr hk), hps9.blk, hps9.row, fun k hk => .inr (.inl hk)⟩
                hh := hhp
                waits := HWT.out.fr hc69 (fun k hk hS => by injection hk with hk; have hk : wb = k := hk; have hS : W6.heap.size ≤ k := hS; omega)
                small := hsm
                row := Own.nil _ _ _
                new := fun k hk => by simp [Value.ownBlock] at hk
                fr := Fr.refl _ _ }
              (fun hS => by
                rcases hS with e | e | e
                · omega
                · have h1 := (hrl _ e).1; omega
                · omega)
              hn
              (by
                have h3 := HGN.out
                subst h3
                exact ki_start hnd hmem)
              (by have h3 := HGN.out; subst h3; exact reachR G)
              (by have h3 := HGN.out; subst h3; exact betG_ok G)
              hkv
            refine hin.mono ?_
            rintro e w' ⟨As, lA, lc, rfl, ho, hnew, hseq, hAs, hfr⟩
            have hlow : ∀ k, (k = hp ∨ (Value.slice hA (il H).length hc).ownBlock = some k ∨ W9.heap.size ≤ k) ∨ k = wb → W4.heap.size ≤ k := fun k hk => by
              rcases hk with (e | e | e) | e
              · omega
              · have h1 := (hrl _ e).1; omega
              · omega
              · have h1 := HWB.out; omega
            have hc4 : Fr (fun k => W4.heap.size ≤ k) W4 w' := hc49.trans' hfr fun k hk _ => hlow k hk
            have hw1 : w.heap.size ≤ w1.heap.size := HF1.out.size
            have hsz := HSZ.out
            have hl2 : (As.map (cls n (via' G))).length = As.length := List.length_map _
            obtain ⟨A0, c0, ef, hl3, hl4⟩ := ho.form
            injection ef with _ _ ef
            subst ef
            refine ⟨As.map (cls n (via' G)), lA, lc, by rw [hl2], by rw [← HGN.out]; exact hseq, ⟨As.map kv, ?_, fun i L hL => ?_⟩, by rw [hl2]; exact hl3, hl4, HF1.out.trans' (HCH.out w' hc4) fun k hk hlt => by omega⟩
            · rw [List.length_map, hl2]
              exact ho.rd.more fun k hk => by
                have h1 := hlow k (.inl (hnew k hk))
                omega
            · rw [List.getElem?_map, List.getElem?_map] at hL
              cases hi : As[i]? with
              | none => rw [hi] at hL; cases hL
              | some a =>
                rw [hi] at hL
                have hL : some (il (cls n (via' G) a)) = some L := hL
                injection hL with hL
                subst hL
                obtain ⟨han, hna⟩ := hAs a (List.mem_of_getElem? hi)
                obtain ⟨Ak, ck, k1, k2, k3, k4⟩ := HK1.out a han hna
                refine ⟨some Ak, ck, by rw [List.getElem?_map, hi, il_len]; exact congrArg some k1, ?_, by rw [il_len]; exact k3, k4⟩
                rw [il_len, show is_ (il (cls n (via' G) a)) = nl (cls n (via' G) a) from (nl_is _).symm]
                exact ((k2.fr (by omega) hc4 fun k hk _ hS => by have h1 := (HKB3.out k hk).2; have hS : W4.heap.size ≤ k := hS; omega).more fun k hk => by have h1 := (HKB3.out k hk).1; have h2 := HKB.out; omega))
          clear hps hhp hnd hmem hf8 hlen
          go_wp2_with (first
            | (go_at_call 127; (with_reducible refine HUS.out.mono ?_); rintro _ w9 ⟨gu, vu, rfl, hI9, hf9⟩; have HIN9 := Lib.hid (HIN.out w9 gu vu hI9 hf9); clear hI9 hf9)
            | (go_at_call 162; (with_reducible refine HIN9.out.mono ?_); rintro _ w10 hres; obtain ⟨Lr, Ar, cr, rfl, hres2⟩ := hres))
          go_ret
          exact ⟨Lr, Ar, cr, rfl, hres2⟩
end Go.Proofs.YtcpgamidimfflaaGreat
