/- The laws of package pack, as walks: PackBack. -/
import Derived.Test.YtjfbpnhkdlbinaaPackLaw2
import Derived.Test.YtjfbpnhkdlbinaaLib2
import Derived.StillTailTactics
namespace Go.Proofs.Ytjfbpnhkdlbinaa
open Go.RowKit Go.My
set_option linter.unusedSimpArgs false
set_option linter.unusedVariables false

theorem elS : El Try.prog 23 9 1 16 := ⟨Try.underlying23, by
  have h : (Try.prog.info? 9).map (fun i => (i.zero, i.size, i.bytes)) = some (some (.string ⟨#[]⟩), 1, 16) := by kernel_rfl
  obtain ⟨i, hi, hz, hs, hb⟩ := info_parts h
  exact ⟨i, _, hi, hz, hs, hb, rfl⟩, by omega⟩

def trunc (s : ByteArray) : ByteArray := s.extract 0 (min s.size 100)
theorem trunc_size (s : ByteArray) : (trunc s).size ≤ 100 := by simp [trunc]; omega
def cutT (i : Nat) (T : List ByteArray) : List ByteArray := (T.take i).map trunc ++ T.drop i
theorem cutT_length (i : Nat) (T : List ByteArray) : (cutT i T).length = T.length := by simp [cutT]; omega
theorem cutT_get (i : Nat) (T : List ByteArray) (h : i < T.length) : (cutT i T)[i]'(by rw [cutT_length]; exact h) = T[i] := by
  have hl : ((T.take i).map trunc).length = i := by simp; omega
  simp only [cutT]
  rw [List.getElem_append_right (by omega)]
  simp only [List.getElem_drop, hl]
  congr 1
  omega
theorem cutT_succ (i : Nat) (T : List ByteArray) (h : i < T.length) : (cutT i T).set i (trunc T[i]) = cutT (i + 1) T := by
  unfold cutT
  have e1 : T.take (i + 1) = T.take i ++ [T[i]] := List.take_succ_eq_append_getElem h
  have e2 : T.drop i = T[i] :: T.drop (i + 1) := List.drop_eq_getElem_cons h
  have e3 : i - ((T.take i).map trunc).length = 0 := by simp; omega
  rw [List.set_append_right _ _ (by simp; omega), e3, e1, e2]
  simp only [List.set_cons_zero, List.map_append, List.map_cons, List.map_nil, List.append_assoc, List.singleton_append]
def encT (s : ByteArray) : List UInt8 := enc (zig s.size) ++ s.data.toList
def encTs (l : List ByteArray) : List UInt8 := l.flatMap encT

/-- the first loop: i texts are written -/
def PB1 (w : World) (T : List ByteArray) (b0 : List UInt8) (tv bv iv : Value) (wr : World) : Prop :=
  ∃ (i : Nat) (A : Option Addr) (c : Nat), i ≤ T.length ∧ iv = .int .i64 i ∧ tv = .slice A T.length c ∧ c ≤ maxLen ∧ T.length ≤ c ∧ RdT w.heap.size 9 wr A T.length (ss (cutT i T)) ∧
    Own wr 5 1 bv (b0 ++ encTs ((T.take i).map trunc)).length (bs (b0 ++ encTs ((T.take i).map trunc))) ∧ (∀ k, bv.ownBlock = some k → w.heap.size ≤ k) ∧ Below w.heap.size w wr

/-- the second loop: j texts are read again -/
def PB2 (w : World) (T : List ByteArray) (n : Nat) (p q : Nat) (A : Option Addr) (iv : Value) (wr : World) : Prop :=
  ∃ j : Nat, j ≤ T.length ∧ iv = .int .i64 j ∧ Rdr wr p q (encTs (T.drop j)) 0 ∧ RdT w.heap.size 9 wr A n (ss T) ∧ Below w.heap.size w wr

theorem encTs_cons (s : ByteArray) (l : List ByteArray) : encTs (s :: l) = enc (zig s.size) ++ s.data.toList ++ encTs l := by simp [encTs, encT]

theorem rtextT (s : ByteArray) (rest : List UInt8) (h : s.size ≤ 100) : rtext 100 (enc (zig s.size) ++ s.data.toList ++ rest) 0 = (s.data.toList, 0, rest) := by
  have e : s.data.toList.length = s.size := by simp
  have := rtext_enc 100 s.data.toList rest (by omega) (by omega)
  rwa [e] at this

theorem sameI_eq (F G : Nat → Prop) (A B : Option Addr) (n c m d : Nat) (l : List Int) (w : World) (hn : n = l.length) (hm : m = l.length) (hl : Rd w F 1 A n (is_ l)) (hr : Rd w G 1 B m (is_ l)) (hsz : l.length ≤ 1000000000) :
    Calls Try.prog 21 #[.slice A n c, .slice B m d] w fun e w' => e = .returned (.bool true) ∧ ∃ n, w' = w.drewN n := by
  subst hn
  subst hm
  have h := sameI_any F G A B c d l l w hl hr hsz
  rwa [decide_eq_true rfl] at h

theorem packBack_walk (A0 : Option Addr) (c0 : Nat) (l : List Int) (A1 : Option Addr) (c1 : Nat) (ts : List ByteArray) (w : World) (rd0 : Rd w (Lt w.heap.size) 1 A0 l.length (is_ l)) (lc0 : l.length ≤ c0) (cm0 : c0 ≤ maxLen) (hI : I64s l)
    (rd1 : Rd w (Lt w.heap.size) 1 A1 ts.length (ss ts)) (lc1 : ts.length ≤ c1) (cm1 : c1 ≤ maxLen) (hS : ∀ s ∈ ts, s.size ≤ maxLen) :
    Calls Try.prog 3 #[.slice A0 l.length c0, .slice A1 ts.length c1] w (RetTrue w) := by
  have h0 : c0 ≤ 9223372036854775807 := by simp only [maxLen] at cm0; omega
  have h1 : c1 ≤ 9223372036854775807 := by simp only [maxLen] at cm1; omega
  have hm0 := imin l.length 60
  have hm1 := imin ts.length 20
  obtain ⟨L, hL, hLl, rdL, hIL⟩ : ∃ L : List Int, L.length = min l.length 60 ∧ L.length ≤ 60 ∧ Rd w (Lt w.heap.size) 1 A0 (min l.length 60) (is_ L) ∧ I64s L := by
    refine ⟨l.take (min l.length 60), by simp, by simp; omega, ?_, fun x hx => hI x (List.mem_of_mem_take hx)⟩
    have := rd0.take (k := min l.length 60) (by omega)
    simpa [is_] using this
  obtain ⟨T, hT, hTl, rdT, hST⟩ : ∃ T : List ByteArray, T.length = min ts.length 20 ∧ T.length ≤ 20 ∧ Rd w (Lt w.heap.size) 1 A1 (min ts.length 20) (ss T) ∧ ∀ s ∈ T, s.size ≤ maxLen := by
    refine ⟨ts.take (min ts.length 20), by simp, by simp; omega, ?_, fun x hx => hS x (List.mem_of_mem_take hx)⟩
    have := rd1.take (k := min ts.length 20) (by omega)
    simpa [ss] using this
  have hc0 : L.length ≤ c0 := by omega
  have hc1 : T.length ≤ c1 := by omega
  rw [← hL] at hm0 rdL
  rw [← hT] at hm1 rdT
  have hm0' : (if (60 : Int) < (l.length : Int) then (60 : Int) else (l.length : Int)) = (L.length : Int) := hm0
  have hm1' : (if (20 : Int) < (ts.length : Int) then (20 : Int) else (ts.length : Int)) = (T.length : Int) := hm1
  have hll : l.length ≤ 9223372036854775807 := by omega
  have htl : ts.length ≤ 9223372036854775807 := by omega
  clear rd0 rd1 hm0 hm1 hL hT hI hS lc0 lc1 cm0
  go_enter Try.func3, Try.ntmps3
  go_wp2_with fail
  refine (livesP _).mono ?_
  rintro e w1 ⟨rfl, hb1⟩
  go_wp2_with fail
  go_quiet (fail)
  go_wp2_with fail
  have hb2 : Below w.heap.size w (w1.drewN nq) := below_drewN hb1 _
  clear hb1
  generalize w1.drewN nq = w2 at *
  have hs2 := hb2.size
  have rdL2 : Rd w2 (Lt w.heap.size) 1 A0 L.length (is_ L) := rdL.below hb2 fun _ h => h
  refine (nums_any _ A0 c0 L w2 rdL2 hIL (by omega)).mono ?_
  rintro e w3 ⟨v3, rfl, ho3, hf3, hn3⟩
  have hb3 : Below w.heap.size w w3 := below_fr hb2 hf3 hs2 (fun i hi => by simp [AtO] at hi)
  have hs3 := hb3.size
  have rdT3 : Rd w3 (Lt w.heap.size) 1 A1 T.length (ss T) := rdT.below hb3 fun _ h => h
  have hstart : PB1 w T (encNums L) (.slice A1 T.length c1) v3 (.int .i64 0) w3 :=
    ⟨0, A1, c1, Nat.zero_le _, rfl, rfl, cm1, hc1, RdT.of_lt (by simpa [cutT] using (show Rd w3 (fun k => k < w.heap.size) 1 A1 T.length (ss T) from rdT3)), by simpa [encTs] using ho3, fun k hk => by have := newer_none hn3 k hk; omega, hb3⟩
  clear rdL2 ho3 hf3 hn3 rdT3
  go_wp2_with fail
  go_loopw [1, 5, 6] (fun a b i wr => PB1 w T (encNums L) a b i wr) (fun _ _ i _ => T.length - (intOf i).toNat)
  case atStart => exact hstart
  case round =>
    clear hstart hb3 hs3 hb2 hs2
    obtain ⟨i, A, c, hiT, rfl, rfl, hcm, hcT, hrdT, hown, hbk, hbw⟩ := hrel
    have hcm' : c ≤ 9223372036854775807 := by simp only [maxLen] at hcm; omega
    have hsw := hbw.size
    by_cases hlt : i < T.length
    · obtain ⟨F, hrd, hF⟩ := hrdT
      have HBK := Lib.hid hbk
      have HFF := Lib.hid hF
      clear hbk hF
      go_wp2_with (at_builtin; refine wpList_app _ rfl (.const (.slice none 0 0)) (.tmp 33) 23 23 rfl elS (Own.nil _ _ _) rfl (Src.of_rd hrd (ss_one _) Try.underlying23) rfl (by simp only [maxLen]; omega) (by omega) ?_; intro v1 wA hoA hfA hnA)
      have hxs : ([] : List Value) ++ ss (cutT i T) = ss (cutT i T) := rfl
      rw [Nat.zero_add, hxs] at hoA
      obtain ⟨g, c', cur, rfl, hg, hgc, hgm, _⟩ := hoA.formPos (by omega)
      have hgm' : c' ≤ 9223372036854775807 := by simp only [maxLen] at hgm; omega
      have hgn : w.heap.size ≤ g := by
        rcases hnA with h | h
        · simp [Value.ownBlock] at h
        · simp [Value.ownBlock] at h; omega
      obtain ⟨hst, _, hfz⟩ := hoA.store i (by omega) (.string (trunc T[i]))
      have hcl : wA.cell? ⟨g, i, none⟩ = some (.string T[i]) := by
        obtain ⟨ad, hA, _, hc⟩ := hoA.rd.2 (by omega)
        injection hA with hA
        subst hA
        have := hc i (.string T[i]) (by rw [ss_get _ _ (by rw [cutT_length]; exact hlt), cutT_get i T hlt])
        rwa [add_zero] at this
      have htr : T[i].extract 0 (min T[i].size 100) = trunc T[i] := rfl
      have hmn := imin T[i].size 100
      have hmn' : (if (100 : Int) < (T[i].size : Int) then (100 : Int) else (T[i].size : Int)) = ((min T[i].size 100 : Nat) : Int) := hmn
      have hsz := hST T[i] (List.getElem_mem hlt)
      have hsz' : T[i].size ≤ 9223372036854775807 := by simp only [maxLen] at hsz; omega
      have hsucc : Hid (ss ((cutT (i + 1) T)) = (ss (cutT i T)).set i (.string (trunc T[i]))) := by
        show _ = _
        rw [← cutT_succ i T hlt]
        simp [ss]
      have htk : Hid (T.take (i + 1) = T.take i ++ [T[i]]) := List.take_succ_eq_append_getElem hlt
      clear hmn hsz
      generalize T[i] = x at *
      have hli : (i : Int) < T.length := by omega
      go_region
      have hownA := hown.fr hfA (fun k _ h => by simp [AtO, Value.ownBlock] at h)
      have hne : u5.ownBlock ≠ some g := hownA.ne_ hg (by decide)
      have hownB : Own (wA.setCell ⟨g, i, none⟩ (.string (trunc x))) 5 1 u5 _ _ := hownA.setCell hne _
      have hbA : Below w.heap.size w (wA.setCell ⟨g, i, none⟩ (.string (trunc x))) := (below_fr hbw hfA hsw (fun k h => by simp [AtO, Value.ownBlock] at h)).setCell (by exact hgn) _
      have hbl : (encNums L ++ encTs ((T.take i).map trunc)).length ≤ 140737488000000 := by
        have h1 := encs_length_le L
        have h2 := enc_length_le (zig L.length)
        have h3 : (encTs ((T.take i).map trunc)).length ≤ 110 * (T.take i).length := by
          generalize T.take i = U
          induction U with
          | nil => simp [encTs]
          | cons y U ih =>
            have e : encTs ((y :: U).map trunc) = encT (trunc y) ++ encTs (U.map trunc) := by simp [encTs]
            have h4 := enc_length_le (zig (trunc y).size)
            have h5 := trunc_size y
            have h6 : (trunc y).data.toList.length = (trunc y).size := by simp
            rw [e, List.length_append, encT, List.length_append, h6, List.length_cons]
            omega
        have h4 : (T.take i).length ≤ T.length := List.length_take_le' _ _
        simp only [encNums, List.length_append] at h1 h2 h3 h4 ⊢
        omega
      have HBL := Lib.hid hbl
      have hts := trunc_size x
      clear hown hownA hoA hfz hfA hrd hnA hbl
      go_wp2_with fail
      refine (text_any (trunc x) _ (by omega)).mono ?_
      rintro e wB ⟨vB, rfl, hoB, hfB, hnB⟩
      have hbB : Below w.heap.size w wB := hbA.trans ((Fr.below_at (w := wA.setCell ⟨g, i, none⟩ (.string (trunc x))) ⟨hfB.os, hfB.tape, hfB.output, hfB.size, hfB.block⟩ hbA.size (fun k _ h => by simp [AtO] at h)))
      have hownC : Own wB 5 1 u5 _ _ := hownB.keep fun k hk => hfB.block k (hownB.lt k hk) (fun h => by simp [AtO] at h)
      have hstC : Own wB 9 1 (.slice (some ⟨g, 0, none⟩) T.length c') T.length _ := hst.keep fun k hk => hfB.block k (hst.lt k hk) (fun h => by simp [AtO] at h)
      have hsB := hbB.size
      clear hownB hst hfB hbA
      go_wp2_with (at_builtin; refine wpList_app _ rfl (.tmp 49) (.tmp 54) 25 25 rfl elB hownC rfl (srcOf hoB) rfl ?h1 ?h2 ?_; (case h1 => (simp only [maxLen]; have := HBL.out; have := enc_length_le (zig (trunc x).size); omega)); (case h2 => (have := HBL.out; have := enc_length_le (zig (trunc x).size); omega)); intro v9 w9 ho9 hf9 hn9)
      go_roundw
      case rel =>
        have hst9 : Own w9 9 1 (.slice (some ⟨g, 0, none⟩) T.length c') T.length _ := hstC.fr hf9 (fun k hk h => by
          simp only [Value.ownBlock, Option.some.injEq] at hk
          subst hk
          exact hne h)
        rw [← hsucc.out] at hst9
        have hbytes : bs (encNums L ++ encTs ((T.take i).map trunc)) ++ bs (enc (zig (trunc x).size) ++ (trunc x).data.toList) = bs (encNums L ++ encTs ((T.take (i + 1)).map trunc)) := by
          rw [← bs_append, htk.out]
          simp [encTs, encT]
        have hlen : (encNums L ++ encTs ((T.take i).map trunc)).length + ((enc (zig (trunc x).size)).length + (trunc x).size) = (encNums L ++ encTs ((T.take (i + 1)).map trunc)).length := by
          have := congrArg List.length hbytes
          simp only [List.length_append, bs_length] at this ⊢
          have h6 : (trunc x).data.toList.length = (trunc x).size := by simp
          omega
        rw [hbytes, hlen] at ho9
        refine ⟨i + 1, _, _, by omega, by go_num, rfl, hgm, hgc, RdT.of_own hst9, ho9, ?_, below_fr hbB hf9 hsB (fun k hk => HBK.out k hk)⟩
        intro k hk
        rcases hn9 with h | h
        · rw [h] at hk; exact HBK.out k hk
        · rw [h] at hk; injection hk with hk; omega
      case measure => simp [intOf]; omega
    · obtain rfl : i = T.length := by omega
      have hT' : cutT T.length T = T.map trunc := by simp [cutT]
      rw [hT'] at hrdT
      rw [List.take_length] at hown
      have hsz : ∀ s ∈ T.map trunc, s.size ≤ 100 := by
        intro s hs
        simp only [List.mem_map] at hs
        obtain ⟨y, _, rfl⟩ := hs
        exact trunc_size y
      obtain ⟨U, hU⟩ : ∃ U, U = T.map trunc := ⟨_, rfl⟩
      have hUl : U.length = T.length := by rw [hU]; simp
      rw [← hU] at hrdT hown hsz
      have hbl : (encNums L ++ encTs U).length ≤ 17592186044416 := by
        have h1 := encs_length_le L
        have h2 := enc_length_le (zig L.length)
        have h3 : (encTs U).length ≤ 110 * U.length := by
          clear hU hUl hrdT hown
          induction U with
          | nil => simp [encTs]
          | cons y U ih =>
            have h4 := enc_length_le (zig y.size)
            have h5 := hsz y (by simp)
            have h6 : y.data.toList.length = y.size := by simp
            have h7 := ih (fun s hs => hsz s (by simp [hs]))
            rw [encTs_cons, List.length_append, List.length_append, h6, List.length_cons]
            omega
        simp only [encNums, List.length_append] at h1 h2 h3 ⊢
        omega
      have HBL := Lib.hid hbl
      have HBK := Lib.hid hbk
      have hbkT : Hid (∀ k, u5.ownBlock = some k → w.heap.size ≤ k ∧ ∀ cur, ¬ Blk wr k 9 cur) := by
        intro k hk
        refine ⟨hbk k hk, fun cur hc => ?_⟩
        exact hown.ne_ hc (by decide) hk
      clear hbk hbl hU hT'
      go_wp2_with fail
      refine (newOf u5 _ _ hown (by have := HBL.out; omega)).mono ?_
      rintro e w4 ⟨p, q, rfl, hr4, hf4, hp, hq⟩
      have hb4 : Below w.heap.size w w4 := below_fr hbw hf4 hsw (fun i hi => False.elim hi)
      have hs4 := hb4.size
      have hrdT4 := hrdT.fr hf4 (fun k hk => False.elim hk)
      have hpp : ∀ i, At1 p i → w.heap.size ≤ i := fun i hi => by rw [At1] at hi; omega
      go_wp2_with fail
      have hrn := rnums_enc 60 L (encTs U) hIL (by omega) (by omega)
      have hcall := rnums_at p q 60 (encNums L ++ encTs U) 0 _ hr4 (by omega) HBL.out
      rw [hrn] at hcall
      refine hcall.mono ?_
      clear hcall hrn
      rintro e w5 ⟨v5, rfl, ho5, hr5, hf5, hn5⟩
      have hb5 : Below w.heap.size w w5 := below_fr hb4 hf5 hs4 hpp
      have hs5 := hb5.size
      have hpt : ∀ (W : World) (cur : Array Value), Rdr W p q (encTs U) 0 → ¬ Blk W p 9 cur := by
        intro W cur h hc
        obtain ⟨A', c', hb, _⟩ := h
        exact Blk.ne_ hb hc (by decide) rfl
      have hr5' : ∀ cur, ¬ Blk w4 p 9 cur := by
        intro cur hc
        obtain ⟨A', c', hb, _⟩ := hr4
        exact Blk.ne_ hb hc (by decide) rfl
      have hrdT5 := hrdT4.fr hf5 (fun k hk => ⟨hpp k hk, fun cur hc => by rw [At1] at hk; subst hk; exact hr5' cur hc⟩)
      obtain ⟨A5, c5, rfl, _, _⟩ := ho5.form
      have rdL5 : Rd w5 (Lt w.heap.size) 1 A0 L.length (is_ L) := rdL.below hb5 fun _ h => h
      have hsame := sameI_eq _ _ A0 A5 L.length c0 L.length c5 L w5 rfl rfl rdL5 ho5.rd (by omega)
      have HSAME := Lib.hid hsame
      clear hsame hr4 hf4 hrdT hrdT4 hf5 hr5' ho5 hn5 hbkT rdL5
      go_wp2_with (go_at_call 21; refine HSAME.out.mono ?_; rintro e w6 ⟨rfl, jd, rfl⟩)
      have hstart : PB2 w U T.length p q A (.int .i64 0) (w5.drewN jd) := by
        obtain ⟨F, hF1, hF2⟩ := hrdT5
        exact ⟨0, Nat.zero_le _, rfl, hr5, ⟨F, hF1, hF2⟩, below_drewN hb5 _⟩
      clear hr5 hrdT5
      go_loopw [10] (fun a wr => PB2 w U T.length p q A a wr) (fun a _ => T.length - (intOf a).toNat)
      case atStart => exact hstart
      case round =>
        clear hstart
        obtain ⟨j, hj, rfl, hrj, hrdj, hbj⟩ := hrel
        have hsj := hbj.size
        by_cases hlt2 : j < T.length
        · have hltU : j < U.length := by omega
          have hdr : U.drop j = U[j] :: U.drop (j + 1) := List.drop_eq_getElem_cons hltU
          have hx := hsz U[j] (List.getElem_mem hltU)
          have hlen : (encTs (U.drop j)).length ≤ 140737488355328 := by
            obtain ⟨A', c', _, _, h1, h2, _⟩ := hrj
            omega
          have hcall := rtext_at p q 100 (encTs (U.drop j)) 0 wr hrj (by omega)
          rw [hdr, encTs_cons, rtextT _ _ hx] at hcall
          have e1 : (⟨U[j].data.toList.toArray⟩ : ByteArray) = U[j] := by simp
          simp only [twoS, e1] at hcall
          obtain ⟨F, hF1, hF2⟩ := hrdj
          obtain ⟨ad, u, rfl, _, hxu, hc⟩ := hF1.at_ hlt2
          rw [ss_get U j hltU] at hxu
          injection hxu with hxu
          subst hxu
          have hpn : ad.block ≠ p := by
            rintro rfl
            rcases hF2 _ (by assumption) with h | ⟨cur, h⟩
            · omega
            · obtain ⟨A', c', hb, _⟩ := hrj
              exact Blk.ne_ hb h (by decide) rfl
          have hcs : ∀ W, Fr (At1 p) wr W → W.cell? (ad.add j) = some (.string U[j]) := fun W hW => hW.cell_some hc (by rw [block_of_add]; exact fun h => hpn h)
          have hkeep : ∀ W, Fr (At1 p) wr W → RdT w.heap.size 9 W (some ad) T.length (ss U) := fun W hW =>
            RdT.fr ⟨F, hF1, hF2⟩ hW (fun k hk => ⟨hpp k hk, fun cur hc' => by
              obtain ⟨A', c', hb, _⟩ := hrj
              rw [At1] at hk
              subst hk
              exact Blk.ne_ hb hc' (by decide) rfl⟩)
          have HC := Lib.hid hcall
          have HK := Lib.hid hkeep
          have HCS := Lib.hid hcs
          clear hcall hkeep hcs hdr hrj hF1 hF2 hc hpn e1 hlen
          generalize U[j] = x at *
          go_wp2_with (go_at_call 22; refine HC.out.mono ?_; rintro e w7 ⟨rfl, hr7, hf7⟩; have hc7 := HCS.out w7 hf7)
          go_roundw
          case rel => exact ⟨j + 1, by omega, by go_num, hr7, HK.out _ hf7, below_fr hbj hf7 hsj hpp⟩
          case measure => simp [intOf]; omega
        · obtain rfl : j = T.length := by omega
          have hdr : U.drop T.length = [] := by rw [← hUl]; simp
          rw [hdr] at hrj
          have e0 : encTs [] = [] := rfl
          rw [e0] at hrj
          have HL2 := Lib.hid (left_at p q [] 0)
          clear hdr
          go_wp2_with (first
            | (go_at_call 23; refine (doneAb p q _ hrj).mono ?_; rintro e w7 ⟨rfl, hr7, hf7⟩)
            | (go_at_call 24; refine (HL2.out _ hr7).mono ?_; rintro e w8 ⟨rfl, rfl⟩))
          go_ret
          exact ⟨rfl, below_fr hbj hf7 hsj hpp⟩
end Go.Proofs.Ytjfbpnhkdlbinaa
