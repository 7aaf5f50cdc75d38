/- Open: the walk. -/
import Derived.Test.YtcjofakhefpfdaaKnQ
import Derived.Test.YtcjofakhefpfdaaKnO
namespace Go.Proofs.Ytcjofakhefpfdaa
open Go.RowKit Go.My Go.Maps
set_option linter.unusedSimpArgs false
set_option linter.unusedVariables false
attribute [local go_sem ↓] Go.wp_at_zero Go.wp_at_succ

set_option maxRecDepth 100000 in
set_option maxHeartbeats 2000000 in
theorem open_any2 (w : World) (F F2 : Nat → Prop) (A K : Option Addr) (c kc : Nat) (G : List (List Int)) (kl : List Bool) (hg : RdG w F A G) (hr : Rd w F2 1 K kl.length (kl.map Value.bool)) (hn : G.length ≤ 1000) (hm : ∀ L ∈ G, L.length ≤ 10000) (hkl : kl.length ≤ 9223372036854775807) :
    Calls Try.prog 17 #[.slice A G.length c, .slice K kl.length kc] w (RetX w (openX G kl)) := by
  have HPR : Hid (∀ W, Fr No w W → Calls Try.prog 20 #[.slice A G.length c] W (RetG W (propG G))) := fun W hW => proper_any W F A c G (hg.no hW) (by omega) fun L hL => Nat.le_trans (hm L hL) (by omega)
  have hml : ∀ L ∈ propG G, L.length ≤ 10000 := fun L hL => by
    obtain ⟨k, hk, rfl⟩ := List.getElem_of_mem hL
    rw [← gat_at hk]
    exact propG_row hm k
  have HUS : Hid (∀ (w0 W : World) (gs : Nat) (vs : List Value), IRows w0.heap.size W gs vs (propG G) → Calls Try.prog 24 #[.slice (some ⟨gs, 0, none⟩) G.length G.length] W (RetG W (usersG (propG G)))) := fun w0 W gs vs hI => by
    have := users_any W _ (some ⟨gs, 0, none⟩) G.length (propG G) hI.rdG (by rw [propG_len]; exact hn) hml (fun L hL x hx => by
      obtain ⟨k, hk, rfl⟩ := List.getElem_of_mem hL
      rw [← gat_at hk] at hx
      exact propG_pl G k x hx)
    rw [propG_len] at this
    exact this
  have HSP : Hid (∀ (w0 W : World) (gs : Nat) (vs : List Value) (F3 : Nat → Prop) (B : Option Addr) (c3 : Nat), IRows w0.heap.size W gs vs (usersG (propG G)) → Rd W F3 1 B (pick (unk kl) G.length).length (is_ (pick (unk kl) G.length)) → Calls Try.prog 26 #[.slice (some ⟨gs, 0, none⟩) G.length G.length, .slice B (pick (unk kl) G.length).length c3] W (RetX W (Led (usersG (propG G)) (pick (unk kl) G.length)))) := fun w0 W gs vs F3 B c3 hI hR => by
    have hlen : (usersG (propG G)).length = G.length := by rw [usersG_len, propG_len]
    have := spread_any W _ F3 (some ⟨gs, 0, none⟩) B G.length c3 (usersG (propG G)) (pick (unk kl) G.length) hI.rdG hR (by omega) (fun k => Nat.le_trans (usersG_row (fun k => propG_row hm k) k) (by
      rw [propG_len]
      have : (G.length + 1) * 10000 ≤ 1001 * 10000 := Nat.mul_le_mul_right _ (by omega)
      omega)) (usersG_pl _) (fun x hx => by
      obtain ⟨a, ha, _, rfl⟩ := (pick_mem _ _ _).1 hx
      omega) (by have := pick_len (unk kl) G.length; omega)
    rw [hlen] at this
    exact this
  have HK : Hid (∀ W, Fr No w W → Rd W F2 1 K kl.length (kl.map Value.bool)) := fun W hW => hr.fr (by omega) hW fun _ _ _ h => h
  have hmk := fun W => run_make1 (P := Try.prog) elBo zeroBo rfl .i64 .i64 G.length (by omega) (by simp only [maxLen]; omega) W
  have HZ := Lib.hid (OpM.zero w (n := G.length) (by omega))
  clear hg hm hml hr
  go_enter Try.func17, Try.ntmps17
  go_wp2
  go_loopw [5, 17] (fun uv iv wr => O1 w kl G.length uv iv wr) (fun _ iv _ => G.length - (intOf iv).toNat)
  case atStart => exact ⟨0, none, 0, Nat.zero_le _, HZ.out, rfl, rfl⟩
  case round =>
    obtain ⟨i, Au, cu, hi, hM, rfl, rfl⟩ := hrel
    have hpl := pick_len (unk kl) i
    by_cases hlt : i < G.length
    · have hy := fun h => pick_yes (q := unk kl) (i := i) h
      have hnn := fun h => pick_no (q := unk kl) (i := i) h
      have push : ∀ (hu : unk kl i = true), True := fun _ => trivial
      obtain ⟨_, hsf⟩ := hM.seen hlt
      by_cases hik : i < kl.length
      · obtain ⟨adk, u, rfl, _, hu0, hkc⟩ := (HK.out wr hM.f).at_ hik
        rw [List.getElem?_map, List.getElem?_eq_getElem hik] at hu0
        injection hu0 with hu0
        subst hu0
        have hui := unk_in hik
        generalize kl[i] = q at *
        cases q with
        | false =>
          have hu : unk kl i = true := hui
          clear hui
          have HY := Lib.hid (hy hu)
          have HMM := Lib.hid hM
          clear hy hnn push hM hu
          have hcellx : ∃ y, wr.cell? ⟨w.heap.size, i, none⟩ = some y := ⟨_, (HMM.out.seen hlt).1⟩
          generalize hPK : pick (unk kl) i = U at *
          go_wp2_with (at_builtin; refine wpList_app _ rfl (.tmp 31) (.tmp 33) 26 26 rfl elI (HMM.out.so.alloc (.cells #[.int .i64 (i : Int)] 3)) rfl (Src.of_new (cs := #[.int .i64 (i : Int)]) (t := 3) wr.heap.size (heap_alloc_new wr _) Try.underlying26 rfl (by simp [Value.oneCell'])) rfl (by simp only [maxLen]; omega) (by omega) ?_; intro v3 w3 ho3 hf3 hn3; obtain ⟨A3, c3, rfl, -, -⟩ := ho3.form; have HM2 := Lib.hid (OpM.app HMM.out ho3 hf3 hn3); clear ho3 hf3 hn3; obtain ⟨k1, k2⟩ := HM2.out.seen hlt)
          have HM3 := Lib.hid (OpM.mark HM2.out hlt)
          go_roundw
          case rel => exact ⟨i + 1, A3, c3, by omega, by rw [HY.out]; exact HM3.out, by rw [HY.out, List.length_append]; rfl, by go_num⟩
          case measure => simp [intOf]; omega
        | true =>
          have hu : unk kl i = false := hui
          have HY := Lib.hid (hnn hu)
          have HMM := Lib.hid hM
          clear hy hnn push hM hu hui
          generalize hPK : pick (unk kl) i = U at *
          go_wp2
          go_roundw
          case rel => exact ⟨i + 1, Au, cu, by omega, by rw [HY.out]; exact HMM.out, by rw [HY.out], by go_num⟩
          case measure => simp [intOf]; omega
      · have hu := unk_out hik
        have HY := Lib.hid (hy hu)
        have HMM := Lib.hid hM
        clear hy hnn push hM hu
        have hcellx : ∃ y, wr.cell? ⟨w.heap.size, i, none⟩ = some y := ⟨_, (HMM.out.seen hlt).1⟩
        generalize hPK : pick (unk kl) i = U at *
        go_wp2_with (at_builtin; refine wpList_app _ rfl (.tmp 31) (.tmp 33) 26 26 rfl elI (HMM.out.so.alloc (.cells #[.int .i64 (i : Int)] 3)) rfl (Src.of_new (cs := #[.int .i64 (i : Int)]) (t := 3) wr.heap.size (heap_alloc_new wr _) Try.underlying26 rfl (by simp [Value.oneCell'])) rfl (by simp only [maxLen]; omega) (by omega) ?_; intro v3 w3 ho3 hf3 hn3; obtain ⟨A3, c3, rfl, -, -⟩ := ho3.form; have HM2 := Lib.hid (OpM.app HMM.out ho3 hf3 hn3); clear ho3 hf3 hn3; obtain ⟨k1, k2⟩ := HM2.out.seen hlt)
        have HM3 := Lib.hid (OpM.mark HM2.out hlt)
        go_roundw
        case rel => exact ⟨i + 1, A3, c3, by omega, by rw [HY.out]; exact HM3.out, by rw [HY.out, List.length_append]; rfl, by go_num⟩
        case measure => simp [intOf]; omega
    · obtain rfl : i = G.length := by omega
      have hul := pick_len (unk kl) G.length
      have hmem := fun x => pick_mem (unk kl) G.length x
      have HMEM := Lib.hid hmem
      have HMM := Lib.hid hM
      clear hM hmem hmk HZ
      have hpr := HPR.out wr HMM.out.f
      have HP1 := Lib.hid hpr
      clear hpr
      generalize hPK : pick (unk kl) G.length = U at *
      go_wp2_with (first
        | (go_at_call 20; refine HP1.out.mono ?_; rintro _ w1 ⟨g1, vs1, rfl, hI1, hf1⟩; rw [propG_len])
        | (go_at_call 24; refine (HUS.out _ _ _ _ hI1).mono ?_; rintro _ w2 ⟨g2, vs2, rfl, hI2, hf2⟩; rw [usersG_len, propG_len])
        | (go_at_call 26; refine (HSP.out _ _ _ _ _ _ _ hI2 ((HMM.out.over (hf1.trans hf2)).so.rd)).mono ?_; rintro _ w3 ⟨L, k1, k2, v3, rfl, ho3, hf3, hn3⟩; obtain ⟨A3, c3, rfl, -, -⟩ := ho3.form; have HM3 := Lib.hid (HMM.out.over ((hf1.trans hf2).trans (hf3.mono fun _ _ h => nomatch h))); have HL := Lib.hid ho3; have HK2 := Lib.hid k2; have hLl := nodup_le (k1.imp fun h => by omega) (fun x hx => ((k2 x).1 hx).inR (usersG_pl (propG G))); clear ho3 hf3 hn3 k1 k2 hI1 hI2 hf1 hf2))
      rw [usersG_len, propG_len] at hLl
      generalize w3 = wo at *
      go_loopw [45] (fun jv wr => O2 w wo U L G.length Au cu jv wr) (fun jv _ => L.length - (intOf jv).toNat)
      case atStart => exact ⟨0, Nat.zero_le _, by rw [List.take_zero, List.append_nil]; exact HM3.out, rfl, Fr.refl _ _⟩
      case round =>
        clear HMM hul HP1
        obtain ⟨j, hj, hM, rfl, hfw⟩ := hrel
        by_cases hlj : j < L.length
        · obtain ⟨cur, hcur⟩ := HM3.out.bb.blk w.heap.size rfl
          have hrd := (HL.out.fr hfw fun i hi hS => (HL.out.ne_ hcur (by decide)) (by rw [hi, show i = w.heap.size from hS])).rd
          obtain ⟨ad2, u, rfl, _, hu, hx⟩ := hrd.at_ hlj
          rw [is_at _ j hlj] at hu
          injection hu with hu
          subst hu
          obtain ⟨h0, h1⟩ := ((HK2.out _).1 (List.getElem_mem hlj)).inR (usersG_pl (propG G))
          rw [usersG_len, propG_len] at h1
          obtain ⟨kx, hkx⟩ : ∃ kx : Nat, L[j] = (kx : Int) := ⟨L[j].toNat, by omega⟩
          have hkn : kx < G.length := by omega
          have hnx : U ++ L.take (j + 1) = U ++ L.take j ++ [(kx : Int)] := by rw [List.take_succ_eq_append_getElem hlj, hkx, List.append_assoc]
          obtain ⟨hsc, hsf⟩ := hM.seen hkn
          rw [hkx] at hx
          have HN2 := Lib.hid (hM.mark hkn)
          have HF2 : Hid (Fr (At1 w.heap.size) wo (wr.setCell ⟨w.heap.size, kx, none⟩ (.bool true))) := hfw.trans (fr_set _ _ _ _)
          rw [← hnx] at HN2
          clear hM hfw hrd h0 h1 hkx hnx cur hcur
          go_wp2
          go_roundw
          case rel => exact ⟨j + 1, by omega, HN2.out, by go_num, HF2.out⟩
          case measure => simp [intOf]; omega
        · obtain rfl : j = L.length := by omega
          rw [List.take_length] at hM
          have HM4 := Lib.hid hM.nil
          clear hM
          go_wp2
          generalize hMK : U ++ L = M at *
          generalize wr = wp at *
          go_loopw [10, 55] (fun lv iv wr => O3 w M G.length lv iv wr) (fun _ iv _ => G.length - (intOf iv).toNat)
          case atStart => exact ⟨0, none, 0, Nat.zero_le _, HM4.out, rfl, rfl⟩
          case round =>
            obtain ⟨i, Al, cl, hi2, hM, rfl, rfl⟩ := hrel
            have hpl3 := pick_len (fun a => !M.contains (a : Int)) i
            by_cases hli : i < G.length
            · have hy := fun h => pick_yes (q := fun a => !M.contains (a : Int)) (i := i) h
              have hnn := fun h => pick_no (q := fun a => !M.contains (a : Int)) (i := i) h
              obtain ⟨hsc, hsf⟩ := hM.seen hli
              have HMM := Lib.hid hM
              clear hM
              generalize hPQ : pick (fun a => !M.contains (a : Int)) i = V at *
              generalize hPR : pick (fun a => !M.contains (a : Int)) (i + 1) = V2 at *
              by_cases hin : M.contains (i : Int) = true
              · rw [hin] at hsc
                have HV : Hid (V2 = V) := hnn (by rw [hin]; rfl)
                clear hy hnn hin
                go_wp2
                go_roundw
                case rel => exact ⟨i + 1, Al, cl, by omega, by rw [hPR, HV.out]; exact HMM.out, by rw [hPR, HV.out], by go_num⟩
                case measure => simp [intOf]; omega
              · have hin2 : M.contains (i : Int) = false := by simpa using hin
                rw [hin2] at hsc
                have HV : Hid (V2 = V ++ [(i : Int)]) := hy (by rw [hin2]; rfl)
                clear hy hnn hin hin2
                go_wp2_with (at_builtin; refine wpList_app _ rfl (.tmp 63) (.tmp 65) 26 26 rfl elI (HMM.out.so.alloc (.cells #[.int .i64 (i : Int)] 3)) rfl (Src.of_new (cs := #[.int .i64 (i : Int)]) (t := 3) wr.heap.size (heap_alloc_new wr _) Try.underlying26 rfl (by simp [Value.oneCell'])) rfl (by simp only [maxLen]; omega) (by omega) ?_; intro v4 w4 ho4 hf4 hn4; obtain ⟨A4, c4, rfl, -, -⟩ := ho4.form; have HM6 := Lib.hid (OpM.app HMM.out ho4 hf4 hn4); clear ho4 hf4 hn4)
                go_roundw
                case rel => exact ⟨i + 1, A4, c4, by omega, by rw [hPR, HV.out]; exact HM6.out, by rw [hPR, HV.out, List.length_append]; rfl, by go_num⟩
                case measure => simp [intOf]; omega
            · obtain rfl : i = G.length := by omega
              have HM5 := Lib.hid hM
              clear hM
              go_wp2
              go_ret
              refine ⟨_, pick_up _ _, fun x => ?_, _, rfl, HM5.out.so, HM5.out.f.mono fun _ _ h => h.elim, ?_⟩
              · rw [pick_mem]
                unfold openX
                rw [hPK]
                refine exists_congr fun a => and_congr_right fun ha => ?_
                rw [← hMK]
                constructor
                · rintro ⟨h1, rfl⟩
                  have h2 : (a : Int) ∉ U ++ L := by simpa using h1
                  refine ⟨rfl, ?_, fun h => h2 (List.mem_append.2 (.inr ((HK2.out _).2 h)))⟩
                  cases hq : unk kl a with
                  | false => rfl
                  | true => exact absurd (List.mem_append.2 (.inl ((HMEM.out _).2 ⟨a, ha, hq, rfl⟩))) h2
                · rintro ⟨rfl, h1, h2⟩
                  refine ⟨?_, rfl⟩
                  have h3 : (a : Int) ∉ U ++ L := fun h => by
                    rcases List.mem_append.1 h with h | h
                    · obtain ⟨b, _, hb, e⟩ := (HMEM.out _).1 h
                      have : a = b := by omega
                      subst this
                      rw [h1] at hb
                      cases hb
                    · exact h2 ((HK2.out _).1 h)
                  simpa using h3
              · cases Al with
                | none => exact .inl rfl
                | some ad => exact .inr ⟨ad.block, rfl, HM5.out.sn _ rfl⟩
end Go.Proofs.Ytcjofakhefpfdaa
