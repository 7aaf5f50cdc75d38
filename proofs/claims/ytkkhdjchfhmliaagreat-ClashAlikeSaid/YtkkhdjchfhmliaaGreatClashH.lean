/- What the laws on clashes call first: in lists. -/
import Derived.Test.YtkkhdjchfhmliaaGreatClashG
namespace Go.Proofs.YtkkhdjchfhmliaaGreat
open Go.RowKit Go.My Go.Maps Go.WideMaps
set_option linter.unusedSimpArgs false
set_option linter.unusedVariables false
attribute [local go_sem ↓] Go.wp_at_zero Go.wp_at_succ

def ask10 (seq : Int) (acct : ByteArray) : Od := ⟨0, seq, 7, acct, ⟨#[]⟩, 0, [], 0, 0, ⟨#[]⟩⟩
def liveX : List Od := [ask10 1 ⟨#[97]⟩, ask10 2 ⟨#[98]⟩, ask10 3 ⟨#[98]⟩]
def liveY : List Od := [ask10 2 ⟨#[98]⟩, ask10 1 ⟨#[97]⟩, ask10 3 ⟨#[98]⟩]
theorem touch_ask (s : Int) (b : UInt8) : touchL (ask10 s ⟨#[b]⟩) = [[b]] := by
  unfold touchL
  refine (upOf_eq (t := [[b]]) (by unfold Up; simp) fun x => ?_).symm
  rfl
theorem clash_ask (s t : Int) (b c : UInt8) : clashB (ask10 s ⟨#[b]⟩) (ask10 t ⟨#[c]⟩) = (decide (s = t) || decide (b = c)) := by
  unfold clashB
  rw [touch_ask, touch_ask]
  unfold meetL Od.id ask10
  simp
theorem live_rt : Rt Od.id liveX := by
  unfold Rt liveX Od.id ask10
  decide
theorem live_1 : swapI liveX 0 = some liveY := by
  unfold swapI
  rw [if_pos (by decide)]
  show swapO liveX 0 = _
  rw [swapO_at (by decide)]
  have h : clashB liveX[0] liveX[0 + 1] = false := by
    show clashB (ask10 1 ⟨#[97]⟩) (ask10 2 ⟨#[98]⟩) = false
    rw [clash_ask]
    rfl
  rw [h]
  rfl
theorem live_2 : swapI liveX 1 = none := by
  unfold swapI
  rw [if_pos (by decide)]
  show swapO liveX 1 = _
  rw [swapO_at (by decide)]
  have h : clashB liveX[1] liveX[1 + 1] = true := by
    show clashB (ask10 2 ⟨#[98]⟩) (ask10 3 ⟨#[98]⟩) = true
    rw [clash_ask]
    rfl
  rw [if_pos h]
theorem live_ak : Ak Od.id clashB liveX liveY := by
  have h := live_1
  unfold swapI at h
  rw [if_pos (by decide)] at h
  exact swap_ak live_rt h
theorem live_3 : alikeB liveX liveY = true := (alikeB_iff _ _).2 live_ak
theorem live_4 : beginsB (liveX.take 1) liveY = true := (beginsB_iff _ _).2 ((Bg.take live_rt 1).trans live_ak.2)
theorem live_5 : clashB (ask10 2 ⟨#[98]⟩) (ask10 3 ⟨#[98]⟩) = true := by rw [clash_ask]; rfl
theorem live_6 : beginsB (liveX.drop 2) liveY = false := by
  cases h : beginsB (liveX.drop 2) liveY with
  | false => rfl
  | true =>
    have h := (beginsB_iff _ _).1 h
    have hb : bef (ask10 2 ⟨#[98]⟩) (ask10 3 ⟨#[98]⟩) liveY := .inl ⟨rfl, List.mem_cons_of_mem _ List.mem_cons_self⟩
    have := h.2.2.2 _ _ hb live_5 List.mem_cons_self
    rcases this with ⟨_, h1⟩ | h1
    · cases h1
    · cases h1
theorem ask10_any (seq : Int) (acct : ByteArray) (w : World) : Calls Tryz.prog 15 #[.int .i64 seq, .string acct] w fun e w' => e = .returned (.agg #[.int .i64 0, .int .i64 seq, .int .i64 7, .string acct, .string ⟨#[]⟩, .int .i64 0, .slice none 0 0, .int .i64 0, .int .i64 0, .string ⟨#[]⟩]) ∧ Fr No w w' := by
  have hb := Blk.new w 39 #[.int .i64 0, .int .i64 seq, .int .i64 7, .string acct, .string ⟨#[]⟩, .int .i64 0, .slice none 0 0, .int .i64 0, .int .i64 0, .string ⟨#[]⟩]
  have d0 := hb.cell 0
  have d1 := hb.cell 1
  have d2 := hb.cell 2
  have d3 := hb.cell 3
  have d4 := hb.cell 4
  have d5 := hb.cell 5
  have d6 := hb.cell 6
  have d7 := hb.cell 7
  have d8 := hb.cell 8
  have d9 := hb.cell 9
  simp only [List.getElem?_toArray, List.getElem?_cons_zero, List.getElem?_cons_succ] at d0 d1 d2 d3 d4 d5 d6 d7 d8 d9
  clear hb
  go_enter Tryz.func15, Tryz.ntmps15
  go_wp2
  refine bodyPost_ret (v := .agg #[.int .i64 0, .int .i64 seq, .int .i64 7, .string acct, .string ⟨#[]⟩, .int .i64 0, .slice none 0 0, .int .i64 0, .int .i64 0, .string ⟨#[]⟩]) (by simp [results, Tryz.results15, go_sem, d0, d1, d2, d3, d4, d5, d6, d7, d8, d9]) rfl ?_
  exact ⟨rfl, (Fr.refl _ _).alloc _⟩
def askC (seq : Int) (acct : ByteArray) : List Value := (ask10 seq acct).cs (.slice none 0 0)
def liveC10 : List Value := askC 1 ⟨#[97]⟩ ++ askC 2 ⟨#[98]⟩ ++ askC 3 ⟨#[98]⟩
theorem liveE10 (w0 : World) : Each (OdR w0) 10 liveC10 liveX := by
  have ho : ∀ s b, In64 s → OdR w0 (askC s ⟨#[b]⟩) (ask10 s ⟨#[b]⟩) := fun s b h1 => ⟨.slice none 0 0, rfl, by
    unfold ask10 Od.ok In64 at *
    refine ⟨by simp, h1, by simp, ?_, ?_, by simp, by simp, by simp, ?_⟩
    · show (⟨#[b]⟩ : ByteArray).size ≤ maxLen; unfold maxLen; show 1 ≤ _; omega
    · show (⟨#[]⟩ : ByteArray).size ≤ maxLen; decide
    · show (⟨#[]⟩ : ByteArray).size ≤ maxLen; decide, fun g hg => absurd hg (by simp [ask10]), LgS_nil _ _⟩
  have h1 := Each.snocO (Each.nilO w0) (cs := askC 1 ⟨#[97]⟩) rfl (ho 1 97 (by unfold In64; omega))
  have h2 := Each.snocO h1 (cs := askC 2 ⟨#[98]⟩) rfl (ho 2 98 (by unfold In64; omega))
  exact Each.snocO h2 (cs := askC 3 ⟨#[98]⟩) rfl (ho 3 98 (by unfold In64; omega))
theorem ods_blk {w0 w : World} {g : Nat} {t : TypeId} {cs : List Value} {l : List Od} (h : Blk w g t cs.toArray) (hE : Each (OdR w0) 10 cs l) : OdsS w0 w (fun k => k = g) (some ⟨g, 0, none⟩) l := by
  refine ⟨cs, ⟨hE.1, fun _ => ⟨_, rfl, rfl, fun j u hu => ?_⟩⟩, hE⟩
  rw [add_zero, h.cell j]
  simpa using hu
/-- the beginning of a list -/
theorem OdsS.takeO {w0 w : World} {F : Nat → Prop} {A : Option Addr} {l : List Od} (h : OdsS w0 w F A l) (k : Nat) (hk : k ≤ l.length) : OdsS w0 w F A (l.take k) := by
  obtain ⟨cells, hr, hE⟩ := h
  have hlk : (l.take k).length = k := by rw [List.length_take]; omega
  refine ⟨cells.take (k * 10), by rw [hlk]; exact hr.take hk, by rw [List.length_take, hE.1, hlk]; omega, fun i x hx => ?_⟩
  have hi : i < k := by have := (List.getElem?_eq_some_iff.1 hx).1; omega
  have hx' : l[i]? = some x := by rw [List.getElem?_take, if_pos hi] at hx; exact hx
  have h1 := hE.2 i x hx'
  rw [List.drop_take, List.take_take, Nat.min_eq_left (by omega)]
  exact h1
/-- the end of a list -/
theorem OdsS.dropO {w0 w : World} {F : Nat → Prop} {A : Option Addr} {c : Nat} {l : List Od} (h : OdsS w0 w F A l) (k : Nat) (hk : k ≤ l.length) (hc : l.length ≤ c) : OdsS w0 w F (if c = k then A else A.map (·.add (k * 10))) (l.drop k) := by
  obtain ⟨cells, hr, hE⟩ := h
  refine ⟨cells.drop (k * 10), by rw [List.length_drop]; exact hr.cut hk hc, by rw [List.length_drop, hE.1, List.length_drop, Nat.sub_mul], fun i x hx => ?_⟩
  rw [List.getElem?_drop] at hx
  have h1 := hE.2 _ x hx
  rw [List.drop_drop, show k * 10 + i * 10 = (k + i) * 10 by omega]
  exact h1
end Go.Proofs.YtkkhdjchfhmliaaGreat
