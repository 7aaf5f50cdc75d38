/- Contracts of package order: Right. -/
import Derived.Test.YtnphncemghfkbaaOrd5
namespace Go.Proofs.Ytnphncemghfkbaa
open Go.RowKit Go.My Go.Maps
set_option linter.unusedSimpArgs false
set_option linter.unusedVariables false
attribute [local go_sem ↓] Go.wp_at_zero Go.wp_at_succ

def Od.val (o : Od) (v : Value) : Value := .agg (o.cs v).toArray
/-- the functions of a kind's fields are asked one after another -/
structure Asks (o : Od) (v : Value) (w : World) (c0 c1 c2 c3 c4 c5 c6 : FuncId) (b0 b1 b2 b3 b4 b5 b6 : Bool) : Prop where
  a0 : AnsB c0 #[.string o.acct] b0
  a1 : AnsB c1 #[.string o.peer, .string o.acct] b1
  a2 : AnsB c2 #[.int .i64 o.sum] b2
  a3 : ∀ W, Fr No w W → Calls Try.prog c3 #[v] W fun e w' => e = .returned (.bool b3) ∧ Fr No W w'
  a4 : AnsB c4 #[.int .i64 o.per] b4
  a5 : AnsB c5 #[.int .i64 o.hold] b5
  a6 : AnsB c6 #[.string o.note] b6
  e0 : ∀ args W, (callFunc c0 args).run Try.prog W = .ok (.enter c0 args) W
  e1 : ∀ args W, (callFunc c1 args).run Try.prog W = .ok (.enter c1 args) W
  e2 : ∀ args W, (callFunc c2 args).run Try.prog W = .ok (.enter c2 args) W
  e3 : ∀ args W, (callFunc c3 args).run Try.prog W = .ok (.enter c3 args) W
  e4 : ∀ args W, (callFunc c4 args).run Try.prog W = .ok (.enter c4 args) W
  e5 : ∀ args W, (callFunc c5 args).run Try.prog W = .ok (.enter c5 args) W
  e6 : ∀ args W, (callFunc c6 args).run Try.prog W = .ok (.enter c6 args) W
end Go.Proofs.Ytnphncemghfkbaa
