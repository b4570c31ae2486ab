import PyProof.Rows.All
import Wide.All
import OpenK.AllK
import Wide.FinOn
import HandS.Base
import HandS.Call
import HandS.List
import HandS.Comp
import HandS.Ends
import HandS.Dict
import HandS.Iter
import HandS.Words
import HandS.WordsList
import HandS.Star
import HandS.Defaults
import HandS.SortRule
import HandS.Wide
import KE.GoesEnum
import HandS.Walk
import HandS.RaiseMore
import HandS.ForMost
import HandS.SortInts
import HandS.Evl
import HandS.TupAny
import HandS.TupLe
import HandS.IsInst
import HandS.Deep
import HandS.Zip
import HandS.Text
import HandS.Codes
import HandS.TupMul
import HandS.Style
import KE.KRevSl
import HandS.Conv
import PySem.Challenge.RW_whateverothers_k03_what_boards_are
set_option Elab.async false
set_option linter.all false
set_option maxRecDepth 100000
set_option maxHeartbeats 2000000
namespace Kt
open PySem PySem.Spec PyProof.Rows L2

/-! ### what stays: all but the places of S -/
def Ob (S : List Addr) (H : Hp) : Hp := fun b => if b ∈ S then none else H b
theorem Ob.of {S : List Addr} {H : Hp} {b : Addr} {o : HO} (h : Ob S H b = some o) : b ∉ S ∧ H b = some o := by
  unfold Ob at h
  split at h
  · cases h
  · exact ⟨by assumption, h⟩
theorem Ob.mk {S : List Addr} {H : Hp} {b : Addr} {o : HO} (hn : b ∉ S) (h : H b = some o) : Ob S H b = some o := by
  unfold Ob
  rw [if_neg hn]
  exact h
theorem Ob.le (S : List Addr) (H : Hp) : Same (Ob S H) H := fun _ _ h => (Ob.of h).2
/-- all that stands outside of S is as it was -/
def Kp (S : List Addr) (H H' : Hp) : Prop := ∀ b o, b ∉ S → H b = some o → H' b = some o
theorem Kp.refl {S : List Addr} {H : Hp} : Kp S H H := fun _ _ _ h => h
theorem Kp.trans {S : List Addr} {H H1 H2 : Hp} (a : Kp S H H1) (b : Kp S H1 H2) : Kp S H H2 := fun x o n h => b x o n (a x o n h)
theorem Kp.new {S : List Addr} {H : Hp} {p : Addr} {o : HO} (hp : H p = none) : Kp S H (upd H p o) := fun b u _ h => by
  rw [upd_ne (ne_of_none h hp)]
  exact h
theorem Kp.put {S : List Addr} {H : Hp} {p : Addr} {o : HO} (hp : p ∈ S) : Kp S H (upd H p o) := fun b u n h => by
  rw [upd_ne (fun e => n (by rw [e]; exact hp))]
  exact h
theorem Kp.mono {S S' : List Addr} {H H' : Hp} (h : Kp S H H') (s : ∀ b ∈ S, b ∈ S') : Kp S' H H' := fun b o n e => h b o (fun z => n (s b z)) e
theorem Kp.drop {S : List Addr} {H H' : Hp} {l : Addr} (h : Kp (l :: S) H H') (hl : H l = none) : Kp S H H' := fun b o n e => h b o (fun z => by
  rcases List.mem_cons.mp z with z | z
  · rw [z, hl] at e
    cases e
  · exact n z) e
theorem Kp.same {S : List Addr} {H H' : Hp} (h : Kp S H H') : Same (Ob S H) (Ob S H') := fun b o e => Ob.mk (Ob.of e).1 (h b o (Ob.of e).1 (Ob.of e).2)
theorem Kp.of_same {S : List Addr} {H H' : Hp} (h : Same H H') : Kp S H H' := fun b o _ e => h b o e
theorem Kp.get {S : List Addr} {H H' : Hp} (h : Kp S H H') {b : Addr} {o : HO} (n : b ∉ S) (e : H b = some o) : H' b = some o := h b o n e

theorem sameT {K : PySem.W.Frag} {H H' : Hp} {a : Addr} {xs : List V} (e : Same H H') (h : SqT K H a xs) : SqT K H' a xs := by
  rcases h with (h | ⟨o, h⟩) | h
  · exact .inl (.inl (e _ _ h))
  · exact .inl (.inr ⟨o, e _ _ h⟩)
  · exact .inr h
mutual
theorem Dp.same {K : PySem.W.Frag} {H H' : Hp} (e : Same H H') : ∀ (d : PyData) {v : V}, Dp K H v d → Dp K H' v d
  | .none, _, h => by cases h; exact .non
  | .bool b, _, h => by cases h; exact .bl b
  | .int i, _, h => by cases h; exact .int i
  | .str x, _, h => by cases h; exact .str x
  | .list ds, _, h => by
    cases h with
    | lst hs ha => exact .lst (e.seq hs) (DpAll.same e ds ha)
  | .tuple ds, _, h => by
    cases h with
    | tup hs ha => exact .tup (sameT e hs) (DpAll.same e ds ha)
  | .dict _, _, h => by cases h
theorem DpAll.same {K : PySem.W.Frag} {H H' : Hp} (e : Same H H') : ∀ (ds : List PyData) {vs : List V}, DpAll K H vs ds → DpAll K H' vs ds
  | [], _, h => by cases h; exact .nil
  | d :: ds, _, h => by
    cases h with
    | cons h1 h2 => exact .cons (Dp.same e d h1) (DpAll.same e ds h2)
end
/-- data: read outside of S -/
def Da (K : PySem.W.Frag) (S : List Addr) (H : Hp) (v : V) (d : PyData) : Prop := Dp K (Ob S H) v d
def DaAll (K : PySem.W.Frag) (S : List Addr) (H : Hp) (vs : List V) (ds : List PyData) : Prop := DpAll K (Ob S H) vs ds
theorem Da.keep {K : PySem.W.Frag} {S : List Addr} {H H' : Hp} {v : V} {d : PyData} (h : Da K S H v d) (k : Kp S H H') : Da K S H' v d := Dp.same k.same d h
theorem DaAll.keep {K : PySem.W.Frag} {S : List Addr} {H H' : Hp} {vs : List V} {ds : List PyData} (h : DaAll K S H vs ds) (k : Kp S H H') : DaAll K S H' vs ds := DpAll.same k.same ds h
theorem Da.dp {K : PySem.W.Frag} {S : List Addr} {H : Hp} {v : V} {d : PyData} (h : Da K S H v d) : Dp K H v d := Dp.same (Ob.le S H) d h
theorem ob_sub {S S' : List Addr} {H : Hp} (h : ∀ b, b ∈ S → b ∈ S' ) : Same (Ob S' H) (Ob S H) := fun b o e => Ob.mk (fun z => (Ob.of e).1 (h b z)) (Ob.of e).2
theorem Da.less {K : PySem.W.Frag} {S S' : List Addr} {H : Hp} {v : V} {d : PyData} (h : Da K S' H v d) (s : ∀ b, b ∈ S → b ∈ S') : Da K S H v d := Dp.same (ob_sub s) d h
theorem DaAll.less {K : PySem.W.Frag} {S S' : List Addr} {H : Hp} {v : List V} {d : List PyData} (h : DaAll K S' H v d) (s : ∀ b, b ∈ S → b ∈ S') : DaAll K S H v d := DpAll.same (ob_sub s) d h
/-- an address that nothing stands at may be left out, too -/
theorem ob_free {S : List Addr} {H : Hp} {l : Addr} (hl : H l = none) : Same (Ob S H) (Ob (l :: S) H) := fun b o e => Ob.mk (fun z => by
  rcases List.mem_cons.mp z with z | z
  · have q := (Ob.of e).2
    rw [z, hl] at q
    cases q
  · exact (Ob.of e).1 z) (Ob.of e).2
theorem Da.free {K : PySem.W.Frag} {S : List Addr} {H : Hp} {l : Addr} {v : V} {d : PyData} (h : Da K S H v d) (hl : H l = none) : Da K (l :: S) H v d := Dp.same (ob_free hl) d h
theorem DaAll.free {K : PySem.W.Frag} {S : List Addr} {H : Hp} {l : Addr} {v : List V} {d : List PyData} (h : DaAll K S H v d) (hl : H l = none) : DaAll K (l :: S) H v d := DpAll.same (ob_free hl) d h
theorem Dp_all {K : PySem.W.Frag} {S : List Addr} {H : Hp} {vs : List V} {ds : List PyData} (h : DpAll K (Ob S H) vs ds) : DpAll K H vs ds := DpAll.same (Ob.le S H) ds h
end Kt

set_option Elab.async false
set_option linter.all false
set_option maxRecDepth 100000
set_option maxHeartbeats 4000000
/-! enumerate of a tuple -/
namespace Kt
section
open PySem
open Sem (wp)
open AutoSeq1 (wpAny_loadPart')
theorem meets_enumerate_newT (l : Addr) (items : Array Value) (n : Nat) (dct : Option Addr) (sl : Array (Option Value)) :
    Meets (Builtin.«enumerate.__new__» ⟨[.type "enumerate", .ref l], []⟩) (fun _ R s => s.heap.get? l = some { cls := .type "tuple", dict := dct, data := .seq items n, slots := sl } ∧
      R (.ok (.ret (.ref (s.heap.push { cls := .type "tuple_iterator", data := .fields #[.ref l, .int 0 0] }).objs.size)))
        { s with heap := (s.heap.push { cls := .type "tuple_iterator", data := .fields #[.ref l, .int 0 0] }).push { cls := .type "enumerate", data := .fields #[.none, .bool false, .ref s.heap.objs.size, rawInt 0, .none, .none] } }) :=
  .of_wp fun prog w A R s h => by
    obtain ⟨hp, g, d, tk, os⟩ := s; obtain ⟨hl, h⟩ := h
    have hsub := sub_enumerate
    have hL : Heap.IsTuple (Shared.heap ⟨hp, g, d, tk, os⟩) l items := ⟨_, hl, rfl, n, rfl⟩
    wp_walk using wpAny_loadPart' hl
    refine wpAny_stack_any fun st => wpAny_pure ?_
    split
    · rename_i c _ _ _ _ _
      cases (c == Value.type "enumerate")
      · wp_walk using wpAny_loadPart' hl, wpAny_pyIter_tuple hL
        exact ⟨_, rfl, h⟩
      · wp_walk using wpAny_loadPart' hl, wpAny_pyIter_tuple hL
        exact ⟨_, rfl, h⟩
    · wp_walk using wpAny_loadPart' hl, wpAny_pyIter_tuple hL
      exact ⟨_, rfl, h⟩
theorem call_enumerate_tuple {prog : Program} {w : World} {A : Around} {E : Value → Shared → Prop} {s : Shared} {l : Addr} {items : Array Value} {Q : Value → Shared → Prop} (hL : s.heap.IsTuple l items)
    (h : ∀ h', IsEnum h' (s.heap.objs.size + 1) s.heap.objs.size 0 .none → h'.IsTupleIter s.heap.objs.size l 0 → h'.objs.size = s.heap.objs.size + 2 →
      (∀ b o, s.heap.get? b = some o → h'.get? b = some o) → Q (.ref (s.heap.objs.size + 1)) { s with heap := h' }) :
    wpAny (model prog w) A (call (.type "enumerate") [.ref l]) Q E s := by
  obtain ⟨⟨c, dct, dt, sl⟩, hl, hc, n, hd⟩ := hL
  replace hc : c = .type "tuple" := hc
  replace hd : dt = .seq items n := hd
  subst hc hd
  refine callType_new F.called_enumerate (by decide) (F.typeCall_enumerate_1 _) (F.newCall_enumerate_1 _) (fun obj => F.args_object_init_2 obj _) F.entry_enumerate_new
    (meets_enumerate_newT l items n dct sl) ⟨hl, ?_⟩
  have hz : (s.heap.push { cls := .type "tuple_iterator", data := .fields #[.ref l, .int 0 0] }).objs.size = s.heap.objs.size + 1 := Heap.size_push ..
  show _ ∧ _
  rw [hz]
  have he : IsEnum ((s.heap.push { cls := .type "tuple_iterator", data := .fields #[.ref l, .int 0 0] }).push
      { cls := .type "enumerate", data := .fields #[.none, .bool false, .ref s.heap.objs.size, rawInt 0, .none, .none] }) (s.heap.objs.size + 1) s.heap.objs.size 0 .none := by
    have := Heap.get?_push_size (s.heap.push { cls := .type "tuple_iterator", data := .fields #[.ref l, .int 0 0] })
      (o := { cls := .type "enumerate", data := .fields #[.none, .bool false, .ref s.heap.objs.size, rawInt 0, .none, .none] }) rfl
    rw [hz] at this; exact this
  refine ⟨⟨_, he, rfl⟩, h _ he ⟨_, Heap.get?_push_of_some _ (Heap.get?_push_size _ rfl), rfl, rfl⟩ (by rw [Heap.size_push, hz]) fun b o x => Heap.get?_push_of_some _ (Heap.get?_push_of_some _ x)⟩
end
open PySem PySem.Spec PyProof.Rows L2
/-- the tuple at a, each item in a new pair -/
def Iet (K : PySem.W.Frag) (a : Addr) : It :=
  ⟨fun i H => ∃ (xs : List V) (x : V), SqT K H a xs ∧ xs[i]? = some x, fun i H v H' => ∃ T x, v = .ref T ∧ H T = none ∧ H' = upd H T (.tup [.int (i : Nat), x]) ∧ ∀ xs, SqT K H a xs → xs[i]? = some x, fun i H => ∃ xs : List V, SqT K H a xs ∧ xs.length ≤ i⟩
theorem turn_enumT {P : Program} {w : World} {K : PySem.W.Frag} {elts : List Expr} {kk : Nat} {tpos : Pos} (a e it : Addr) :
    Turn P w K (.Tuple elts kk tpos) (Iet K a) [e, it] e (fun i h => (∃ old, IsEnum h e it ((i : Nat) : Int) old) ∧ h.IsTupleIter it a i ∧ e ≠ it ∧ a ≠ e ∧ a ≠ it) where
  mem := by simp
  obj := fun i h st b hb => by
    obtain ⟨⟨old, he⟩, ⟨o, ho, hc, hd⟩, _⟩ := st
    have e' : b = e ∨ b = it := by simpa using hb
    rcases e' with z | z
    · rw [z]; exact ⟨_, he, fun v q => nomatch q⟩
    · rw [z]; exact ⟨o, ho, fun v q => by rw [hd] at q; cases q⟩
  keep := fun i h h' st k => let ⟨⟨old, he⟩, hi, hne⟩ := st; ⟨⟨old, k e (by simp) _ he⟩, hi.at fun o q => k it (by simp) o q, hne⟩
  item := by
    intro X hP hw hK hc i pins s σ H E I hf st hg
    subst hP hw hK
    obtain ⟨⟨old, he⟩, hit, hne, hae, hai⟩ := st
    obtain ⟨xs, x, hq, hx⟩ := hg
    obtain ⟨its, rv, p, hz⟩ := I.tuple hq
    obtain ⟨u, hu, ru⟩ := rv.get hx
    have hel : e < s.heap.objs.size := Heap.lt_size he
    have hil : it < s.heap.objs.size := by obtain ⟨_, q, _⟩ := hit; exact Heap.lt_size q
    have hh : X.A.in1.handled = none := I.ok.hd hc
    have hlt : i < its.toArray.size := by
      have := (List.getElem?_eq_some_iff.mp hu).1
      simpa using this
    have pT : s.heap.IsTuple a its.toArray := p
    refine wpAny_pyNext_enum_itemD (Draws.tuple hh it a hai its.toArray) he ⟨hit, pT⟩ hlt hne (by simp [hne, Ne.symm hae]) fun x' h' tk hP ho hst' hT hsz hk => ?_
    have ex : x' = u := by
      rw [List.getElem?_toArray] at hP
      exact Option.some.inj (hP.symm.trans hu)
    subst ex
    refine ⟨_, rfl, wpAny_letOwnedTupleGo_enum (s := { s with heap := h', toks := tk + 1 }) ho fun h'' he' sb => ?_⟩
    have hT2 : h''.get? s.heap.objs.size = some { cls := .type "tuple", data := .seq #[.int i tk, x'] } := (sb.2 _ (Nat.ne_of_gt hel)).trans hT
    have new : ObjOk X.prog X.w (upd H s.heap.objs.size (.tup [.int (i : Nat), x])) h'' s.heap.objs.size (.tup [.int (i : Nat), x]) :=
      ⟨by show 2 ≤ sizeLine; decide, [.int i tk, x'], .cons ⟨_, rfl⟩ (.cons ru .nil), ⟨_, hT2, rfl, _, rfl⟩⟩
    have I1 : Inv X pins σ (upd H s.heap.objs.size (.tup [.int (i : Nat), x])) { s with heap := h'', toks := tk + 1 } :=
      I.turnedNew (ch := [e, it]) (fun b ob hb q => (sb.2 b (fun z => hb (by simp [z]))).trans (hk b ob (fun z => hb (by simp [z])) (fun z => hb (by simp [z])) q)) hf (Nat.le_refl _) new
    refine ⟨.ref s.heap.objs.size, _, I1, rfl, ⟨_, x, rfl, I.hok.fresh (Nat.le_refl _), rfl, fun ys hy => by rw [I.tuple_inj hy hq]; exact hx⟩, ⟨⟨x', ?_⟩, hst'.1.at fun o q => (sb.2 it (Ne.symm hne)).trans q, hne, hae, hai⟩, fun b hb => ?_⟩
    · have e1 : ((i + 1 : Nat) : Int) = (i : Int) + 1 := by omega
      rw [e1]; exact he'
    · have hb' : b < s.heap.objs.size := by
        have e' : b = e ∨ b = it := by simpa using hb
        rcases e' with z | z
        · rw [z]; exact hel
        · rw [z]; exact hil
      rw [upd_ne (Nat.ne_of_lt hb')]
      exact (hf b hb).1
  done := by
    intro X hP hw hK hc i pins s σ H E I hf st hg
    subst hP hw hK
    obtain ⟨⟨old, he⟩, hit, hne, hae, hai⟩ := st
    obtain ⟨xs, hq, hx⟩ := hg
    obtain ⟨its, rv, p, hz⟩ := I.tuple hq
    obtain ⟨f0, f1, f2, f3, f4, f5⟩ := hf it (by simp)
    have hl := rv.length
    have hh : X.A.in1.handled = none := I.ok.hd hc
    have pT : s.heap.IsTuple a its.toArray := p
    have T : s.TypeIs (.ref e) "enumerate" := ⟨_, he, rfl⟩
    unfold pyNext
    refine wpAny_bind (wpAny_attempt (wpAny_callSpecial?_slot (name := Str.ofString "__next__") T F.slot_enumerate_next
      (wpAny_call_entry F.slot_enumerate_next T F.entry_enumerate_next ?_ (F.args_enumerate_next_1 _))))
    show wpAny _ _ (field (.ref e) 2 >>= _) _ _ _
    refine wpAny_bind (wpAny_field he rfl (x := .ref it) rfl ?_)
    refine wpAny_bind (wpAny_nextOf_tuple_end (items := its.toArray) hh hit pT (by simp; omega) fun h' x he' hx' => ?_)
    obtain ⟨o, ho, hc'⟩ := hx'
    refine wpAny_bind (wpAny_isInstance (T := "StopIteration") (b := true) ⟨o, ho, hc'⟩ isSubtype_stop ?_)
    exact wpAny_pure ⟨rfl, I.turned (t' := s.toks) (fun b o hb q => he' b o hb q) f0 f1 f3 f4 f5⟩
  self := fun A i s Q E st h => let ⟨⟨_, he⟩, _⟩ := st; wpAny_pyIter_enum he h
def iEnumT (K : PySem.W.Frag) (ta : TA) : TI := fun σ H R => ta σ H fun vs H1 => ∃ a xs, vs = [.ref a] ∧ SqT K H1 a xs ∧ R (Iet K a) H1
theorem pi_enumT {X : Cx} {e : Expr} {ta : TA} {p pos tpos : Pos} {elts : List Expr} {kk : Nat} (hg : Gl X "enumerate") (hm : X.mg "enumerate" = none) (ha : PA X [e] ta) (hs : starEach [e] X.env = [(false, eval e X.env)] := by rfl) :
    PI X (.Tuple elts kk tpos) (.Call (.Name "enumerate" p) [e] [] pos) (iEnumT X.K ta) := by
  refine ⟨fun pins s σ H R I h => ?_⟩
  refine Call_ (ld_blt I hg hm boot_enumerate (PyProof.Rows.callWith_type1 (thn (ha.run pos pins s σ H _ I h) fun us s1 ⟨vs, H1, I1, r1, q1⟩ => ?_) hs rfl))
  obtain ⟨a, xs, ex, hq, q⟩ := q1
  subst ex
  cases r1 with
  | cons r rr =>
    cases rr
    cases r
    obtain ⟨its, rv, p', hz⟩ := I1.tuple hq
    have pT : s1.heap.IsTuple a its.toArray := p'
    have hal : a < s1.heap.objs.size := by obtain ⟨_, q, _⟩ := pT; exact Heap.lt_size q
    refine call_enumerate_tuple pT fun h' he hit hsz hk => wpAny_pyIter_enum he ?_
    have I2 : Inv X pins σ H1 { s1 with heap := h' } := I1.kept (t' := s1.toks) hk
    refine ⟨s1.heap.objs.size + 1, [s1.heap.objs.size + 1, s1.heap.objs.size], _, _, H1, rfl, I2, turn_enumT a (s1.heap.objs.size + 1) s1.heap.objs.size, ⟨⟨.none, he⟩, hit, Nat.succ_ne_self _, Nat.ne_of_lt (Nat.lt_succ_of_lt hal), Nat.ne_of_lt hal⟩, fun b hb => ?_, q⟩
    have e' : b = s1.heap.objs.size + 1 ∨ b = s1.heap.objs.size := by simpa using hb
    have hle : s1.heap.objs.size ≤ b := by
      rcases e' with z | z
      · rw [z]; exact Nat.le_add_right _ _
      · rw [z]; exact Nat.le_refl _
    exact I1.fpOk hle (I1.hok.fresh hle)
theorem walk_enumT {K : PySem.W.Frag} {a : Addr} {xs : List V} : Walk (Iet K a) xs.length (fun H => SqT K H a xs) (YPair (fun i => some (.int (i : Nat))) (fun i => xs[i]?)) := by
  refine ⟨fun i H hi h => ⟨xs, xs[i], h, by simp [hi]⟩, fun H h => ⟨xs, h, Nat.le_refl _⟩, fun i H x H' hi h y => ?_⟩
  obtain ⟨T, x, rfl, hn, e, hx⟩ := y
  exact ⟨T, _, x, rfl, hn, e, rfl, hx _ h⟩
end Kt

set_option Elab.async false
set_option linter.all false
set_option maxRecDepth 100000
set_option maxHeartbeats 4000000
/-! defs that run where no repr is under way; repr of data -/
namespace Kt
open PySem PySem.Spec PyProof.Rows L2
abbrev Sl := L2.St
/-- as FnOk, of calls that happen while nothing is being shown -/
structure FnG (P : Program) (w : World) (K : PySem.W.Frag) (mg : Str → Option Value) (base : Heap) (CX : CXT) (k : Nat) (f : Addr) (fd : FuncData) (ps : List Str) (sp : Sp) : Prop where
  ar : ∀ vs H Q E, sp vs H Q E → vs.length = ps.length
  go : ∀ (A : Around), A.guards = some [] → Room k A → ∀ (fr : List Env) (s : Shared) (H : Hp), Env0 P w K mg base A fr s H → ∀ (args : Args) (us : List Value) (vs : List V), BindsTo s fd args (ps.zip us) → Vals vs us →
    ∀ (Q : VK) (E : XK), sp vs H Q E → codeAny (model P w) A (.call (.ref f) args) (CR CX fr P w H s Q E) s
section
variable {P : Program} {w : World} {K : PySem.W.Frag} {mg : Str → Option Value} {base : Heap} {CX : CXT} {k : Nat} {f : Addr} {fd : FuncData} {ps : List Str} {sp : Sp}
theorem FnG.mono {j : Nat} (F : FnG P w K mg base CX j f fd ps sp) (h : j ≤ k) : FnG P w K mg base CX k f fd ps sp :=
  ⟨F.ar, fun A g r => F.go A g (r.mono h)⟩
theorem FnG.of (F : FnOk P w K mg base CX k f fd ps sp) : FnG P w K mg base CX k f fd ps sp :=
  ⟨F.len, fun A _ r fr s H e args us vs b v Q E q => F.run A fr s H args us vs Q E r e b v q⟩
/-- what lies behind the body lies behind the call -/
theorem behind_body {N : List Str} {qual : Str} {sc : Scope} {cd : Value} {A : Around} {fr : List Env} {s s' : Shared} {H : Hp} {Q : VK} {E : XK} {fl : Flow}
    (h : SP (cxOf CX P w K mg base N qual sc f cd A fr s H E) [] { nx := fun _ H' => Q .non H', rt := Q } fl s') : CR CX fr P w H s Q E (.ok (match fl with | .next => .ret .none | o => o)) s' := by
  cases fl with
  | ret u => exact let ⟨v, _, H', J, rv, q⟩ := h; ⟨v, H', J.os, J.bare, J.base, J.hok, rv, q⟩
  | next => exact let ⟨_, H', J, q⟩ := h; ⟨.non, H', J.os, J.bare, J.base, J.hok, rfl, q⟩
  | brk => exact (let ⟨_, _, _, q⟩ := h; q : False).elim
  | cont => exact (let ⟨_, _, _, q⟩ := h; q : False).elim
end
/-- a def of the text, by its body, at such calls -/
theorem okG {P : Program} {w : World} {K : PySem.W.Frag} {mg : Str → Option Value} {base : Heap} {x qual : Str} {st : Stmt} {f : Addr} {fd : FuncData} {N ps : List Str} {k : Nat} {sp : Sp} (F : Fun K x qual st f fd) (S : FnScope N ps (defScope st))
    (ar : ∀ vs H Q E, sp vs H Q E → vs.length = ps.length)
    (body : ∀ (cdv : Value) (A : Around) (fr : List Env) (s : Shared) (H : Hp) (vs : List V) (Q : VK) (E : XK), (A.deeper (envOfC qual (defScope st) s.heap.objs.size f cdv)).guards = some [] → Room k (A.deeper (envOfC qual (defScope st) s.heap.objs.size f cdv)) → sp vs H Q E →
      ∃ t, PSs (cxOf CX0 P w K mg base N qual (defScope st) f cdv A fr s H E).nox (defBody st) t ∧ t { nx := fun _ H' => Q .non H', rt := Q } (start N vs) H) : FnG P w K mg base CX0 (k + 1) f fd ps sp := by
  obtain ⟨_, _, _, _, _, _, cdv, _, _, rfl, hl, hc⟩ := F.ex
  refine ⟨ar, fun A hg hr fr s H e args us vs hb hv Q E hsp => ?_⟩
  have old : ∀ b o, base.get? b = some o → s.heap.get? b = some o := fun b o q => (e.bs b o q).1
  have kin := e.mod.kin.keeps old
  refine codeAny_call_function (hr.depth) (kin _ _ hl) rfl (S.co) (S.gen) rfl (PySem.W.codeRec_of kin hc) (hb _ _ _ _ (wpAny_newFunctionEnv_cells S.kind ?_ ?_))
  · rintro ⟨n, v⟩ hy
    refine (S.par n (List.of_mem_zip hy).1).imp id fun q => ⟨q, PySem.W.cellsFrom_some _ _ _ (.inl q)⟩
  · rintro env rfl s1 x1
    refine ⟨(e.mod.nolimit.keeps old).keeps x1.toInCall.keep, codeAny_func ?_⟩
    obtain ⟨t, ht, hq⟩ := body cdv A fr s H vs Q E hg (hr.deeper _) hsp
    refine wpAny_mono (ht.nox.run [] s1 _ H _ (inv_start S hr.hd e (ar _ _ _ _ hsp) hv x1) hq) (fun fl s' hs => ?_) fun _ _ hs => hs
    have z := behind_body hs
    cases fl with
    | ret u => exact z
    | next => exact z
    | brk => exact False.elim z
    | cont => exact False.elim z
section
variable {X : Cx} {CX : CXT} {k : Nat} {f : Addr} {fd : FuncData} {ps ks : List Str} {sp : Sp} {E : XK} {x : Str} {p pos : Pos} {e : Expr} {es : List Expr} {t tk : TA} {kws : List Keyword}
/-- the callee runs, its arguments bound in any way -/
theorem run_G {pins : List (Addr × Obj)} {σ : Sl} {H : Hp} {s : Shared} {Q : VK} {args : Args} {us : List Value} {vs : List V} (F : FnG X.prog X.w X.K X.mg X.base CX k f fd ps sp) (hgd : X.A.guards = some []) (hr : Room k X.A) (hx : Passes CX X E)
    (I : Inv X pins σ H s) (hb : BindsTo s fd args (ps.zip us)) (r : Vals vs us) (h : sp vs H Q E) : codeAny (model X.prog X.w) X.A (.call (.ref f) args) (fun r s' => match r with
      | .ok (.ret u) => EP X pins σ Q u s'
      | .ok _ => False
      | .error e => X.xe e s') s :=
  codeAny_mono (F.go X.A hgd hr X.stack s H I.env0 args us vs hb r Q E h) fun r s' hq => match r, hq with
    | .error e, hq => hx pins σ H s e s' I hq
    | .ok (.ret _), hq => I.after hq
/-- f(a, ..), f a def of the module, no defaults -/
theorem pe_callG (F : FnG X.prog X.w X.K X.mg X.base CX k f fd ps sp) (hgd : X.A.guards = some []) (hr : Room k X.A) (hg : Gl X x) (hm : X.mg x = some (.ref f)) (hk : PySem.W.keepIn X.K (.ref f) = true) (hb : Binds X.K fd ps []) (hx : Passes CX X E)
    (ha : PA X (e :: es) t) (hdb : (x == ("__debug__" : Str)) = false := by decide) (he : starEach (e :: es) X.env = (false, eval e X.env) :: starEach es X.env := by rfl) (hpl : (backTo pos (starEach es X.env)).any (·.1) = false := by rfl) :
    PE X (.Call (.Name x p) (e :: es) [] pos) (fun σ H Q => t σ H fun vs H1 => sp vs H1 Q E) :=
  ⟨fun pins s σ H Q I h => wpAny_Call_Name_kw (ld_glob I hg hm (PySem.W.callWith_K (h₀ := X.base) I.mod.kin hk (thn (ha.run pos pins s σ H _ I h) fun us s1 ⟨vs, H1, I1, r, q⟩ => ⟨I1.kIn, by
    have hl : (us ++ []).length = ps.length := by
      rw [List.append_nil, ← r.length]
      exact F.ar _ _ _ _ q
    have hbd := hb s1 us I1.kIn hl
    rw [List.append_nil] at hbd
    refine wpAny_call (codeAny_mono (run_G F hgd hr hx I1 hbd r q) fun r' s' hq => ?_)
    cases r' with
    | error e => exact hq
    | ok fl => cases fl <;> exact hq⟩) he hpl) hdb)⟩
/-- a list's or tuple's repr, and any data's -/
def rRepr (K : PySem.W.Frag) : List V → Hp → VK → Prop := fun vs H Q => ∃ v d, vs = [v] ∧ Dp K H v d ∧ d.showable = true ∧ d.hasDict = false ∧ d.shown.length ≤ sizeLine ∧ d.depth ≤ 60 ∧ Q (.str d.shown) H
theorem cr_repr (hgd : X.A.guards = some []) (hu : X.A.units + 64 < cLine) : CallR X (.builtin "repr") (rRepr X.K) := by
  intro pins s σ H xs us Q I r h
  obtain ⟨v, d, rfl, hd, hs, hnd, hsz, hdp, q⟩ := h
  obtain ⟨u, rfl, ru⟩ := vals1 r
  obtain ⟨as, rd⟩ := Dp.reads I d v u hd ru
  have big : ∀ a, u = .ref a → wpAny (model X.prog X.w) X.A (call (.builtin "repr") [u]) (EP X pins σ Q) X.xe s := fun a e => by
    subst e
    exact repr_of_reads' rd hs (PyData.noDict_hsm hnd) hgd (by omega) (fun _ _ e => e) (fun h' t tk hk => ⟨.str d.shown, H, I.kept hk, ⟨t, rfl⟩, q⟩) hsz
  cases hd with
  | non =>
    obtain rfl : u = Value.none := ru
    rw [PyData.shown_none] at q
    exact PySem.P.repr_of_none ⟨.str _, H, I.tok _, ⟨_, rfl⟩, q⟩
  | bl b =>
    obtain rfl : u = Value.bool b := ru
    rw [PyData.shown_bool] at q
    exact PySem.P.repr_of_bool ⟨.str _, H, I.tok _, ⟨_, rfl⟩, q⟩
  | int i =>
    obtain ⟨t, rfl⟩ := ru
    rw [PyData.shown_int] at q
    exact PySem.P.repr_of_int (by simpa [PyData.showable] using hs) ⟨.str _, H, I.tok _, ⟨_, rfl⟩, q⟩
  | str x =>
    obtain ⟨t, rfl⟩ := ru
    rw [PyData.shown_str] at q hsz
    exact PySem.P.repr_of_str ⟨.str _, H, I.tok _, ⟨_, rfl⟩, q⟩ hsz
  | lst _ _ => exact big _ ru
  | tup _ _ => exact big _ ru
end
/-! ### the end: the script's place, and nothing else, is tracked -/
section
variable {K : PySem.W.Frag} {h : Heap} {a b : Addr} {vs : List Value} {ns : List Int}
abbrev scriptObj (vs : List Value) : Obj := { cls := .type "list", data := .seq vs.toArray }
open Classical in
noncomputable def only1 (K : PySem.W.Frag) (a : Addr) (vs : List Value) (ns : List Int) : Hp := fun b => if b = a ∧ K.lookup a = none then some (.frz (scriptObj vs) (.lst (ns.map V.int))) else none
theorem only1_some {u : HO} (q : only1 K a vs ns b = some u) : b = a ∧ K.lookup a = none ∧ u = .frz (scriptObj vs) (.lst (ns.map V.int)) := by
  unfold only1 at q
  split at q
  · rename_i z
    exact ⟨z.1, z.2, (Option.some.inj q).symm⟩
  · cases q
theorem only1_other (q : ¬ (b = a ∧ K.lookup a = none)) : only1 K a vs ns b = none := by
  unfold only1
  rw [if_neg q]
theorem only1_at (q : K.lookup a = none) : only1 K a vs ns a = some (.frz (scriptObj vs) (.lst (ns.map V.int))) := by
  unfold only1
  rw [if_pos ⟨rfl, q⟩]
theorem only1_only : Only (only1 K a vs ns) := fun b => by
  cases q : only1 K a vs ns b with
  | none => exact .inl rfl
  | some u => exact .inr ⟨_, _, by rw [(only1_some q).2.2]⟩
theorem only1_list (KX : K.In h) (ha : h.get? a = some (scriptObj vs)) (hi : IntsAre vs ns) (hl : ns.length ≤ sizeLine) : SqL K (only1 K a vs ns) a (ns.map V.int) := by
  cases q : K.lookup a with
  | none => exact .inl (.inr ⟨_, only1_at q⟩)
  | some o =>
    obtain rfl : scriptObj vs = o := Option.some.inj (ha.symm.trans (KX a o q))
    exact .inr ⟨_, vs.toArray, _, q, rfl, rfl, rfl, by rw [List.size_toArray, hi.length]; exact hl, by simpa using vals_ints hi⟩
theorem only1_held {P : Program} {w : World} (ha : h.get? a = some (scriptObj vs)) (hi : IntsAre vs ns) (hl : ns.length ≤ sizeLine) : HOk P w (only1 K a vs ns) h := fun b u q => by
  obtain ⟨rfl, _, rfl⟩ := only1_some q
  exact ⟨ha, by rw [List.length_map]; exact hl, vs, _, vals_ints hi, ha⟩
/-- the heap without the script, where it is tracked: what is no list stays -/
theorem only1_rest {o : Obj} (q : h.get? b = some o) (ha : h.get? a = some (scriptObj vs)) (n : o ≠ scriptObj vs) : (hidT h (only1 K a vs ns)).get? b = some o :=
  hidT_get q (only1_other fun z => n (by rw [z.1, ha] at q; exact (Option.some.inj q).symm))
theorem only1_ns {m : Str → Option Value} (q : h.Ns b m) (ha : h.get? a = some (scriptObj vs)) : (hidT h (only1 K a vs ns)).Ns b m := by
  obtain ⟨o, es, ep, e, d, r⟩ := q
  exact ⟨o, es, ep, only1_rest e ha (fun z => by rw [z] at d; exact nomatch (d : Data.seq vs.toArray _ = Data.dict es ep)), d, r⟩
theorem only1_kin (KX : K.In h) : K.In (hidT h (only1 K a vs ns)) := fun b o e => hidT_get (KX b o e) (only1_other fun z => by rw [z.1, z.2] at e; cases e)
end
theorem walk_ofG {l : PySem.W.OpenLaw} {n k : Nat} {q : Program} {loose : List Str} {XP : (Str → Option Value) → Heap → Prop} {YP : World → Heap → Prop} {d : DefRec} {K : Params → PySem.W.Frag} {sp : World → Sp} {x : Str}
    (hn : l.most = some n) (hn2 : n ≤ sizeLine) (hdf : d.params.defaults = []) (hr : Room k callerA)
    (hY : ∀ (w : World) (h : Heap), YP w h → (K w.params).In h)
    (F : ∀ (w : World) (mg : Str → Option Value) (fa : Addr) (h : Heap), (K w.params).In h → h.Ns mainGlobals mg → mg d.name = some (.ref fa) →
      ∃ fd : FuncData, (∀ (s : Shared) (u : Value), BindsTo s fd ⟨[u], []⟩ [(x, u)]) ∧
        ∀ base : Heap, (K w.params).In base → base.Ns mainGlobals mg → FnG l.prog w (K w.params) mg base CX0 k fa fd [x] (sp w))
    (hsp : ∀ (w : World) (H : Hp) (a : Addr) (ns : List Int), ns.length ≤ n → Only H → SqL (K w.params) H a (ns.map V.int) → sp w [.ref a] H (fun v _ => v = .bl true) fun _ _ _ => False) :
    PySem.W.WalkO q loose XP YP l.row.toRowW d [] (fun f vs => PySem.call f vs) := by
  refine Att.attach_call hn hdf fun w s₀ s mg mb fa o pm cd doc a vs ns G Y ho hd hcd hmg ha hi hlen hg => ?_
  have KX := hY w _ Y
  have hz : ns.length ≤ sizeLine := Nat.le_trans hlen hn2
  obtain ⟨fd, hb, hF⟩ := F w mg fa _ KX G.T.g hmg
  obtain ⟨mc, hc1, hc2⟩ := G.T.nolimit
  have hM : Mod (K w.params) mg (hidT s.heap (only1 (K w.params) a vs ns)) := ⟨only1_kin KX, only1_ns G.T.g ha, ⟨mb, only1_ns G.T.b ha, G.T.builtins⟩, ⟨mc, only1_ns hc1 ha, hc2⟩⟩
  have e0 : Env0 l.prog w (K w.params) mg (hidT s.heap (only1 (K w.params) a vs ns)) callerA [] s (only1 (K w.params) a vs ns) :=
    ⟨rfl, hM, fun _ _ => of_hidT, Nat.le_of_eq (hidT_size _ _), trivial, fun _ z => (List.not_mem_nil z).elim, only1_held ha hi hz, .of_eq hg⟩
  have R := (hF _ hM.kin hM.glob).go callerA rfl hr [] s _ e0 ⟨[.ref a], []⟩ [.ref a] [.ref a] (hb s (.ref a)) (.cons rfl .nil) _ _ (hsp w _ a ns hlen only1_only (only1_list KX ha hi hz))
  refine codeAny_mono R fun r s' z => ?_
  cases r with
  | error e => exact False.elim z
  | ok fl =>
    cases fl with
    | next => exact False.elim z
    | brk => exact False.elim z
    | cont => exact False.elim z
    | ret u =>
      obtain ⟨v, H', os, bare, un, hok, rv, rfl⟩ := z
      obtain rfl : u = Value.bool true := rv
      refine ⟨rfl, OldK.of_keep fun b o e => ?_, os, bare⟩
      cases q : only1 (K w.params) a vs ns b with
      | none => exact un.keep b o e q (List.not_mem_nil) (List.not_mem_nil)
      | some u =>
        obtain ⟨rfl, _, rfl⟩ := only1_some q
        rw [ha] at e
        cases e
        exact (hok _ _ (un.frzs _ _ _ q)).1
end Kt

set_option Elab.async false
set_option linter.all false
set_option maxRecDepth 100000
set_option maxHeartbeats 4000000
/-! the deck of draws -/
namespace Kt
open PySem PySem.Spec PyProof.Rows L2
/-- the deck at a, its great numbers' list at c -/
def DeckAt (H : Hp) (a c : Addr) : Prop := ∃ (cells : List Int) (s n : Int), H a = some (.lst [.ref c, .int s, .int n]) ∧ H c = some (.lst (cells.map V.int)) ∧ a ≠ c
theorem DeckAt.new {H : Hp} {a c p : Addr} {o : HO} (h : DeckAt H a c) (hp : H p = none) : DeckAt (upd H p o) a c := by
  obtain ⟨cs, s, n, h1, h2, h3⟩ := h
  exact ⟨cs, s, n, by rw [upd_ne (ne_of_none h1 hp)]; exact h1, by rw [upd_ne (ne_of_none h2 hp)]; exact h2, h3⟩
theorem DeckAt.put {H : Hp} {a c p : Addr} {o : HO} (h : DeckAt H a c) (h1 : p ≠ a) (h2 : p ≠ c) : DeckAt (upd H p o) a c := by
  obtain ⟨cs, s, n, e1, e2, e3⟩ := h
  exact ⟨cs, s, n, by rw [upd_ne h1.symm]; exact e1, by rw [upd_ne h2.symm]; exact e2, e3⟩
theorem DeckAt.keep {H H' : Hp} {a c : Addr} {S : List Addr} (h : DeckAt H a c) (k : Kp S H H') (na : a ∉ S) (nc : c ∉ S) : DeckAt H' a c := by
  obtain ⟨cs, s, n, e1, e2, e3⟩ := h
  exact ⟨cs, s, n, k.get na e1, k.get nc e2, e3⟩
theorem DeckAt.some {H : Hp} {a c : Addr} (h : DeckAt H a c) : ∃ o u, H a = some o ∧ H c = some u ∧ a ≠ c := let ⟨_, _, _, e1, e2, e3⟩ := h; ⟨_, _, e1, e2, e3⟩
theorem DeckAt.ne {H : Hp} {a c p : Addr} (h : DeckAt H a c) (hp : H p = none) : p ≠ a ∧ p ≠ c := by
  obtain ⟨cs, s, n, e1, e2, e3⟩ := h
  exact ⟨(ne_of_none e1 hp).symm, (ne_of_none e2 hp).symm⟩
def spDraw : Sp := fun vs H Q _ => ∃ (a c : Addr) (many : Int), vs = [.ref a, .int many] ∧ DeckAt H a c ∧ 0 < many ∧ many < 1073741824 ∧ ∀ (H' : Hp) (r : Int), 0 ≤ r → r < many → DeckAt H' a c → Kp [a, c] H H' → Q (.int r) H'

theorem at0 {α : Type} {x : α} {r : List α} : atI (x :: r) 0 = some x := atI_nat (j := 0) rfl
theorem at1 {α : Type} {x y : α} {r : List α} : atI (x :: y :: r) 1 = some y := atI_nat (j := 1) rfl
theorem at2 {α : Type} {x y z : α} {r : List α} : atI (x :: y :: z :: r) 2 = some z := atI_nat (j := 2) rfl
theorem ix0 {n : Nat} (h : 0 < n) : ixN n 0 = some 0 := by
  unfold ixN
  rw [if_pos (Int.le_refl 0), if_pos (by omega)]
  rfl
theorem ix2 : ixN 3 2 = some 2 := by decide
theorem seq0 {n : Nat} (h : 0 < n) : seqIndex? 0 n = some 0 := (ixN_seq (ix0 h)).1
theorem small {n : Nat} (h : n ≤ 1000) : n ≤ sizeLine := Nat.le_trans h (by decide)
section
variable {X : Cx}
/-- xs[i] of a list; of a tuple -/
theorem kl {a b : Expr} {ta tb : TE} {pos : Pos} (ha : PE X a ta) (hb : PE X b tb) (hs : PlainIx b := by exact fun _ _ => rfl) : PE X (.Subscript a b pos) (tOp (rIxL X.K) ta tb) := pe_ix ix_list ha hb hs
theorem kt {a b : Expr} {ta tb : TE} {pos : Pos} (ha : PE X a ta) (hb : PE X b tb) (hs : PlainIx b := by exact fun _ _ => rfl) : PE X (.Subscript a b pos) (tOp (rIxT X.K) ta tb) := pe_ix ix_tup ha hb hs
end
theorem dp_ints {K : PySem.W.Frag} {H : Hp} : ∀ (ns : List Int), DpAll K H (ns.map V.int) (ns.map PyData.int)
  | [] => .nil
  | n :: ns => .cons (.int n) (dp_ints ns)
theorem canLay_ints : ∀ ns : List Int, PyData.canLayAll0 (ns.map PyData.int) = true
  | [] => by simp [PyData.canLayAll0]
  | n :: ns => by simp [PyData.canLayAll0, PyData.canLay0, canLay_ints ns]
theorem depth_ints : ∀ ns : List Int, PyData.depthAll (ns.map PyData.int) ≤ 1
  | [] => by simp [PyData.depthAll]
  | n :: ns => by
    have := depth_ints ns
    simp only [List.map_cons, PyData.depthAll, PyData.depth]
    omega
theorem shaped_of {d : PyData} (h1 : d.canLay0 = true) (h2 : d.depth ≤ 64) : SeqAt.shaped d = true := by
  unfold SeqAt.shaped
  rw [h1, decide_eq_true h2]
  rfl
theorem shaped_ints (ns : List Int) : SeqAt.shaped (.list (ns.map PyData.int)) = true := by
  refine shaped_of (by simp [PyData.canLay0, canLay_ints]) ?_
  have := depth_ints ns
  simp only [PyData.depth]
  omega
theorem eqv_nil (ns : List PyData) : PyData.eqv (.list ns) (.list []) = ns.isEmpty := by
  cases ns <;> simp [PyData.eqv, PyData.eqvAll]
/-- a comprehension without an if -/
theorem yesGo {σ : Sl} {H : Hp} {X Y : Hp → Prop} (h : X H) : tYes σ H (fun b H3 => if b = true then X H3 else Y H3) := by
  show (if true = true then X H else Y H)
  rw [if_pos rfl]
  exact h
/-! the same where one stands within a comprehension: the written part is told -/
section
variable {X : Cx} {a b : Expr} {ta tb : TE} {pos : Pos}
theorem klK (K : PySem.W.Frag) (ha : PE X a ta) (hb : PE X b tb) (hK : X.K = K := by rfl) (hs : PlainIx b := by exact fun _ _ => rfl) : PE X (.Subscript a b pos) (tOp (rIxL K) ta tb) := by
  subst hK
  exact pe_ix ix_list ha hb hs
theorem ktK (K : PySem.W.Frag) (ha : PE X a ta) (hb : PE X b tb) (hK : X.K = K := by rfl) (hs : PlainIx b := by exact fun _ _ => rfl) : PE X (.Subscript a b pos) (tOp (rIxT K) ta tb) := by
  subst hK
  exact pe_ix ix_tup ha hb hs
theorem op_inK (K : PySem.W.Frag) (hK : X.K = K := by rfl) : OpR X (compareOp .In) (rIn K false) := by
  subst hK
  exact op_in_seq
theorem op_notInK (K : PySem.W.Frag) (hK : X.K = K := by rfl) : OpR X (compareOp .NotIn) (rIn K true) := by
  subst hK
  exact op_notIn_seq
theorem op_eqK (K : PySem.W.Frag) (hu : X.A.units + 64 < cLine) (hK : X.K = K := by rfl) : OpR X (compareOp .Eq) (rEqD K) := by
  subst hK
  exact op_eqD hu
theorem op_neK (K : PySem.W.Frag) (hu : X.A.units + 64 < cLine) (hK : X.K = K := by rfl) : OpR X (compareOp .NotEq) (rNeD K) := by
  subst hK
  exact op_neD hu
end
end Kt

set_option Elab.async false
set_option linter.all false
set_option maxRecDepth 100000
set_option maxHeartbeats 4000000
/-! Data with dicts; slots by data: what a frame knows without its heap. -/
namespace Dl
open PySem PySem.Spec PyProof.Rows L2 Kt

def kD : Key → PyData
  | .inl i => .int i
  | .inr x => .str x
/-- a value that is data, and what it is -/
inductive Dq (K : PySem.W.Frag) (H : Hp) : V → PyData → Prop
  | non : Dq K H .non .none
  | bl (b : Bool) : Dq K H (.bl b) (.bool b)
  | int (i : Int) : Dq K H (.int i) (.int i)
  | str (x : Str) : Dq K H (.str x) (.str x)
  | lst {a : Addr} {xs : List V} {ds : List PyData} (h : H a = some (.lst xs)) (hl : xs.length = ds.length) (hi : ∀ (i : Nat) (x : V) (d : PyData), xs[i]? = some x → ds[i]? = some d → Dq K H x d) : Dq K H (.ref a) (.list ds)
  | tup {a : Addr} {xs : List V} {ds : List PyData} (h : H a = some (.tup xs)) (hl : xs.length = ds.length) (hi : ∀ (i : Nat) (x : V) (d : PyData), xs[i]? = some x → ds[i]? = some d → Dq K H x d) : Dq K H (.ref a) (.tuple ds)
  | dct {a : Addr} {kvs : List (Key × V)} {ds : List (PyData × PyData)} (h : H a = some (.dK kvs)) (hk : kvs.map (fun p => kD p.1) = ds.map (·.1)) (hi : ∀ (i : Nat) (p : Key × V) (q : PyData × PyData), kvs[i]? = some p → ds[i]? = some q → Dq K H p.2 q.2) : Dq K H (.ref a) (.dict ds)
def DqAll (K : PySem.W.Frag) (H : Hp) (xs : List V) (ds : List PyData) : Prop := xs.length = ds.length ∧ ∀ (i : Nat) (x : V) (d : PyData), xs[i]? = some x → ds[i]? = some d → Dq K H x d
section
variable {K : PySem.W.Frag} {H H' : Hp} {v : V} {d : PyData} {xs : List V} {ds : List PyData}
theorem Dq.same (e : Same H H') (h : Dq K H v d) : Dq K H' v d := by
  induction h with
  | non => exact .non
  | bl b => exact .bl b
  | int i => exact .int i
  | str x => exact .str x
  | lst h hl hi ih => exact .lst (e _ _ h) hl ih
  | tup h hl hi ih => exact .tup (e _ _ h) hl ih
  | dct h hk hi ih => exact .dct (e _ _ h) hk ih
theorem DqAll.same (e : Same H H') (h : DqAll K H xs ds) : DqAll K H' xs ds := ⟨h.1, fun i x d hx hd => (h.2 i x d hx hd).same e⟩
theorem DqAll.nil : DqAll K H [] [] := ⟨rfl, fun i x d h => by simp at h⟩
theorem DqAll.cons (h : Dq K H v d) (t : DqAll K H xs ds) : DqAll K H (v :: xs) (d :: ds) := ⟨by simp [t.1], fun i x e hx he => by
  cases i with
  | zero => simp at hx he; subst hx; subst he; exact h
  | succ i => exact t.2 i x e (by simpa using hx) (by simpa using he)⟩
theorem DqAll.head (h : DqAll K H (v :: xs) (d :: ds)) : Dq K H v d := h.2 0 v d rfl rfl
theorem DqAll.tail (h : DqAll K H (v :: xs) (d :: ds)) : DqAll K H xs ds := ⟨by simpa using h.1, fun i x e hx he => h.2 (i + 1) x e (by simpa using hx) (by simpa using he)⟩
theorem DqAll.inv_nil (h : DqAll K H xs []) : xs = [] := List.eq_nil_of_length_eq_zero h.1
theorem DqAll.inv_cons (h : DqAll K H xs (d :: ds)) : ∃ v r, xs = v :: r ∧ Dq K H v d ∧ DqAll K H r ds := by
  cases xs with
  | nil => exact absurd h.1 (by simp)
  | cons v r => exact ⟨v, r, rfl, h.head, h.tail⟩
theorem DqAll.at {i : Nat} (h : DqAll K H xs ds) (hd : ds[i]? = some d) : ∃ x, xs[i]? = some x ∧ Dq K H x d := by
  have hi := (List.getElem?_eq_some_iff.mp hd).1
  have hx : i < xs.length := by rw [h.1]; exact hi
  exact ⟨xs[i], List.getElem?_eq_getElem hx, h.2 i _ d (List.getElem?_eq_getElem hx) hd⟩
theorem DqAll.app {ys : List V} {es : List PyData} (h : DqAll K H xs ds) (g : DqAll K H ys es) : DqAll K H (xs ++ ys) (ds ++ es) := by
  refine ⟨by simp [h.1, g.1], fun i x d hx hd => ?_⟩
  by_cases e : i < xs.length
  · rw [List.getElem?_append_left e] at hx
    rw [List.getElem?_append_left (by rw [← h.1]; exact e)] at hd
    exact h.2 i x d hx hd
  · rw [List.getElem?_append_right (by omega)] at hx
    rw [List.getElem?_append_right (by rw [← h.1]; omega), ← h.1] at hd
    exact g.2 _ x d hx hd
theorem DqAll.take (n : Nat) (h : DqAll K H xs ds) : DqAll K H (xs.take n) (ds.take n) := by
  refine ⟨by simp [h.1], fun i x d hx hd => ?_⟩
  rw [List.getElem?_take] at hx hd
  split at hx
  · rename_i z
    rw [if_pos z] at hd
    exact h.2 i x d hx hd
  · cases hx
theorem DqAll.drop (n : Nat) (h : DqAll K H xs ds) : DqAll K H (xs.drop n) (ds.drop n) := by
  refine ⟨by simp [h.1], fun i x d hx hd => ?_⟩
  rw [List.getElem?_drop] at hx hd
  exact h.2 _ x d hx hd
theorem DqAll.rev (h : DqAll K H xs ds) : DqAll K H xs.reverse ds.reverse := by
  refine ⟨by simp [h.1], fun i x d hx hd => ?_⟩
  have hi : i < xs.length := by
    have := (List.getElem?_eq_some_iff.mp hx).1
    simpa using this
  rw [List.getElem?_reverse hi] at hx
  rw [List.getElem?_reverse (by rw [← h.1]; exact hi), ← h.1] at hd
  exact h.2 _ x d hx hd
theorem Dq.lstA {a : Addr} (h : H a = some (.lst xs)) (g : DqAll K H xs ds) : Dq K H (.ref a) (.list ds) := .lst h g.1 g.2
theorem Dq.tupA {a : Addr} (h : H a = some (.tup xs)) (g : DqAll K H xs ds) : Dq K H (.ref a) (.tuple ds) := .tup h g.1 g.2
theorem Dq.inv_int {i : Int} (h : Dq K H v (.int i)) : v = .int i := by cases h; rfl
theorem Dq.inv_bool {b : Bool} (h : Dq K H v (.bool b)) : v = .bl b := by cases h; rfl
theorem Dq.inv_str {x : Str} (h : Dq K H v (.str x)) : v = .str x := by cases h; rfl
theorem Dq.inv_none (h : Dq K H v .none) : v = .non := by cases h; rfl
theorem Dq.inv_list (h : Dq K H v (.list ds)) : ∃ a xs, v = .ref a ∧ H a = some (.lst xs) ∧ DqAll K H xs ds := by
  cases h with
  | lst h hl hi => exact ⟨_, _, rfl, h, hl, hi⟩
theorem Dq.inv_tup (h : Dq K H v (.tuple ds)) : ∃ a xs, v = .ref a ∧ H a = some (.tup xs) ∧ DqAll K H xs ds := by
  cases h with
  | tup h hl hi => exact ⟨_, _, rfl, h, hl, hi⟩
theorem dp_all_of : ∀ {xs : List V} {ds : List PyData}, xs.length = ds.length → (∀ (i : Nat) (x : V) (d : PyData), xs[i]? = some x → ds[i]? = some d → Dp K H x d) → DpAll K H xs ds
  | [], [], _, _ => .nil
  | [], _ :: _, h, _ => absurd h (by simp)
  | _ :: _, [], h, _ => absurd h (by simp)
  | x :: xs, d :: ds, h, q => .cons (q 0 x d rfl rfl) (dp_all_of (by simpa using h) fun i y e hy he => q (i + 1) y e (by simpa using hy) (by simpa using he))
theorem canLay_at : ∀ {ds : List PyData}, PyData.canLayAll0 ds = true → ∀ {i : Nat} {d : PyData}, ds[i]? = some d → d.canLay0 = true
  | [], _, i, d, h => by simp at h
  | e :: ds, q, i, d, h => by
    simp only [PyData.canLayAll0, Bool.and_eq_true] at q
    cases i with
    | zero => simp at h; subst h; exact q.1
    | succ i => exact canLay_at q.2 (i := i) (by simpa using h)
/-- data without dicts, in the library's relation -/
theorem Dq.dp (h : Dq K H v d) : d.canLay0 = true → Dp K H v d := by
  induction h with
  | non => exact fun _ => .non
  | bl b => exact fun _ => .bl b
  | int i => exact fun _ => .int i
  | str x => exact fun _ => .str x
  | lst h hl hi ih => exact fun q => .lst (SqL.of h) (dp_all_of hl fun i x d hx hd => ih i x d hx hd (canLay_at (by simpa [PyData.canLay0] using q) hd))
  | tup h hl hi ih => exact fun q => .tup (SqT.of h) (dp_all_of hl fun i x d hx hd => ih i x d hx hd (canLay_at (by simpa [PyData.canLay0] using q) hd))
  | dct h hk hi ih => exact fun q => by simp [PyData.canLay0] at q
end
end Dl

set_option Elab.async false
set_option linter.all false
set_option maxRecDepth 100000
set_option maxHeartbeats 4000000
namespace Dl
open PySem PySem.Spec PyProof.Rows L2 Kt

/-- what is fixed through a def's body: the heap at its entry, the places that no data reads, those that may change, too, the deck's two lists -/
structure Fr where
  H0 : Hp
  G : List Addr
  D : List Addr
  dk : Option (Addr × Addr)
/-- what a slot holds: data; the deck; a list of the body's own, which it changes -/
inductive Dv where
  | dat (d : PyData)
  | deck
  | own (a : Addr) (ds : List PyData)
abbrev Rho := List (Option Dv)
def ownA : Option Dv → Option Addr
  | some (.own a _) => some a
  | _ => none
def owns (ρ : Rho) : List Addr := ρ.filterMap ownA
def Sx (f : Fr) (ρ : Rho) : List Addr := f.G ++ (f.D ++ owns ρ)
inductive Slot (K : PySem.W.Frag) (f : Fr) (S : List Addr) (H : Hp) : V → Dv → Prop
  | dat {v : V} {d : PyData} (h : Dq K (Ob S H) v d) : Slot K f S H v (.dat d)
  | deck {a c : Addr} (h : f.dk = some (a, c)) : Slot K f S H (.ref a) .deck
  | own {a : Addr} {xs : List V} {ds : List PyData} (h : H a = some (.lst xs)) (h0 : f.H0 a = none ∨ a ∈ f.D) (hd : DqAll K (Ob S H) xs ds) : Slot K f S H (.ref a) (.own a ds)
/-- the slots and the pending values, by data -/
structure Rel (K : PySem.W.Frag) (f : Fr) (σ : Sl) (H : Hp) (ρ : Rho) (pd : List (V × PyData)) : Prop where
  kp : Kp f.D f.H0 H
  dk : ∀ a c, f.dk = some (a, c) → DeckAt H a c
  dkD : ∀ a c, f.dk = some (a, c) → a ∈ f.D ∧ c ∈ f.D ∧ a ∉ owns ρ ∧ c ∉ owns ρ
  dk0 : ∀ b ∈ f.D, H b ≠ none
  hid : ∀ b ∈ f.G, f.H0 b ≠ none ∧ b ∉ f.D
  sys : True
  nod : (owns ρ).Nodup
  len : σ.length = ρ.length
  sl : ∀ (i : Nat) (p : Dv), ρ[i]? = some (some p) → ∃ v, σ[i]? = some (some v) ∧ Slot K f (Sx f ρ) H v p
  pend : ∀ p ∈ pd, Dq K (Ob (Sx f ρ) H) p.1 p.2

section
variable {K : PySem.W.Frag} {f : Fr} {σ : Sl} {H H' : Hp} {ρ ρ' : Rho} {pd : List (V × PyData)} {v : V} {d : PyData}
theorem mem_owns {a : Addr} : a ∈ owns ρ ↔ ∃ (i : Nat) (ds : List PyData), ρ[i]? = some (some (.own a ds)) := by
  unfold owns
  rw [List.mem_filterMap]
  constructor
  · rintro ⟨o, ho, e⟩
    obtain ⟨i, hi⟩ := List.mem_iff_getElem?.mp ho
    cases o with
    | none => cases e
    | some p =>
      cases p with
      | dat d => cases e
      | deck => cases e
      | own b ds => cases e; exact ⟨i, ds, hi⟩
  · rintro ⟨i, ds, hi⟩
    exact ⟨_, List.mem_of_getElem? hi, rfl⟩
/-- every place left out is taken -/
theorem Rel.alloc (R : Rel K f σ H ρ pd) : ∀ b ∈ Sx f ρ, H b ≠ none := by
  intro b hb
  unfold Sx at hb
  rcases List.mem_append.mp hb with h | h
  · obtain ⟨h0, nd⟩ := R.hid b h
    cases e : f.H0 b with
    | none => exact absurd e h0
    | some o => rw [R.kp b o nd e]; simp
  · rcases List.mem_append.mp h with h | h
    · exact R.dk0 b h
    · obtain ⟨i, ds, hi⟩ := mem_owns.mp h
      obtain ⟨v, _, s⟩ := R.sl i _ hi
      cases s with
      | own h h0 hd => rw [h]; simp
theorem Rel.fresh (R : Rel K f σ H ρ pd) {p : Addr} (hp : H p = none) : p ∉ Sx f ρ := fun h => R.alloc p h hp
theorem kp_ne {b : Addr} (k : Kp [] H H') (h : H b ≠ none) : H' b ≠ none := by
  cases e : H b with
  | none => exact absurd e h
  | some o => rw [k b o (by simp) e]; simp
theorem ob_kp {S : List Addr} (k : Kp [] H H') : Same (Ob S H) (Ob S H') := fun b o e => Ob.mk (Ob.of e).1 (k b o (by simp) (Ob.of e).2)
theorem ob_kpD {S T : List Addr} (k : Kp T H H') (s : ∀ b ∈ T, b ∈ S) : Same (Ob S H) (Ob S H') := fun b o e => Ob.mk (Ob.of e).1 (k b o (fun z => (Ob.of e).1 (s b z)) (Ob.of e).2)
theorem Slot.keep {S : List Addr} {p : Dv} (h : Slot K f S H v p) (k : Same (Ob S H) (Ob S H')) (ko : ∀ a ds, p = .own a ds → H' a = H a) : Slot K f S H' v p := by
  cases h with
  | dat h => exact .dat (h.same k)
  | deck h => exact .deck h
  | own h h0 hd => exact .own (by rw [ko _ _ rfl]; exact h) h0 (hd.same k)
/-- the heap grows -/
theorem Rel.keep (R : Rel K f σ H ρ pd) (k : Kp [] H H') : Rel K f σ H' ρ pd := by
  refine ⟨R.kp.trans (k.mono (by simp)), fun a c e => (R.dk a c e).keep k (by simp) (by simp), R.dkD, fun b hb => (kp_ne k (R.dk0 b hb)), R.hid, R.sys, R.nod, R.len, fun i p hi => ?_, fun p hp => (R.pend p hp).same (ob_kp k)⟩
  obtain ⟨v, hv, s⟩ := R.sl i p hi
  refine ⟨v, hv, s.keep (ob_kp k) fun a ds e => ?_⟩
  subst e
  cases s with
  | own h h0 hd => rw [h]; exact k a _ (by simp) h
/-- the deck is turned -/
theorem Rel.keepD (R : Rel K f σ H ρ pd) {a c : Addr} (e : f.dk = some (a, c)) (k : Kp [a, c] H H') (h : DeckAt H' a c) : Rel K f σ H' ρ pd := by
  obtain ⟨ha, hc, na, nc⟩ := R.dkD a c e
  have hs : ∀ b ∈ [a, c], b ∈ Sx f ρ := fun b hb => by
    unfold Sx
    refine List.mem_append_right _ (List.mem_append_left _ ?_)
    simp at hb
    rcases hb with z | z
    · rw [z]; exact ha
    · rw [z]; exact hc
  have hD : ∀ b ∈ [a, c], b ∈ f.D := fun b hb => by
    simp at hb
    rcases hb with z | z
    · rw [z]; exact ha
    · rw [z]; exact hc
  obtain ⟨o1, o2, q1, q2, _⟩ := h.some
  refine ⟨R.kp.trans (k.mono hD), fun a' c' e' => ?_, R.dkD, fun b hb => ?_, R.hid, R.sys, R.nod, R.len, fun i p hi => ?_, fun p hp => (R.pend p hp).same (ob_kpD k hs)⟩
  · rw [e] at e'; cases e'; exact h
  · by_cases z : b ∈ [a, c]
    · simp at z
      rcases z with z | z
      · rw [z, q1]; simp
      · rw [z, q2]; simp
    · cases e2 : H b with
      | none => exact absurd e2 (R.dk0 b hb)
      | some o => rw [k b o z e2]; simp
  · obtain ⟨v, hv, s⟩ := R.sl i p hi
    refine ⟨v, hv, s.keep (ob_kpD k hs) fun x ds ee => ?_⟩
    subst ee
    cases s with
    | own h' h0 hd =>
      rw [h']
      refine k x _ (fun z => ?_) h'
      have hx : x ∈ owns ρ := mem_owns.mpr ⟨i, ds, hi⟩
      simp at z
      rcases z with z | z
      · exact na (by rw [← z]; exact hx)
      · exact nc (by rw [← z]; exact hx)
theorem Rel.push (R : Rel K f σ H ρ pd) (h : Dq K (Ob (Sx f ρ) H) v d) : Rel K f σ H ρ ((v, d) :: pd) := ⟨R.kp, R.dk, R.dkD, R.dk0, R.hid, R.sys, R.nod, R.len, R.sl, fun p hp => by
  rcases List.mem_cons.mp hp with e | e
  · subst e; exact h
  · exact R.pend p e⟩
theorem Rel.top (R : Rel K f σ H ρ ((v, d) :: pd)) : Dq K (Ob (Sx f ρ) H) v d := R.pend (v, d) List.mem_cons_self
theorem Rel.pop {p : V × PyData} (R : Rel K f σ H ρ (p :: pd)) : Rel K f σ H ρ pd := ⟨R.kp, R.dk, R.dkD, R.dk0, R.hid, R.sys, R.nod, R.len, R.sl, fun q hq => R.pend q (List.mem_cons_of_mem _ hq)⟩
theorem Rel.inS (R : Rel K f σ H ρ pd) : True := trivial
theorem Rel.sub {pe : List (V × PyData)} (R : Rel K f σ H ρ pd) (h : ∀ p ∈ pe, p ∈ pd) : Rel K f σ H ρ pe := ⟨R.kp, R.dk, R.dkD, R.dk0, R.hid, R.sys, R.nod, R.len, R.sl, fun p hp => R.pend p (h p hp)⟩
end
end Dl

set_option Elab.async false
set_option linter.all false
set_option maxRecDepth 100000
set_option maxHeartbeats 4000000
namespace Dl
open PySem PySem.Spec PyProof.Rows L2 Kt

abbrev TD := Rho → (PyData → Rho → Prop) → Prop
abbrev TDT := Rho → (Bool → Rho → Prop) → Prop
abbrev TDA := Rho → (List PyData → Rho → Prop) → Prop
structure EnD where
  nx : Rho → Prop
  rt : PyData → Prop
  bk : Rho → Prop := fun _ => False
  ct : Rho → Prop := fun _ => False
abbrev TSD := EnD → Rho → Prop

/-! ### lifting -/
section
variable (K : PySem.W.Frag)
def lE (t : TD) : TE := fun σ H Q => ∃ f ρ pd A, Rel K f σ H ρ pd ∧ t ρ A ∧ ∀ d ρ' v H', A d ρ' → Rel K f σ H' ρ' ((v, d) :: pd) → Q v H'
def lT (t : TDT) : TT := fun σ H Q => ∃ f ρ pd A, Rel K f σ H ρ pd ∧ t ρ A ∧ ∀ b ρ' H', A b ρ' → Rel K f σ H' ρ' pd → Q b H'
def lA (t : TDA) : TA := fun σ H Q => ∃ f ρ pd A, Rel K f σ H ρ pd ∧ t ρ A ∧ ∀ es ρ' us H', A es ρ' → us.length = es.length → Rel K f σ H' ρ' (us.zip es ++ pd) → Q us H'
structure LE (f : Fr) (pd : List (V × PyData)) (E : EnD) (D : Ends) : Prop where
  nx : ∀ σ H ρ, E.nx ρ → Rel K f σ H ρ pd → D.nx σ H
  rt : ∀ σ H ρ v d, E.rt d → Rel K f σ H ρ ((v, d) :: pd) → D.rt v H
  bk : ∀ σ H ρ, E.bk ρ → Rel K f σ H ρ pd → D.bk σ H
  ct : ∀ σ H ρ, E.ct ρ → Rel K f σ H ρ pd → D.ct σ H
def lS (t : TSD) : TS := fun D σ H => ∃ f ρ pd E, Rel K f σ H ρ pd ∧ t E ρ ∧ LE K f pd E D
/-- slots but those of ts stay -/
def Tch (ts : List Nat) (σ σ' : Sl) : Prop := σ'.length = σ.length ∧ ∀ j : Nat, j ∉ ts → σ'[j]? = σ[j]?
def lG (ts : List Nat) (g : PyData → Rho → (Rho → Prop) → Prop) : TG := fun v σ H Q => ∃ f d ρ pd A, Rel K f σ H ρ ((v, d) :: pd) ∧ g d ρ A ∧ ∀ σ' H' ρ', A ρ' → Rel K f σ' H' ρ' pd → Tch ts σ σ' → Q σ' H'
def lGs (ts : List Nat) (g : List PyData → Rho → (Rho → Prop) → Prop) : TGs := fun vs σ H Q => ∃ f ds ρ pd A, vs.length = ds.length ∧ Rel K f σ H ρ (vs.zip ds ++ pd) ∧ g ds ρ A ∧ ∀ σ' H' ρ', A ρ' → Rel K f σ' H' ρ' pd → Tch ts σ σ' → Q σ' H'
end
abbrev DE (K : PySem.W.Frag) (X : Cx) (e : Expr) (t : TD) : Prop := PE X e (lE K t)
abbrev DT (K : PySem.W.Frag) (X : Cx) (e : Expr) (t : TDT) : Prop := PT X e (lT K t)
abbrev DW (K : PySem.W.Frag) (X : Cx) (e : Expr) (t : TDT) : Prop := PW X e (lT K t)
abbrev DA (K : PySem.W.Frag) (X : Cx) (es : List Expr) (t : TDA) : Prop := PA X es (lA K t)
abbrev DS (K : PySem.W.Frag) (X : Cx) (s : Stmt) (t : TSD) : Prop := PS X s (lS K t)
abbrev DSs (K : PySem.W.Frag) (X : Cx) (s : List Stmt) (t : TSD) : Prop := PSs X s (lS K t)

section
variable {K : PySem.W.Frag} {f : Fr} {X : Cx} {e a b c : Expr} {es : List Expr} {pos : Pos}
theorem wkE {t t' : TE} (h : PE X e t') (w : ∀ σ H Q, t σ H Q → t' σ H Q) : PE X e t := ⟨fun pins s σ H Q I q => h.run pins s σ H Q I (w _ _ _ q)⟩
theorem wkT {t t' : TT} (h : PT X e t') (w : ∀ σ H Q, t σ H Q → t' σ H Q) : PT X e t := ⟨fun pins s σ H Q I q => h.run pins s σ H Q I (w _ _ _ q)⟩
theorem wkW {t t' : TT} (h : PW X e t') (w : ∀ σ H Q, t σ H Q → t' σ H Q) : PW X e t := ⟨fun wh pins s σ H Q I q => h.run wh pins s σ H Q I (w _ _ _ q)⟩
theorem wkA {t t' : TA} (h : PA X es t') (w : ∀ σ H Q, t σ H Q → t' σ H Q) : PA X es t := ⟨fun p pins s σ H Q I q => h.run p pins s σ H Q I (w _ _ _ q)⟩
theorem wkS {st : Stmt} {t t' : TS} (h : PS X st t') (w : ∀ D σ H, t D σ H → t' D σ H) : PS X st t := ⟨fun pins s σ H D I q => h.run pins s σ H D I (w _ _ _ q)⟩
theorem wkSs {st : List Stmt} {t t' : TS} (h : PSs X st t') (w : ∀ D σ H, t D σ H → t' D σ H) : PSs X st t := ⟨fun pins s σ H D I q => h.run pins s σ H D I (w _ _ _ q)⟩
theorem wkG {g g' : TG} (h : PG X e g') (w : ∀ v σ H Q, g v σ H Q → g' v σ H Q) : PG X e g := ⟨fun pins s σ H v u Q I r q => h.run pins s σ H v u Q I r (w _ _ _ _ q)⟩
theorem wkGs {g g' : TGs} (h : PGs X es g') (w : ∀ v σ H Q, g v σ H Q → g' v σ H Q) : PGs X es g := ⟨fun pins s σ H v u Q I r q => h.run pins s σ H v u Q I r (w _ _ _ _ q)⟩

/-! ### names, constants -/
def dv (i : Nat) : TD := fun ρ Q => match ρ[i]? with
  | some (some (.dat d)) => Q d ρ
  | _ => False
theorem de_var {i : Nat} {x : Str} (hN : X.N[i]? = some x) (hv : Vis X.env.scope x) (hd : (x == ("__debug__" : Str)) = false := by decide) (hcd : (x == ("__classdict__" : Str)) = false := by decide) : DE K X (.Name x pos) (dv i) := by
  refine wkE (pe_var hN hv hd hcd) fun σ H Q h => ?_
  obtain ⟨f, ρ, pd, A, R, t, k⟩ := h
  unfold dv at t
  split at t
  · rename_i d hd
    obtain ⟨v, hv, s⟩ := R.sl i _ hd
    cases s with
    | dat h => exact ⟨v, hv, k d ρ v H t (R.push h)⟩
  · exact t.elim
def dc (d : PyData) : TD := fun ρ Q => Q d ρ
theorem de_int {i : Int} {j} : DE K X (.Constant (.int i) j pos) (dc (.int i)) := wkE pe_int fun σ H Q ⟨f, ρ, pd, A, R, t, k⟩ => k _ ρ _ H t (R.push (.int i))
theorem de_bl {i : Bool} {j} : DE K X (.Constant (.bool i) j pos) (dc (.bool i)) := wkE pe_bl fun σ H Q ⟨f, ρ, pd, A, R, t, k⟩ => k _ ρ _ H t (R.push (.bl i))
theorem de_non {j} : DE K X (.Constant .none j pos) (dc .none) := wkE pe_non fun σ H Q ⟨f, ρ, pd, A, R, t, k⟩ => k _ ρ _ H t (R.push .non)
theorem de_str {x : Str} {j} : DE K X (.Constant (.str x) j pos) (dc (.str x)) := wkE pe_str fun σ H Q ⟨f, ρ, pd, A, R, t, k⟩ => k _ ρ _ H t (R.push (.str x))
/-- a module's constant -/
theorem de_glob {x : Str} {v : V} {u : Value} {d : PyData} (hg : Gl X x) (hm : X.mg x = some u) (r : RelV v u) (hv : ∀ H, Dq K H v d) (hd : (x == ("__debug__" : Str)) = false := by decide) : DE K X (.Name x pos) (dc d) :=
  wkE (pe_glob hg hm r hd) fun σ H Q ⟨f, ρ, pd, A, R, t, k⟩ => k _ ρ _ H t (R.push (hv _))

/-! ### operations -/
/-- a two-place operation, by data -/
abbrev RD2 := PyData → PyData → (PyData → Prop) → Prop
abbrev RB2 := PyData → PyData → (Bool → Prop) → Prop
abbrev RDn := List PyData → (PyData → Prop) → Prop
def OpD2 (K : PySem.W.Frag) (rh : R2) (r : RD2) : Prop := ∀ S H x y d e A Q, (∀ b ∈ S, H b ≠ none) → True → Dq K (Ob S H) x d → Dq K (Ob S H) y e → r d e A → (∀ z v H', A z → Kp [] H H' → Dq K (Ob S H') v z → Q v H') → rh x y H Q
def OpB2 (K : PySem.W.Frag) (rh : R2) (r : RB2) : Prop := ∀ S H x y d e A Q, (∀ b ∈ S, H b ≠ none) → True → Dq K (Ob S H) x d → Dq K (Ob S H) y e → r d e A → (∀ b, A b → Q (.bl b) H) → rh x y H Q
def OpDn (K : PySem.W.Frag) (rh : List V → Hp → VK → Prop) (r : RDn) : Prop := ∀ S H xs ds A Q, (∀ b ∈ S, H b ≠ none) → True → DqAll K (Ob S H) xs ds → r ds A → (∀ z v H', A z → Kp [] H H' → Dq K (Ob S H') v z → Q v H') → rh xs H Q
def dOp (r : RD2) (ta tb : TD) : TD := fun ρ Q => ta ρ fun d ρ1 => tb ρ1 fun e ρ2 => r d e fun z => Q z ρ2
theorem lift2 {rh : R2} {r : RD2} (hr : OpD2 K rh r) {ta tb : TD} {σ : Sl} {H : Hp} {Q : VK} (h : lE K (dOp r ta tb) σ H Q) : lE K ta σ H fun x H1 => lE K tb σ H1 fun y H2 => rh x y H2 Q := by
  obtain ⟨f, ρ, pd, A, R, t, k⟩ := h
  refine ⟨f, ρ, pd, fun d ρ1 => tb ρ1 fun e ρ2 => r d e fun z => A z ρ2, R, t, fun d ρ1 x H1 q R1 => ⟨f, ρ1, (x, d) :: pd, fun e ρ2 => r d e fun z => A z ρ2, R1, q, fun e ρ2 y H2 q2 R2 => ?_⟩⟩
  exact hr (Sx f ρ2) H2 x y d e _ Q R2.alloc R2.inS R2.pop.top R2.top q2 fun z v H' az k' dz => k z ρ2 v H' az ((R2.pop.pop.keep k').push dz)
theorem de_op {op : Operator} {rh : R2} {r : RD2} {ta tb : TD} (ho : OpR X (binaryOp op) rh) (hr : OpD2 K rh r) (ha : DE K X a ta) (hb : DE K X b tb) : DE K X (.BinOp a op b pos) (dOp r ta tb) :=
  wkE (pe_op ho ha hb) fun σ H Q h => lift2 hr h
theorem de_ix {rh : R2} {r : RD2} {ta tb : TD} (ho : IxR X rh) (hr : OpD2 K rh r) (ha : DE K X a ta) (hb : DE K X b tb) (hs : PlainIx b := by exact fun _ _ => rfl) : DE K X (.Subscript a b pos) (dOp r ta tb) :=
  wkE (pe_ix ho ha hb hs) fun σ H Q h => lift2 hr h
def dCmp (r : RB2) (ta tb : TD) : TD := fun ρ Q => ta ρ fun d ρ1 => tb ρ1 fun e ρ2 => r d e fun z => Q (.bool z) ρ2
def dCmpT (r : RB2) (ta tb : TD) : TDT := fun ρ Q => ta ρ fun d ρ1 => tb ρ1 fun e ρ2 => r d e fun z => Q z ρ2
theorem de_cmp {op : CmpOp} {rh : R2} {r : RB2} {ta tb : TD} (ho : OpR X (compareOp op) rh) (hr : OpB2 K rh r) (ha : DE K X a ta) (hb : DE K X b tb) (hm : behindInMarks op b = false) : DE K X (.Compare a [op] [b] pos) (dCmp r ta tb) := by
  refine wkE (pe_cmpR ho ha hb hm) fun σ H Q h => ?_
  obtain ⟨f, ρ, pd, A, R, t, k⟩ := h
  refine ⟨f, ρ, pd, fun d ρ1 => tb ρ1 fun e ρ2 => r d e fun z => A (.bool z) ρ2, R, t, fun d ρ1 x H1 q R1 => ⟨f, ρ1, (x, d) :: pd, fun e ρ2 => r d e fun z => A (.bool z) ρ2, R1, q, fun e ρ2 y H2 q2 R2 => ?_⟩⟩
  exact hr (Sx f ρ2) H2 x y d e _ Q R2.alloc R2.inS R2.pop.top R2.top q2 fun z az => k _ ρ2 _ H2 az (R2.pop.pop.push (.bl z))
theorem dt_cmp {op : CmpOp} {rh : R2} {r : RB2} {ta tb : TD} (ho : OpR X (compareOp op) rh) (hr : OpB2 K rh r) (ha : DE K X a ta) (hb : DE K X b tb) (hm : behindInMarks op b = false) : DT K X (.Compare a [op] [b] pos) (dCmpT r ta tb) := by
  refine wkT (pt_cmpR ho ha hb hm) fun σ H Q h => ?_
  obtain ⟨f, ρ, pd, A, R, t, k⟩ := h
  refine ⟨f, ρ, pd, fun d ρ1 => tb ρ1 fun e ρ2 => r d e fun z => A z ρ2, R, t, fun d ρ1 x H1 q R1 => ⟨f, ρ1, (x, d) :: pd, fun e ρ2 => r d e fun z => A z ρ2, R1, q, fun e ρ2 y H2 q2 R2 => ?_⟩⟩
  exact hr (Sx f ρ2) H2 x y d e _ _ R2.alloc R2.inS R2.pop.top R2.top q2 fun z az => ⟨z, rfl, k _ ρ2 H2 az R2.pop.pop⟩

/-! ### tests -/
def dB (t : TD) : TDT := fun ρ Q => t ρ fun d ρ1 => match d with
  | .bool b => Q b ρ1
  | _ => False
theorem dt_val {t : TD} (h : DE K X e t) (he : ∀ whole, isTrue e X.env whole = (do let v ← whole; standAt e.pos; holding [v] (truthy v)) := by intro _; rfl) : DT K X e (dB t) := by
  refine wkT (pt_val h he) fun σ H Q h => ?_
  obtain ⟨f, ρ, pd, A, R, t, k⟩ := h
  refine ⟨f, ρ, pd, _, R, t, fun d ρ1 x H1 q R1 => ?_⟩
  cases d with
  | bool b =>
    have := R1.top.inv_bool
    exact ⟨b, this, k b ρ1 H1 q R1.pop⟩
  | _ => exact q.elim
def dAnd (t u : TDT) : TDT := fun ρ Q => t ρ fun b ρ1 => match b with
  | true => u ρ1 Q
  | false => Q false ρ1
def dOr (t u : TDT) : TDT := fun ρ Q => t ρ fun b ρ1 => match b with
  | true => Q true ρ1
  | false => u ρ1 Q
def dNot (t : TDT) : TDT := fun ρ Q => t ρ fun b ρ1 => Q (!b) ρ1
variable {tA tB : TDT} {ta tb : TD} {rest : List Expr}
theorem dw_and1 (ha : DT K X a tA) : DW K X (.BoolOp .And [a] pos) tA := pw_and1 ha
theorem dw_or1 (ha : DT K X a tA) : DW K X (.BoolOp .Or [a] pos) tA := pw_or1 ha
theorem dw_and (ha : DT K X a tA) (hb : DW K X (.BoolOp .And (b :: rest) pos) tB) : DW K X (.BoolOp .And (a :: b :: rest) pos) (dAnd tA tB) := by
  refine wkW (pw_and ha hb) fun σ H Q h => ?_
  obtain ⟨f, ρ, pd, A, R, t, k⟩ := h
  refine ⟨f, ρ, pd, _, R, t, fun d ρ1 H1 q R1 => ?_⟩
  cases d with
  | true => exact ⟨f, ρ1, pd, A, R1, q, k⟩
  | false => exact k false ρ1 H1 q R1
theorem dw_or (ha : DT K X a tA) (hb : DW K X (.BoolOp .Or (b :: rest) pos) tB) : DW K X (.BoolOp .Or (a :: b :: rest) pos) (dOr tA tB) := by
  refine wkW (pw_or ha hb) fun σ H Q h => ?_
  obtain ⟨f, ρ, pd, A, R, t, k⟩ := h
  refine ⟨f, ρ, pd, _, R, t, fun d ρ1 H1 q R1 => ?_⟩
  cases d with
  | true => exact k true ρ1 H1 q R1
  | false => exact ⟨f, ρ1, pd, A, R1, q, k⟩
theorem dt_not (ha : DT K X a tA) : DT K X (.UnaryOp .Not a pos) (dNot tA) := by
  refine wkT (pt_not ha) fun σ H Q h => ?_
  obtain ⟨f, ρ, pd, A, R, t, k⟩ := h
  exact ⟨f, ρ, pd, _, R, t, fun b ρ1 H1 q R1 => k _ ρ1 H1 q R1⟩
/-- .. as values -/
def dAndV (t u : TD) : TD := fun ρ Q => t ρ fun d ρ1 => match d with
  | .bool true => u ρ1 Q
  | .bool false => Q (.bool false) ρ1
  | _ => False
def dOrV (t u : TD) : TD := fun ρ Q => t ρ fun d ρ1 => match d with
  | .bool false => u ρ1 Q
  | .bool true => Q (.bool true) ρ1
  | _ => False
def dNotV (t : TD) : TD := fun ρ Q => t ρ fun d ρ1 => match d with
  | .bool b => Q (.bool (!b)) ρ1
  | _ => False
theorem de_one {op} (ha : DE K X a ta) : DE K X (.BoolOp op [a] pos) ta := pe_one ha
theorem de_and (ha : DE K X a ta) (hb : DE K X (.BoolOp .And (b :: rest) pos) tb) : DE K X (.BoolOp .And (a :: b :: rest) pos) (dAndV ta tb) := by
  refine wkE (pe_and ha hb) fun σ H Q h => ?_
  obtain ⟨f, ρ, pd, A, R, t, k⟩ := h
  refine ⟨f, ρ, pd, _, R, t, fun d ρ1 x H1 q R1 => ?_⟩
  cases d with
  | bool b =>
    refine ⟨b, R1.top.inv_bool, ?_⟩
    cases b with
    | true => exact ⟨f, ρ1, pd, A, R1.pop, q, k⟩
    | false => exact k _ ρ1 _ H1 q (R1.pop.push (.bl false))
  | _ => exact q.elim
theorem de_or (ha : DE K X a ta) (hb : DE K X (.BoolOp .Or (b :: rest) pos) tb) : DE K X (.BoolOp .Or (a :: b :: rest) pos) (dOrV ta tb) := by
  refine wkE (pe_or ha hb) fun σ H Q h => ?_
  obtain ⟨f, ρ, pd, A, R, t, k⟩ := h
  refine ⟨f, ρ, pd, _, R, t, fun d ρ1 x H1 q R1 => ?_⟩
  cases d with
  | bool b =>
    refine ⟨b, R1.top.inv_bool, ?_⟩
    cases b with
    | false => exact ⟨f, ρ1, pd, A, R1.pop, q, k⟩
    | true => exact k _ ρ1 _ H1 q (R1.pop.push (.bl true))
  | _ => exact q.elim
theorem de_not (ha : DE K X a ta) : DE K X (.UnaryOp .Not a pos) (dNotV ta) := by
  refine wkE (pe_not ha) fun σ H Q h => ?_
  obtain ⟨f, ρ, pd, A, R, t, k⟩ := h
  refine ⟨f, ρ, pd, _, R, t, fun d ρ1 x H1 q R1 => ?_⟩
  cases d with
  | bool b => exact ⟨b, R1.top.inv_bool, k _ ρ1 _ H1 q (R1.pop.push (.bl _))⟩
  | _ => exact q.elim
def dIf (t : TDT) (ta tb : TD) : TD := fun ρ Q => t ρ fun b ρ1 => match b with
  | true => ta ρ1 Q
  | false => tb ρ1 Q
theorem de_ifExp (hc : DT K X c tA) (ha : DE K X a ta) (hb : DE K X b tb) : DE K X (.IfExp c a b pos) (dIf tA ta tb) := by
  refine wkE (pe_ifExp hc ha hb) fun σ H Q h => ?_
  obtain ⟨f, ρ, pd, A, R, t, k⟩ := h
  refine ⟨f, ρ, pd, _, R, t, fun d ρ1 H1 q R1 => ?_⟩
  cases d with
  | true => exact ⟨f, ρ1, pd, A, R1, q, k⟩
  | false => exact ⟨f, ρ1, pd, A, R1, q, k⟩

/-! ### argument lists, displays -/
def aNil : TDA := fun ρ Q => Q [] ρ
def aCons (t : TD) (u : TDA) : TDA := fun ρ Q => t ρ fun d ρ1 => u ρ1 fun ds ρ2 => Q (d :: ds) ρ2
def aStar (t : TD) (u : TDA) : TDA := fun ρ Q => t ρ fun d ρ1 => match d with
  | .list ds => u ρ1 fun es ρ2 => Q (ds ++ es) ρ2
  | .tuple ds => u ρ1 fun es ρ2 => Q (ds ++ es) ρ2
  | _ => False
theorem da_nil : DA K X [] aNil := wkA pa_nil fun σ H Q ⟨f, ρ, pd, A, R, t, k⟩ => k [] ρ [] H t rfl R
theorem da_cons {u : TDA} (ha : DE K X e ta) (hr : DA K X es u) (hs : starEach (e :: es) X.env = (false, eval e X.env) :: starEach es X.env := by rfl) : DA K X (e :: es) (aCons ta u) := by
  refine wkA (pa_cons ha hr hs) fun σ H Q h => ?_
  obtain ⟨f, ρ, pd, A, R, t, k⟩ := h
  refine ⟨f, ρ, pd, fun d ρ1 => u ρ1 fun ds ρ2 => A (d :: ds) ρ2, R, t, fun d ρ1 x H1 q R1 => ⟨f, ρ1, (x, d) :: pd, _, R1, q, fun ds ρ2 us H2 q2 hl R2 => ?_⟩⟩
  refine k (d :: ds) ρ2 (x :: us) H2 q2 (by simp [hl]) (R2.sub fun p hp => ?_)
  simp at hp ⊢
  rcases hp with h | h | h
  · exact .inr (.inl h)
  · exact .inl h
  · exact .inr (.inr h)
theorem Rel.all {σ : Sl} {H : Hp} {ρ : Rho} {pd : List (V × PyData)} {us : List V} {es : List PyData} (R : Rel K f σ H ρ (us.zip es ++ pd)) (hl : us.length = es.length) : DqAll K (Ob (Sx f ρ) H) us es := ⟨hl, fun i x d hx hd => R.pend (x, d) (List.mem_append_left _ (by
  refine List.mem_iff_getElem?.mpr ⟨i, ?_⟩
  rw [List.getElem?_zip_eq_some]
  exact ⟨hx, hd⟩))⟩
theorem Rel.popAll {σ : Sl} {H : Hp} {ρ : Rho} {pd pe : List (V × PyData)} (R : Rel K f σ H ρ (pe ++ pd)) : Rel K f σ H ρ pd := R.sub fun p hp => List.mem_append_right _ hp
theorem Rel.pushAll {σ : Sl} {H : Hp} {ρ : Rho} {pd : List (V × PyData)} {us : List V} {es : List PyData} (R : Rel K f σ H ρ pd) (h : DqAll K (Ob (Sx f ρ) H) us es) : Rel K f σ H ρ (us.zip es ++ pd) :=
  ⟨R.kp, R.dk, R.dkD, R.dk0, R.hid, R.sys, R.nod, R.len, R.sl, fun p hp => by
    rcases List.mem_append.mp hp with hp | hp
    · obtain ⟨i, hi⟩ := List.mem_iff_getElem?.mp hp
      obtain ⟨x, d⟩ := p
      rw [List.getElem?_zip_eq_some] at hi
      exact h.2 i x d hi.1 hi.2
    · exact R.pend p hp⟩
theorem da_star {u : TDA} {p : Pos} (hK : X.K = K) (ha : DE K X e ta) (hr : DA K X es u) (hs : starEach (.Starred e p :: es) X.env = (true, eval e X.env) :: starEach es X.env := by rfl) : DA K X (.Starred e p :: es) (aStar ta u) := by
  subst hK
  refine wkA (StX.pa_star ha hr hs) fun σ H Q h => ?_
  obtain ⟨f, ρ, pd, A, R, t, k⟩ := h
  refine ⟨f, ρ, pd, _, R, t, fun d ρ1 x H1 q R1 => ?_⟩
  cases d with
  | list ds =>
    obtain ⟨a, xs, rfl, h, g⟩ := R1.top.inv_list
    refine ⟨a, xs, rfl, .inr (SqL.of (Ob.of h).2), f, ρ1, xs.zip ds ++ pd, _, R1.pop.pushAll g, q, fun es ρ2 us H2 q2 hl R2 => k (ds ++ es) ρ2 (xs ++ us) H2 q2 (by simp [hl, g.1]) ?_⟩
    refine R2.sub fun p hp => ?_
    rw [List.zip_append g.1] at hp
    simp at hp ⊢
    rcases hp with h | h | h
    · exact .inr (.inl h)
    · exact .inl h
    · exact .inr (.inr h)
  | tuple ds =>
    obtain ⟨a, xs, rfl, h, g⟩ := R1.top.inv_tup
    refine ⟨a, xs, rfl, .inl (SqT.of (Ob.of h).2), f, ρ1, xs.zip ds ++ pd, _, R1.pop.pushAll g, q, fun es ρ2 us H2 q2 hl R2 => k (ds ++ es) ρ2 (xs ++ us) H2 q2 (by simp [hl, g.1]) ?_⟩
    refine R2.sub fun p hp => ?_
    rw [List.zip_append g.1] at hp
    simp at hp ⊢
    rcases hp with h | h | h
    · exact .inr (.inl h)
    · exact .inl h
    · exact .inr (.inr h)
  | _ => exact q.elim
/-- what is new stands at a place that data may read -/
theorem ob_new {S : List Addr} {H : Hp} {p : Addr} {o : HO} (hp : H p = none) (hS : ∀ b ∈ S, H b ≠ none) : Ob S (upd H p o) p = some o := Ob.mk (fun z => hS p z hp) upd_same
theorem DqAll.new {S : List Addr} {H : Hp} {p : Addr} {o : HO} {xs : List V} {ds : List PyData} (h : DqAll K (Ob S H) xs ds) (hp : H p = none) : DqAll K (Ob S (upd H p o)) xs ds := h.same (ob_kp (Kp.new hp))
abbrev SZ : Nat := 100000
theorem szl {n : Nat} (h : n ≤ SZ) : n ≤ sizeLine := Nat.le_trans h (by decide)
def dLst (t : TDA) : TD := fun ρ Q => t ρ fun ds ρ1 => ds.length ≤ SZ ∧ Q (.list ds) ρ1
def dTup (t : TDA) : TD := fun ρ Q => t ρ fun ds ρ1 => ds.length ≤ SZ ∧ Q (.tuple ds) ρ1
theorem de_lst {u : TDA} (h : DA K X es u) : DE K X (.List es pos) (dLst u) := by
  refine wkE (pe_lst h) fun σ H Q h => ?_
  obtain ⟨f, ρ, pd, A, R, t, k⟩ := h
  refine ⟨f, ρ, pd, _, R, t, fun ds ρ1 us H1 q hl R1 => ⟨szl (by rw [hl]; exact q.1), fun p hp => k _ ρ1 _ _ q.2 ?_⟩⟩
  exact (R1.popAll.keep (Kp.new hp)).push (.lstA (ob_new hp R1.alloc) ((R1.all hl).new hp))
theorem de_tup {u : TDA} {x1} (h : DA K X es u) : DE K X (.Tuple es x1 pos) (dTup u) := by
  refine wkE (pe_tup h) fun σ H Q h => ?_
  obtain ⟨f, ρ, pd, A, R, t, k⟩ := h
  refine ⟨f, ρ, pd, _, R, t, fun ds ρ1 us H1 q hl R1 => ⟨szl (by rw [hl]; exact q.1), fun p hp => k _ ρ1 _ _ q.2 ?_⟩⟩
  exact (R1.popAll.keep (Kp.new hp)).push (.tupA (ob_new hp R1.alloc) ((R1.all hl).new hp))
end
end Dl

set_option Elab.async false
set_option linter.all false
set_option maxRecDepth 100000
set_option maxHeartbeats 4000000
namespace Dl
open PySem PySem.Spec PyProof.Rows L2 Kt

/-! ### statements -/
section
variable {K : PySem.W.Frag} {f : Fr} {X : Cx} {e a b c : Expr} {es : List Expr} {pos : Pos} {st : Stmt} {rest : List Stmt} {t u : TSD} {te : TD} {tc : TDT} {σ : Sl} {H H' : Hp} {ρ : Rho} {pd : List (V × PyData)} {v : V} {d : PyData}
def sNext : TSD := fun E ρ => E.nx ρ
def sSeq (t u : TSD) : TSD := fun E ρ => t { E with nx := u E } ρ
/-- what is so behind the first one is told -/
def sCut (t u : TSD) : TSD := fun E ρ => ∃ P : Rho → Prop, t { E with nx := P } ρ ∧ ∀ ρ', P ρ' → u E ρ'
theorem dss_nil : DSs K X [] sNext := wkSs pss_nil fun D σ H ⟨f, ρ, pd, E, R, t, L⟩ => L.nx _ _ _ t R
theorem dss_one (h1 : DS K X st t) : DSs K X [st] t := pss_one h1
theorem dss_cons (h1 : DS K X st t) (h2 : DSs K X rest u) : DSs K X (st :: rest) (sSeq t u) := by
  refine wkSs (pss_cons h1 h2) fun D σ H h => ?_
  obtain ⟨f, ρ, pd, E, R, t, L⟩ := h
  exact ⟨f, ρ, pd, _, R, t, ⟨fun σ H ρ q R => ⟨f, ρ, pd, E, R, q, L⟩, L.rt, L.bk, L.ct⟩⟩
theorem dss_cut (h1 : DS K X st t) (h2 : DSs K X rest u) : DSs K X (st :: rest) (sCut t u) := by
  refine wkSs (pss_cons h1 h2) fun D σ H h => ?_
  obtain ⟨f, ρ, pd, E, R, ⟨P, t, q⟩, L⟩ := h
  exact ⟨f, ρ, pd, { E with nx := P }, R, t, ⟨fun σ H ρ p R => ⟨f, ρ, pd, E, R, q ρ p, L⟩, L.rt, L.bk, L.ct⟩⟩
def sBreak : TSD := fun E ρ => E.bk ρ
def sCont : TSD := fun E ρ => E.ct ρ
theorem ds_pass : DS K X (.Pass pos) sNext := wkS ps_pass fun D σ H ⟨f, ρ, pd, E, R, t, L⟩ => L.nx _ _ _ t R
theorem ds_break : DS K X (.Break pos) sBreak := wkS ps_break fun D σ H ⟨f, ρ, pd, E, R, t, L⟩ => L.bk _ _ _ t R
theorem ds_cont : DS K X (.Continue pos) sCont := wkS ps_continue fun D σ H ⟨f, ρ, pd, E, R, t, L⟩ => L.ct _ _ _ t R
def sRet (te : TD) : TSD := fun E ρ => te ρ fun d _ => E.rt d
theorem ds_ret (he : DE K X e te) : DS K X (.Return (some e) pos) (sRet te) := by
  refine wkS (ps_ret he) fun D σ H h => ?_
  obtain ⟨f, ρ, pd, E, R, t, L⟩ := h
  exact ⟨f, ρ, pd, _, R, t, fun d ρ' v H' q R' => L.rt _ _ _ _ _ q R'⟩
def sIf (c : TDT) (t u : TSD) : TSD := fun E ρ => c ρ fun b ρ1 => match b with
  | true => t E ρ1
  | false => u E ρ1
theorem ds_if {a b : List Stmt} (hc : DT K X c tc) (ha : DSs K X a t) (hb : DSs K X b u) : DS K X (.If c a b pos) (sIf tc t u) := by
  refine wkS (ps_if hc ha hb) fun D σ H h => ?_
  obtain ⟨f, ρ, pd, E, R, t, L⟩ := h
  refine ⟨f, ρ, pd, _, R, t, fun b ρ1 H1 q R1 => ?_⟩
  cases b with
  | true => exact ⟨f, ρ1, pd, E, R1, q, L⟩
  | false => exact ⟨f, ρ1, pd, E, R1, q, L⟩
def sDrop (te : TD) : TSD := fun E ρ => te ρ fun _ ρ1 => E.nx ρ1
theorem ds_expr (he : DE K X e te) (hs : swapsWith e none pos.line X.env = pure false := by rfl) : DS K X (.Expr e pos) (sDrop te) := by
  refine wkS (ps_expr he hs) fun D σ H h => ?_
  obtain ⟨f, ρ, pd, E, R, t, L⟩ := h
  exact ⟨f, ρ, pd, _, R, t, fun d ρ' v H' q R' => L.nx _ _ _ q R'.pop⟩

/-! ### targets -/
/-- a slot that takes data -/
def freeSlot : Option (Option Dv) → Bool
  | some none => true
  | some (some (.dat _)) => true
  | _ => false
theorem owns_set {ρ : Rho} {i : Nat} {d : PyData} (h : freeSlot ρ[i]? = true) : owns (ρ.set i (some (.dat d))) = owns ρ := by
  unfold owns
  induction ρ generalizing i with
  | nil => rfl
  | cons p ρ ih =>
    cases i with
    | zero =>
      cases p with
      | none => rfl
      | some q =>
        cases q with
        | dat _ => rfl
        | deck => simp [freeSlot] at h
        | own _ _ => simp [freeSlot] at h
    | succ i =>
      have := ih (i := i) (by simpa using h)
      simp only [List.set_cons_succ, List.filterMap_cons]
      rw [this]
theorem Rel.set {i : Nat} (R : Rel K f σ H ρ ((v, d) :: pd)) (h : freeSlot ρ[i]? = true) : Rel K f (σ.set i (some v)) H (ρ.set i (some (.dat d))) pd := by
  have e := owns_set (d := d) h
  have eS : Sx f (ρ.set i (some (.dat d))) = Sx f ρ := by unfold Sx; rw [e]
  refine ⟨R.kp, R.dk, fun a c q => by rw [e]; exact R.dkD a c q, R.dk0, R.hid, R.sys, by rw [e]; exact R.nod, by rw [List.length_set, List.length_set]; exact R.len, fun j p hp => ?_, fun p hp => by rw [eS]; exact R.pop.pend p hp⟩
  have hi : i < ρ.length := by
    cases q : ρ[i]? with
    | none => rw [q] at h; cases h
    | some _ => exact (List.getElem?_eq_some_iff.mp q).1
  by_cases z : i = j
  · subst z
    rw [List.getElem?_set_self hi] at hp
    cases hp
    exact ⟨v, by rw [List.getElem?_set_self (by rw [R.len]; exact hi)], .dat (by rw [eS]; exact R.top)⟩
  · rw [List.getElem?_set_ne z] at hp
    obtain ⟨w, hw, s⟩ := R.sl j p hp
    exact ⟨w, by rw [List.getElem?_set_ne z]; exact hw, by rw [eS]; exact s⟩
abbrev TGD := PyData → Rho → (Rho → Prop) → Prop
abbrev TGsD := List PyData → Rho → (Rho → Prop) → Prop
abbrev DG (K : PySem.W.Frag) (X : Cx) (e : Expr) (ts : List Nat) (g : TGD) : Prop := PG X e (lG K ts g)
abbrev DGs (K : PySem.W.Frag) (X : Cx) (es : List Expr) (ts : List Nat) (g : TGsD) : Prop := PGs X es (lGs K ts g)
theorem Tch.refl {ts : List Nat} : Tch ts σ σ := ⟨rfl, fun _ _ => rfl⟩
theorem Tch.trans {ts us : List Nat} {σ1 σ2 : Sl} (h : Tch ts σ σ1) (g : Tch us σ1 σ2) : Tch (ts ++ us) σ σ2 := ⟨g.1.trans h.1, fun j hj => by
  rw [List.mem_append] at hj
  rw [g.2 j (fun z => hj (.inr z)), h.2 j (fun z => hj (.inl z))]⟩
theorem Tch.set {i : Nat} {o : Option V} : Tch [i] σ (σ.set i o) := ⟨List.length_set, fun j hj => by
  rw [List.getElem?_set_ne]
  intro z
  exact hj (by simp [z])⟩
def tn (i : Nat) : TGD := fun d ρ Q => match freeSlot ρ[i]? with
  | true => Q (ρ.set i (some (.dat d)))
  | false => False
theorem dg_name {i : Nat} {x : Str} (hN : X.N.Nodup) (hi : X.N[i]? = some x) (hx : Loc X.env.scope x) (hf : X.fn x = true ∨ X.env.scope.names.lookup x = some .local := by first | exact .inl rfl | exact .inr rfl | assumption) : DG K X (.Name x pos) [i] (tn i) := by
  refine wkG (pg_name hN hi hx hf) fun v σ H Q h => ?_
  obtain ⟨f, d, ρ, pd, A, R, g, k⟩ := h
  unfold tn at g
  split at g
  · rename_i q
    exact k _ _ _ g (R.set q) Tch.set
  · exact g.elim
def tsNil : TGsD := fun ds ρ Q => match ds with
  | [] => Q ρ
  | _ => False
def tsCons (g : TGD) (u : TGsD) : TGsD := fun ds ρ Q => match ds with
  | d :: ds => g d ρ fun ρ1 => u ds ρ1 Q
  | [] => False
theorem dgs_nil : DGs K X [] [] tsNil := by
  refine wkGs pgs_nil fun vs σ H Q h => ?_
  obtain ⟨f, ds, ρ, pd, A, hl, R, g, k⟩ := h
  cases ds with
  | nil => exact ⟨List.eq_nil_of_length_eq_zero hl, k _ _ _ g R.popAll Tch.refl⟩
  | cons _ _ => exact g.elim
theorem dgs_cons {g : TGD} {u : TGsD} {t1 t2 : List Nat} (h1 : DG K X e t1 g) (h2 : DGs K X es t2 u) (hs : (assignEach (e :: es) X.env).map (·.2) = assign e X.env :: (assignEach es X.env).map (·.2) := by rfl) : DGs K X (e :: es) (t1 ++ t2) (tsCons g u) := by
  refine wkGs (pgs_cons h1 h2 hs) fun vs σ H Q h => ?_
  obtain ⟨f, ds, ρ, pd, A, hl, R, q, k⟩ := h
  cases ds with
  | nil => exact q.elim
  | cons d ds =>
    cases vs with
    | nil => simp at hl
    | cons v vs =>
      refine ⟨v, vs, rfl, f, d, ρ, vs.zip ds ++ pd, _, R, q, fun σ1 H1 ρ1 q1 R1 c1 => ?_⟩
      exact ⟨f, ds, ρ1, pd, A, by simpa using hl, R1, q1, fun σ2 H2 ρ2 q2 R2 c2 => k σ2 H2 ρ2 q2 R2 (c1.trans c2)⟩
def tTupD (n : Nat) (g : TGsD) : TGD := fun d ρ Q => match d with
  | .tuple ds => ds.length = n ∧ g ds ρ Q
  | _ => False
theorem dg_tup {k : Nat} {g : TGsD} {n : Nat} {ts : List Nat} (hK : X.K = K) (hc : X.calm = true) (h : DGs K X es ts g) (hn : (assignEach es X.env).length = n := by rfl) (hst : (assignEach es X.env).findIdx? (·.1) = none := by rfl) : DG K X (.Tuple es k pos) ts (tTupD n g) := by
  subst hK
  refine wkG (pg_tup hc h hn hst) fun v σ H Q h => ?_
  obtain ⟨f, d, ρ, pd, A, R, q, k⟩ := h
  cases d with
  | tuple ds =>
    obtain ⟨a, xs, rfl, h, g⟩ := R.top.inv_tup
    exact ⟨a, xs, rfl, SqT.of (Ob.of h).2, g.1.trans q.1, f, ds, ρ, pd, A, g.1, R.pop.pushAll g, q.2, k⟩
  | _ => exact q.elim
def sAsg (te : TD) (g : TGD) : TSD := fun E ρ => te ρ fun d ρ1 => g d ρ1 E.nx
theorem lift_asg {te : TD} {g : TGD} {D : Ends} {ts : List Nat} (h : lS K (sAsg te g) D σ H) : lE K te σ H fun x H1 => lG K ts g x σ H1 D.nx := by
  obtain ⟨f, ρ, pd, E, R, t, L⟩ := h
  exact ⟨f, ρ, pd, _, R, t, fun d ρ1 v H1 q R1 => ⟨f, d, ρ1, pd, E.nx, R1, q, fun σ' H' ρ' q' R' _ => L.nx _ _ _ q' R'⟩⟩
theorem ds_asg {tg : Expr} {g : TGD} {ts : List Nat} (he : DE K X e te) (hg : DG K X tg ts g) (hs : swapsWithSole [tg] e pos.line X.env = pure false := by rfl) (hw : swappedStores [tg] e X.env = pure none := by rfl)
    (h1 : (assignEach [tg] X.env).map (·.2) = [assign tg X.env] := by rfl) : DS K X (.Assign [tg] e pos) (sAsg te g) :=
  wkS (ps_asg he hg hs hw h1) fun D σ H h => lift_asg h
theorem tn_lift {i : Nat} {x : V} {Q : Sl → Hp → Prop} (h : lG K [i] (tn i) x σ H Q) : gName i x σ H Q := by
  obtain ⟨f, d, ρ, pd, A, R, g, k⟩ := h
  unfold tn at g
  split at g
  · rename_i q
    exact k _ _ _ g (R.set q) Tch.set
  · exact g.elim
theorem lE_mono {t : TD} {Q Q' : VK} (h : lE K t σ H Q) (w : ∀ v H, Q v H → Q' v H) : lE K t σ H Q' := by
  obtain ⟨f, ρ, pd, A, R, t, k⟩ := h
  exact ⟨f, ρ, pd, A, R, t, fun d ρ' v H' q R' => w _ _ (k d ρ' v H' q R')⟩
theorem ds_set {i : Nat} {x : Str} {pos' : Pos} (hN : X.N.Nodup) (hi : X.N[i]? = some x) (hx : Loc X.env.scope x) (he : DE K X e te) (hs : swapsWith e (some (.Name x pos')) pos.line X.env = pure false := by rfl) (hf : X.fn x = true ∨ X.env.scope.names.lookup x = some .local := by first | exact .inl rfl | exact .inr rfl | assumption) :
    DS K X (.Assign [.Name x pos'] e pos) (sAsg te (tn i)) :=
  wkS (ps_set hN hi hx he hs hf) fun D σ H h => lE_mono (lift_asg h) fun v H1 q => tn_lift q
/-- a, b = x, y -/
def sPar (i j : Nat) (ta : TDA) : TSD := fun E ρ => ta ρ fun ds ρ1 => match ds with
  | [d, e] => match freeSlot ρ1[i]? && freeSlot ρ1[j]? && !(i == j) with
    | true => E.nx ((ρ1.set i (some (.dat d))).set j (some (.dat e)))
    | false => False
  | _ => False
theorem free_set {i j : Nat} {d : PyData} (h : freeSlot ρ[j]? = true) (hij : i ≠ j) : freeSlot (ρ.set i (some (.dat d)))[j]? = true := by
  rw [List.getElem?_set_ne hij]; exact h
theorem ds_par {i j : Nat} {x y : Str} {ta : TDA} {px py pt : Pos} {kt k2 pt2} (hc : X.calm = true) (hN : X.N.Nodup) (hi : X.N[i]? = some x) (hj : X.N[j]? = some y) (hij : i ≠ j)
    (hx : X.env.scope.names.lookup x = some .local) (hy : X.env.scope.names.lookup y = some .local) (ha : DA K X [a, b] ta)
    (hw : swappedStores [.Tuple [.Name x px, .Name y py] kt pt] (.Tuple [a, b] k2 pt2) X.env = pure (some [x, y]))
    (hs : swapsWithSole [.Tuple [.Name x px, .Name y py] kt pt] (.Tuple [a, b] k2 pt2) pos.line X.env = pure false := by rfl) :
    DS K X (.Assign [.Tuple [.Name x px, .Name y py] kt pt] (.Tuple [a, b] k2 pt2) pos) (sPar i j ta) := by
  refine wkS (ps_par hc hN hi hj hij hx hy ha hw hs) fun D σ H h => ?_
  obtain ⟨f, ρ, pd, E, R, t, L⟩ := h
  refine ⟨f, ρ, pd, _, R, t, fun ds ρ1 vs H1 q hl R1 => ?_⟩
  match ds, vs, hl, q, R1 with
  | [d, e], [v, w], _, q, R1 =>
    refine ⟨v, w, rfl, ?_⟩
    simp only [] at q
    split at q
    · rename_i z
      simp only [Bool.and_eq_true, Bool.not_eq_true'] at z
      have hne : i ≠ j := by simpa using z.2
      have Ra : Rel K f σ H1 ρ1 ((v, d) :: (w, e) :: pd) := R1
      exact L.nx _ _ _ q ((Ra.set z.1.1).set (free_set z.1.2 hne))
    · exact q.elim
  | [], _, _, q, _ => exact q.elim
  | [_], _, _, q, _ => exact q.elim
  | _ :: _ :: _ :: _, _, _, q, _ => exact q.elim

/-! ### what is walked -/
/-- J walks ds, as long as pe stands -/
structure WalkD (K : PySem.W.Frag) (f : Fr) (J : It) (ds : List PyData) (pe : List (V × PyData)) : Prop where
  go : ∀ (f' : Fr) (σ : Sl) (H : Hp) (ρ : Rho) (pd : List (V × PyData)) (i : Nat) (d : PyData), ds[i]? = some d → Rel K f' σ H ρ (pe ++ pd) → J.go i H ∧ ∀ x H', J.yld i H x H' → Rel K f' σ H' ρ ((x, d) :: (pe ++ pd)) ∧ Kp [] H H'
  stop : ∀ (f' : Fr) (σ : Sl) (H : Hp) (ρ : Rho) (pd : List (V × PyData)), Rel K f' σ H ρ (pe ++ pd) → J.stop ds.length H
abbrev TID := Rho → (List PyData → Rho → Prop) → Prop
def lI (K : PySem.W.Frag) (t : TID) : TI := fun σ H R => ∃ f ρ pd A, Rel K f σ H ρ pd ∧ t ρ A ∧ ∀ ds ρ' H' J pe, A ds ρ' → Rel K f σ H' ρ' (pe ++ pd) → WalkD K f J ds pe → R J H'
abbrev DI (K : PySem.W.Frag) (X : Cx) (tg e : Expr) (t : TID) : Prop := PI X tg e (lI K t)
theorem wkI {tg : Expr} {t t' : TI} (h : PI X tg e t') (w : ∀ σ H R, t σ H R → t' σ H R) : PI X tg e t := ⟨fun pins s σ H R I q => h.run pins s σ H R I (w _ _ _ q)⟩
theorem walk_list {a : Addr} {ds : List PyData} : WalkD K f (Itl K a) ds [(.ref a, .list ds)] := by
  refine ⟨fun f' σ H ρ pd i d hd R => ?_, fun f' σ H ρ pd R => ?_⟩
  · obtain ⟨a', xs, e, h, g⟩ := (Rel.top (pd := pd) R).inv_list
    cases e
    obtain ⟨x, hx, q⟩ := g.at hd
    refine ⟨⟨xs, x, SqL.of (Ob.of h).2, hx⟩, fun y H' z => ?_⟩
    obtain ⟨rfl, z⟩ := z
    have := z xs (SqL.of (Ob.of h).2)
    rw [hx] at this
    cases this
    exact ⟨R.push q, Kp.refl⟩
  · obtain ⟨a', xs, e, h, g⟩ := (Rel.top (pd := pd) R).inv_list
    cases e
    exact ⟨xs, SqL.of (Ob.of h).2, Nat.le_of_eq g.1⟩
theorem walk_tup {a : Addr} {ds : List PyData} : WalkD K f (Itt K a) ds [(.ref a, .tuple ds)] := by
  refine ⟨fun f' σ H ρ pd i d hd R => ?_, fun f' σ H ρ pd R => ?_⟩
  · obtain ⟨a', xs, e, h, g⟩ := (Rel.top (pd := pd) R).inv_tup
    cases e
    obtain ⟨x, hx, q⟩ := g.at hd
    refine ⟨⟨xs, x, SqT.of (Ob.of h).2, hx⟩, fun y H' z => ?_⟩
    obtain ⟨rfl, z⟩ := z
    have := z xs (SqT.of (Ob.of h).2)
    rw [hx] at this
    cases this
    exact ⟨R.push q, Kp.refl⟩
  · obtain ⟨a', xs, e, h, g⟩ := (Rel.top (pd := pd) R).inv_tup
    cases e
    exact ⟨xs, SqT.of (Ob.of h).2, Nat.le_of_eq g.1⟩
def rngD (lo : Int) (n : Nat) : List PyData := (List.range n).map fun (i : Nat) => PyData.int (lo + (i : Int))
theorem rngD_at {lo : Int} {n i : Nat} {d : PyData} (h : (rngD lo n)[i]? = some d) : i < n ∧ d = .int (lo + i) := by
  unfold rngD at h
  rw [List.getElem?_map] at h
  cases e : (List.range n)[i]? with
  | none => rw [e] at h; cases h
  | some j =>
    have := List.getElem?_eq_some_iff.mp e
    obtain ⟨h1, h2⟩ := this
    rw [e] at h
    simp at h1 h2 h
    subst h2
    exact ⟨h1, h.symm⟩
theorem walk_range {lo : Int} {n : Nat} : WalkD K f (Itr lo n) (rngD lo n) [] := by
  refine ⟨fun f' σ H ρ pd i d hd R => ?_, fun f' σ H ρ pd R => ?_⟩
  · obtain ⟨hi, rfl⟩ := rngD_at hd
    refine ⟨hi, fun y H' z => ?_⟩
    obtain ⟨rfl, rfl⟩ := z
    exact ⟨R.push (.int _), Kp.refl⟩
  · show n ≤ (rngD lo n).length
    unfold rngD
    simp
/-- each item with its place -/
def enumD (ds : List PyData) : List PyData := (List.range ds.length).zip ds |>.map fun p => PyData.tuple [.int (p.1 : Nat), p.2]
theorem enumD_at {ds : List PyData} {i : Nat} {d : PyData} (h : (enumD ds)[i]? = some d) : ∃ e, ds[i]? = some e ∧ d = .tuple [.int (i : Nat), e] := by
  unfold enumD at h
  rw [List.getElem?_map] at h
  cases q : ((List.range ds.length).zip ds)[i]? with
  | none => rw [q] at h; cases h
  | some p =>
    obtain ⟨j, e⟩ := p
    rw [List.getElem?_zip_eq_some] at q
    obtain ⟨q1, q2⟩ := q
    rw [show ((List.range ds.length).zip ds)[i]? = some (j, e) from by rw [List.getElem?_zip_eq_some]; exact ⟨q1, q2⟩] at h
    have := (List.getElem?_eq_some_iff.mp q1).2
    simp at this h
    subst this
    exact ⟨e, q2, h.symm⟩
theorem enumD_len {ds : List PyData} : (enumD ds).length = ds.length := by unfold enumD; simp
theorem pair_new {S : List Addr} {H : Hp} {T : Addr} {x y : V} {d e : PyData} (hT : H T = none) (hS : ∀ b ∈ S, H b ≠ none) (h1 : Dq K (Ob S H) x d) (h2 : Dq K (Ob S H) y e) : Dq K (Ob S (upd H T (.tup [x, y]))) (.ref T) (.tuple [d, e]) :=
  .tupA (ob_new hT hS) ((DqAll.cons h1 (DqAll.cons h2 DqAll.nil)).new hT)
theorem walk_enumL {a : Addr} {ds : List PyData} : WalkD K f (Ite K a) (enumD ds) [(.ref a, .list ds)] := by
  refine ⟨fun f' σ H ρ pd i d hd R => ?_, fun f' σ H ρ pd R => ?_⟩
  · obtain ⟨e, he, rfl⟩ := enumD_at hd
    obtain ⟨a', xs, ee, h, g⟩ := (Rel.top (pd := pd) R).inv_list
    cases ee
    obtain ⟨x, hx, q⟩ := g.at he
    refine ⟨⟨xs, x, SqL.of (Ob.of h).2, hx⟩, fun y H' z => ?_⟩
    obtain ⟨T, x', rfl, hT, rfl, z⟩ := z
    have := z xs (SqL.of (Ob.of h).2)
    rw [hx] at this
    cases this
    exact ⟨(R.keep (Kp.new hT)).push (pair_new hT R.alloc (.int _) q), Kp.new hT⟩
  · obtain ⟨a', xs, e, h, g⟩ := (Rel.top (pd := pd) R).inv_list
    cases e
    exact ⟨xs, SqL.of (Ob.of h).2, by rw [enumD_len]; exact Nat.le_of_eq g.1⟩
theorem walk_enumTu {a : Addr} {ds : List PyData} : WalkD K f (Iet K a) (enumD ds) [(.ref a, .tuple ds)] := by
  refine ⟨fun f' σ H ρ pd i d hd R => ?_, fun f' σ H ρ pd R => ?_⟩
  · obtain ⟨e, he, rfl⟩ := enumD_at hd
    obtain ⟨a', xs, ee, h, g⟩ := (Rel.top (pd := pd) R).inv_tup
    cases ee
    obtain ⟨x, hx, q⟩ := g.at he
    refine ⟨⟨xs, x, SqT.of (Ob.of h).2, hx⟩, fun y H' z => ?_⟩
    obtain ⟨T, x', rfl, hT, rfl, z⟩ := z
    have := z xs (SqT.of (Ob.of h).2)
    rw [hx] at this
    cases this
    exact ⟨(R.keep (Kp.new hT)).push (pair_new hT R.alloc (.int _) q), Kp.new hT⟩
  · obtain ⟨a', xs, e, h, g⟩ := (Rel.top (pd := pd) R).inv_tup
    cases e
    exact ⟨xs, SqT.of (Ob.of h).2, by rw [enumD_len]; exact Nat.le_of_eq g.1⟩
end
end Dl

set_option Elab.async false
set_option linter.all false
set_option maxRecDepth 100000
set_option maxHeartbeats 4000000
namespace Dl
open PySem PySem.Spec PyProof.Rows L2 Kt

/-! ### walks, lists and tuples alike -/
section
variable {X : Cx} {tg : Expr}
theorem pi_seqH {l : Expr} {tl : TE} (hl : PE X l tl) : PI X tg l (fun σ H R => tl σ H fun x H1 => (∃ a, x = .ref a ∧ (∃ xs, SqL X.K H1 a xs) ∧ R (Itl X.K a) H1) ∨ (∃ a, x = .ref a ∧ (∃ xs, SqT X.K H1 a xs) ∧ R (Itt X.K a) H1)) := by
  refine ⟨fun pins s σ H R I h => ?_⟩
  refine thn (hl.run pins s σ H _ I h) fun v s1 ⟨x, H1, I1, r1, q1⟩ => ?_
  rcases q1 with q1 | q1
  · obtain ⟨a, e, ⟨xs, hq⟩, q⟩ := q1
    subst e
    cases r1
    obtain ⟨its, rv, p, hz⟩ := I1.list hq
    refine wpAny_pyIter_list p.isList ?_
    refine ⟨s1.heap.objs.size, [s1.heap.objs.size], _, _, H1, rfl, I1.kept (t' := s1.toks) fun b o e => Heap.get?_push_of_some _ e, turn_list a _, ⟨_, Heap.get?_push_size _ rfl, rfl, rfl⟩, fun b hb => ?_, q⟩
    have e : b = s1.heap.objs.size := by simpa using hb
    subst e
    exact I1.fpOk (Nat.le_refl _) (I1.hok.fresh (Nat.le_refl _))
  · obtain ⟨a, e, ⟨xs, hq⟩, q⟩ := q1
    subst e
    cases r1
    obtain ⟨its, rv, p, hz⟩ := I1.tuple hq
    refine wpAny_pyIter_tuple (show s1.heap.IsTuple a its.toArray from p) ?_
    refine ⟨s1.heap.objs.size, [s1.heap.objs.size], _, _, H1, rfl, I1.kept (t' := s1.toks) fun b o e => Heap.get?_push_of_some _ e, turn_tuple a _, ⟨_, Heap.get?_push_size _ rfl, rfl, rfl⟩, fun b hb => ?_, q⟩
    have e : b = s1.heap.objs.size := by simpa using hb
    subst e
    exact I1.fpOk (Nat.le_refl _) (I1.hok.fresh (Nat.le_refl _))
theorem pi_enumH {e : Expr} {ta : TA} {p pos tpos : Pos} {elts : List Expr} {kk : Nat} (hg : Gl X "enumerate") (hm : X.mg "enumerate" = none) (ha : PA X [e] ta) (hs : starEach [e] X.env = [(false, eval e X.env)] := by rfl) :
    PI X (.Tuple elts kk tpos) (.Call (.Name "enumerate" p) [e] [] pos) (fun σ H R => ta σ H fun vs H1 => (∃ a xs, vs = [.ref a] ∧ SqL X.K H1 a xs ∧ R (Ite X.K a) H1) ∨ (∃ a xs, vs = [.ref a] ∧ SqT X.K H1 a xs ∧ R (Iet X.K a) H1)) := by
  refine ⟨fun pins s σ H R I h => ?_⟩
  refine Call_ (ld_blt I hg hm boot_enumerate (PyProof.Rows.callWith_type1 (thn (ha.run pos pins s σ H _ I h) fun us s1 ⟨vs, H1, I1, r1, q1⟩ => ?_) hs rfl))
  rcases q1 with q1 | q1
  · obtain ⟨a, xs, ex, hq, q⟩ := q1
    subst ex
    cases r1 with
    | cons r rr =>
      cases rr
      cases r
      obtain ⟨its, rv, p', hz⟩ := I1.list hq
      refine call_enumerate_list p'.isList fun h' he hit hsz hk => wpAny_pyIter_enum he ?_
      have I2 : Inv X pins σ H1 { s1 with heap := h' } := I1.kept (t' := s1.toks) hk
      refine ⟨s1.heap.objs.size + 1, [s1.heap.objs.size + 1, s1.heap.objs.size], _, _, H1, rfl, I2, turn_enum a (s1.heap.objs.size + 1) s1.heap.objs.size, ⟨⟨.none, he⟩, hit, Nat.succ_ne_self _⟩, fun b hb => ?_, q⟩
      have e' : b = s1.heap.objs.size + 1 ∨ b = s1.heap.objs.size := by simpa using hb
      have hle : s1.heap.objs.size ≤ b := by
        rcases e' with z | z
        · rw [z]; exact Nat.le_add_right _ _
        · rw [z]; exact Nat.le_refl _
      exact I1.fpOk hle (I1.hok.fresh hle)
  · obtain ⟨a, xs, ex, hq, q⟩ := q1
    subst ex
    cases r1 with
    | cons r rr =>
      cases rr
      cases r
      obtain ⟨its, rv, p', hz⟩ := I1.tuple hq
      have pT : s1.heap.IsTuple a its.toArray := p'
      have hal : a < s1.heap.objs.size := by obtain ⟨_, q, _⟩ := pT; exact Heap.lt_size q
      refine call_enumerate_tuple pT fun h' he hit hsz hk => wpAny_pyIter_enum he ?_
      have I2 : Inv X pins σ H1 { s1 with heap := h' } := I1.kept (t' := s1.toks) hk
      refine ⟨s1.heap.objs.size + 1, [s1.heap.objs.size + 1, s1.heap.objs.size], _, _, H1, rfl, I2, turn_enumT a (s1.heap.objs.size + 1) s1.heap.objs.size, ⟨⟨.none, he⟩, hit, Nat.succ_ne_self _, Nat.ne_of_lt (Nat.lt_succ_of_lt hal), Nat.ne_of_lt hal⟩, fun b hb => ?_, q⟩
      have e' : b = s1.heap.objs.size + 1 ∨ b = s1.heap.objs.size := by simpa using hb
      have hle : s1.heap.objs.size ≤ b := by
        rcases e' with z | z
        · rw [z]; exact Nat.le_add_right _ _
        · rw [z]; exact Nat.le_refl _
      exact I1.fpOk hle (I1.hok.fresh hle)
end
section
variable {K : PySem.W.Frag} {f : Fr} {X : Cx} {e a b c tg : Expr} {es : List Expr} {pos : Pos} {te : TD} {ta : TDA} {σ : Sl} {H H' : Hp} {ρ : Rho} {pd : List (V × PyData)} {v : V} {d : PyData}
def iSeq (t : TD) : TID := fun ρ Q => t ρ fun d ρ1 => match d with
  | .list ds => Q ds ρ1
  | .tuple ds => Q ds ρ1
  | _ => False
theorem di_seq (hK : X.K = K) (h : DE K X e te) : DI K X tg e (iSeq te) := by
  subst hK
  refine wkI (pi_seqH h) fun σ H R h => ?_
  obtain ⟨f, ρ, pd, A, Rl, t, k⟩ := h
  refine ⟨f, ρ, pd, _, Rl, t, fun d ρ1 x H1 q R1 => ?_⟩
  cases d with
  | list ds =>
    obtain ⟨a, xs, rfl, h, g⟩ := R1.top.inv_list
    exact .inl ⟨a, rfl, ⟨xs, SqL.of (Ob.of h).2⟩, k ds ρ1 H1 _ _ q R1 walk_list⟩
  | tuple ds =>
    obtain ⟨a, xs, rfl, h, g⟩ := R1.top.inv_tup
    exact .inr ⟨a, rfl, ⟨xs, SqT.of (Ob.of h).2⟩, k ds ρ1 H1 _ _ q R1 walk_tup⟩
  | _ => exact q.elim
def iEnumD (t : TD) : TID := fun ρ Q => t ρ fun d ρ1 => match d with
  | .list ds => Q (enumD ds) ρ1
  | .tuple ds => Q (enumD ds) ρ1
  | _ => False
theorem di_enum {p tpos : Pos} {elts : List Expr} {kk : Nat} (hK : X.K = K) (hg : Gl X "enumerate") (hm : X.mg "enumerate" = none) (h : DE K X e te) (hs : starEach [e] X.env = [(false, eval e X.env)] := by rfl) : DI K X (.Tuple elts kk tpos) (.Call (.Name "enumerate" p) [e] [] pos) (iEnumD te) := by
  subst hK
  refine wkI (pi_enumH hg hm (pa_cons h pa_nil hs) hs) fun σ H R h => ?_
  obtain ⟨f, ρ, pd, A, Rl, t, k⟩ := h
  refine ⟨f, ρ, pd, _, Rl, t, fun d ρ1 x H1 q R1 => ?_⟩
  cases d with
  | list ds =>
    obtain ⟨a, xs, rfl, h, g⟩ := R1.top.inv_list
    exact .inl ⟨a, xs, rfl, SqL.of (Ob.of h).2, k _ ρ1 H1 _ _ q R1 walk_enumL⟩
  | tuple ds =>
    obtain ⟨a, xs, rfl, h, g⟩ := R1.top.inv_tup
    exact .inr ⟨a, xs, rfl, SqT.of (Ob.of h).2, k _ ρ1 H1 _ _ q R1 walk_enumTu⟩
  | _ => exact q.elim
def iRng1D (t : TD) : TID := fun ρ Q => t ρ fun d ρ1 => match d with
  | .int j => (-(2 ^ 62) ≤ j ∧ j < 2 ^ 62) ∧ Q (rngD 0 j.toNat) ρ1
  | _ => False
def iRng2D (t u : TD) : TID := fun ρ Q => t ρ fun d ρ1 => u ρ1 fun e ρ2 => match d, e with
  | .int i, .int j => (-(2 ^ 62) ≤ i ∧ i < 2 ^ 62 ∧ -(2 ^ 62) ≤ j ∧ j < 2 ^ 62) ∧ Q (rngD i (j - i).toNat) ρ2
  | _, _ => False
theorem di_range1 {p : Pos} (hg : Gl X "range") (hm : X.mg "range" = none) (h : DE K X a te) (hs : starEach [a] X.env = [(false, eval a X.env)] := by rfl) : DI K X tg (.Call (.Name "range" p) [a] [] pos) (iRng1D te) := by
  refine wkI (pi_range1 hg hm (pa_cons h pa_nil hs) hs) fun σ H R h => ?_
  obtain ⟨f, ρ, pd, A, Rl, t, k⟩ := h
  refine ⟨f, ρ, pd, _, Rl, t, fun d ρ1 x H1 q R1 => ?_⟩
  cases d with
  | int j => exact ⟨j, by rw [R1.top.inv_int], q.1.1, q.1.2, k _ ρ1 H1 _ [] q.2 R1.pop walk_range⟩
  | _ => exact q.elim
theorem di_range2 {p : Pos} {tb : TD} (hg : Gl X "range") (hm : X.mg "range" = none) (h : DE K X a te) (h2 : DE K X b tb) (hs : starEach [a, b] X.env = [(false, eval a X.env), (false, eval b X.env)] := by rfl) (hs2 : starEach [b] X.env = [(false, eval b X.env)] := by rfl) :
    DI K X tg (.Call (.Name "range" p) [a, b] [] pos) (iRng2D te tb) := by
  refine wkI (pi_range2 hg hm (pa_cons h (pa_cons h2 pa_nil hs2) (by rw [hs, hs2])) hs hs2) fun σ H R h => ?_
  obtain ⟨f, ρ, pd, A, Rl, t, k⟩ := h
  refine ⟨f, ρ, pd, _, Rl, t, fun d ρ1 x H1 q R1 => ⟨f, ρ1, _, _, R1, q, fun e ρ2 y H2 q2 R2 => ?_⟩⟩
  cases d with
  | int i =>
    cases e with
    | int j => exact ⟨i, j, by rw [R2.pop.top.inv_int, R2.top.inv_int], q2.1, k _ ρ2 H2 _ [] q2.2 R2.pop.pop walk_range⟩
    | _ => exact q2.elim
  | _ => cases e <;> exact q2.elim

/-! ### for -/
def loopD (g : TGD) (tb : TSD) (E : EnD) : List PyData → Rho → Prop
  | [], ρ => E.nx ρ
  | d :: ds, ρ => g d ρ fun ρ2 => tb { nx := loopD g tb E ds, rt := E.rt, bk := E.nx, ct := loopD g tb E ds } ρ2
def sFor (ti : TID) (g : TGD) (tb : TSD) : TSD := fun E ρ => ti ρ fun ds ρ1 => loopD g tb E ds ρ1
theorem ds_for {iter : Expr} {body : List Stmt} {ti : TID} {g : TGD} {tb : TSD} {ts : List Nat} (hp : PassesOwn (model X.prog X.w) X.A X.env X.xe) (hc : X.calm = true) (hi : DI K X tg iter ti) (hg : DG K X tg ts g) (hb : DSs K X body tb)
    (hs : ∀ x, foldedSetIterable iter X.env x = pure x := by intro _; rfl) : DS K X (.For tg iter body [] pos) (sFor ti g tb) := by
  refine wkS (ps_for hp hc hi hg hb hs) fun D σ H h => ?_
  obtain ⟨f, ρ, pd, E, R, t, L⟩ := h
  refine ⟨f, ρ, pd, _, R, t, fun ds ρ1 H1 J pe q R1 Wd => ?_⟩
  refine ⟨fun i m σ H => m = ds.length - i ∧ i ≤ ds.length ∧ ∃ ρ, Rel K f σ H ρ (pe ++ pd) ∧ loopD g tb E (ds.drop i) ρ, ⟨ds.length, by simp, Nat.zero_le _, ρ1, R1, q⟩, ?_⟩
  rintro i m σ2 H2 ⟨rfl, hi, ρ2, R2, q2⟩
  by_cases hlt : i < ds.length
  · rw [List.drop_eq_getElem_cons hlt] at q2
    obtain ⟨h1, h2⟩ := Wd.go f σ2 H2 ρ2 pd i ds[i] (List.getElem?_eq_getElem hlt) R2
    refine .inr ⟨h1, fun σ' H' => ∃ ρ, Rel K f σ' H' ρ (pe ++ pd) ∧ loopD g tb E (ds.drop (i + 1)) ρ, fun σ' H' p' => ⟨ds.length - (i + 1), by omega, rfl, hlt, p'⟩, fun x H' y => ?_⟩
    obtain ⟨R3, _⟩ := h2 x H' y
    refine ⟨f, ds[i], ρ2, pe ++ pd, _, R3, q2, fun σ4 H4 ρ4 q4 R4 _ => ⟨f, ρ4, pe ++ pd, _, R4, q4, ?_⟩⟩
    refine ⟨fun σ H ρ q R => ⟨ρ, R, q⟩, fun σ H ρ v d q R => L.rt σ H ρ v d q (R.sub fun p hp => ?_), fun σ H ρ q R => L.nx σ H ρ q R.popAll, fun σ H ρ q R => ⟨ρ, R, q⟩⟩
    rcases List.mem_cons.mp hp with z | z
    · rw [z]; exact List.mem_cons_self
    · exact List.mem_cons_of_mem _ (List.mem_append_right _ z)
  · have e : i = ds.length := by omega
    subst e
    rw [List.drop_length] at q2
    exact .inl ⟨Wd.stop f σ2 H2 ρ2 pd R2, L.nx _ _ _ q2 R2.popAll⟩
/-- by an invariant over the turns -/
def sForI (ti : TID) (g : TGD) (tb : TSD) : TSD := fun E ρ => ti ρ fun ds ρ1 => ∃ P : Nat → Rho → Prop, P 0 ρ1 ∧ (∀ i d ρ, ds[i]? = some d → P i ρ → g d ρ fun ρ2 => tb { nx := P (i + 1), rt := E.rt, bk := E.nx, ct := P (i + 1) } ρ2) ∧ ∀ ρ, P ds.length ρ → E.nx ρ
theorem ds_forI {iter : Expr} {body : List Stmt} {ti : TID} {g : TGD} {tb : TSD} {ts : List Nat} (hp : PassesOwn (model X.prog X.w) X.A X.env X.xe) (hc : X.calm = true) (hi : DI K X tg iter ti) (hg : DG K X tg ts g) (hb : DSs K X body tb)
    (hs : ∀ x, foldedSetIterable iter X.env x = pure x := by intro _; rfl) : DS K X (.For tg iter body [] pos) (sForI ti g tb) := by
  refine wkS (ps_for hp hc hi hg hb hs) fun D σ H h => ?_
  obtain ⟨f, ρ, pd, E, R, t, L⟩ := h
  refine ⟨f, ρ, pd, _, R, t, fun ds ρ1 H1 J pe q R1 Wd => ?_⟩
  obtain ⟨P, p0, ps, pe'⟩ := q
  refine ⟨fun i m σ H => m = ds.length - i ∧ i ≤ ds.length ∧ ∃ ρ, Rel K f σ H ρ (pe ++ pd) ∧ P i ρ, ⟨ds.length, by simp, Nat.zero_le _, ρ1, R1, p0⟩, ?_⟩
  rintro i m σ2 H2 ⟨rfl, hi, ρ2, R2, q2⟩
  by_cases hlt : i < ds.length
  · obtain ⟨h1, h2⟩ := Wd.go f σ2 H2 ρ2 pd i ds[i] (List.getElem?_eq_getElem hlt) R2
    refine .inr ⟨h1, fun σ' H' => ∃ ρ, Rel K f σ' H' ρ (pe ++ pd) ∧ P (i + 1) ρ, fun σ' H' p' => ⟨ds.length - (i + 1), by omega, rfl, hlt, p'⟩, fun x H' y => ?_⟩
    obtain ⟨R3, _⟩ := h2 x H' y
    refine ⟨f, ds[i], ρ2, pe ++ pd, _, R3, ps i ds[i] ρ2 (List.getElem?_eq_getElem hlt) q2, fun σ4 H4 ρ4 q4 R4 _ => ⟨f, ρ4, pe ++ pd, _, R4, q4, ?_⟩⟩
    refine ⟨fun σ H ρ q R => ⟨ρ, R, q⟩, fun σ H ρ v d q R => L.rt σ H ρ v d q (R.sub fun p hp => ?_), fun σ H ρ q R => L.nx σ H ρ q R.popAll, fun σ H ρ q R => ⟨ρ, R, q⟩⟩
    rcases List.mem_cons.mp hp with z | z
    · rw [z]; exact List.mem_cons_self
    · exact List.mem_cons_of_mem _ (List.mem_append_right _ z)
  · have e : i = ds.length := by omega
    subst e
    exact .inl ⟨Wd.stop f σ2 H2 ρ2 pd R2, L.nx _ _ _ (pe' ρ2 q2) R2.popAll⟩

/-! ### while -/
def sWhile (tc : TDT) (tb : TSD) : TSD := fun E ρ => ∃ P : Nat → Rho → Prop, (∃ m, P m ρ) ∧ ∀ m ρ, P m ρ → tc ρ fun b ρ1 => match b with
  | true => tb { nx := fun ρ' => ∃ m', m' < m ∧ P m' ρ', rt := E.rt, bk := E.nx, ct := fun ρ' => ∃ m', m' < m ∧ P m' ρ' } ρ1
  | false => E.nx ρ1
theorem ds_while {body : List Stmt} {tc : TDT} {tb : TSD} (hp : PassesOwn (model X.prog X.w) X.A X.env X.xe) (hc : DT K X c tc) (hb : DSs K X body tb) : DS K X (.While c body [] pos) (sWhile tc tb) := by
  refine wkS (ps_while hp hc hb) fun D σ H h => ?_
  obtain ⟨f, ρ, pd, E, R, ⟨P, ⟨m0, p0⟩, ps⟩, L⟩ := h
  refine ⟨fun m σ H => ∃ ρ, Rel K f σ H ρ pd ∧ P m ρ, ⟨m0, ρ, R, p0⟩, ?_⟩
  rintro m σ1 H1 ⟨ρ1, R1, p1⟩
  refine ⟨f, ρ1, pd, _, R1, ps m ρ1 p1, fun b ρ2 H2 q R2 => ?_⟩
  cases b with
  | false => exact L.nx _ _ _ q R2
  | true =>
    refine ⟨fun σ' H' => ∃ ρ', Rel K f σ' H' ρ' pd ∧ ∃ m', m' < m ∧ P m' ρ', fun σ' H' ⟨ρ', R', m', hm, p'⟩ => ⟨m', hm, ρ', R', p'⟩, f, ρ2, pd, _, R2, q, ?_⟩
    exact ⟨fun σ H ρ q R => ⟨ρ, R, q⟩, L.rt, fun σ H ρ q R => L.nx σ H ρ q R, fun σ H ρ q R => ⟨ρ, R, q⟩⟩

/-! ### comprehensions -/
def wipeD (ρ : Rho) : List Nat → Rho
  | [] => ρ
  | v :: vs => (wipeD ρ vs).set v none
def freeAll (ρ : Rho) (vs : List Nat) : Bool := vs.all fun i => match ρ[i]? with
  | some o => freeSlot (some o)
  | none => true
theorem owns_none {i : Nat} {ρ : Rho} (h : ∀ o, ρ[i]? = some o → freeSlot (some o) = true) : owns (ρ.set i none) = owns ρ := by
  unfold owns
  induction ρ generalizing i with
  | nil => rfl
  | cons p ρ ih =>
    cases i with
    | zero =>
      have := h p rfl
      cases p with
      | none => rfl
      | some q =>
        cases q with
        | dat _ => rfl
        | deck => simp [freeSlot] at this
        | own _ _ => simp [freeSlot] at this
    | succ i =>
      have := ih (i := i) (by simpa using h)
      simp only [List.set_cons_succ, List.filterMap_cons]
      rw [this]
theorem wipeD_len : ∀ {vs : List Nat}, (wipeD ρ vs).length = ρ.length
  | [] => rfl
  | v :: vs => by unfold wipeD; rw [List.length_set]; exact wipeD_len
theorem wipeD_get {i : Nat} : ∀ {vs : List Nat}, (wipeD ρ vs)[i]? = if i ∈ vs ∧ i < ρ.length then some none else ρ[i]?
  | [] => by simp [wipeD]
  | v :: vs => by
    unfold wipeD
    rw [List.getElem?_set, wipeD_get, wipeD_len]
    by_cases e : v = i
    · subst e
      by_cases h : v < ρ.length <;> simp [h]
    · rw [if_neg e]
      simp [Ne.symm e]
theorem wipe_get {i : Nat} : ∀ {vs : List Nat}, (wipe σ vs)[i]? = if i ∈ vs ∧ i < σ.length then some none else σ[i]?
  | [] => by simp [wipe]
  | v :: vs => by
    unfold wipe
    rw [List.getElem?_set, wipe_get, wipe_length]
    by_cases e : v = i
    · subst e
      by_cases h : v < σ.length <;> simp [h]
    · rw [if_neg e]
      simp [Ne.symm e]
theorem free_wipe {vs : List Nat} : ∀ {us : List Nat}, freeAll ρ us = true → owns (wipeD ρ us) = owns ρ
  | [], _ => rfl
  | u :: us, h => by
    unfold freeAll at h
    rw [List.all_cons, Bool.and_eq_true] at h
    unfold wipeD
    rw [owns_none, free_wipe (vs := vs) (us := us) h.2]
    intro o ho
    rw [wipeD_get] at ho
    split at ho
    · cases ho; rfl
    · rw [ho] at h; exact h.1
theorem wipe_eq {ts vs : List Nat} {σ σ' : Sl} (h : Tch ts σ σ') (hs : ∀ i ∈ ts, i ∈ vs) : wipe σ' vs = wipe σ vs := by
  refine List.ext_getElem? fun i => ?_
  rw [wipe_get, wipe_get, h.1]
  by_cases e : i ∈ vs
  · by_cases z : i < σ.length
    · rw [if_pos ⟨e, z⟩, if_pos ⟨e, z⟩]
    · rw [if_neg (fun q => z q.2), if_neg (fun q => z q.2), List.getElem?_eq_none (by rw [h.1]; omega), List.getElem?_eq_none (by omega)]
  · rw [if_neg (fun q => e q.1), if_neg (fun q => e q.1)]
    exact h.2 i fun z => e (hs i z)
/-- the block's own slots forgotten -/
theorem Rel.wipe {vs : List Nat} (R : Rel K f σ H ρ pd) (h : freeAll ρ vs = true) : Rel K f (L2.wipe σ vs) H (wipeD ρ vs) pd := by
  have e : owns (wipeD ρ vs) = owns ρ := free_wipe (vs := vs) h
  have eS : Sx f (wipeD ρ vs) = Sx f ρ := by unfold Sx; rw [e]
  refine ⟨R.kp, R.dk, fun a c q => by rw [e]; exact R.dkD a c q, R.dk0, R.hid, R.sys, by rw [e]; exact R.nod, by rw [wipe_length, wipeD_len]; exact R.len, fun i p hp => ?_, fun p hp => by rw [eS]; exact R.pend p hp⟩
  rw [wipeD_get] at hp
  split at hp
  · cases hp
  · rename_i z
    obtain ⟨v, hv, s⟩ := R.sl i p hp
    refine ⟨v, ?_, by rw [eS]; exact s⟩
    rw [wipe_get, if_neg (by rw [R.len]; exact z)]
    exact hv
end
end Dl

set_option Elab.async false
set_option linter.all false
set_option maxRecDepth 100000
set_option maxHeartbeats 4000000
namespace Dl
open PySem PySem.Spec PyProof.Rows L2 Kt
section
variable {K : PySem.W.Frag} {f : Fr} {X : Cx} {e a b c tg : Expr} {es : List Expr} {pos : Pos} {te : TD} {ta : TDA} {σ : Sl} {H H' : Hp} {ρ : Rho} {pd pe : List (V × PyData)} {v : V} {d : PyData}
def slotP : Option V × Option Dv → Option (V × PyData)
  | (some v, some (.dat d)) => some (v, d)
  | _ => none
def slotsP (σ : Sl) (ρ : Rho) : List (V × PyData) := (σ.zip ρ).filterMap slotP
theorem slotsP_at {i : Nat} (h1 : σ[i]? = some (some v)) (h2 : ρ[i]? = some (some (.dat d))) : (v, d) ∈ slotsP σ ρ := by
  unfold slotsP
  refine List.mem_filterMap.mpr ⟨(some v, some (.dat d)), List.mem_iff_getElem?.mpr ⟨i, ?_⟩, rfl⟩
  rw [List.getElem?_zip_eq_some]
  exact ⟨h1, h2⟩
theorem Rel.withSlots (R : Rel K f σ H ρ pd) : Rel K f σ H ρ (slotsP σ ρ ++ pd) := ⟨R.kp, R.dk, R.dkD, R.dk0, R.hid, R.sys, R.nod, R.len, R.sl, fun p hp => by
  rcases List.mem_append.mp hp with hp | hp
  · unfold slotsP at hp
    obtain ⟨⟨o, q⟩, hm, hq⟩ := List.mem_filterMap.mp hp
    obtain ⟨i, hi⟩ := List.mem_iff_getElem?.mp hm
    rw [List.getElem?_zip_eq_some] at hi
    unfold slotP at hq
    split at hq
    · rename_i v d ev
      cases ev
      cases hq
      obtain ⟨w, hw, s⟩ := R.sl i _ hi.2
      rw [hi.1] at hw
      cases hw
      cases s with
      | dat h => exact h
    · cases hq
  · exact R.pend p hp⟩
/-- within a block: all that the frame may change may change, the block's own list is hidden -/
def Fr.in (f : Fr) (ρ : Rho) (D : Addr) (H : Hp) : Fr := { H0 := H, G := D :: f.G, D := f.D ++ owns ρ, dk := f.dk }
theorem Sx_in {D : Addr} {ρ' : Rho} {b : Addr} : b ∈ Sx (f.in ρ D H) ρ' ↔ b = D ∨ b ∈ f.G ∨ b ∈ f.D ∨ b ∈ owns ρ ∨ b ∈ owns ρ' := by
  unfold Sx Fr.in
  simp only [List.mem_append, List.mem_cons, or_assoc]
theorem own_off (R : Rel K f σ H ρ pd) {b : Addr} (hb : b ∈ owns ρ) : f.H0 b = none ∨ b ∈ f.D := by
  obtain ⟨i, ds, hi⟩ := mem_owns.mp hb
  obtain ⟨v, _, s⟩ := R.sl i _ hi
  cases s with
  | own h h0 hd => exact h0
theorem Rel.enter (R : Rel K f σ H ρ pd) {D : Addr} (hD : H D = none) : Rel K (f.in ρ D (upd H D (.lst []))) σ (upd H D (.lst [])) ρ pd := by
  have k : Kp [] H (upd H D (.lst [])) := Kp.new hD
  have al := R.alloc
  have sm : Same (Ob (Sx f ρ) H) (Ob (Sx (f.in ρ D (upd H D (.lst []))) ρ) (upd H D (.lst []))) := fun b o e => by
    obtain ⟨h1, h2⟩ := Ob.of e
    refine Ob.mk (fun z => ?_) (k b o (by simp) h2)
    rw [Sx_in] at z
    unfold Sx at h1
    simp only [List.mem_append] at h1
    rcases z with z | z | z | z | z
    · rw [z, hD] at h2; cases h2
    · exact h1 (.inl z)
    · exact h1 (.inr (.inl z))
    · exact h1 (.inr (.inr z))
    · exact h1 (.inr (.inr z))
  have inS : ∀ b, b ∈ f.G ∨ b ∈ f.D ∨ b ∈ owns ρ → H b ≠ none := fun b z => al b (by unfold Sx; simp only [List.mem_append]; exact z)
  refine ⟨Kp.refl, fun a c q => (R.dk a c q).new hD, fun a c q => ?_, fun b hb => ?_, fun b hb => ?_, trivial, R.nod, R.len, fun i p hp => ?_, fun p hp => (R.pend p hp).same sm⟩
  · obtain ⟨h1, h2, h3, h4⟩ := R.dkD a c q
    exact ⟨List.mem_append_left _ h1, List.mem_append_left _ h2, h3, h4⟩
  · exact kp_ne k (inS b (.inr (List.mem_append.mp hb)))
  · rcases List.mem_cons.mp hb with z | z
    · refine ⟨by show upd H D _ b ≠ none; rw [z, upd_same]; simp, fun w => ?_⟩
      exact inS b (.inr (List.mem_append.mp w)) (by rw [z]; exact hD)
    · refine ⟨kp_ne k (inS b (.inl z)), fun w => ?_⟩
      obtain ⟨g1, g2⟩ := R.hid b z
      rcases List.mem_append.mp w with w | w
      · exact g2 w
      · rcases own_off R w with q | q
        · exact g1 q
        · exact g2 q
  · obtain ⟨v, hv, s⟩ := R.sl i p hp
    refine ⟨v, hv, ?_⟩
    cases s with
    | dat h => exact .dat (h.same sm)
    | deck h => exact .deck h
    | own h h0 hd => exact .own (k _ _ (by simp) h) (.inr (List.mem_append_right _ (mem_owns.mpr ⟨i, _, hp⟩))) (hd.same sm)
/-- the entry is now -/
theorem Rel.rebase {ρ0 : Rho} {D : Addr} {H0 : Hp} (R : Rel K (f.in ρ0 D H0) σ H ρ pd) (ho : ∀ a ∈ owns ρ, a ∈ owns ρ0) : Rel K (f.in ρ0 D H) σ H ρ pd := by
  refine ⟨Kp.refl, R.dk, R.dkD, R.dk0, fun b hb => ⟨?_, (R.hid b hb).2⟩, R.sys, R.nod, R.len, fun i p hp => ?_, R.pend⟩
  · exact R.alloc b (List.mem_append_left _ hb)
  · obtain ⟨v, hv, s⟩ := R.sl i p hp
    refine ⟨v, hv, ?_⟩
    cases s with
    | dat h => exact .dat h
    | deck h => exact .deck h
    | own h h0 hd => exact .own h (.inr (List.mem_append_right _ (ho _ (mem_owns.mpr ⟨i, _, hp⟩)))) hd
/-- the block's own list is changed -/
theorem Rel.putD {ρ0 : Rho} {D : Addr} {o : HO} (R : Rel K (f.in ρ0 D H) σ H ρ pd) (ho : ∀ a ∈ owns ρ, a ∈ owns ρ0) : Rel K (f.in ρ0 D (upd H D o)) σ (upd H D o) ρ pd := by
  have sm : Same (Ob (Sx (f.in ρ0 D H) ρ) H) (Ob (Sx (f.in ρ0 D (upd H D o)) ρ) (upd H D o)) := fun b u e => by
    obtain ⟨h1, h2⟩ := Ob.of e
    rw [Sx_in] at h1
    refine Ob.mk (fun z => h1 (by rw [Sx_in] at z; exact z)) ?_
    rw [upd_ne (fun z => h1 (.inl z))]
    exact h2
  have hD : D ∉ f.D ++ owns ρ0 := (R.hid D List.mem_cons_self).2
  have ne : ∀ b, H b ≠ none → upd H D o b ≠ none := fun b h => by
    by_cases z : b = D
    · rw [z, upd_same]; simp
    · rw [upd_ne z]; exact h
  refine ⟨Kp.refl, fun a c q => ?_, R.dkD, fun b hb => ne b (R.dk0 b hb), fun b hb => ⟨ne b (R.alloc b (List.mem_append_left _ hb)), (R.hid b hb).2⟩, R.sys, R.nod, R.len, fun i p hp => ?_, fun p hp => (R.pend p hp).same sm⟩
  · obtain ⟨h1, h2, _, _⟩ := R.dkD a c q
    exact (R.dk a c q).put (fun z => hD (by rw [z]; exact h1)) (fun z => hD (by rw [z]; exact h2))
  · obtain ⟨v, hv, s⟩ := R.sl i p hp
    refine ⟨v, hv, ?_⟩
    cases s with
    | dat h => exact .dat (h.same sm)
    | deck h => exact .deck h
    | own h h0 hd =>
      have ha := ho _ (mem_owns.mpr ⟨i, _, hp⟩)
      refine .own ?_ (.inr (List.mem_append_right _ ha)) (hd.same sm)
      rw [upd_ne (fun z => hD (List.mem_append_right _ (by rw [← z]; exact ha)))]
      exact h
/-- behind the block -/
theorem Rel.leave {vs : List Nat} {D : Addr} {acc : List V} {accd : List PyData} {H1 : Hp} (R : Rel K f σ H1 ρ pd) (hf : freeAll ρ vs = true) (hD : H1 D = none) (kp : Kp f.D f.H0 H) (R2 : Rel K (f.in ρ D H) (L2.wipe σ vs) H (wipeD ρ vs) (slotsP σ ρ ++ pd))
    (hd : H D = some (.lst acc)) (ha : DqAll K (Ob (Sx (f.in ρ D H) (wipeD ρ vs)) H) acc accd) : Rel K f σ H ρ ((.ref D, .list accd) :: pd) := by
  have sub : ∀ b ∈ Sx f ρ, b ∈ Sx (f.in ρ D H) (wipeD ρ vs) := fun b hb => by
    rw [Sx_in]
    unfold Sx at hb
    simp only [List.mem_append] at hb
    rcases hb with h | h | h
    · exact .inr (.inl h)
    · exact .inr (.inr (.inl h))
    · exact .inr (.inr (.inr (.inl h)))
  have sm : Same (Ob (Sx (f.in ρ D H) (wipeD ρ vs)) H) (Ob (Sx f ρ) H) := ob_sub sub
  have hDS : D ∉ Sx f ρ := fun z => R.alloc D z hD
  refine ⟨kp, R2.dk, R.dkD, fun b hb => R2.dk0 b (List.mem_append_left _ hb), R.hid, R.sys, R.nod, R.len, fun i p hp => ?_, fun p hp => ?_⟩
  · obtain ⟨v, hv, s⟩ := R.sl i p hp
    refine ⟨v, hv, ?_⟩
    cases p with
    | dat d => exact .dat ((R2.pend (v, d) (List.mem_append_left _ (slotsP_at hv hp))).same sm)
    | deck =>
      cases s with
      | deck h => exact .deck h
    | own a ds =>
      have hi : i ∉ vs := fun z => by
        unfold freeAll at hf
        have := List.all_eq_true.mp hf i z
        rw [hp] at this
        cases this
      have hp2 : (wipeD ρ vs)[i]? = some (some (.own a ds)) := by rw [wipeD_get, if_neg (fun q => hi q.1)]; exact hp
      obtain ⟨w, hw, s2⟩ := R2.sl i _ hp2
      cases s with
      | own h h0 hd =>
        cases s2 with
        | own h' h0' hd' => exact .own h' h0 (hd'.same sm)
  · rcases List.mem_cons.mp hp with z | z
    · rw [z]
      exact .lstA (Ob.mk hDS hd) (ha.same sm)
    · exact (R2.pend p (List.mem_append_right _ z)).same sm
/-- one turn -/
def turnD (g : TGD) (tt : TDT) (te : TD) (vs : List Nat) (ρw : Rho) (d : PyData) (B : Option PyData → Prop) : Prop := g d ρw fun ρ2 => tt ρ2 fun b ρ3 => match b with
  | true => te ρ3 fun y ρ4 => (wipeD ρ4 vs = ρw ∧ freeAll ρ4 vs = true) ∧ B (some y)
  | false => (wipeD ρ3 vs = ρw ∧ freeAll ρ3 vs = true) ∧ B none
def lcGo (tn : PyData → (Option PyData → Prop) → Prop) : List PyData → List PyData → (List PyData → Prop) → Prop
  | [], acc, A => A acc
  | d :: ds, acc, A => tn d fun o => match o with
    | some y => acc.length < SZ ∧ lcGo tn ds (acc ++ [y]) A
    | none => lcGo tn ds acc A
def dLc (ti : TID) (g : TGD) (tt : TDT) (te : TD) (vs : List Nat) : TD := fun ρ Q => ti ρ fun ds ρ1 => freeAll ρ1 vs = true ∧ lcGo (turnD g tt te vs (wipeD ρ1 vs)) ds [] fun acc => Q (.list acc) ρ1
abbrev DTs (K : PySem.W.Frag) (X : Cx) (ifs : List Expr) (t : TDT) : Prop := PTs X ifs (lT K t)
def dYes : TDT := fun ρ Q => Q true ρ
theorem dts_nil : DTs K X [] dYes := ⟨fun pins s σ H Q I h => pts_nil.run pins s σ H Q I (by obtain ⟨f, ρ, pd, A, R, t, k⟩ := h; exact k true ρ H t R)⟩
theorem dts_one {tt : TDT} (h : DT K X c tt) : DTs K X [c] tt := pts_one h
theorem wipe_wipe {σ σ4 : Sl} {vs ts : List Nat} (c : Tch ts (L2.wipe σ vs) σ4) (h : ∀ i ∈ ts, i ∈ vs) : L2.wipe σ4 vs = L2.wipe σ vs := by
  rw [wipe_eq c h]
  refine List.ext_getElem? fun i => ?_
  rw [wipe_get, wipe_get, wipe_length]
  by_cases e : i ∈ vs ∧ i < σ.length
  · rw [if_pos e]; simp [e]
  · rw [if_neg e]
theorem lc_lift {ti : TID} {g : TGD} {tt : TDT} {te : TD} {vs ts : List Nat} {Q : VK} (hts : ∀ i ∈ ts, i ∈ vs) (h : lE K (dLc ti g tt te vs) σ H Q) : tLc (lI K ti) (lG K ts g) (lT K tt) (lE K te) vs σ H Q := by
  obtain ⟨f, ρ, pd, A, R, t, k⟩ := h
  refine ⟨f, ρ, pd, _, R, t, fun ds ρ1 H1 J pe q R1 Wd D hD => ?_⟩
  obtain ⟨hf, go⟩ := q
  have hw : owns (wipeD ρ1 vs) = owns ρ1 := free_wipe (vs := vs) hf
  have R0 : Rel K f σ H1 ρ1 (slotsP σ ρ1 ++ (pe ++ pd)) := R1.withSlots
  refine ⟨fun i m H => m = ds.length - i ∧ i ≤ ds.length ∧ ∃ (acc : List V) (accd : List PyData), H D = some (.lst acc) ∧ acc.length = accd.length ∧ accd.length ≤ SZ ∧ Kp f.D f.H0 H ∧
      Rel K (f.in ρ1 D H) (L2.wipe σ vs) H (wipeD ρ1 vs) (acc.zip accd ++ (slotsP σ ρ1 ++ (pe ++ pd))) ∧ lcGo (turnD g tt te vs (wipeD ρ1 vs)) (ds.drop i) accd fun acc => A (.list acc) ρ1,
    ⟨ds.length, (Nat.sub_zero _).symm, Nat.zero_le _, [], [], upd_same, rfl, Nat.zero_le _, R1.kp.trans (Kp.new hD), (R0.enter hD).wipe hf, go⟩, ?_⟩
  rintro i m H2 ⟨rfl, hi, acc, accd, hd, hl, hsz, kp, R2, q2⟩
  by_cases hlt : i < ds.length
  · rw [List.drop_eq_getElem_cons hlt] at q2
    have Rw : Rel K (f.in ρ1 D H2) (L2.wipe σ vs) H2 (wipeD ρ1 vs) (pe ++ (acc.zip accd ++ (slotsP σ ρ1 ++ (pe ++ pd)))) := R2.sub fun p hp => by
      rcases List.mem_append.mp hp with z | z
      · exact List.mem_append_right _ (List.mem_append_right _ (List.mem_append_left _ z))
      · exact z
    obtain ⟨h1, h2⟩ := Wd.go _ _ H2 _ _ i ds[i] (List.getElem?_eq_getElem hlt) Rw
    -- the next turn's state
    refine .inr ⟨h1, fun H' => ∃ (acc : List V) (accd : List PyData), H' D = some (.lst acc) ∧ acc.length = accd.length ∧ accd.length ≤ SZ ∧ Kp f.D f.H0 H' ∧
      Rel K (f.in ρ1 D H') (L2.wipe σ vs) H' (wipeD ρ1 vs) (acc.zip accd ++ (slotsP σ ρ1 ++ (pe ++ pd))) ∧ lcGo (turnD g tt te vs (wipeD ρ1 vs)) (ds.drop (i + 1)) accd fun acc => A (.list acc) ρ1,
      fun H' w => ⟨ds.length - (i + 1), by omega, rfl, hlt, w⟩, fun x H3 y => ?_⟩
    obtain ⟨R3, k3⟩ := h2 x H3 y
    -- what stays through the turn
    have stay : ∀ {σ' : Sl} {ρ' : Rho} {H' : Hp} {pl : List (V × PyData)}, Rel K (f.in ρ1 D H2) σ' H' ρ' pl → Kp f.D f.H0 H' ∧ H' D = some (.lst acc) := fun {σ' ρ' H' pl} R' => by
      refine ⟨fun b o nb e => ?_, R'.kp D _ (R'.hid D List.mem_cons_self).2 hd⟩
      have e2 := kp b o nb e
      refine R'.kp b o (fun z => ?_) e2
      rcases List.mem_append.mp z with z | z
      · exact nb z
      · rcases own_off R1 z with q | q
        · rw [q] at e; cases e
        · exact nb q
    refine ⟨_, ds[i], wipeD ρ1 vs, _, _, R3, q2, fun σ4 H4 ρ4 q4 R4 c4 => ⟨wipe_wipe c4 hts, ?_⟩⟩
    refine ⟨_, ρ4, _, _, R4, q4, fun bb ρ5 H5 q5 R5 => ?_⟩
    cases bb with
    | false =>
      show ∃ acc accd, _
      obtain ⟨⟨w1, w2⟩, q5⟩ := q5
      obtain ⟨s1, s2⟩ := stay R5
      have R6 := R5.wipe w2
      rw [w1, wipe_wipe c4 hts] at R6
      exact ⟨acc, accd, s2, hl, hsz, s1, R6.popAll.rebase (fun a ha => by rw [hw] at ha; exact ha), q5⟩
    | true =>
      refine ⟨_, ρ5, _, _, R5, q5, fun yd ρ6 yv H6 q6 R6 => ?_⟩
      obtain ⟨⟨w1, w2⟩, q6a, q6⟩ := q6
      obtain ⟨s1, s2⟩ := stay R6
      have R7 := R6.wipe w2
      rw [w1, wipe_wipe c4 hts] at R7
      refine ⟨acc, s2, ?_, acc ++ [yv], accd ++ [yd], upd_same, by simp [hl], by rw [List.length_append]; exact q6a, ?_, ?_, q6⟩
      · have : acc.length < SZ := by rw [hl]; exact q6a
        exact Nat.lt_of_lt_of_le this (by decide)
      · intro b o nb e
        have e2 := s1 b o nb e
        rw [upd_ne]
        · exact e2
        · intro z
          have := R1.kp b o nb e
          rw [z, hD] at this
          cases this
      · refine ((R7.rebase (fun a ha => by rw [hw] at ha; exact ha)).putD (fun a ha => by rw [hw] at ha; exact ha)).sub fun p hp => ?_
        rw [List.zip_append hl] at hp
        rcases List.mem_append.mp hp with z | z
        · rcases List.mem_append.mp z with z | z
          · exact List.mem_cons_of_mem _ (List.mem_append_right _ (List.mem_append_left _ z))
          · have : p = (yv, yd) := by simpa using z
            rw [this]
            exact List.mem_cons_self
        · exact List.mem_cons_of_mem _ (List.mem_append_right _ (List.mem_append_right _ z))
  · have e : i = ds.length := by omega
    subst e
    rw [List.drop_length] at q2
    have Rw : Rel K (f.in ρ1 D H2) (L2.wipe σ vs) H2 (wipeD ρ1 vs) (pe ++ pd) := R2.sub fun p hp => List.mem_append_right _ (List.mem_append_right _ hp)
    refine .inl ⟨Wd.stop _ _ H2 _ pd Rw, k _ ρ1 _ H2 q2 ?_⟩
    exact Rel.leave (R1.popAll) hf hD kp (R2.sub fun p hp => by
      rcases List.mem_append.mp hp with z | z
      · exact List.mem_append_right _ (List.mem_append_left _ z)
      · exact List.mem_append_right _ (List.mem_append_right _ (List.mem_append_right _ z))) hd (Rel.all R2 hl)
theorem de_lc {elt iter : Expr} {ifs : List Expr} {scope : Scope} {own : List (Str × Nat)} {ti : TID} {g : TGD} {tt : TDT} {te : TD} {ts : List Nat} (hc : X.calm = true) (hN : X.N.Nodup) (hi : DI K X tg iter ti) (ok : BlkOk X.N X.env.scope scope own)
    (hg : ∀ (s : Shared) (H : Hp) (C : Addr) (cl : List (Str × Addr)) (fp : List Addr), DG K (X.blk s H scope (compEnvC scope cl C X.env) fp) tg ts g) (ht : ∀ (s : Shared) (H : Hp) (C : Addr) (cl : List (Str × Addr)) (fp : List Addr), DTs K (X.blk s H scope (compEnvC scope cl C X.env) fp) ifs tt)
    (he : ∀ (s : Shared) (H : Hp) (C : Addr) (cl : List (Str × Addr)) (fp : List Addr), DE K (X.blk s H scope (compEnvC scope cl C X.env) fp) elt te) (hts : ∀ i ∈ ts, i ∈ own.map (·.2)) (hs : ∀ x, foldedSetIterable iter X.env x = pure x := by intro _; rfl) :
    DE K X (.ListComp elt [⟨tg, iter, ifs, 0⟩] scope pos) (dLc ti g tt te (own.map (·.2))) := wkE (pe_lc hc hN hi ok hg ht he hs) fun σ H Q h => lc_lift hts h
end
end Dl

set_option Elab.async false
set_option linter.all false
set_option maxRecDepth 100000
set_option maxHeartbeats 4000000
namespace Dl
open PySem PySem.Spec PyProof.Rows L2 Kt
section
variable {K : PySem.W.Frag} {f : Fr} {X : Cx} {e a b c tg : Expr} {es : List Expr} {pos : Pos} {te : TD} {ta : TDA} {σ : Sl} {H H' : Hp} {ρ : Rho} {pd pe : List (V × PyData)} {v : V} {d : PyData}

/-! ### name = [..] on one line -/
theorem ds_setLc {i : Nat} {y : Str} {py : Pos} {elt iter : Expr} {ifs : List Expr} {scope : Scope} {own : List (Str × Nat)} {spos : Pos} {ti : TID} {g : TGD} {tt : TDT} {te : TD} {ts : List Nat} (hc : X.calm = true) (hN : X.N.Nodup) (hy : X.N[i]? = some y) (hyl : X.env.scope.names.lookup y = some .local)
    (hsw : swapsWith (.ListComp elt [⟨tg, iter, ifs, 0⟩] scope pos) (some (.Name y py)) spos.line X.env = pure true) (hi : DI K X tg iter ti) (ok : BlkOk X.N X.env.scope scope own)
    (hg : ∀ (s : Shared) (H : Hp) (C : Addr) (cl : List (Str × Addr)) (fp : List Addr), DG K (X.blk s H scope (compEnvC scope cl C X.env) fp) tg ts g) (ht : ∀ (s : Shared) (H : Hp) (C : Addr) (cl : List (Str × Addr)) (fp : List Addr), DTs K (X.blk s H scope (compEnvC scope cl C X.env) fp) ifs tt)
    (he : ∀ (s : Shared) (H : Hp) (C : Addr) (cl : List (Str × Addr)) (fp : List Addr), DE K (X.blk s H scope (compEnvC scope cl C X.env) fp) elt te) (hts : ∀ i ∈ ts, i ∈ own.map (·.2)) (hs : ∀ x, foldedSetIterable iter X.env x = pure x := by intro _; rfl) :
    DS K X (.Assign [.Name y py] (.ListComp elt [⟨tg, iter, ifs, 0⟩] scope pos) spos) (sAsg (dLc ti g tt te (own.map (·.2))) (tn i)) :=
  wkS (ps_setLc hc hN hy hyl hsw hi ok hg ht he hs) fun D σ H h => lc_lift hts (lE_mono (lift_asg h) fun v H1 q => tn_lift q)

/-! ### calls -/
def dCall (r : RDn) (ta : TDA) : TD := fun ρ Q => ta ρ fun ds ρ1 => r ds fun z => Q z ρ1
theorem lift_call {rh : List V → Hp → VK → Prop} {r : RDn} (hr : OpDn K rh r) {Q : VK} (h : lE K (dCall r ta) σ H Q) : lA K ta σ H fun vs H1 => rh vs H1 Q := by
  obtain ⟨f, ρ, pd, A, R, t, k⟩ := h
  exact ⟨f, ρ, pd, _, R, t, fun ds ρ1 us H1 q hl R1 => hr (Sx f ρ1) H1 us ds _ Q R1.alloc R1.inS (R1.all hl) q fun z v H' az k' dz => k z ρ1 v H' az ((R1.popAll.keep k').push dz)⟩
theorem de_callB {id : String} {x : Str} {p : Pos} {rh : List V → Hp → VK → Prop} {r : RDn} (hc : CallR X (.builtin id) rh) (hr : OpDn K rh r) (hg : Gl X x) (hm : X.mg x = none) (hv : bootBuiltins x = some (.builtin id)) (ha : DA K X (e :: es) ta) (hn : x ≠ "__name__" := by decide) (hdb : (x == ("__debug__" : Str)) = false := by decide)
    (he : starEach (e :: es) X.env = (false, eval e X.env) :: starEach es X.env := by rfl) (hpl : (backTo pos (starEach es X.env)).any (·.1) = false := by rfl) : DE K X (.Call (.Name x p) (e :: es) [] pos) (dCall r ta) :=
  wkE (pe_callB hc hg hm hv ha hn hdb he hpl) fun σ H Q h => lift_call hr h
theorem de_callTy {T : String} {x : Str} {p : Pos} {rh : List V → Hp → VK → Prop} {r : RDn} (hc : CallR X (.type T) rh) (hr : OpDn K rh r) (hg : Gl X x) (hm : X.mg x = none) (hv : bootBuiltins x = some (.type T)) (ha : DA K X (e :: es) ta) (hn : x ≠ "__name__" := by decide) (hdb : (x == ("__debug__" : Str)) = false := by decide)
    (he : starEach (e :: es) X.env = (false, eval e X.env) :: starEach es X.env := by rfl) (hpl : (backTo pos (starEach es X.env)).any (·.1) = false := by rfl) : DE K X (.Call (.Name x p) (e :: es) [] pos) (dCall r ta) :=
  wkE (pe_callTy hc hg hm hv ha hn hdb he hpl) fun σ H Q h => lift_call hr h

/-! ### what a def promises, by data -/
def spN (K : PySem.W.Frag) (g : RDn) : Sp := fun vs H Q _ => ∃ S ds A, (∀ b ∈ S, H b ≠ none) ∧ True ∧ DqAll K (Ob S H) vs ds ∧ g ds A ∧ ∀ d v H', A d → Kp [] H H' → Dq K (Ob S H') v d → Q v H'
/-- with the deck ahead -/
def spK (K : PySem.W.Frag) (g : RDn) : Sp := fun vs H Q _ => ∃ S a c ws ds A, vs = .ref a :: ws ∧ DeckAt H a c ∧ a ∈ S ∧ c ∈ S ∧ (∀ b ∈ S, H b ≠ none) ∧ True ∧ DqAll K (Ob S H) ws ds ∧ g ds A ∧
  ∀ d v H', A d → DeckAt H' a c → Kp [a, c] H H' → Dq K (Ob S H') v d → Q v H'
theorem opd_spN {g : RDn} {E : XK} : OpDn K (fun vs H Q => spN K g vs H Q E) g := fun S H xs ds A Q al sy hx hg k => ⟨S, ds, A, al, sy, hx, hg, k⟩
variable {CX : CXT} {k : Nat} {fa : Addr} {fd : FuncData} {ps ks : List Str} {g : RDn} {E : XK} {x : Str} {p : Pos} {kws : List Keyword}
theorem de_call (F : FnOk X.prog X.w X.K X.mg X.base CX k fa fd ps (spN K g)) (hr : Room k X.A) (hg : Gl X x) (hm : X.mg x = some (.ref fa)) (hk : PySem.W.keepIn X.K (.ref fa) = true) (hb : Binds X.K fd ps []) (hx : Passes CX X E)
    (ha : DA K X (e :: es) ta) (hdb : (x == ("__debug__" : Str)) = false := by decide) (he : starEach (e :: es) X.env = (false, eval e X.env) :: starEach es X.env := by rfl) (hpl : (backTo pos (starEach es X.env)).any (·.1) = false := by rfl) :
    DE K X (.Call (.Name x p) (e :: es) [] pos) (dCall g ta) :=
  wkE (pe_call F hr hg hm hk hb .nil hx ha hdb he hpl) fun σ H Q h => lift_call (rh := fun vs H Q => spN K g (vs ++ []) H Q E) (fun S H xs ds A Q al sy hx hg k => ⟨S, ds, A, al, sy, by rw [List.append_nil]; exact hx, hg, k⟩) h
theorem de_callG (F : FnG X.prog X.w X.K X.mg X.base CX k fa fd ps (spN K g)) (hgd : X.A.guards = some []) (hr : Room k X.A) (hg : Gl X x) (hm : X.mg x = some (.ref fa)) (hk : PySem.W.keepIn X.K (.ref fa) = true) (hb : Binds X.K fd ps []) (hx : Passes CX X E)
    (ha : DA K X (e :: es) ta) (hdb : (x == ("__debug__" : Str)) = false := by decide) (he : starEach (e :: es) X.env = (false, eval e X.env) :: starEach es X.env := by rfl) (hpl : (backTo pos (starEach es X.env)).any (·.1) = false := by rfl) :
    DE K X (.Call (.Name x p) (e :: es) [] pos) (dCall g ta) :=
  wkE (pe_callG F hgd hr hg hm hk hb hx ha hdb he hpl) fun σ H Q h => lift_call (rh := fun vs H Q => spN K g vs H Q E) opd_spN h
def isDeck : Option (Option Dv) → Bool
  | some (some .deck) => true
  | _ => false
def dCallK (i : Nat) (g : RDn) (ta : TDA) : TD := fun ρ Q => match isDeck ρ[i]? with
  | true => ta ρ fun ds ρ1 => g ds fun z => Q z ρ1
  | false => False
theorem lift_callK {i : Nat} {Q : VK} (h : lE K (dCallK i g ta) σ H Q) : tCons (tVar i) (lA K ta) σ H fun vs H1 => spK K g vs H1 Q E := by
  obtain ⟨f, ρ, pd, A, R, t, k⟩ := h
  unfold dCallK at t
  split at t
  · rename_i z
    have z2 : ρ[i]? = some (some .deck) := by
      unfold isDeck at z
      split at z
      · assumption
      · cases z
    obtain ⟨v, hv, s⟩ := R.sl i _ z2
    cases s with
    | @deck a c hdk =>
      refine ⟨.ref a, hv, f, ρ, pd, _, R, t, fun ds ρ1 us H1 q hl R1 => ?_⟩
      obtain ⟨m1, m2, _, _⟩ := R1.dkD a c hdk
      exact ⟨Sx f ρ1, a, c, us, ds, _, rfl, R1.dk a c hdk, List.mem_append_right _ (List.mem_append_left _ m1), List.mem_append_right _ (List.mem_append_left _ m2), R1.alloc, R1.inS, R1.all hl, q,
        fun d v H' q' dk' kp' dq' => k d ρ1 v H' q' ((R1.popAll.keepD hdk kp' dk').push dq')⟩
  · exact t.elim
theorem de_callK {i : Nat} {n : Str} {pn : Pos} (F : FnOk X.prog X.w X.K X.mg X.base CX k fa fd ps (spK K g)) (hr : Room k X.A) (hg : Gl X x) (hm : X.mg x = some (.ref fa)) (hk : PySem.W.keepIn X.K (.ref fa) = true) (hb : Binds X.K fd ps []) (hx : Passes CX X E)
    (hN : X.N[i]? = some n) (hv : Vis X.env.scope n) (ha : DA K X es ta) (hdb : (x == ("__debug__" : Str)) = false := by decide) (hd : (n == ("__debug__" : Str)) = false := by decide) (hcd : (n == ("__classdict__" : Str)) = false := by decide) (he : starEach (.Name n pn :: es) X.env = (false, eval (.Name n pn) X.env) :: starEach es X.env := by rfl) (hpl : (backTo pos (starEach es X.env)).any (·.1) = false := by rfl) :
    DE K X (.Call (.Name x p) (.Name n pn :: es) [] pos) (dCallK i g ta) :=
  wkE (pe_call F hr hg hm hk hb .nil hx (pa_cons (pe_var hN hv hd hcd) ha he) hdb he hpl) fun σ H Q h => by
    have := lift_callK (E := E) h
    obtain ⟨v, hv, q⟩ := this
    refine ⟨v, hv, ?_⟩
    show lA K ta σ H fun vs H1 => spK K g ((v :: vs) ++ []) H1 Q E
    simpa only [List.append_nil] using q
theorem de_callKG {i : Nat} {n : Str} {pn : Pos} (F : FnG X.prog X.w X.K X.mg X.base CX k fa fd ps (spK K g)) (hgd : X.A.guards = some []) (hr : Room k X.A) (hg : Gl X x) (hm : X.mg x = some (.ref fa)) (hk : PySem.W.keepIn X.K (.ref fa) = true) (hb : Binds X.K fd ps []) (hx : Passes CX X E)
    (hN : X.N[i]? = some n) (hv : Vis X.env.scope n) (ha : DA K X es ta) (hdb : (x == ("__debug__" : Str)) = false := by decide) (hd : (n == ("__debug__" : Str)) = false := by decide) (hcd : (n == ("__classdict__" : Str)) = false := by decide) (he : starEach (.Name n pn :: es) X.env = (false, eval (.Name n pn) X.env) :: starEach es X.env := by rfl) (hpl : (backTo pos (starEach es X.env)).any (·.1) = false := by rfl) :
    DE K X (.Call (.Name x p) (.Name n pn :: es) [] pos) (dCallK i g ta) :=
  wkE (pe_callG F hgd hr hg hm hk hb hx (pa_cons (pe_var hN hv hd hcd) ha he) hdb he hpl) fun σ H Q h => lift_callK h

/-! ### a def of the text -/
def startD (N : List Str) (ds : List PyData) : Rho := ds.map (fun d => some (.dat d)) ++ List.replicate (N.length - ds.length) none
def startK (N : List Str) (ds : List PyData) : Rho := some .deck :: (ds.map (fun d => some (.dat d)) ++ List.replicate (N.length - (ds.length + 1)) none)
theorem startD_at {N : List Str} {ds : List PyData} {i : Nat} {p : Dv} (h : (startD N ds)[i]? = some (some p)) : ∃ d, ds[i]? = some d ∧ p = .dat d := by
  unfold startD at h
  by_cases z : i < ds.length
  · rw [List.getElem?_append_left (by simpa using z), List.getElem?_map, List.getElem?_eq_getElem z] at h
    simp at h
    exact ⟨ds[i], List.getElem?_eq_getElem z, h.symm⟩
  · rw [List.getElem?_append_right (by simpa using z), List.getElem?_replicate] at h
    split at h <;> cases h
theorem owns_startD {N : List Str} {ds : List PyData} : owns (startD N ds) = [] := by
  cases h : owns (startD N ds) with
  | nil => rfl
  | cons a r =>
    have : a ∈ owns (startD N ds) := by rw [h]; exact List.mem_cons_self
    obtain ⟨i, es, hi⟩ := mem_owns.mp this
    obtain ⟨d, _, e⟩ := startD_at hi
    cases e
theorem rel_start {N : List Str} {ds : List PyData} {vs : List V} {S : List Addr} (al : ∀ b ∈ S, H b ≠ none) (sy : True) (h : DqAll K (Ob S H) vs ds) : Rel K { H0 := H, G := S, D := [], dk := none } (start N vs) H (startD N ds) [] := by
  have eS : Sx { H0 := H, G := S, D := [], dk := none } (startD N ds) = S := by unfold Sx; rw [owns_startD]; simp
  refine ⟨Kp.refl, fun a c q => (nomatch q), fun a c q => (nomatch q), fun b hb => absurd hb (by simp), fun b hb => ⟨al b hb, by simp⟩, sy, by rw [owns_startD]; exact List.nodup_nil, ?_, fun i p hp => ?_, fun p hp => absurd hp (by simp)⟩
  · unfold L2.start startD
    simp [h.1]
  · obtain ⟨d, hd, rfl⟩ := startD_at hp
    obtain ⟨x, hx, q⟩ := h.at hd
    refine ⟨x, ?_, .dat (by rw [eS]; exact q)⟩
    unfold L2.start
    rw [List.getElem?_append_left (by simpa using (List.getElem?_eq_some_iff.mp hx).1), List.getElem?_map, hx]
    rfl
theorem startK_at {N : List Str} {ds : List PyData} {i : Nat} {p : Dv} (h : (startK N ds)[i]? = some (some p)) : (i = 0 ∧ p = .deck) ∨ ∃ j d, i = j + 1 ∧ ds[j]? = some d ∧ p = .dat d := by
  unfold startK at h
  cases i with
  | zero => simp at h; exact .inl ⟨rfl, h.symm⟩
  | succ j =>
    rw [List.getElem?_cons_succ] at h
    have : (startD ([] : List Str) ds ++ List.replicate (N.length - (ds.length + 1)) none)[j]? = some (some p) := by
      unfold startD
      simpa using h
    by_cases z : j < ds.length
    · rw [List.getElem?_append_left (by simpa using z), List.getElem?_map, List.getElem?_eq_getElem z] at h
      simp at h
      exact .inr ⟨j, ds[j], rfl, List.getElem?_eq_getElem z, h.symm⟩
    · rw [List.getElem?_append_right (by simpa using z), List.getElem?_replicate] at h
      split at h <;> cases h
theorem owns_startK {N : List Str} {ds : List PyData} : owns (startK N ds) = [] := by
  cases h : owns (startK N ds) with
  | nil => rfl
  | cons a r =>
    have : a ∈ owns (startK N ds) := by rw [h]; exact List.mem_cons_self
    obtain ⟨i, es, hi⟩ := mem_owns.mp this
    rcases startK_at hi with ⟨_, e⟩ | ⟨_, _, _, _, e⟩ <;> cases e
def frK (H : Hp) (S : List Addr) (a c : Addr) : Fr := { H0 := H, G := S.filter fun b => decide (b ≠ a ∧ b ≠ c), D := [a, c], dk := some (a, c) }
theorem rel_startK {N : List Str} {ds : List PyData} {ws : List V} {S : List Addr} {a c : Addr} (hd : DeckAt H a c) (ma : a ∈ S) (mc : c ∈ S) (al : ∀ b ∈ S, H b ≠ none) (sy : True) (h : DqAll K (Ob S H) ws ds) :
    Rel K (frK H S a c) (start N (.ref a :: ws)) H (startK N ds) [] := by
  have eS : ∀ b, b ∈ Sx (frK H S a c) (startK N ds) → b ∈ S := fun b hb => by
    unfold Sx frK at hb
    rw [owns_startK] at hb
    simp only [List.mem_append, List.mem_filter, List.append_nil] at hb
    rcases hb with z | z
    · exact z.1
    · simp at z
      rcases z with z | z
      · rw [z]; exact ma
      · rw [z]; exact mc
  have sm : Same (Ob S H) (Ob (Sx (frK H S a c) (startK N ds)) H) := ob_sub eS
  refine ⟨Kp.refl, fun a' c' q => ?_, fun a' c' q => ?_, fun b hb => ?_, fun b hb => ?_, ?_, by rw [owns_startK]; exact List.nodup_nil, ?_, fun i p hp => ?_, fun p hp => absurd hp (by simp)⟩
  · cases q; exact hd
  · cases q; rw [owns_startK]; simp [frK]
  · simp [frK] at hb
    rcases hb with z | z
    · rw [z]; exact al a ma
    · rw [z]; exact al c mc
  · simp [frK] at hb
    refine ⟨al b hb.1, ?_⟩
    simp [frK]
    exact hb.2
  · trivial
  · unfold L2.start startK
    simp [h.1]
  · rcases startK_at hp with ⟨rfl, rfl⟩ | ⟨j, d, rfl, hd', rfl⟩
    · exact ⟨.ref a, rfl, .deck rfl⟩
    · obtain ⟨x, hx, q⟩ := h.at hd'
      refine ⟨x, ?_, .dat (q.same sm)⟩
      unfold L2.start
      rw [List.getElem?_append_left (by have := (List.getElem?_eq_some_iff.mp hx).1; simp; omega), List.getElem?_map, List.getElem?_cons_succ, hx]
      rfl
end
section
variable {P : Program} {w : World} {K : PySem.W.Frag} {mg : Str → Option Value} {base : Heap} {x qual : Str} {st : Stmt} {fa : Addr} {fd : FuncData} {N ps : List Str} {k : Nat} {g : RDn} {t : TSD}
def endD (A : PyData → Prop) : EnD := { nx := fun _ => A .none, rt := A }
theorem end_N {H : Hp} {S : List Addr} {A : PyData → Prop} {Q : VK} (q : ∀ d v H', A d → Kp [] H H' → Dq K (Ob S H') v d → Q v H') : LE K { H0 := H, G := S, D := [], dk := none } [] (endD A) { nx := fun _ H' => Q .non H', rt := Q } := by
  refine ⟨fun σ H' ρ h R => q .none .non H' h R.kp .non, fun σ H' ρ v d h R => q d v H' h R.kp (R.top.same (ob_sub fun b hb => ?_)), fun _ _ _ h => h.elim, fun _ _ _ h => h.elim⟩
  exact List.mem_append_left _ hb
theorem end_K {H : Hp} {S : List Addr} {a c : Addr} {A : PyData → Prop} {Q : VK} (q : ∀ d v H', A d → DeckAt H' a c → Kp [a, c] H H' → Dq K (Ob S H') v d → Q v H') : LE K (frK H S a c) [] (endD A) { nx := fun _ H' => Q .non H', rt := Q } := by
  refine ⟨fun σ H' ρ h R => q .none .non H' h (R.dk a c rfl) R.kp .non, fun σ H' ρ v d h R => q d v H' h (R.dk a c rfl) R.kp (R.top.same (ob_sub fun b hb => ?_)), fun _ _ _ h => h.elim, fun _ _ _ h => h.elim⟩
  unfold Sx frK
  simp only [List.mem_append, List.mem_filter]
  by_cases z : b = a
  · exact .inr (.inl (by simp [z]))
  · by_cases z2 : b = c
    · exact .inr (.inl (by simp [z2]))
    · exact .inl ⟨hb, decide_eq_true ⟨z, z2⟩⟩
/-- a def without the deck -/
theorem ok_dat (F : Fun K x qual st fa fd) (S : FnScope N ps (defScope st))
    (body : ∀ (cdv : Value) (A : Around) (outer : List Env) (s : Shared) (H : Hp) (E : XK), Room k (A.deeper (envOfC qual (defScope st) s.heap.objs.size fa cdv)) → DSs K (cxOf CX0 P w K mg base N qual (defScope st) fa cdv A outer s H E).nox (defBody st) t)
    (rd : ∀ ds A, g ds A → ds.length = ps.length ∧ t (endD A) (startD N ds)) : FnOk P w K mg base CX0 (k + 1) fa fd ps (spN K g) := by
  refine F.ok S (fun vs H Q E h => ?_) (fun cdv A outer s H vs Q E hr h => ?_)
  · obtain ⟨S, ds, A, _, _, hx, hg, _⟩ := h
    exact hx.1.trans (rd ds A hg).1
  · obtain ⟨S, ds, B, al, sy, hx, hg, q⟩ := h
    exact ⟨_, body cdv A outer s H E hr, _, startD N ds, [], _, rel_start al sy hx, (rd ds B hg).2, end_N q⟩
theorem ok_deckD (F : Fun K x qual st fa fd) (S : FnScope N ps (defScope st))
    (body : ∀ (cdv : Value) (A : Around) (outer : List Env) (s : Shared) (H : Hp) (E : XK), Room k (A.deeper (envOfC qual (defScope st) s.heap.objs.size fa cdv)) → DSs K (cxOf CX0 P w K mg base N qual (defScope st) fa cdv A outer s H E).nox (defBody st) t)
    (rd : ∀ ds A, g ds A → ds.length + 1 = ps.length ∧ t (endD A) (startK N ds)) : FnOk P w K mg base CX0 (k + 1) fa fd ps (spK K g) := by
  refine F.ok S (fun vs H Q E h => ?_) (fun cdv A outer s H vs Q E hr h => ?_)
  · obtain ⟨S, a, c, ws, ds, A, rfl, _, _, _, _, _, hx, hg, _⟩ := h
    rw [← (rd ds A hg).1, ← hx.1]
    rfl
  · obtain ⟨S, a, c, ws, ds, B, rfl, hd, ma, mc, al, sy, hx, hg, q⟩ := h
    exact ⟨_, body cdv A outer s H E hr, _, startK N ds, [], _, rel_startK hd ma mc al sy hx, (rd ds B hg).2, end_K q⟩
/-- .. that call repr, where nothing is being shown -/
theorem ok_datG (F : Fun K x qual st fa fd) (S : FnScope N ps (defScope st))
    (body : ∀ (cdv : Value) (A : Around) (outer : List Env) (s : Shared) (H : Hp) (E : XK), (A.deeper (envOfC qual (defScope st) s.heap.objs.size fa cdv)).guards = some [] → Room k (A.deeper (envOfC qual (defScope st) s.heap.objs.size fa cdv)) → DSs K (cxOf CX0 P w K mg base N qual (defScope st) fa cdv A outer s H E).nox (defBody st) t)
    (rd : ∀ ds A, g ds A → ds.length = ps.length ∧ t (endD A) (startD N ds)) : FnG P w K mg base CX0 (k + 1) fa fd ps (spN K g) := by
  refine okG F S (fun vs H Q E h => ?_) (fun cdv A outer s H vs Q E hgd hr h => ?_)
  · obtain ⟨S, ds, A, _, _, hx, hg, _⟩ := h
    exact hx.1.trans (rd ds A hg).1
  · obtain ⟨S, ds, B, al, sy, hx, hg, q⟩ := h
    exact ⟨_, body cdv A outer s H E hgd hr, _, startD N ds, [], _, rel_start al sy hx, (rd ds B hg).2, end_N q⟩
end
end Dl

set_option Elab.async false
set_option linter.all false
set_option maxRecDepth 100000
set_option maxHeartbeats 4000000
/-! the operations, by data -/
namespace Dl
open PySem PySem.Spec PyProof.Rows L2 Kt
section
variable {K : PySem.W.Frag} {X : Cx} {e a b c tg : Expr} {es : List Expr} {pos : Pos} {te ta tb : TD} {S : List Addr} {H : Hp}
theorem obT {p : Addr} {xs : List V} (h : Ob S H p = some (.tup xs)) : SqT K H p xs := SqT.of (Ob.of h).2
theorem obDp {v : V} {d : PyData} (h : Dq K (Ob S H) v d) (c : d.canLay0 = true) : Dp K H v d := Dp.same (Ob.le _ _) d (h.dp c)
theorem shp_lay {d : PyData} (h : SeqAt.shaped d = true) : d.canLay0 = true := by
  unfold SeqAt.shaped at h
  simp only [Bool.and_eq_true] at h
  exact h.1
/-- a new tuple, a new list -/
theorem new_tup {p : Addr} {xs : List V} {ds : List PyData} {A : PyData → Prop} {Q : VK} (al : ∀ b ∈ S, H b ≠ none) (g : DqAll K (Ob S H) xs ds) (q : A (.tuple ds)) (k : ∀ z v H', A z → Kp [] H H' → Dq K (Ob S H') v z → Q v H') (hp : H p = none) : Q (.ref p) (upd H p (.tup xs)) :=
  k _ _ _ q (Kp.new hp) (.tupA (ob_new hp al) (g.new hp))
theorem new_lst {p : Addr} {xs : List V} {ds : List PyData} {A : PyData → Prop} {Q : VK} (al : ∀ b ∈ S, H b ≠ none) (g : DqAll K (Ob S H) xs ds) (q : A (.list ds)) (k : ∀ z v H', A z → Kp [] H H' → Dq K (Ob S H') v z → Q v H') (hp : H p = none) : Q (.ref p) (upd H p (.lst xs)) :=
  k _ _ _ q (Kp.new hp) (.lstA (ob_new hp al) (g.new hp))
/-! ### + -/
def rAddH (K : PySem.W.Frag) : R2 := fun x y H Q => (((∃ i j, x = .int i ∧ y = .int j ∧ Q (.int (i + j)) H) ∨ rCat x y H Q) ∨ rCatA K x y H Q) ∨ (∃ i j, x = .str i ∧ y = .str j ∧ i.length + j.length ≤ sizeLine ∧ Q (.str (i ++ j)) H)
theorem op_addD : OpR X (binaryOp .Add) (rAddH X.K) := ((op_add.or op_cat).or op_catA).or op_add_str
def dAdd : RD2 := fun d e A => match d, e with
  | .int i, .int j => A (.int (i + j))
  | .list xs, .list ys => xs.length + ys.length ≤ SZ ∧ A (.list (xs ++ ys))
  | .tuple xs, .tuple ys => xs.length + ys.length ≤ SZ ∧ A (.tuple (xs ++ ys))
  | .str x, .str y => x.length + y.length ≤ SZ ∧ A (.str (x ++ y))
  | _, _ => False
theorem od_add : OpD2 K (rAddH K) dAdd := by
  intro S H x y d e A Q al sy hx hy h k
  unfold dAdd at h
  split at h
  · obtain rfl := hx.inv_int
    obtain rfl := hy.inv_int
    exact .inl (.inl (.inl ⟨_, _, rfl, rfl, k _ _ _ h Kp.refl (.int _)⟩))
  · obtain ⟨p, us, rfl, hp, gp⟩ := hx.inv_list
    obtain ⟨q, ws, rfl, hq, gq⟩ := hy.inv_list
    exact .inl (.inl (.inr ⟨p, q, us, ws, rfl, rfl, (Ob.of hp).2, (Ob.of hq).2, szl (by rw [gp.1, gq.1]; exact h.1), fun r hr => new_lst al (gp.app gq) h.2 k hr⟩))
  · obtain ⟨p, us, rfl, hp, gp⟩ := hx.inv_tup
    obtain ⟨q, ws, rfl, hq, gq⟩ := hy.inv_tup
    refine .inl (.inr ⟨p, q, us, ws, rfl, rfl, obT hp, obT hq, szl (by rw [gp.1, gq.1]; exact h.1), fun z => ?_, fun z1 z2 => ?_, fun _ _ r hr => new_tup al (gp.app gq) h.2 k hr⟩)
    · subst z
      have := List.eq_nil_of_length_eq_zero gp.1.symm
      subst this
      exact k _ _ _ (by simpa using h.2) Kp.refl (.tupA hq gq)
    · subst z2
      have := List.eq_nil_of_length_eq_zero gq.1.symm
      subst this
      exact k _ _ _ (by simpa using h.2) Kp.refl (.tupA hp gp)
  · obtain rfl := hx.inv_str
    obtain rfl := hy.inv_str
    exact .inr ⟨_, _, rfl, rfl, szl h.1, k _ _ _ h.2 Kp.refl (.str _)⟩
  · exact h.elim
theorem de_add (hK : X.K = K) (ha : DE K X a ta) (hb : DE K X b tb) : DE K X (.BinOp a .Add b pos) (dOp dAdd ta tb) := by
  subst hK
  exact de_op op_addD od_add ha hb
/-! ### ints -/
def dI2 (C : Int → Int → Prop) (g : Int → Int → Int) : RD2 := fun d e A => match d, e with
  | .int i, .int j => C i j ∧ A (.int (g i j))
  | _, _ => False
theorem od_I2 {C : Int → Int → Prop} {g : Int → Int → Int} : OpD2 K (rI C fun i j => .int (g i j)) (dI2 C g) := by
  intro S H x y d e A Q al sy hx hy h k
  unfold dI2 at h
  split at h
  · obtain rfl := hx.inv_int
    obtain rfl := hy.inv_int
    exact ⟨_, _, rfl, rfl, h.1, k _ _ _ h.2 Kp.refl (.int _)⟩
  · exact h.elim
def dI20 (g : Int → Int → Int) : RD2 := fun d e A => match d, e with
  | .int i, .int j => A (.int (g i j))
  | _, _ => False
theorem od_I20 {g : Int → Int → Int} : OpD2 K (rI0 fun i j => .int (g i j)) (dI20 g) := by
  intro S H x y d e A Q al sy hx hy h k
  unfold dI20 at h
  split at h
  · obtain rfl := hx.inv_int
    obtain rfl := hy.inv_int
    exact ⟨_, _, rfl, rfl, k _ _ _ h Kp.refl (.int _)⟩
  · exact h.elim
theorem de_sub (ha : DE K X a ta) (hb : DE K X b tb) : DE K X (.BinOp a .Sub b pos) (dOp (dI20 fun i j => i - j) ta tb) := de_op op_sub od_I20 ha hb
theorem de_mul (ha : DE K X a ta) (hb : DE K X b tb) : DE K X (.BinOp a .Mult b pos) (dOp (dI2 CMul fun i j => i * j) ta tb) := de_op op_mul od_I2 ha hb
theorem de_fdiv (ha : DE K X a ta) (hb : DE K X b tb) : DE K X (.BinOp a .FloorDiv b pos) (dOp (dI2 CDiv fun i j => i / j) ta tb) := de_op op_fdiv od_I2 ha hb
theorem de_mod (ha : DE K X a ta) (hb : DE K X b tb) : DE K X (.BinOp a .Mod b pos) (dOp (dI2 (fun _ j => 0 < j) fun i j => i % j) ta tb) := de_op op_mod od_I2 ha hb
theorem de_pow (ha : DE K X a ta) (hb : DE K X b tb) : DE K X (.BinOp a .Pow b pos) (dOp (dI2 CPow fun i j => i ^ j.toNat) ta tb) := de_op op_pow od_I2 ha hb
def dUn (r : PyData → (PyData → Prop) → Prop) (ta : TD) : TD := fun ρ Q => ta ρ fun d ρ1 => r d fun z => Q z ρ1
def dNeg : PyData → (PyData → Prop) → Prop := fun d A => match d with
  | .int i => A (.int (-i))
  | _ => False
theorem de_neg (ha : DE K X a ta) : DE K X (.UnaryOp .USub a pos) (dUn dNeg ta) := by
  refine wkE (pe_un un_neg ha) fun σ H Q h => ?_
  obtain ⟨f, ρ, pd, A, R, t, k⟩ := h
  refine ⟨f, ρ, pd, _, R, t, fun d ρ1 x H1 q R1 => ?_⟩
  cases d with
  | int i => exact ⟨i, R1.top.inv_int, k _ ρ1 _ H1 q (R1.pop.push (.int _))⟩
  | _ => exact q.elim
/-! ### subscripts -/
def dGet : RD2 := fun d e A => match d, e with
  | .list xs, .int i => match atI xs i with
    | some x => A x
    | none => False
  | .tuple xs, .int i => match atI xs i with
    | some x => A x
    | none => False
  | .str z, .int i => z.length ≤ SZ ∧ match atI z.cps.toList i with
    | some c => A (.str ⟨#[c]⟩)
    | none => False
  | _, _ => False
theorem atI_dq {xs : List V} {ds : List PyData} {i : Int} {d : PyData} (g : DqAll K (Ob S H) xs ds) (h : atI ds i = some d) : ∃ x, atI xs i = some x ∧ Dq K (Ob S H) x d := by
  unfold atI at h ⊢
  rw [g.1]
  cases e : ixN ds.length i with
  | none => rw [e] at h; cases h
  | some j =>
    rw [e] at h
    exact g.at h
theorem od_get : OpD2 K (rIx K) dGet := by
  intro S H x y d e A Q al sy hx hy h k
  unfold dGet at h
  split at h
  · obtain rfl := hy.inv_int
    obtain ⟨p, us, rfl, hp, gp⟩ := hx.inv_list
    split at h
    · rename_i z e
      obtain ⟨w, hw, q⟩ := atI_dq gp e
      exact .inl ⟨p, us, _, w, rfl, rfl, SqL.of (Ob.of hp).2, hw, k _ _ _ h Kp.refl q⟩
    · exact h.elim
  · obtain rfl := hy.inv_int
    obtain ⟨p, us, rfl, hp, gp⟩ := hx.inv_tup
    split at h
    · rename_i z e
      obtain ⟨w, hw, q⟩ := atI_dq gp e
      exact .inr (.inl ⟨p, us, _, w, rfl, rfl, obT hp, hw, k _ _ _ h Kp.refl q⟩)
    · exact h.elim
  · obtain rfl := hy.inv_int
    obtain rfl := hx.inv_str
    obtain ⟨hz, h⟩ := h
    split at h
    · rename_i z e
      exact .inr (.inr ⟨_, _, z, rfl, rfl, szl hz, e, k _ _ _ h Kp.refl (.str _)⟩)
    · exact h.elim
  · exact h.elim
theorem de_get (hK : X.K = K) (ha : DE K X a ta) (hb : DE K X b tb) (hs : PlainIx b := by exact fun _ _ => rfl) : DE K X (.Subscript a b pos) (dOp dGet ta tb) := by
  subst hK
  exact de_ix ix_seq od_get ha hb hs
/-! ### slices -/
abbrev TOD := Rho → (Option Int → Rho → Prop) → Prop
def lO (K : PySem.W.Frag) (t : TOD) : TO := fun σ H Q => ∃ f ρ pd A, Rel K f σ H ρ pd ∧ t ρ A ∧ ∀ o ρ' H', A o ρ' → Rel K f σ H' ρ' pd → Q o H'
def oNo : TOD := fun ρ Q => Q none ρ
def oIs (t : TD) : TOD := fun ρ Q => t ρ fun d ρ1 => match d with
  | .int i => Q (some i) ρ1
  | _ => False
theorem wkO {o : Option Expr} {t t' : TO} (h : PO X o t') (w : ∀ σ H Q, t σ H Q → t' σ H Q) : PO X o t := ⟨fun pins s σ H Q I q => h.run pins s σ H Q I (w _ _ _ q)⟩
theorem do_none : PO X none (lO K oNo) := wkO po_none fun σ H Q ⟨f, ρ, pd, A, R, t, k⟩ => k none ρ H t R
theorem do_some (h : DE K X e te) : PO X (some e) (lO K (oIs te)) := by
  refine wkO (po_some h) fun σ H Q h => ?_
  obtain ⟨f, ρ, pd, A, R, t, k⟩ := h
  refine ⟨f, ρ, pd, _, R, t, fun d ρ1 x H1 q R1 => ?_⟩
  cases d with
  | int i => exact ⟨i, R1.top.inv_int, k _ ρ1 H1 q R1.pop⟩
  | _ => exact q.elim
def cutD {α : Type} (xs : List α) (lo hi : Option Int) : List α := (xs.drop (HT.sIx xs.length 0 lo)).take (HT.sIx xs.length xs.length hi - HT.sIx xs.length 0 lo)
def dSlice (te : TD) (tl th : TOD) : TD := fun ρ Q => te ρ fun d ρ1 => tl ρ1 fun lo ρ2 => th ρ2 fun hi ρ3 => match d with
  | .list xs => Q (.list (cutD xs lo hi)) ρ3
  | .tuple xs => Q (.tuple (cutD xs lo hi)) ρ3
  | .str z => z.length ≤ SZ ∧ Q (.str (Txt.slice z lo hi)) ρ3
  | _ => False
theorem cut_dq {xs : List V} {ds : List PyData} {lo hi : Option Int} (g : DqAll K (Ob S H) xs ds) : DqAll K (Ob S H) (cutV xs lo hi) (cutD ds lo hi) := by
  unfold cutV cutD
  rw [g.1]
  exact (g.drop _).take _
theorem cut_whole {α : Type} {xs : List α} {lo hi : Option Int} (h : HT.sIx xs.length 0 lo = 0 ∧ HT.sIx xs.length xs.length hi = xs.length) : cutD xs lo hi = xs := by
  unfold cutD
  rw [h.1, h.2]
  simp
theorem de_slice {lo hi : Option Expr} {tl th : TOD} {p2 : Pos} (hK : X.K = K) (he : DE K X e te) (hl : PO X lo (lO K tl)) (hu : PO X hi (lO K th)) : DE K X (.Subscript e (.Slice lo hi none p2) pos) (dSlice te tl th) := by
  subst hK
  refine wkE (pe_slice (((sl_list (X := X)).or sl_tupA).or C8.sl_txt) he hl hu) fun σ H Q h => ?_
  obtain ⟨f, ρ, pd, A, R, t, k⟩ := h
  refine ⟨f, ρ, pd, _, R, t, fun d ρ1 x H1 q R1 => ⟨f, ρ1, _, _, R1, q, fun l ρ2 H2 q2 R2 => ⟨f, ρ2, _, _, R2, q2, fun u ρ3 H3 q3 R3 => ?_⟩⟩⟩
  cases d with
  | list ds =>
    obtain ⟨p, us, rfl, hp, gp⟩ := R3.top.inv_list
    refine .inl (.inl ⟨p, us, rfl, SqL.of (Ob.of hp).2, fun r hr => ?_⟩)
    exact k _ ρ3 _ _ q3 ((R3.pop.keep (Kp.new hr)).push (.lstA (ob_new hr R3.alloc) ((cut_dq gp).new hr)))
  | tuple ds =>
    obtain ⟨p, us, rfl, hp, gp⟩ := R3.top.inv_tup
    refine .inl (.inr ⟨p, us, rfl, obT hp, fun z => ?_, fun _ r hr => ?_⟩)
    · rw [gp.1] at z
      have := cut_whole z
      simp only [this] at q3
      exact k _ ρ3 _ _ q3 R3
    · exact k _ ρ3 _ _ q3 ((R3.pop.keep (Kp.new hr)).push (.tupA (ob_new hr R3.alloc) ((cut_dq gp).new hr)))
  | str z =>
    obtain rfl := R3.top.inv_str
    exact .inr ⟨z, rfl, szl q3.1, k _ ρ3 _ _ q3.2 (R3.pop.push (.str _))⟩
  | _ => exact q3.elim
/-! ### comparisons -/
def bI (p : Int → Int → Bool) : RB2 := fun d e A => match d, e with
  | .int i, .int j => A (p i j)
  | _, _ => False
theorem ob_bI {p : Int → Int → Bool} : OpB2 K (rI0 fun i j => .bl (p i j)) (bI p) := by
  intro S H x y d e A Q al sy hx hy h k
  unfold bI at h
  split at h
  · obtain rfl := hx.inv_int
    obtain rfl := hy.inv_int
    exact ⟨_, _, rfl, rfl, k _ h⟩
  · exact h.elim
def eqD : PyData → PyData → Bool
  | .str x, .str y => decide (x = y)
  | d, e => PyData.eqv d e
def eqOk : PyData → PyData → Prop
  | .str _, .str _ => True
  | d, e => SeqAt.shaped d = true ∧ SeqAt.shaped e = true
def bEq : RB2 := fun d e A => eqOk d e ∧ A (eqD d e)
def bNe : RB2 := fun d e A => eqOk d e ∧ A (!eqD d e)
theorem eq_cases {d e : PyData} (h : eqOk d e) : (∃ x y, d = .str x ∧ e = .str y ∧ eqD d e = decide (x = y)) ∨ ((SeqAt.shaped d = true ∧ SeqAt.shaped e = true) ∧ eqD d e = PyData.eqv d e) := by
  cases d <;> cases e <;> first | exact .inl ⟨_, _, rfl, rfl, rfl⟩ | exact .inr ⟨h, rfl⟩
theorem ob_eq : OpB2 K (fun x y H Q => rEq x y H Q ∨ rEqD K x y H Q) bEq := fun S H x y d e A Q al sy hx hy h k => by
  rcases eq_cases h.1 with ⟨u, v, rfl, rfl, q⟩ | ⟨q1, q⟩
  · obtain rfl := hx.inv_str
    obtain rfl := hy.inv_str
    refine .inl ⟨rfl, ?_⟩
    have e : decide (V.str u = V.str v) = decide (u = v) := decide_eq_decide.mpr ⟨fun z => V.str.inj z, fun z => by rw [z]⟩
    rw [e, ← q]
    exact k _ h.2
  · exact .inr ⟨d, e, obDp hx (shp_lay q1.1), obDp hy (shp_lay q1.2), q1.1, q1.2, by rw [← q]; exact k _ h.2⟩
theorem ob_ne : OpB2 K (fun x y H Q => rNe x y H Q ∨ rNeD K x y H Q) bNe := fun S H x y d e A Q al sy hx hy h k => by
  rcases eq_cases h.1 with ⟨u, v, rfl, rfl, q⟩ | ⟨q1, q⟩
  · obtain rfl := hx.inv_str
    obtain rfl := hy.inv_str
    refine .inl ⟨rfl, ?_⟩
    have e : decide (V.str u = V.str v) = decide (u = v) := decide_eq_decide.mpr ⟨fun z => V.str.inj z, fun z => by rw [z]⟩
    rw [e, ← q]
    exact k _ h.2
  · exact .inr ⟨d, e, obDp hx (shp_lay q1.1), obDp hy (shp_lay q1.2), q1.1, q1.2, by rw [← q]; exact k _ h.2⟩
def isNoneD : PyData → Bool
  | .none => true
  | _ => false
def bIsN : RB2 := fun d e A => match e with
  | .none => A (isNoneD d)
  | _ => False
def bNotN : RB2 := fun d e A => match e with
  | .none => A (!isNoneD d)
  | _ => False
theorem none_iff {v : V} {d : PyData} (h : Dq K (Ob S H) v d) : decide (v = .non) = isNoneD d := by
  cases h <;> rfl
theorem ob_isN : OpB2 K (fun x y H Q => y = .non ∧ Q (.bl (decide (x = .non))) H) bIsN := by
  intro S H x y d e A Q al sy hx hy h k
  unfold bIsN at h
  split at h
  · exact ⟨hy.inv_none, by rw [none_iff hx]; exact k _ h⟩
  · exact h.elim
theorem ob_notN : OpB2 K (fun x y H Q => y = .non ∧ Q (.bl (!decide (x = .non))) H) bNotN := by
  intro S H x y d e A Q al sy hx hy h k
  unfold bNotN at h
  split at h
  · exact ⟨hy.inv_none, by rw [none_iff hx]; exact k _ h⟩
  · exact h.elim
/-- d in a list or a tuple -/
def bIn (neg : Bool) : RB2 := fun d e A => match e with
  | .list ds => (SeqAt.shaped d = true ∧ SeqAt.shaped (.list ds) = true) ∧ A (if neg then !ds.any (fun z => PyData.eqv z d) else ds.any fun z => PyData.eqv z d)
  | _ => False
/-- the ints of a tuple -/
def asInts : List PyData → Option (List Int)
  | [] => some []
  | .int i :: ds => (asInts ds).map (i :: ·)
  | _ => none
theorem asInts_some : ∀ {ds : List PyData} {ns : List Int}, asInts ds = some ns → ds = ns.map PyData.int
  | [], ns, h => by cases h; rfl
  | .int i :: ds, ns, h => by
    unfold asInts at h
    cases e : asInts ds with
    | none => rw [e] at h; cases h
    | some ms =>
      rw [e] at h
      cases h
      rw [asInts_some e]
      rfl
  | .none :: _, _, h => by cases h
  | .bool _ :: _, _, h => by cases h
  | .str _ :: _, _, h => by cases h
  | .list _ :: _, _, h => by cases h
  | .tuple _ :: _, _, h => by cases h
  | .dict _ :: _, _, h => by cases h
theorem ints_dq {xs : List V} {ns : List Int} (g : DqAll K (Ob S H) xs (ns.map PyData.int)) : xs = ns.map V.int := by
  refine List.ext_getElem? fun i => ?_
  cases e : ns[i]? with
  | none =>
    have : ns.length ≤ i := List.getElem?_eq_none_iff.mp e
    rw [List.getElem?_eq_none (by rw [g.1]; simpa using this), List.getElem?_eq_none (by simpa using this)]
  | some n =>
    obtain ⟨x, hx, q⟩ := g.at (d := .int n) (i := i) (by rw [List.getElem?_map, e]; rfl)
    rw [hx, q.inv_int, List.getElem?_map, e]
    rfl
def leL : List Int → List Int → Bool
  | [], _ => true
  | _ :: _, [] => false
  | a :: r, b :: t => if a = b then leL r t else decide (a ≤ b)
theorem leL_at : ∀ (ns ms : List Int) (i k : Nat), i ≤ ns.length → i ≤ ms.length → k = min ns.length ms.length - i → Ob.lexAt (fun j => decide (ns.getD j 0 = ms.getD j 0)) (fun j => decide (ns.getD j 0 ≤ ms.getD j 0)) (decide (ns.length ≤ ms.length)) i k = leL (ns.drop i) (ms.drop i) := by
  intro ns ms i k
  induction k generalizing i with
  | zero =>
    intro h1 h2 h3
    show decide (ns.length ≤ ms.length) = _
    by_cases z : ns.length ≤ ms.length
    · have : i = ns.length := by omega
      subst this
      rw [List.drop_length]
      simp [leL, z]
    · have : i = ms.length := by omega
      subst this
      rw [List.drop_length, List.drop_eq_getElem_cons (by omega)]
      simp [leL, z]
  | succ k ih =>
    intro h1 h2 h3
    have l1 : i < ns.length := by omega
    have l2 : i < ms.length := by omega
    rw [Ob.lexAt_succ, List.drop_eq_getElem_cons l1, List.drop_eq_getElem_cons l2]
    have g1 : ns.getD i 0 = ns[i] := by simp [List.getD, l1]
    have g2 : ms.getD i 0 = ms[i] := by simp [List.getD, l2]
    rw [ih (i + 1) l1 l2 (by omega)]
    simp only [g1, g2, leL, decide_eq_true_eq]
def leD : PyData → PyData → Option Bool
  | .int i, .int j => some (decide (i ≤ j))
  | .tuple xs, .tuple ys => match asInts xs, asInts ys with
    | some ns, some ms => some (leL ns ms)
    | _, _ => none
  | _, _ => none
def bLe : RB2 := fun d e A => match leD d e with
  | some b => A b
  | none => False
theorem ob_le : OpB2 K (fun x y H Q => (∃ i j, x = .int i ∧ y = .int j ∧ Q (.bl (decide (i ≤ j))) H) ∨ rLeT K x y H Q) bLe := by
  intro S H x y d e A Q al sy hx hy h k
  unfold bLe leD at h
  split at h
  · rename_i b e
    split at e
    · cases e
      obtain rfl := hx.inv_int
      obtain rfl := hy.inv_int
      exact .inl ⟨_, _, rfl, rfl, k _ h⟩
    · split at e
      · rename_i ns ms e1 e2
        cases e
        have e1 := asInts_some e1
        have e2 := asInts_some e2
        subst e1
        subst e2
        obtain ⟨p, us, rfl, hp, gp⟩ := hx.inv_tup
        obtain ⟨q, ws, rfl, hq, gq⟩ := hy.inv_tup
        rw [ints_dq gp] at hp
        rw [ints_dq gq] at hq
        refine .inr ⟨p, q, ns, ms, rfl, rfl, obT hp, obT hq, ?_⟩
        rw [leL_at ns ms 0 _ (Nat.zero_le _) (Nat.zero_le _) (Nat.sub_zero _).symm]
        exact k _ h
      · cases e
    · cases e
  · exact h.elim
end
end Dl

set_option Elab.async false
set_option linter.all false
set_option maxRecDepth 100000
set_option maxHeartbeats 4000000
namespace Dl
open PySem PySem.Spec PyProof.Rows L2 Kt
/-! ### repr of data, dicts too -/
section
variable {X : Cx} {pins : List (Addr × Obj)} {σ : Sl} {H : Hp} {s : Shared} {S : List Addr}
theorem reads_all {h : Heap} {S : List Addr} {H : Hp} : ∀ {xs : List V} {ds : List PyData} {us : List Value}, xs.length = ds.length → Vals xs us → (∀ (i : Nat) (x : V) (d : PyData), xs[i]? = some x → ds[i]? = some d → ∀ u, RelV x u → ∃ as, Reads h u d as ∧ ∀ b ∈ as, ∃ o, Ob S H b = some o) → ∃ as, ReadsAll h us ds as ∧ ∀ b ∈ as, ∃ o, Ob S H b = some o
  | [], [], _, _, r, _ => by cases r; exact ⟨[], .nil, fun b hb => absurd hb (by simp)⟩
  | [], _ :: _, _, hl, _, _ => absurd hl (by simp)
  | _ :: _, [], _, hl, _, _ => absurd hl (by simp)
  | x :: xs, d :: ds, us, hl, r, q => by
    cases r with
    | cons r rr =>
      obtain ⟨as, h1, n1⟩ := q 0 x d rfl rfl _ r
      obtain ⟨bs, h2, n2⟩ := reads_all (xs := xs) (ds := ds) (by simpa using hl) rr fun i y e hy he => q (i + 1) y e (by simpa using hy) (by simpa using he)
      refine ⟨as ++ bs, .cons h1 h2, fun b hb => ?_⟩
      rcases List.mem_append.mp hb with z | z
      · exact n1 b z
      · exact n2 b z
theorem key_reads {h : Heap} {P : Program} {w : World} : ∀ {es : List DictEntry} {vs : List (Key × Value)}, PySem.Pairs (mixKind P w) es vs → ReadsAll h (es.map (·.key)) (vs.map fun p => kD p.1) [] ∧ es.map (·.val) = vs.map (·.2)
  | _, _, .nil => ⟨.nil, rfl⟩
  | _, _, .cons (e := e) (kv := kv) hk hv t => by
    obtain ⟨h1, h2⟩ := key_reads t
    refine ⟨?_, by simp [hv, h2]⟩
    have : Reads h e.key (kD kv.1) [] := by
      rcases keyIs_shape hk with ⟨i, t, e1, e2⟩ | ⟨x, t, e1, e2⟩
      · rw [e1, e2]; exact .int i t
      · rw [e1, e2]; exact .str x t
    exact ReadsAll.cons this h1
theorem kv_map : ∀ {kvs : List (Key × V)} {vs : List (Key × Value)}, KV kvs vs → Vals (kvs.map (·.2)) (vs.map (·.2)) ∧ kvs.map (·.1) = vs.map (·.1)
  | _, _, .nil => ⟨.nil, rfl⟩
  | _, _, .cons h t => by
    obtain ⟨h1, h2⟩ := kv_map t
    exact ⟨.cons h.2 h1, by simp [h.1, h2]⟩
theorem Dq.reads (I : Inv X pins σ H s) {v : V} {d : PyData} (h : Dq X.K (Ob S H) v d) : ∀ u, RelV v u → ∃ as, Reads s.heap u d as ∧ ∀ b ∈ as, ∃ o, Ob S H b = some o := by
  generalize hH : Ob S H = H0 at h
  induction h with
  | non => intro u r; cases r; exact ⟨_, .none, fun b hb => absurd hb (by simp)⟩
  | bl b => intro u r; cases r; exact ⟨_, .bool b, fun b hb => absurd hb (by simp)⟩
  | int i => intro u r; obtain ⟨t, rfl⟩ := r; exact ⟨_, .int i t, fun b hb => absurd hb (by simp)⟩
  | str x => intro u r; obtain ⟨t, rfl⟩ := r; exact ⟨_, .str x t, fun b hb => absurd hb (by simp)⟩
  | lst h hl hi ih =>
    intro u r
    subst hH
    cases r
    obtain ⟨its, rv, ⟨o, n, ho, hc, _, hd⟩, _⟩ := I.list (SqL.of (Ob.of h).2)
    obtain ⟨as, hr, hn⟩ := reads_all hl rv fun i x d hx hd => ih i x d hx hd
    refine ⟨_, Reads.list ho hc hd hr, fun b hb => ?_⟩
    rcases List.mem_cons.mp hb with z | z
    · rw [z]; exact ⟨_, h⟩
    · exact hn b z
  | tup h hl hi ih =>
    intro u r
    subst hH
    cases r
    obtain ⟨its, rv, ⟨o, ho, hc, n, hd⟩, _⟩ := I.tuple (SqT.of (Ob.of h).2)
    obtain ⟨as, hr, hn⟩ := reads_all hl rv fun i x d hx hd => ih i x d hx hd
    exact ⟨_, Reads.tuple ho hc hd hr, hn⟩
  | @dct a kvs ds h hk hi ih =>
    intro u r
    subst hH
    cases r
    obtain ⟨hz, hS, vs, rel, o, es, ep, ho, hx, hd, hko, hp, _⟩ : kvs.length ≤ sizeLine ∧ (a == sysModules) = false ∧ ∃ vs, KV kvs vs ∧ s.heap.DictOf (mixKind X.prog X.w) a vs := I.hok a _ (Ob.of h).2
    obtain ⟨k1, k2⟩ := key_reads (h := s.heap) hp
    obtain ⟨v1, v2⟩ := kv_map rel
    have hlen : kvs.length = ds.length := by have := congrArg List.length hk; simpa using this
    obtain ⟨as, hr, hn⟩ := reads_all (xs := kvs.map (·.2)) (ds := ds.map (·.2)) (us := vs.map (·.2)) (S := S) (H := H) (by simp [hlen]) v1 fun i x d hx hd u ru => by
      rw [List.getElem?_map] at hx hd
      obtain ⟨p, hp, rfl⟩ := Option.map_eq_some_iff.mp hx
      obtain ⟨q, hq, rfl⟩ := Option.map_eq_some_iff.mp hd
      exact ih i p q hp hq u ru
    have e1 : vs.map (fun p => kD p.1) = ds.map (·.1) := by
      rw [← hk]
      have : (vs.map (·.1)).map kD = (kvs.map (·.1)).map kD := by rw [v2]
      rw [List.map_map, List.map_map] at this
      exact this
    rw [e1] at k1
    rw [← k2] at hr
    refine ⟨_, Reads.dict ho hx.1 hd k1 hr, fun b hb => ?_⟩
    rcases List.mem_append.mp hb with z | z
    · have : b = a := by simpa using z
      rw [this]; exact ⟨_, h⟩
    · exact hn b z
def rReprQ (K : PySem.W.Frag) : List V → Hp → VK → Prop := fun vs H Q => ∃ S v d, vs = [v] ∧ Dq K (Ob S H) v d ∧ (d.showable = true ∧ d.shown.length ≤ 8000000 ∧ d.depth ≤ 60) ∧ Q (.str d.shown) H
theorem cr_reprQ (hsys : ∃ o, X.base.get? sysModules = some o) (hgd : X.A.guards = some []) (hu : X.A.units + 64 < cLine) : CallR X (.builtin "repr") (rReprQ X.K) := by
  intro pins s σ H xs us Q I r h
  obtain ⟨S, v, d, rfl, hd, ⟨hs, hsz, hdp⟩, q⟩ := h
  obtain ⟨oy, hoy⟩ := hsys
  have nsys := (I.bs sysModules oy hoy).2
  obtain ⟨u, rfl, ru⟩ := vals1 r
  obtain ⟨as, rd, hn⟩ := hd.reads I u ru
  have hsz : d.shown.length ≤ sizeLine := Nat.le_trans hsz (by decide)
  have big : ∀ a, u = .ref a → wpAny (model X.prog X.w) X.A (call (.builtin "repr") [u]) (EP X pins σ Q) X.xe s := fun a e => by
    subst e
    exact repr_of_reads' rd hs (fun _ z => by obtain ⟨o, e⟩ := hn _ z; rw [(Ob.of e).2] at nsys; cases nsys) hgd (by omega) (fun _ _ e => e) (fun h' t tk hk => ⟨.str d.shown, H, I.kept hk, ⟨t, rfl⟩, q⟩) hsz
  cases hd with
  | non =>
    obtain rfl : u = Value.none := ru
    rw [PyData.shown_none] at q
    exact PySem.P.repr_of_none ⟨.str _, H, I.tok _, ⟨_, rfl⟩, q⟩
  | bl b =>
    obtain rfl : u = Value.bool b := ru
    rw [PyData.shown_bool] at q
    exact PySem.P.repr_of_bool ⟨.str _, H, I.tok _, ⟨_, rfl⟩, q⟩
  | int i =>
    obtain ⟨t, rfl⟩ := ru
    rw [PyData.shown_int] at q
    exact PySem.P.repr_of_int (by simpa [PyData.showable] using hs) ⟨.str _, H, I.tok _, ⟨_, rfl⟩, q⟩
  | str x =>
    obtain ⟨t, rfl⟩ := ru
    rw [PyData.shown_str] at q hsz
    exact PySem.P.repr_of_str ⟨.str _, H, I.tok _, ⟨_, rfl⟩, q⟩ hsz
  | lst _ _ _ => exact big _ ru
  | tup _ _ _ => exact big _ ru
  | dct _ _ _ => exact big _ ru
/-- what can be shown -/
def Shw (d : PyData) : Prop := d.showable = true ∧ d.shown.length ≤ 8000000 ∧ d.depth ≤ 60
def dRepr : RDn := fun ds A => match ds with
  | [d] => Shw d ∧ A (.str d.shown)
  | _ => False
theorem od_repr {K : PySem.W.Frag} : OpDn K (rReprQ K) dRepr := by
  intro S H xs ds A Q al sy hx h k
  unfold dRepr at h
  split at h
  · obtain ⟨v, r, rfl, hv, hr⟩ := hx.inv_cons
    obtain rfl := hr.inv_nil
    exact ⟨S, v, _, rfl, hv, h.1, k _ _ _ h.2 Kp.refl (.str _)⟩
  · exact h.elim
end
section
variable {K : PySem.W.Frag} {X : Cx} {e a b c tg : Expr} {es : List Expr} {pos p : Pos} {te ta tb tc : TD} {tA : TDA} {S : List Addr} {H : Hp} {x : Str} {kk : Nat}
theorem de_repr (hK : X.K = K) (hsys : ∃ o, X.base.get? sysModules = some o) (hgd : X.A.guards = some []) (hu : X.A.units + 64 < cLine) (hg : Gl X "repr") (hm : X.mg "repr" = none) (h : DE K X e te) (he : starEach (e :: []) X.env = (false, eval e X.env) :: starEach [] X.env := by rfl) : DE K X (.Call (.Name "repr" p) [e] [] pos) (dCall dRepr (aCons te aNil)) := by
  subst hK
  exact de_callB (cr_reprQ hsys hgd hu) od_repr hg hm PyProof.Rows.boot_repr (da_cons h da_nil he) (he := he)
/-! ### comparisons -/
section
variable (ha : DE K X a ta) (hb : DE K X b tb)
include ha hb
theorem de_lt : DE K X (.Compare a [.Lt] [b] pos) (dCmp (bI fun i j => decide (i < j)) ta tb) := de_cmp op_lt ob_bI ha hb (nomark _)
theorem dt_lt : DT K X (.Compare a [.Lt] [b] pos) (dCmpT (bI fun i j => decide (i < j)) ta tb) := dt_cmp op_lt ob_bI ha hb (nomark _)
theorem de_gt : DE K X (.Compare a [.Gt] [b] pos) (dCmp (bI fun i j => decide (j < i)) ta tb) := de_cmp op_gt ob_bI ha hb (nomark _)
theorem dt_gt : DT K X (.Compare a [.Gt] [b] pos) (dCmpT (bI fun i j => decide (j < i)) ta tb) := dt_cmp op_gt ob_bI ha hb (nomark _)
theorem de_ge : DE K X (.Compare a [.GtE] [b] pos) (dCmp (bI fun i j => decide (j ≤ i)) ta tb) := de_cmp op_ge ob_bI ha hb (nomark _)
theorem dt_ge : DT K X (.Compare a [.GtE] [b] pos) (dCmpT (bI fun i j => decide (j ≤ i)) ta tb) := dt_cmp op_ge ob_bI ha hb (nomark _)
theorem de_le (hK : X.K = K) (hr : Room kk X.A) : DE K X (.Compare a [.LtE] [b] pos) (dCmp bLe ta tb) := by subst hK; exact de_cmp (op_le.or (op_leT hr.units0)) ob_le ha hb (nomark _)
theorem dt_le (hK : X.K = K) (hr : Room kk X.A) : DT K X (.Compare a [.LtE] [b] pos) (dCmpT bLe ta tb) := by subst hK; exact dt_cmp (op_le.or (op_leT hr.units0)) ob_le ha hb (nomark _)
theorem de_eq (hK : X.K = K) (hr : Room kk X.A) : DE K X (.Compare a [.Eq] [b] pos) (dCmp bEq ta tb) := by subst hK; exact de_cmp (op_eq.or (op_eqD hr.units)) ob_eq ha hb (nomark _)
theorem dt_eq (hK : X.K = K) (hr : Room kk X.A) : DT K X (.Compare a [.Eq] [b] pos) (dCmpT bEq ta tb) := by subst hK; exact dt_cmp (op_eq.or (op_eqD hr.units)) ob_eq ha hb (nomark _)
theorem de_ne (hK : X.K = K) (hr : Room kk X.A) : DE K X (.Compare a [.NotEq] [b] pos) (dCmp bNe ta tb) := by subst hK; exact de_cmp (op_ne.or (op_neD hr.units)) ob_ne ha hb (nomark _)
theorem dt_ne (hK : X.K = K) (hr : Room kk X.A) : DT K X (.Compare a [.NotEq] [b] pos) (dCmpT bNe ta tb) := by subst hK; exact dt_cmp (op_ne.or (op_neD hr.units)) ob_ne ha hb (nomark _)
theorem de_isN : DE K X (.Compare a [.Is] [b] pos) (dCmp bIsN ta tb) := de_cmp op_isN ob_isN ha hb (nomark _)
theorem dt_isN : DT K X (.Compare a [.Is] [b] pos) (dCmpT bIsN ta tb) := dt_cmp op_isN ob_isN ha hb (nomark _)
theorem de_notN : DE K X (.Compare a [.IsNot] [b] pos) (dCmp bNotN ta tb) := de_cmp op_notN ob_notN ha hb (nomark _)
theorem dt_notN : DT K X (.Compare a [.IsNot] [b] pos) (dCmpT bNotN ta tb) := dt_cmp op_notN ob_notN ha hb (nomark _)
end
/-! x in a tuple of data -/
def rInDT (K : PySem.W.Frag) : R2 := fun x y H Q => ∃ d ds, Dp K H x d ∧ Dp K H y (.tuple ds) ∧ SeqAt.shaped d = true ∧ SeqAt.shaped (.tuple ds) = true ∧ Q (.bl (ds.any fun z => PyData.eqv z d)) H
theorem op_inDT (hu : X.A.units + 65 < cLine) : OpR X (compareOp .In) (rInDT X.K) := by
  intro pins s σ H x y v u Q I rx ry h
  obtain ⟨d, ds, hd, he, sd, se, q⟩ := h
  obtain ⟨as, r1⟩ := Dp.reads I d x v hd rx
  obtain ⟨bs, r2⟩ := Dp.reads I (.tuple ds) y u he ry
  exact SeqAt.in_tuple_reads r2 r1 (SeqAt.canLay_of_shaped se) (SeqAt.canLay_of_shaped sd) (room_in_shaped sd hu) ⟨.bl _, H, I, rfl, q⟩
def inD (d : PyData) (ds : List PyData) : Bool := ds.any fun z => PyData.eqv z d
def bInD : RB2 := fun d e A => match e with
  | .list ds => (SeqAt.shaped d = true ∧ SeqAt.shaped (.list ds) = true) ∧ A (inD d ds)
  | .tuple ds => (SeqAt.shaped d = true ∧ SeqAt.shaped (.tuple ds) = true) ∧ A (inD d ds)
  | _ => False
def bNotInD : RB2 := fun d e A => match e with
  | .list ds => (SeqAt.shaped d = true ∧ SeqAt.shaped (.list ds) = true) ∧ A (!inD d ds)
  | _ => False
theorem ob_in : OpB2 K (fun x y H Q => rInD K x y H Q ∨ rInDT K x y H Q) bInD := by
  intro S H x y d e A Q al sy hx hy h k
  unfold bInD at h
  split at h
  · exact .inl ⟨d, _, obDp hx (shp_lay h.1.1), obDp hy (shp_lay h.1.2), h.1.1, h.1.2, k _ h.2⟩
  · exact .inr ⟨d, _, obDp hx (shp_lay h.1.1), obDp hy (shp_lay h.1.2), h.1.1, h.1.2, k _ h.2⟩
  · exact h.elim
theorem ob_notIn : OpB2 K (rNotInD K) bNotInD := by
  intro S H x y d e A Q al sy hx hy h k
  unfold bNotInD at h
  split at h
  · exact ⟨d, _, obDp hx (shp_lay h.1.1), obDp hy (shp_lay h.1.2), h.1.1, h.1.2, k _ h.2⟩
  · exact h.elim
theorem units65 (hr : Room kk X.A) : X.A.units + 65 < cLine := by have := hr.un; omega
theorem de_in (ha : DE K X a ta) (hb : DE K X b tb) (hK : X.K = K) (hr : Room kk X.A) (hm : behindInMarks .In b = false) : DE K X (.Compare a [.In] [b] pos) (dCmp bInD ta tb) := by subst hK; exact de_cmp ((op_inD (units65 hr)).or (op_inDT (units65 hr))) ob_in ha hb hm
theorem dt_in (ha : DE K X a ta) (hb : DE K X b tb) (hK : X.K = K) (hr : Room kk X.A) (hm : behindInMarks .In b = false) : DT K X (.Compare a [.In] [b] pos) (dCmpT bInD ta tb) := by subst hK; exact dt_cmp ((op_inD (units65 hr)).or (op_inDT (units65 hr))) ob_in ha hb hm
theorem de_notIn (ha : DE K X a ta) (hb : DE K X b tb) (hK : X.K = K) (hr : Room kk X.A) (hm : behindInMarks .NotIn b = false) : DE K X (.Compare a [.NotIn] [b] pos) (dCmp bNotInD ta tb) := by subst hK; exact de_cmp (op_notInD (units65 hr)) ob_notIn ha hb hm
theorem dt_notIn (ha : DE K X a ta) (hb : DE K X b tb) (hK : X.K = K) (hr : Room kk X.A) (hm : behindInMarks .NotIn b = false) : DT K X (.Compare a [.NotIn] [b] pos) (dCmpT bNotInD ta tb) := by subst hK; exact dt_cmp (op_notInD (units65 hr)) ob_notIn ha hb hm
/-- a op b op' c -/
def dChain (r r' : RB2) (ta tb tc : TD) : TD := fun ρ Q => ta ρ fun d ρ1 => tb ρ1 fun e ρ2 => r d e fun z => match z with
  | true => tc ρ2 fun w ρ3 => r' e w fun z' => Q (.bool z') ρ3
  | false => Q (.bool false) ρ2
def dChainT (r r' : RB2) (ta tb tc : TD) : TDT := fun ρ Q => ta ρ fun d ρ1 => tb ρ1 fun e ρ2 => r d e fun z => match z with
  | true => tc ρ2 fun w ρ3 => r' e w fun z' => Q z' ρ3
  | false => Q false ρ2
theorem lift_chain {rh rh' : R2} {r r' : RB2} {σ : Sl} {H : Hp} {Q : VK} (hr : OpB2 K rh r) (hr' : OpB2 K rh' r') (h : lE K (dChain r r' ta tb tc) σ H Q) : tChain rh rh' (lE K ta) (lE K tb) (lE K tc) σ H Q := by
  obtain ⟨f, ρ, pd, A, R, t, k⟩ := h
  refine ⟨f, ρ, pd, _, R, t, fun d ρ1 x H1 q R1 => ⟨f, ρ1, _, _, R1, q, fun e ρ2 y H2 q2 R2 => ?_⟩⟩
  refine hr (Sx f ρ2) H2 x y d e _ _ R2.alloc R2.inS R2.pop.top R2.top q2 fun z az => ⟨z, rfl, ?_⟩
  cases z with
  | false =>
    rw [if_neg Bool.false_ne_true]
    exact k _ ρ2 _ H2 az (R2.pop.pop.push (.bl _))
  | true =>
    rw [if_pos rfl]
    refine ⟨f, ρ2, _, _, R2, az, fun w ρ3 u H3 q3 R3 => ?_⟩
    exact hr' (Sx f ρ3) H3 y u e w _ _ R3.alloc R3.inS R3.pop.top R3.top q3 fun z' az' => k _ ρ3 _ H3 az' (R3.pop.pop.pop.push (.bl _))
theorem de_chain {op op' : CmpOp} {rh rh' : R2} {r r' : RB2} (ho : OpR X (compareOp op) rh) (ho' : OpR X (compareOp op') rh') (hr : OpB2 K rh r) (hr' : OpB2 K rh' r') (ha : DE K X a ta) (hb : DE K X b tb) (hc : DE K X c tc) (hm : lastMarks [op, op'] [b, c] = false := by with_unfolding_all rfl) :
    DE K X (.Compare a [op, op'] [b, c] pos) (dChain r r' ta tb tc) := wkE (pe_chain ho ho' ha hb hc hm) fun σ H Q h => lift_chain hr hr' h
theorem dt_chain {op op' : CmpOp} {rh rh' : R2} {r r' : RB2} (ho : OpR X (compareOp op) rh) (ho' : OpR X (compareOp op') rh') (hr : OpB2 K rh r) (hr' : OpB2 K rh' r') (ha : DE K X a ta) (hb : DE K X b tb) (hc : DE K X c tc) (hm : lastMarks [op, op'] [b, c] = false := by with_unfolding_all rfl) :
    DT K X (.Compare a [op, op'] [b, c] pos) (dChainT r r' ta tb tc) := wkT (pt_chain ho ho' ha hb hc hm) fun σ H Q h => by
  obtain ⟨f, ρ, pd, A, R, t, k⟩ := h
  exact lift_chain hr hr' ⟨f, ρ, pd, fun z ρ' => match z with
    | .bool z => A z ρ'
    | _ => False, R, t, fun d ρ' v H' q R' => by
      cases d with
      | bool z => exact ⟨z, R'.top.inv_bool, k z ρ' H' q R'.pop⟩
      | _ => exact q.elim⟩
/-! ### built-ins -/
def dLen : RDn := fun ds A => match ds with
  | [.list xs] => A (.int xs.length)
  | [.tuple xs] => A (.int xs.length)
  | [.str z] => z.length ≤ SZ ∧ A (.int z.length)
  | _ => False
theorem od_len : OpDn K (fun xs H Q => ∃ x n, xs = [x] ∧ LenV K x H n ∧ Q (.int n) H) dLen := by
  intro S H xs ds A Q al sy hx h k
  unfold dLen at h
  split at h
  · obtain ⟨v, r, rfl, hv, hr⟩ := hx.inv_cons
    obtain rfl := hr.inv_nil
    obtain ⟨p, us, rfl, hp, gp⟩ := hv.inv_list
    exact ⟨.ref p, _, rfl, .inl ⟨us, SqL.of (Ob.of hp).2, rfl⟩, by rw [gp.1]; exact k _ _ _ h Kp.refl (.int _)⟩
  · obtain ⟨v, r, rfl, hv, hr⟩ := hx.inv_cons
    obtain rfl := hr.inv_nil
    obtain ⟨p, us, rfl, hp, gp⟩ := hv.inv_tup
    exact ⟨.ref p, _, rfl, .inr ⟨us, obT hp, rfl⟩, by rw [gp.1]; exact k _ _ _ h Kp.refl (.int _)⟩
  · obtain ⟨v, r, rfl, hv, hr⟩ := hx.inv_cons
    obtain rfl := hr.inv_nil
    obtain rfl := hv.inv_str
    exact ⟨_, _, rfl, ⟨szl h.1, rfl⟩, k _ _ _ h.2 Kp.refl (.int _)⟩
  · exact h.elim
def dTupF : RDn := fun ds A => match ds with
  | [.list xs] => A (.tuple xs)
  | [.tuple xs] => A (.tuple xs)
  | _ => False
theorem od_tup : OpDn K (fun xs H Q => ∃ p ys, xs = [.ref p] ∧ ((SqL K H p ys ∧ ∀ l, H l = none → Q (.ref l) (upd H l (.tup ys))) ∨ (SqT K H p ys ∧ Q (.ref p) H))) dTupF := by
  intro S H xs ds A Q al sy hx h k
  unfold dTupF at h
  split at h
  · obtain ⟨v, r, rfl, hv, hr⟩ := hx.inv_cons
    obtain rfl := hr.inv_nil
    obtain ⟨p, us, rfl, hp, gp⟩ := hv.inv_list
    exact ⟨p, us, rfl, .inl ⟨SqL.of (Ob.of hp).2, fun l hl => new_tup al gp h k hl⟩⟩
  · obtain ⟨v, r, rfl, hv, hr⟩ := hx.inv_cons
    obtain rfl := hr.inv_nil
    obtain ⟨p, us, rfl, hp, gp⟩ := hv.inv_tup
    exact ⟨p, us, rfl, .inr ⟨obT hp, k _ _ _ h Kp.refl hv⟩⟩
  · exact h.elim
def dListF : RDn := fun ds A => match ds with
  | [.list xs] => A (.list xs)
  | [.tuple xs] => A (.list xs)
  | _ => False
theorem od_list : OpDn K (fun xs H Q => ∃ p ys, xs = [.ref p] ∧ (SqL K H p ys ∨ SqT K H p ys) ∧ ∀ l, H l = none → Q (.ref l) (upd H l (.lst ys))) dListF := by
  intro S H xs ds A Q al sy hx h k
  unfold dListF at h
  split at h
  · obtain ⟨v, r, rfl, hv, hr⟩ := hx.inv_cons
    obtain rfl := hr.inv_nil
    obtain ⟨p, us, rfl, hp, gp⟩ := hv.inv_list
    exact ⟨p, us, rfl, .inl (SqL.of (Ob.of hp).2), fun l hl => new_lst al gp h k hl⟩
  · obtain ⟨v, r, rfl, hv, hr⟩ := hx.inv_cons
    obtain rfl := hr.inv_nil
    obtain ⟨p, us, rfl, hp, gp⟩ := hv.inv_tup
    exact ⟨p, us, rfl, .inr (obT hp), fun l hl => new_lst al gp h k hl⟩
  · exact h.elim
def dInt1 : RDn := fun ds A => match ds with
  | [.int i] => A (.int i)
  | [.bool b] => A (.int (if b then 1 else 0))
  | _ => False
theorem od_int1 : OpDn K (fun xs H Q => (∃ i, xs = [.int i] ∧ Q (.int i) H) ∨ ∃ k, xs = [.bl k] ∧ Q (.int (if k then 1 else 0)) H) dInt1 := by
  intro S H xs ds A Q al sy hx h k
  unfold dInt1 at h
  split at h
  · obtain ⟨v, r, rfl, hv, hr⟩ := hx.inv_cons
    obtain rfl := hr.inv_nil
    obtain rfl := hv.inv_int
    exact .inl ⟨_, rfl, k _ _ _ h Kp.refl (.int _)⟩
  · obtain ⟨v, r, rfl, hv, hr⟩ := hx.inv_cons
    obtain rfl := hr.inv_nil
    obtain rfl := hv.inv_bool
    exact .inr ⟨_, rfl, k _ _ _ h Kp.refl (.int _)⟩
  · exact h.elim
def dII (g : Int → Int → Int) : RDn := fun ds A => match ds with
  | [.int i, .int j] => A (.int (g i j))
  | _ => False
theorem od_II {g : Int → Int → Int} : OpDn K (fun xs H Q => ∃ i j, xs = [.int i, .int j] ∧ Q (.int (g i j)) H) (dII g) := by
  intro S H xs ds A Q al sy hx h k
  unfold dII at h
  split at h
  · obtain ⟨v, r, rfl, hv, hr⟩ := hx.inv_cons
    obtain ⟨v2, r2, rfl, hv2, hr2⟩ := hr.inv_cons
    obtain rfl := hr2.inv_nil
    obtain rfl := hv.inv_int
    obtain rfl := hv2.inv_int
    exact ⟨_, _, rfl, k _ _ _ h Kp.refl (.int _)⟩
  · exact h.elim
/-! isinstance of one built-in type -/
def tyD : PyData → String
  | .none => "NoneType"
  | .bool _ => "bool"
  | .int _ => "int"
  | .str _ => "str"
  | .list _ => "list"
  | .tuple _ => "tuple"
  | .dict _ => "dict"
theorem ty_dq {v : V} {d : PyData} (h : Dq K (Ob S H) v d) : TyX K H v (.type (tyD d)) := by
  cases h with
  | non => exact .base .non
  | bl b => exact .base (.bl b)
  | int i => exact .base (.int i)
  | str x => exact .base (.str x)
  | lst h _ _ => exact .base (.lst (Ob.of h).2)
  | tup h _ _ => exact .base (.tup (Ob.of h).2)
  | dct h _ _ => exact .base (.dK (Ob.of h).2)
def dIsi (q : PyData → Bool) (te : TD) : TD := fun ρ Q => te ρ fun d ρ1 => Q (.bool (q d)) ρ1
theorem de_isi {T : Str} {T' : String} {q : PyData → Bool} {pT : Pos} (hK : X.K = K) (hq : ∀ d, kitB (tyD d) T' = some (q d)) (hg : Gl X "isinstance") (hm : X.mg "isinstance" = none) (hgT : Gl X T) (hmT : X.mg T = none) (hv : bootBuiltins T = some (.type T')) (he : DE K X e te)
    (hn : T ≠ "__name__" := by decide) (hd : (T == ("__debug__" : Str)) = false := by decide)
    (hs : starEach (e :: [.Name T pT]) X.env = (false, eval e X.env) :: starEach [.Name T pT] X.env := by rfl) (hs2 : starEach (.Name T pT :: []) X.env = (false, eval (.Name T pT) X.env) :: starEach [] X.env := by rfl) (hpl : (backTo pos (starEach [.Name T pT] X.env)).any (·.1) = false := by rfl) :
    DE K X (.Call (.Name "isinstance" p) [e, .Name T pT] [] pos) (dIsi q te) := by
  subst hK
  refine wkE (pe_callB call_isi hg hm PyProof.Rows.boot_isinstance (pa_cons he (pa_cons (pe_bltn (v := .ty T') hgT hmT hv rfl hn hd) pa_nil hs2) hs) (he := hs) (hpl := hpl)) fun σ H Q h => ?_
  obtain ⟨f, ρ, pd, A, R, t, k⟩ := h
  refine ⟨f, ρ, pd, _, R, t, fun d ρ1 x H1 q1 R1 => ?_⟩
  exact ⟨x, .ty T', _, _, _, rfl, .ty T', ty_dq R1.top, kit_ty (hq d), k _ ρ1 _ H1 q1 (R1.pop.push (.bl _))⟩
def isIntD : PyData → Bool
  | .int _ => true
  | .bool _ => true
  | _ => false
def isBoolD : PyData → Bool
  | .bool _ => true
  | _ => false
def isTupD : PyData → Bool
  | .tuple _ => true
  | _ => false
def isStrD : PyData → Bool
  | .str _ => true
  | _ => false
def isListD : PyData → Bool
  | .list _ => true
  | _ => false
theorem kit_int : ∀ d, kitB (tyD d) "int" = some (isIntD d)
  | .none => (by decide +kernel : kitB "NoneType" "int" = some false)
  | .bool _ => (by decide +kernel : kitB "bool" "int" = some true)
  | .int _ => (by decide +kernel : kitB "int" "int" = some true)
  | .str _ => (by decide +kernel : kitB "str" "int" = some false)
  | .list _ => (by decide +kernel : kitB "list" "int" = some false)
  | .tuple _ => (by decide +kernel : kitB "tuple" "int" = some false)
  | .dict _ => (by decide +kernel : kitB "dict" "int" = some false)
theorem kit_bool : ∀ d, kitB (tyD d) "bool" = some (isBoolD d)
  | .none => (by decide +kernel : kitB "NoneType" "bool" = some false)
  | .bool _ => (by decide +kernel : kitB "bool" "bool" = some true)
  | .int _ => (by decide +kernel : kitB "int" "bool" = some false)
  | .str _ => (by decide +kernel : kitB "str" "bool" = some false)
  | .list _ => (by decide +kernel : kitB "list" "bool" = some false)
  | .tuple _ => (by decide +kernel : kitB "tuple" "bool" = some false)
  | .dict _ => (by decide +kernel : kitB "dict" "bool" = some false)
theorem kit_tup : ∀ d, kitB (tyD d) "tuple" = some (isTupD d)
  | .none => (by decide +kernel : kitB "NoneType" "tuple" = some false)
  | .bool _ => (by decide +kernel : kitB "bool" "tuple" = some false)
  | .int _ => (by decide +kernel : kitB "int" "tuple" = some false)
  | .str _ => (by decide +kernel : kitB "str" "tuple" = some false)
  | .list _ => (by decide +kernel : kitB "list" "tuple" = some false)
  | .tuple _ => (by decide +kernel : kitB "tuple" "tuple" = some true)
  | .dict _ => (by decide +kernel : kitB "dict" "tuple" = some false)
theorem kit_str : ∀ d, kitB (tyD d) "str" = some (isStrD d)
  | .none => (by decide +kernel : kitB "NoneType" "str" = some false)
  | .bool _ => (by decide +kernel : kitB "bool" "str" = some false)
  | .int _ => (by decide +kernel : kitB "int" "str" = some false)
  | .str _ => (by decide +kernel : kitB "str" "str" = some true)
  | .list _ => (by decide +kernel : kitB "list" "str" = some false)
  | .tuple _ => (by decide +kernel : kitB "tuple" "str" = some false)
  | .dict _ => (by decide +kernel : kitB "dict" "str" = some false)
theorem kit_list : ∀ d, kitB (tyD d) "list" = some (isListD d)
  | .none => (by decide +kernel : kitB "NoneType" "list" = some false)
  | .bool _ => (by decide +kernel : kitB "bool" "list" = some false)
  | .int _ => (by decide +kernel : kitB "int" "list" = some false)
  | .str _ => (by decide +kernel : kitB "str" "list" = some false)
  | .list _ => (by decide +kernel : kitB "list" "list" = some true)
  | .tuple _ => (by decide +kernel : kitB "tuple" "list" = some false)
  | .dict _ => (by decide +kernel : kitB "dict" "list" = some false)
end
end Dl

set_option Elab.async false
set_option linter.all false
set_option maxRecDepth 100000
set_option maxHeartbeats 4000000
/-! a tuple from behind -/
namespace HT
open PySem PySem.Spec PyProof.Rows
section
variable {prog : Program} {w : World} {A : Around} {E : Value → Shared → Prop} {s : Shared}
theorem places_rev (n : Nat) : Builtin.Slice.slicePlaces ((n : Int) - 1) (-1) (-1) = n := by
  unfold Builtin.Slice.slicePlaces
  have h1 : ¬ ((-1 : Int) > 0) := by decide
  simp only [h1, if_false]
  by_cases h : (n : Int) - 1 > -1
  · rw [if_pos h, show (- -1 : Int) = 1 by decide, Int.ediv_one]
    omega
  · rw [if_neg h]
    omega
theorem sliceApplied_rev {sl : Addr} {vs : Value} {n : Nat} {Q : Int × Int × Nat → Shared → Prop} (hs : s.heap.IsSliceOf sl .none .none vs) (ps : IsPart vs (some (-1)))
    (h : Q ((n : Int) - 1, -1, n) s) : wpAny (model prog w) A (Builtin.Slice.sliceApplied (.ref sl) (pure (n : Int))) Q E s := by
  obtain ⟨os, hos, hcs, hds⟩ := id hs
  unfold Builtin.Slice.sliceApplied Builtin.Slice.sliceFields
  refine wpAny_bind (wpAny_bind (wpAny_field hos hds (x := .none) rfl (wpAny_bind (wpAny_field hos hds (x := .none) rfl (wpAny_bind (wpAny_field hos hds (x := vs) rfl (wpAny_pure ?_)))))))
  refine wpAny_bind (slicePart_ ps ?_)
  show wpAny _ _ (if ((-1 : Int) == 0) = true then _ else _) _ _ s
  rw [if_neg (by decide)]
  refine wpAny_bind (slicePart_none (wpAny_bind (slicePart_none (wpAny_bind (wpAny_pure ?_)))))
  show wpAny _ _ (match Builtin.Slice.sliceAdjust none none (-1) (n : Int) with | (lo, hi) => pure (lo, (-1 : Int), Builtin.Slice.slicePlaces lo hi (-1))) _ _ s
  have e : Builtin.Slice.sliceAdjust none none (-1) (n : Int) = ((n : Int) - 1, -1) := rfl
  rw [e]
  show wpAny _ _ (pure ((n : Int) - 1, (-1 : Int), Builtin.Slice.slicePlaces ((n : Int) - 1) (-1) (-1))) _ _ s
  rw [places_rev]
  exact wpAny_pure h
theorem pick_rev (xs : Array Value) : ((List.range xs.size).filterMap fun (m : Nat) => xs[(((xs.size : Int) - 1) + (m : Int) * -1).toNat]?).toArray = xs.toList.reverse.toArray := by
  have e : (List.range xs.size).filterMap (fun (m : Nat) => xs[(((xs.size : Int) - 1) + (m : Int) * -1).toNat]?) = ((List.range xs.size).map fun k => xs.size - 1 - k).filterMap (xs[·]?) := by
    rw [List.filterMap_map]
    have key : ∀ l : List Nat, (∀ m ∈ l, m < xs.size) → l.filterMap (fun (m : Nat) => xs[(((xs.size : Int) - 1) + (m : Int) * -1).toNat]?) = l.filterMap ((xs[·]?) ∘ fun k => xs.size - 1 - k) := by
      intro l
      induction l with
      | nil => intro _; rfl
      | cons m l ih =>
        intro h
        have h1 := h m List.mem_cons_self
        have e2 : (((xs.size : Int) - 1) + (m : Int) * -1).toNat = xs.size - 1 - m := by omega
        rw [List.filterMap_cons, List.filterMap_cons, ih fun k hk => h k (List.mem_cons_of_mem _ hk), e2]
        rfl
    exact key _ fun m hm => List.mem_range.mp hm
  rw [e, PySem.W.krv_range, List.filterMap_reverse, PySem.W.krv_all]
theorem getItem_tuple_rev {t sl : Addr} {items : Array Value} {vs : Value} {Q : Value → Shared → Prop} (ht : IsTup s.heap t items) (hs : s.heap.IsSliceOf sl .none .none vs) (ps : IsPart vs (some (-1)))
    (h : Q (.ref s.heap.objs.size) { s with heap := s.heap.push { cls := .type "tuple", data := .seq items.toList.reverse.toArray } })
    (hsz : items.size ≤ sizeLine) : wpAny (model prog w) A (getItem (.ref t) (.ref sl)) Q E s := by
  have htake : sizeOk (.seq items.toList.reverse.toArray) := by
    show items.toList.reverse.toArray.size ≤ sizeLine
    rw [List.size_toArray, List.length_reverse, Array.length_toList]
    exact hsz
  obtain ⟨os, hos, hcs, hds⟩ := id hs
  have hTs : s.TypeIs (.ref sl) "slice" := ⟨os, hos, hcs⟩
  unfold getItem
  try with_reducible refine wpAny_holding ?_
  first | refine wpAny_bind (wpAny_pure ?_) | skip
  refine wpAny_bind (wpAny_sequenceKey ht.typeIs (by decide) ?_)
  refine wpAny_bind (wpAny_callSpecial?_slot (name := Str.ofString "__getitem__") ht.typeIs PyProof.Rows.slot_tuple_getitem
    (wpAny_call_entry PyProof.Rows.slot_tuple_getitem ht.typeIs entry_tuple_getitem ?_ (args_tuple_getitem _ _)))
  show wpAny _ _ (Builtin.Tuple.tupleItemsOf (.ref t) >>= _) _ _ s
  refine wpAny_bind (tupleItemsOf_ ht ?_)
  refine wpAny_bind (wpAny_typeOf hTs ?_)
  rw [if_pos (by decide)]
  refine wpAny_bind (sliceApplied_rev hs ps ?_)
  have hno : ¬ ((((items.size : Int) - 1) == 0 && (-1 : Int) == 1 && items.size == items.size) = true) := by
    intro q
    rw [Bool.and_eq_true, Bool.and_eq_true] at q
    exact absurd q.1.2 (by decide)
  show wpAny _ _ (if ((((items.size : Int) - 1) == 0 && (-1 : Int) == 1 && items.size == items.size) = true) then _ else _) _ _ s
  rw [if_neg hno, pick_rev]
  first
    | exact wpAny_bind (m := Builtin.Tuple.tupleExact _) (wpAny_newObj_type (wpAny_pure ⟨_, rfl, wpAny_pure h⟩) htake)
    | exact wpAny_bind (m := Builtin.Tuple.tupleExact _) (wpAny_newObj_type (wpAny_bind (wpAny_pure (wpAny_pure ⟨_, rfl, wpAny_pure h⟩))) htake)
    | exact wpAny_bind (wpAny_bind (m := Builtin.Tuple.tupleExact _) (wpAny_newObj_type (wpAny_pure (wpAny_pure ⟨_, rfl, wpAny_pure h⟩)) htake))
    | exact wpAny_bind (wpAny_bind (m := Builtin.Tuple.tupleExact _) (wpAny_newObj_type (wpAny_pure ⟨_, rfl, wpAny_pure h⟩) htake))
end
end HT
namespace Dl
open PySem PySem.Spec PyProof.Rows L2 Kt
section
variable {X : Cx}
theorem pe_revA {e : Expr} {te : TE} {k : Nat} {p1 p2 p3 pos : Pos} (he : PE X e te) : PE X (.Subscript e (.Slice none none (some (.UnaryOp .USub (.Constant (.int 1) k p1) p2)) p3) pos)
    (fun σ H Q => te σ H fun x H1 => (∃ a xs, x = .ref a ∧ SqL X.K H1 a xs ∧ ∀ p, H1 p = none → Q (.ref p) (upd H1 p (.lst xs.reverse))) ∨ (∃ a xs, x = .ref a ∧ SqT X.K H1 a xs ∧ ∀ p, H1 p = none → Q (.ref p) (upd H1 p (.tup xs.reverse)))) := by
  refine ⟨fun pins s σ H Q I h => ?_⟩
  refine Subscript_ (thn (he.run pins s σ H _ I h) fun v s1 ⟨x, H1, I1, r1, q1⟩ => ?_)
  have go : ∀ {a : Addr}, x = .ref a → v = .ref a := fun e => by subst e; cases r1; rfl
  have hst : PO X (some (.UnaryOp .USub (.Constant (.int 1) k p1) p2)) (tPart (tUn (rU fun i => .int (-i)) (tC (.int 1)))) := po_some (pe_un un_neg pe_int)
  refine wpAny_Slice (thn (po_none.run pins s1 σ H1 (fun o H2 => o = none ∧ H2 = H1) I1 ⟨rfl, rfl⟩) fun vl s2 ⟨l, H2, I2, pl, el, e2⟩ => ?_)
  subst el e2
  refine thn (po_none.run pins s2 σ H2 (fun o H3 => o = none ∧ H3 = H2) I2 ⟨rfl, rfl⟩) fun vu s3 ⟨u, H3, I3, pu, eu, e3⟩ => ?_
  subst eu e3
  refine thn (hst.run pins s3 σ H3 (fun o H4 => o = some (-1) ∧ H4 = H3) I3 ⟨1, rfl, -1, rfl, rfl, rfl⟩) fun vs s4 ⟨o, H4, I4, ps, eo, e4⟩ => ?_
  subst eo e4
  have I5 : Inv X pins σ H4 { s4 with heap := s4.heap.push { cls := .type "slice", data := .fields #[vl, vu, vs] } } := I4.kept (t' := s4.toks) fun b ob q => Heap.get?_push_of_some _ q
  rcases q1 with ⟨a, xs, ex, hx, q⟩ | ⟨a, xs, ex, hx, q⟩
  · obtain rfl := go ex
    obtain ⟨its, r, ht, hz⟩ := I5.list hx
    have hlen := r.length
    show wpAny (model X.prog X.w) X.A (subscriptTail e (.Slice none none (some (.UnaryOp .USub (.Constant (.int 1) k p1) p2)) p3) (.ref a) (.ref s4.heap.objs.size)) (EP X pins σ Q) X.xe { s4 with heap := s4.heap.push { cls := .type "slice", data := .fields #[vl, vu, vs] } }
    refine tail_any (ops := [.ref a, .ref s4.heap.objs.size]) ht.isList.typeIs (PySem.slot_list_getitem.lookup) ?_ (by with_unfolding_all rfl)
    refine wpAny_getItem_list_slice ht.isList (Heap.IsSliceOf.new _ vl vu vs) pl pu ps (by decide) ?_ (by rw [List.size_toArray]; omega)
    rw [PySem.W.krv_pick]
    refine ⟨.ref _, _, I5.laid (t' := s4.toks) (o := .lst xs.reverse) (fun b ob q => Heap.get?_push_of_some _ q) (Nat.le_refl _) ?_, rfl, q _ (I5.hok.fresh (Nat.le_refl _))⟩
    exact ⟨by rw [List.length_reverse]; exact hz, _, 0, r.reverse, Heap.get?_push_size _ rfl⟩
  · obtain rfl := go ex
    obtain ⟨its, r, ht, hz⟩ := I5.tuple hx
    have hlen := r.length
    have el : vl = Value.none := by cases pl; rfl
    have eu : vu = Value.none := by cases pu; rfl
    subst el eu
    show wpAny (model X.prog X.w) X.A (subscriptTail e (.Slice none none (some (.UnaryOp .USub (.Constant (.int 1) k p1) p2)) p3) (.ref a) (.ref s4.heap.objs.size)) (EP X pins σ Q) X.xe { s4 with heap := s4.heap.push { cls := .type "slice", data := .fields #[.none, .none, vs] } }
    refine tail_any (ops := [.ref a, .ref s4.heap.objs.size]) ht.typeIs PyProof.Rows.slot_tuple_getitem.lookup ?_ (by with_unfolding_all rfl)
    refine HT.getItem_tuple_rev ht (Heap.IsSliceOf.new _ .none .none vs) ps ?_ (by rw [List.size_toArray]; omega)
    refine ⟨.ref _, _, I5.laid (t' := s4.toks) (o := .tup xs.reverse) (fun b ob q => Heap.get?_push_of_some _ q) (Nat.le_refl _) ?_, rfl, q _ (I5.hok.fresh (Nat.le_refl _))⟩
    exact ⟨by rw [List.length_reverse]; exact hz, its.reverse, r.reverse, ⟨_, Heap.get?_push_size _ rfl, rfl, 0, rfl⟩⟩
end
section
variable {K : PySem.W.Frag} {X : Cx} {e a b c tg : Expr} {es : List Expr} {pos p : Pos} {te ta tb tc : TD} {tA : TDA} {S : List Addr} {H : Hp} {x : Str} {kk : Nat} {f : Fr} {σ : Sl} {ρ : Rho} {pd : List (V × PyData)} {d : PyData}
def dRev (te : TD) : TD := fun ρ Q => te ρ fun d ρ1 => match d with
  | .list xs => Q (.list xs.reverse) ρ1
  | .tuple xs => Q (.tuple xs.reverse) ρ1
  | _ => False
theorem de_rev {k : Nat} {p1 p2 p3 : Pos} (hK : X.K = K) (he : DE K X e te) : DE K X (.Subscript e (.Slice none none (some (.UnaryOp .USub (.Constant (.int 1) k p1) p2)) p3) pos) (dRev te) := by
  subst hK
  refine wkE (pe_revA he) fun σ H Q h => ?_
  obtain ⟨f, ρ, pd, A, R, t, k⟩ := h
  refine ⟨f, ρ, pd, _, R, t, fun d ρ1 x H1 q R1 => ?_⟩
  cases d with
  | list ds =>
    obtain ⟨p, us, rfl, hp, gp⟩ := R1.top.inv_list
    exact .inl ⟨p, us, rfl, SqL.of (Ob.of hp).2, fun r hr => k _ ρ1 _ _ q ((R1.pop.keep (Kp.new hr)).push (.lstA (ob_new hr R1.alloc) (gp.rev.new hr)))⟩
  | tuple ds =>
    obtain ⟨p, us, rfl, hp, gp⟩ := R1.top.inv_tup
    exact .inr ⟨p, us, rfl, obT hp, fun r hr => k _ ρ1 _ _ q ((R1.pop.keep (Kp.new hr)).push (.tupA (ob_new hr R1.alloc) (gp.rev.new hr)))⟩
  | _ => exact q.elim
theorem dpv (i : Nat) {x : Str} {pos : Pos} (hN : X.N[i]? = some x := by rfl) (hv : Vis X.env.scope x := by first | exact Or.inl rfl | exact Or.inr (Or.inl rfl) | exact Or.inr (Or.inr rfl)) (hd : (x == ("__debug__" : Str)) = false := by decide)
    (hcd : (x == ("__classdict__" : Str)) = false := by decide) : DE K X (.Name x pos) (dv i) := de_var hN hv hd hcd

/-! ### a list of the body's own -/
theorem Rel.own_new {i : Nat} (R : Rel K f σ H ρ pd) (h : freeSlot ρ[i]? = true) {a : Addr} (ha : H a = none) : Rel K f (σ.set i (some (.ref a))) (upd H a (.lst [])) (ρ.set i (some (.own a []))) pd := by
  have hi : i < ρ.length := by
    cases q : ρ[i]? with
    | none => rw [q] at h; cases h
    | some _ => exact (List.getElem?_eq_some_iff.mp q).1
  have aS : a ∉ Sx f ρ := fun z => R.alloc a z ha
  -- who is own behind it
  have ho : ∀ b, b ∈ owns (ρ.set i (some (.own a []))) ↔ b = a ∨ b ∈ owns ρ := by
    intro b
    rw [mem_owns, mem_owns]
    constructor
    · rintro ⟨j, ds, hj⟩
      by_cases e : i = j
      · subst e
        rw [List.getElem?_set_self hi] at hj
        cases hj
        exact .inl rfl
      · rw [List.getElem?_set_ne e] at hj
        exact .inr ⟨j, ds, hj⟩
    · rintro (z | ⟨j, ds, hj⟩)
      · subst z
        exact ⟨i, [], by rw [List.getElem?_set_self hi]⟩
      · refine ⟨j, ds, ?_⟩
        by_cases e : i = j
        · subst e
          rw [hj] at h
          cases h
        · rw [List.getElem?_set_ne e]; exact hj
  have hS : ∀ b, b ∈ Sx f (ρ.set i (some (.own a []))) ↔ b = a ∨ b ∈ Sx f ρ := by
    intro b
    unfold Sx
    simp only [List.mem_append, ho]
    constructor
    · rintro (z | z | z | z)
      · exact .inr (.inl z)
      · exact .inr (.inr (.inl z))
      · exact .inl z
      · exact .inr (.inr (.inr z))
    · rintro (z | z | z | z)
      · exact .inr (.inr (.inl z))
      · exact .inl z
      · exact .inr (.inl z)
      · exact .inr (.inr (.inr z))
  have sm : Same (Ob (Sx f ρ) H) (Ob (Sx f (ρ.set i (some (.own a [])))) (upd H a (.lst []))) := fun b o e => by
    obtain ⟨h1, h2⟩ := Ob.of e
    have ne : b ≠ a := fun z => by rw [z, ha] at h2; cases h2
    exact Ob.mk (fun z => by rcases (hS b).mp z with w | w; exact ne w; exact h1 w) (by rw [upd_ne ne]; exact h2)
  have k : Kp [] H (upd H a (.lst [])) := Kp.new ha
  have nod : (owns (ρ.set i (some (.own a [])))).Nodup := by
    have n0 := R.nod
    have na : a ∉ owns ρ := fun z => aS (List.mem_append_right _ (List.mem_append_right _ z))
    have key : ∀ (ρ : Rho) (i : Nat), freeSlot ρ[i]? = true → (owns ρ).Nodup → a ∉ owns ρ → (owns (ρ.set i (some (.own a [])))).Nodup ∧ ∀ b, b ∈ owns (ρ.set i (some (.own a []))) → b = a ∨ b ∈ owns ρ := by
      intro ρ
      induction ρ with
      | nil => intro i h; simp [freeSlot] at h
      | cons p ρ ih =>
        intro i h hn ha
        cases i with
        | zero =>
          have e : owns (p :: ρ) = owns ρ := by
            unfold owns
            cases p with
            | none => rfl
            | some q =>
              cases q with
              | dat _ => rfl
              | deck => simp [freeSlot] at h
              | own _ _ => simp [freeSlot] at h
          have e2 : owns ((p :: ρ).set 0 (some (.own a []))) = a :: owns ρ := rfl
          rw [e2, e]
          rw [e] at hn ha
          exact ⟨List.nodup_cons.mpr ⟨ha, hn⟩, fun b hb => List.mem_cons.mp hb⟩
        | succ i =>
          have hh : freeSlot ρ[i]? = true := by simpa using h
          have e2 : owns ((p :: ρ).set (i + 1) (some (.own a []))) = (match ownA p with | some b => b :: owns (ρ.set i (some (.own a []))) | none => owns (ρ.set i (some (.own a [])))) := by
            unfold owns
            rw [List.set_cons_succ, List.filterMap_cons]
            cases ownA p <;> rfl
          have e1 : owns (p :: ρ) = (match ownA p with | some b => b :: owns ρ | none => owns ρ) := by
            unfold owns
            rw [List.filterMap_cons]
            cases ownA p <;> rfl
          rw [e2]
          rw [e1] at hn ha ⊢
          cases q : ownA p with
          | none =>
            rw [q] at hn ha
            exact ih i hh hn ha
          | some b =>
            rw [q] at hn ha
            obtain ⟨n1, n2⟩ := List.nodup_cons.mp hn
            obtain ⟨i1, i2⟩ := ih i hh n2 (fun z => ha (List.mem_cons_of_mem _ z))
            refine ⟨List.nodup_cons.mpr ⟨fun z => ?_, i1⟩, fun c hc => ?_⟩
            · rcases i2 b z with w | w
              · exact ha (by rw [w]; exact List.mem_cons_self)
              · exact n1 w
            · rcases List.mem_cons.mp hc with w | w
              · exact .inr (by rw [w]; exact List.mem_cons_self)
              · rcases i2 c w with w | w
                · exact .inl w
                · exact .inr (List.mem_cons_of_mem _ w)
    exact (key ρ i h n0 na).1
  refine ⟨R.kp.trans (k.mono (by simp)), fun a' c' q => (R.dk a' c' q).new ha, fun a' c' q => ?_, fun b hb => kp_ne k (R.dk0 b hb), R.hid, R.sys, nod, by rw [List.length_set, List.length_set]; exact R.len, fun j p hp => ?_, fun p hp => (R.pend p hp).same sm⟩
  · obtain ⟨h1, h2, h3, h4⟩ := R.dkD a' c' q
    refine ⟨h1, h2, fun z => ?_, fun z => ?_⟩
    · rcases (ho a').mp z with w | w
      · exact R.dk0 a' h1 (by rw [w]; exact ha)
      · exact h3 w
    · rcases (ho c').mp z with w | w
      · exact R.dk0 c' h2 (by rw [w]; exact ha)
      · exact h4 w
  · by_cases e : i = j
    · subst e
      rw [List.getElem?_set_self hi] at hp
      cases hp
      refine ⟨.ref a, by rw [List.getElem?_set_self (by rw [R.len]; exact hi)], .own upd_same ?_ .nil⟩
      refine .inl ?_
      cases q : f.H0 a with
      | none => rfl
      | some o =>
        by_cases hD : a ∈ f.D
        · exact absurd ha (R.dk0 a hD)
        · have := R.kp a o hD q
          rw [ha] at this
          cases this
    · rw [List.getElem?_set_ne e] at hp
      obtain ⟨v, hv, s⟩ := R.sl j p hp
      refine ⟨v, by rw [List.getElem?_set_ne e]; exact hv, ?_⟩
      cases s with
      | dat h => exact .dat (h.same sm)
      | deck h => exact .deck h
      | own h h0 hd => exact .own (k _ _ (by simp) h) h0 (hd.same sm)
/-- the own list in the slot i is changed -/
theorem Rel.own_put {i : Nat} {a : Addr} {ds es : List PyData} {ys : List V} (R : Rel K f σ H ρ pd) (h : ρ[i]? = some (some (.own a ds))) (hy : DqAll K (Ob (Sx f ρ) H) ys es) : Rel K f σ (upd H a (.lst ys)) (ρ.set i (some (.own a es))) pd := by
  have hi : i < ρ.length := (List.getElem?_eq_some_iff.mp h).1
  have e : owns (ρ.set i (some (.own a es))) = owns ρ := by
    have key : ∀ (ρ : Rho) (i : Nat), ρ[i]? = some (some (.own a ds)) → owns (ρ.set i (some (.own a es))) = owns ρ := by
      intro ρ
      induction ρ with
      | nil => intro i h; simp at h
      | cons p ρ ih =>
        intro i h
        cases i with
        | zero => simp at h; subst h; rfl
        | succ i =>
          have := ih i (by simpa using h)
          unfold owns at this ⊢
          rw [List.set_cons_succ, List.filterMap_cons, List.filterMap_cons, this]
    exact key ρ i h
  have eS : Sx f (ρ.set i (some (.own a es))) = Sx f ρ := by unfold Sx; rw [e]
  have ma : a ∈ owns ρ := mem_owns.mpr ⟨i, ds, h⟩
  have aS : a ∈ Sx f ρ := List.mem_append_right _ (List.mem_append_right _ ma)
  have sm : Same (Ob (Sx f ρ) H) (Ob (Sx f ρ) (upd H a (.lst ys))) := fun b o q => by
    obtain ⟨h1, h2⟩ := Ob.of q
    exact Ob.mk h1 (by rw [upd_ne (fun z => h1 (by rw [z]; exact aS))]; exact h2)
  have ne : ∀ b, H b ≠ none → upd H a (.lst ys) b ≠ none := fun b hb => by
    by_cases z : b = a
    · rw [z, upd_same]; simp
    · rw [upd_ne z]; exact hb
  obtain ⟨va, hva, sa⟩ := R.sl i _ h
  refine ⟨?_, fun a' c' q => ?_, fun a' c' q => by rw [e]; exact R.dkD a' c' q, fun b hb => ne b (R.dk0 b hb), R.hid, R.sys, by rw [e]; exact R.nod, by rw [List.length_set]; exact R.len, fun j p hp => ?_, fun p hp => by rw [eS]; exact (R.pend p hp).same sm⟩
  · intro b o nb q
    have q2 := R.kp b o nb q
    rw [upd_ne]
    · exact q2
    · intro z
      subst z
      cases sa with
      | own _ h0 _ =>
        rcases h0 with h0 | h0
        · rw [h0] at q; cases q
        · exact nb h0
  · obtain ⟨_, _, h3, h4⟩ := R.dkD a' c' q
    exact (R.dk a' c' q).put (fun z => h3 (by rw [← z]; exact ma)) (fun z => h4 (by rw [← z]; exact ma))
  · by_cases z : i = j
    · subst z
      rw [List.getElem?_set_self hi] at hp
      cases hp
      refine ⟨va, hva, ?_⟩
      cases sa with
      | own h' h0 hd => exact .own upd_same h0 (by rw [eS]; exact hy.same sm)
    · rw [List.getElem?_set_ne z] at hp
      obtain ⟨v, hv, s⟩ := R.sl j p hp
      refine ⟨v, hv, ?_⟩
      rw [eS]
      cases s with
      | dat h => exact .dat (h.same sm)
      | deck h => exact .deck h
      | @own b xs es' h' h0 hd =>
        refine .own ?_ h0 (hd.same sm)
        rw [upd_ne]
        · exact h'
        · intro w
          subst w
          -- two slots with one list
          have nd := R.nod
          have key : ∀ (ρ : Rho) (i j : Nat) (b : Addr) (ds es : List PyData), (owns ρ).Nodup → ρ[i]? = some (some (.own b ds)) → ρ[j]? = some (some (.own b es)) → i = j := by
            intro ρ
            induction ρ with
            | nil => intro i j b ds es _ h; simp at h
            | cons p ρ ih =>
              intro i j b ds es hn h1 h2
              have e1 : owns (p :: ρ) = (match ownA p with | some b => b :: owns ρ | none => owns ρ) := by
                unfold owns
                rw [List.filterMap_cons]
                cases ownA p <;> rfl
              rw [e1] at hn
              cases i with
              | zero =>
                simp at h1
                subst h1
                simp only [ownA] at hn
                cases j with
                | zero => rfl
                | succ j => exact absurd (mem_owns.mpr ⟨j, es, by simpa using h2⟩) (List.nodup_cons.mp hn).1
              | succ i =>
                cases j with
                | zero =>
                  simp at h2
                  subst h2
                  simp only [ownA] at hn
                  exact absurd (mem_owns.mpr ⟨i, ds, by simpa using h1⟩) (List.nodup_cons.mp hn).1
                | succ j =>
                  have hn' : (owns ρ).Nodup := by
                    cases q : ownA p with
                    | none => rw [q] at hn; exact hn
                    | some _ => rw [q] at hn; exact (List.nodup_cons.mp hn).2
                  rw [ih i j b ds es hn' (by simpa using h1) (by simpa using h2)]
          exact z (key ρ i j b ds es' nd h hp)
/-- x = [] -/
def sOwn (i : Nat) : TSD := fun E ρ => freeSlot ρ[i]? = true ∧ ∀ a, E.nx (ρ.set i (some (.own a [])))
theorem ds_own {i : Nat} {x : Str} {pos' p2 : Pos} (hN : X.N.Nodup) (hi : X.N[i]? = some x) (hx : Loc X.env.scope x) (hs : swapsWith (.List [] p2) (some (.Name x pos')) pos.line X.env = pure false := by rfl) (hf : X.fn x = true ∨ X.env.scope.names.lookup x = some .local := by first | exact .inl rfl | exact .inr rfl | assumption) :
    DS K X (.Assign [.Name x pos'] (.List [] p2) pos) (sOwn i) := by
  refine wkS (ps_set hN hi hx (pe_lst pa_nil) hs hf) fun D σ H h => ?_
  obtain ⟨f, ρ, pd, E, R, t, L⟩ := h
  exact ⟨Nat.zero_le _, fun p hp => L.nx _ _ _ (t.2 p) (R.own_new t.1 hp)⟩
def isOwn : Option (Option Dv) → Option (Addr × List PyData)
  | some (some (.own a ds)) => some (a, ds)
  | _ => none
theorem isOwn_some {o : Option (Option Dv)} {a : Addr} {ds : List PyData} (h : isOwn o = some (a, ds)) : o = some (some (.own a ds)) := by
  unfold isOwn at h
  split at h
  · cases h; rfl
  · cases h
/-- x.append(e) -/
def dApp (i : Nat) (te : TD) : TD := fun ρ Q => (isOwn ρ[i]?).isSome = true ∧ te ρ fun d ρ1 => match isOwn ρ1[i]? with
  | some (a, ds) => ds.length < SZ ∧ Q .none (ρ1.set i (some (.own a (ds ++ [d]))))
  | none => False
theorem own_slot {i : Nat} (R : Rel K f σ H ρ pd) (h : (isOwn ρ[i]?).isSome = true) : ∃ l xs, σ[i]? = some (some (.ref l)) ∧ H l = some (.lst xs) := by
  cases z : isOwn ρ[i]? with
  | none => rw [z] at h; cases h
  | some o =>
    obtain ⟨a, ds⟩ := o
    obtain ⟨w, hw, s⟩ := R.sl i _ (isOwn_some z)
    cases s with
    | own h h0 hd => exact ⟨a, _, hw, h⟩
theorem de_append {i : Nat} {x : Str} {px apos cpos : Pos} (hN : X.N[i]? = some x) (hv : Vis X.env.scope x) (he : DE K X e te) (hd : (x == ("__debug__" : Str)) = false := by decide) (hcd : (x == ("__classdict__" : Str)) = false := by decide)
    (hbase : attributeBase (.Name x px) "append" X.env (eval (.Name x px) X.env) = eval (.Name x px) X.env := by rfl)
    (hfew : ((backTo cpos (starEach (e :: []) X.env)).all (fun x => !x.1) && (backToKw cpos (keywordEach [] X.env)).all (fun x => x.1.isSome)
      && decide ((e :: []).length + ([] : List Keyword).length + (if ([] : List Keyword).isEmpty then 0 else 1) < 30)) = true := by rfl)
    (hline : (apos.endLine == cpos.line) = true := by rfl) (hs : starEach (e :: []) X.env = (false, eval e X.env) :: starEach [] X.env := by rfl) (hplain : (backTo cpos (starEach [] X.env)).any (·.1) = false := by rfl) :
    DE K X (.Call (.Attribute (.Name x px) "append" apos) [e] [] cpos) (dApp i te) := by
  refine wkE (pe_bm PySem.F.plainAttrs_list PySem.F.slot_list_append PySem.F.type_list_append mt_append (pe_var hN hv hd hcd) (pa_cons he pa_nil hs) hbase hfew hline hs hplain) fun σ H Q h => ?_
  obtain ⟨f, ρ, pd, A, R, ⟨hown, t⟩, k⟩ := h
  obtain ⟨l, xs, hl, hx⟩ := own_slot R hown
  refine ⟨.ref l, hl, .inl ⟨rfl, xs, SqL.of hx⟩, f, ρ, pd, _, R, t, fun d ρ1 y H1 q R1 => ?_⟩
  cases z : isOwn ρ1[i]? with
  | none => simp only [z] at q
  | some o =>
    obtain ⟨a, ds⟩ := o
    simp only [z] at q
    have z2 := isOwn_some z
    obtain ⟨w, hw, s⟩ := R1.sl i _ z2
    rw [hl] at hw
    cases hw
    cases s with
    | own h h0 hd =>
      refine ⟨l, _, y, rfl, rfl, h, ?_, k _ _ _ _ q.2 ?_⟩
      · rw [hd.1]; exact Nat.lt_of_lt_of_le q.1 (by decide)
      · exact (R1.pop.own_put z2 (hd.app (.cons R1.top .nil))).push .non
end
end Dl

set_option Elab.async false
set_option linter.all false
set_option maxRecDepth 100000
set_option maxHeartbeats 4000000
namespace Dl
open PySem PySem.Spec PyProof.Rows L2 Kt
/-! ### pairs of ints -/
def pD (r : Int × Int) : PyData := .tuple [.int r.1, .int r.2]
def PrAt (H : Hp) (x : V) (r : Int × Int) : Prop := ∃ t, x = .ref t ∧ H t = some (.tup [.int r.1, .int r.2])
abbrev Prs (H : Hp) : List V → List (Int × Int) → Prop := Paired (PrAt H)
def keyP (H : Hp) (x : V) : Int × Int := match x with
  | .ref t => match H t with
    | some (.tup [.int i, .int j]) => (i, j)
    | _ => (0, 0)
  | _ => (0, 0)
theorem keyP_at {H : Hp} {x : V} {r : Int × Int} (h : PrAt H x r) : keyP H x = r := by
  obtain ⟨t, rfl, e⟩ := h
  unfold keyP
  simp only [e]
theorem Prs.keys {H : Hp} : ∀ {xs : List V} {rs : List (Int × Int)}, Prs H xs rs → xs.map (keyP H) = rs ∧ ∀ x ∈ xs, PrAt H x (keyP H x)
  | _, _, .nil => ⟨rfl, fun _ h => absurd h (by simp)⟩
  | _, _, .cons h t => by
    obtain ⟨e1, e2⟩ := Prs.keys t
    refine ⟨by rw [List.map_cons, keyP_at h, e1], fun x hx => ?_⟩
    rcases List.mem_cons.mp hx with e | hx
    · rw [e, keyP_at h]
      exact h
    · exact e2 x hx
theorem prs_map {H : Hp} : ∀ {ys : List V}, (∀ x ∈ ys, PrAt H x (keyP H x)) → Prs H ys (ys.map (keyP H))
  | [], _ => .nil
  | y :: ys, h => .cons (h y List.mem_cons_self) (prs_map fun x hx => h x (List.mem_cons_of_mem _ hx))
theorem prs_sorted {H : Hp} {xs ys : List V} {rs : List (Int × Int)} (hp : Prs H xs rs) (h1 : SrtO.Srtd (ltP (keyP H)) ys) (h2 : SrtO.Stb (ltP (keyP H)) ys xs) :
    (ys.map (keyP H)).Perm rs ∧ (ys.map (keyP H)).Pairwise (fun u v => SrtO.lexB v u = false) ∧ Prs H ys (ys.map (keyP H)) := by
  obtain ⟨e1, e2⟩ := hp.keys
  refine ⟨?_, List.pairwise_map.mpr h1, prs_map fun x hx => e2 x (h2.perm.mem_iff.mp hx)⟩
  rw [← e1]
  exact h2.perm.map _
/-! (a, b) in pairs -/
theorem eqv_pair (r q : Int × Int) : PyData.eqv (pD r) (pD q) = decide (r = q) := by
  obtain ⟨a, b⟩ := r
  obtain ⟨c, d⟩ := q
  unfold pD
  simp only [PyData.eqv, PyData.eqvAll, Bool.and_true]
  by_cases h1 : a = c <;> by_cases h2 : b = d <;> simp [h1, h2]
theorem any_pair (rs : List (Int × Int)) (q : Int × Int) : ((rs.map pD).any fun z => PyData.eqv z (pD q)) = decide (q ∈ rs) := by
  induction rs with
  | nil => rfl
  | cons r rs ih =>
    rw [List.map_cons, List.any_cons, ih, eqv_pair]
    by_cases h : r = q
    · simp [h]
    · have h' : ¬ q = r := fun e => h e.symm
      simp [h, h']
theorem canLay_pairs : ∀ rs : List (Int × Int), PyData.canLayAll0 (rs.map pD) = true
  | [] => by simp [PyData.canLayAll0]
  | r :: rs => by simp [PyData.canLayAll0, PyData.canLay0, pD, canLay_pairs rs]
theorem depth_pairs : ∀ rs : List (Int × Int), PyData.depthAll (rs.map pD) ≤ 1
  | [] => by simp [PyData.depthAll]
  | r :: rs => by
    have := depth_pairs rs
    simp only [List.map_cons, PyData.depthAll, pD, PyData.depth]
    omega
theorem shp_pairs (rs : List (Int × Int)) : SeqAt.shaped (.list (rs.map pD)) = true := by
  refine shaped_of (by simp [PyData.canLay0, canLay_pairs]) ?_
  have := depth_pairs rs
  simp only [PyData.depth]
  omega
theorem shp_pair (r : Int × Int) : SeqAt.shaped (pD r) = true := shaped_of (by simp [pD, PyData.canLay0, PyData.canLayAll0]) (by simp [pD, PyData.depth, PyData.depthAll])
section
variable {K : PySem.W.Frag} {S : List Addr} {H : Hp} {X : Cx} {e a b c tg : Expr} {pos p : Pos} {ta te : TD} {f : Fr} {σ : Sl} {ρ : Rho} {pd : List (V × PyData)} {kk : Nat}
theorem prs_dq : ∀ {xs : List V} {rs : List (Int × Int)}, DqAll K (Ob S H) xs (rs.map pD) → Prs H xs rs
  | _, [], h => by rw [h.inv_nil]; exact .nil
  | _, r :: rs, h => by
    obtain ⟨v, t, rfl, hv, ht⟩ := h.inv_cons
    obtain ⟨a, us, rfl, ha, ga⟩ := hv.inv_tup
    obtain ⟨v1, t1, rfl, h1, g1⟩ := ga.inv_cons
    obtain ⟨v2, t2, rfl, h2, g2⟩ := g1.inv_cons
    obtain rfl := g2.inv_nil
    obtain rfl := h1.inv_int
    obtain rfl := h2.inv_int
    exact .cons ⟨a, rfl, (Ob.of ha).2⟩ (prs_dq ht)
theorem mem_dq {xs : List V} {ds : List PyData} {x : V} (g : DqAll K (Ob S H) xs ds) (h : x ∈ xs) : ∃ d ∈ ds, Dq K (Ob S H) x d := by
  obtain ⟨i, hi⟩ := List.mem_iff_getElem?.mp h
  have hl := (List.getElem?_eq_some_iff.mp hi).1
  have hl2 : i < ds.length := by rw [← g.1]; exact hl
  have hd : ds[i]? = some ds[i] := List.getElem?_eq_getElem hl2
  exact ⟨ds[i], List.mem_of_getElem? hd, g.2 i x _ hi hd⟩
theorem dq_pair {x : V} {r q : Int × Int} (h : Dq K (Ob S H) x (pD r)) (h2 : PrAt H x q) : r = q := by
  obtain ⟨t, rfl, e⟩ := h2
  obtain ⟨a, us, ea, ha, ga⟩ := h.inv_tup
  cases ea
  have := (Ob.of ha).2
  rw [e] at this
  cases this
  have e1 := (ga.2 0 _ _ rfl rfl).inv_int
  have e2 := (ga.2 1 _ _ rfl rfl).inv_int
  obtain ⟨r1, r2⟩ := r
  obtain ⟨q1, q2⟩ := q
  simp at e1 e2
  rw [e1, e2]
theorem dq_of_prs {xs ys : List V} {rs qs : List (Int × Int)} (g : DqAll K (Ob S H) xs (rs.map pD)) (h : Prs H ys qs) (hm : ∀ y ∈ ys, y ∈ xs) : DqAll K (Ob S H) ys (qs.map pD) := by
  induction h with
  | nil => exact .nil
  | cons hy ht ih =>
    rename_i y q ys qs
    refine .cons ?_ (ih fun z hz => hm z (List.mem_cons_of_mem _ hz))
    obtain ⟨d, hd, q1⟩ := mem_dq g (hm y List.mem_cons_self)
    obtain ⟨r, _, rfl⟩ := List.mem_map.mp hd
    rw [← dq_pair q1 hy]
    exact q1
def asPairs : List PyData → Option (List (Int × Int))
  | [] => some []
  | .tuple [.int i, .int j] :: ds => (asPairs ds).map ((i, j) :: ·)
  | _ => none
theorem asPairs_some : ∀ {ds : List PyData} {rs : List (Int × Int)}, asPairs ds = some rs → ds = rs.map pD := by
  intro ds
  induction ds with
  | nil => intro rs h; cases h; rfl
  | cons d ds ih =>
    intro rs h
    unfold asPairs at h
    split at h
    · rename_i e; cases e
    · rename_i i j ds' e
      cases e
      cases q : asPairs ds with
      | none => rw [q] at h; cases h
      | some ms =>
        rw [q] at h
        cases h
        rw [ih q]
        rfl
    · cases h
theorem asPairs_map : ∀ rs : List (Int × Int), asPairs (rs.map pD) = some rs
  | [] => rfl
  | r :: rs => by
    show (asPairs (rs.map pD)).map _ = _
    rw [asPairs_map rs]
    rfl
theorem asInts_map : ∀ ns : List Int, asInts (ns.map PyData.int) = some ns
  | [] => rfl
  | n :: ns => by
    show (asInts (ns.map PyData.int)).map _ = _
    rw [asInts_map ns]
    rfl
/-- sorted: of ints, of pairs of ints -/
def dSortE (ds : List PyData) (A : PyData → Prop) : Prop := (∃ ns : List Int, ds = ns.map PyData.int ∧ ∀ ms : List Int, ms.Perm ns → ms.Pairwise (· ≤ ·) → A (.list (ms.map PyData.int))) ∨
  ∃ rs : List (Int × Int), ds = rs.map pD ∧ ∀ ss : List (Int × Int), ss.Perm rs → ss.Pairwise (fun u v => SrtO.lexB v u = false) → A (.list (ss.map pD))
def dSorted : RDn := fun ds A => match ds with
  | [.list xs] => dSortE xs A
  | _ => False
theorem sort_el {q : Addr} {xs : List V} {ds : List PyData} {A : PyData → Prop} {Q : VK} (al : ∀ b ∈ S, H b ≠ none) (hq : H q = some (.lst xs)) (g : DqAll K (Ob S H) xs ds) (h : dSortE ds A) (k : ∀ z v H', A z → Kp [] H H' → Dq K (Ob S H') v z → Q v H') :
    rSortedI K [.ref q] H Q ∨ rSortedPO K [.ref q] H Q := by
  rcases h with ⟨ns, rfl, h⟩ | ⟨rs, rfl, h⟩
  · refine .inl ⟨q, ns, rfl, SqL.of (by rw [← ints_dq g]; exact hq), fun ms r hp hs hr => ?_⟩
    refine k _ _ _ (h ms hp hs) (Kp.new hr) (.lstA (ob_new hr al) (DqAll.new ?_ hr))
    have : ∀ ms : List Int, DqAll K (Ob S H) (ms.map V.int) (ms.map PyData.int) := fun ms => by
      induction ms with
      | nil => exact .nil
      | cons m ms ih => exact .cons (.int m) ih
    exact this ms
  · have pr := prs_dq g
    refine .inr ⟨q, xs, keyP H, rfl, SqL.of hq, fun x hx => ?_, fun ys r h1 h2 hr => ?_⟩
    · obtain ⟨t, e1, e2⟩ := pr.keys.2 x hx
      exact ⟨t, e1, e2⟩
    · obtain ⟨s1, s2, s3⟩ := prs_sorted pr h1 h2
      refine k _ _ _ (h _ s1 s2) (Kp.new hr) (.lstA (ob_new hr al) (DqAll.new (dq_of_prs g s3 fun y hy => h2.perm.mem_iff.mp hy) hr))
theorem od_sorted : OpDn K (fun vs H Q => rSortedI K vs H Q ∨ rSortedPO K vs H Q) dSorted := by
  intro S H xs ds A Q al sy hx h k
  unfold dSorted at h
  split at h
  · obtain ⟨v, r, rfl, hv, hr⟩ := hx.inv_cons
    obtain rfl := hr.inv_nil
    obtain ⟨q, us, rfl, hp, gp⟩ := hv.inv_list
    exact sort_el al (Ob.of hp).2 gp h k
  · exact h.elim
theorem op_sorted : CallR X (.builtin "sorted") (fun vs H Q => rSortedI X.K vs H Q ∨ rSortedPO X.K vs H Q) := cr_sortedI.or cr_sortedPO
/-! own lists, read -/
theorem own_data {i : Nat} {o : Addr} {ds : List PyData} (R : Rel K f σ H ρ pd) (h : ρ[i]? = some (some (.own o ds))) : ∃ xs, σ[i]? = some (some (.ref o)) ∧ H o = some (.lst xs) ∧ DqAll K (Ob (Sx f ρ) H) xs ds := by
  obtain ⟨w, hw, s⟩ := R.sl i _ h
  cases s with
  | own h h0 hd => exact ⟨_, hw, h, hd⟩
def dSortedO (i : Nat) : TD := fun ρ Q => match isOwn ρ[i]? with
  | some (_, ds) => dSortE ds fun z => Q z ρ
  | none => False
theorem de_sortedO {i : Nat} {x y : Str} {py : Pos} (hK : X.K = K) (hg : Gl X x) (hm : X.mg x = none) (hv : bootBuiltins x = some (.builtin "sorted")) (hN : X.N[i]? = some y) (hvy : Vis X.env.scope y) (hn : x ≠ "__name__" := by decide) (hdb : (x == ("__debug__" : Str)) = false := by decide)
    (hd : (y == ("__debug__" : Str)) = false := by decide) (hcd : (y == ("__classdict__" : Str)) = false := by decide)
    (he : starEach (.Name y py :: []) X.env = (false, eval (.Name y py) X.env) :: starEach [] X.env := by rfl) (hpl : (backTo pos (starEach [] X.env)).any (·.1) = false := by rfl) : DE K X (.Call (.Name x p) [.Name y py] [] pos) (dSortedO i) := by
  subst hK
  refine wkE (pe_callB op_sorted hg hm hv (pa_cons (pe_var hN hvy hd hcd) pa_nil he) hn hdb he hpl) fun σ H Q h => ?_
  obtain ⟨f, ρ, pd, A, R, t, k⟩ := h
  unfold dSortedO at t
  cases z : isOwn ρ[i]? with
  | none => simp only [z] at t
  | some o =>
    obtain ⟨o, ds⟩ := o
    simp only [z] at t
    obtain ⟨xs, hw, ho, g⟩ := own_data R (isOwn_some z)
    exact ⟨.ref o, hw, sort_el R.alloc ho g t fun z v H' az k' dz => k z ρ v H' az ((R.keep k').push dz)⟩
def dNotInO (i : Nat) (ta : TD) : TDT := fun ρ Q => ta ρ fun d ρ1 => match isOwn ρ1[i]? with
  | some (_, ds) => (SeqAt.shaped d = true ∧ SeqAt.shaped (.list ds) = true) ∧ Q (!inD d ds) ρ1
  | none => False
theorem dt_notInO {i : Nat} {y : Str} {py : Pos} (ha : DE K X a ta) (hK : X.K = K) (hr : Room kk X.A) (hN : X.N[i]? = some y) (hvy : Vis X.env.scope y) (hm : behindInMarks .NotIn (.Name y py) = false)
    (hd : (y == ("__debug__" : Str)) = false := by decide) (hcd : (y == ("__classdict__" : Str)) = false := by decide) : DT K X (.Compare a [.NotIn] [.Name y py] pos) (dNotInO i ta) := by
  subst hK
  refine wkT (pt_cmpR (op_notInD (units65 hr)) ha (pe_var hN hvy hd hcd) hm) fun σ H Q h => ?_
  obtain ⟨f, ρ, pd, A, R, t, k⟩ := h
  refine ⟨f, ρ, pd, _, R, t, fun d ρ1 v H1 q R1 => ?_⟩
  cases z : isOwn ρ1[i]? with
  | none => simp only [z] at q
  | some o =>
    obtain ⟨o, ds⟩ := o
    simp only [z] at q
    obtain ⟨xs, hw, ho, g⟩ := own_data R1 (isOwn_some z)
    refine ⟨.ref o, hw, d, ds, obDp R1.top (shp_lay q.1.1), .lst (SqL.of ho) ?_, q.1.1, q.1.2, _, rfl, k _ ρ1 H1 q.2 R1.pop⟩
    have lay := shp_lay q.1.2
    simp only [PyData.canLay0] at lay
    exact DpAll.same (Ob.le _ _) _ (dp_all_of g.1 fun i x d hx hd => (g.2 i x d hx hd).dp (canLay_at lay hd))
end
end Dl

set_option Elab.async false
set_option linter.all false
set_option maxRecDepth 100000
set_option maxHeartbeats 4000000
namespace Dl
open PySem PySem.Spec PyProof.Rows L2 Kt
/-- a def as callers have it -/
def Cal (P : Program) (w : World) (K : PySem.W.Frag) (mg : Str → Option Value) (base : Heap) (k : Nat) (x : Str) (ps : List Str) (sp : Sp) : Prop :=
  ∃ fa fd, FnOk P w K mg base CX0 k fa fd ps sp ∧ PySem.W.keepIn K (.ref fa) = true ∧ Binds K fd ps [] ∧ mg x = some (.ref fa)
/-- the parameters' values out of the keywords' ones -/
def permL {α : Type} (perm : List Nat) (us ws : List α) : List α := match us with
  | [] => perm.filterMap fun i => ws[i]?
  | _ :: _ => []
/-- .. called by names alone -/
def CalW (P : Program) (w : World) (K : PySem.W.Frag) (mg : Str → Option Value) (base : Heap) (k : Nat) (x : Str) (ps ks : List Str) (perm : List Nat) (sp : Sp) : Prop :=
  ∃ fa fd, FnOk P w K mg base CX0 k fa fd ps sp ∧ PySem.W.keepIn K (.ref fa) = true ∧ KBinds K fd ps ks (permL perm) (permL perm) ∧ mg x = some (.ref fa)
theorem permL_rel {perm : List Nat} : ∀ {vs : List V} {us : List Value} {zs : List V} {ws : List Value}, Vals vs us → Vals zs ws → Vals (permL perm vs zs) (permL perm us ws)
  | _, _, _, _, .cons _ _, _ => .nil
  | _, _, zs, ws, .nil, h => by
    show Vals (perm.filterMap fun i => zs[i]?) (perm.filterMap fun i => ws[i]?)
    induction perm with
    | nil => exact .nil
    | cons i perm ih =>
      rw [List.filterMap_cons, List.filterMap_cons]
      cases e : zs[i]? with
      | none =>
        have : ws[i]? = none := by
          rw [List.getElem?_eq_none_iff] at e ⊢
          rw [← h.length]; exact e
        rw [this]
        exact ih
      | some x =>
        obtain ⟨u, hu, r⟩ := h.get e
        rw [hu]
        exact .cons r ih
section
variable {K : PySem.W.Frag} {X : Cx} {e : Expr} {es : List Expr} {pos p kpos : Pos} {te : TD} {ta : TDA} {k : Nat} {x : Str} {ps ks : List Str} {g : RDn} {kws : List Keyword} {nm : Option Str} {perm : List Nat}
theorem de_callC (C : Cal X.prog X.w X.K X.mg X.base k x ps (spN K g)) (hr : Room k X.A) (hg : Gl X x) (ha : DA K X (e :: es) ta) (hdb : (x == ("__debug__" : Str)) = false := by decide) (he : starEach (e :: es) X.env = (false, eval e X.env) :: starEach es X.env := by rfl) (hpl : (backTo pos (starEach es X.env)).any (·.1) = false := by rfl) :
    DE K X (.Call (.Name x p) (e :: es) [] pos) (dCall g ta) := by
  obtain ⟨fa, fd, F, kp, b, m⟩ := C
  exact de_call F hr hg m kp b pass0 ha hdb he hpl
theorem de_callKC (C : Cal X.prog X.w X.K X.mg X.base k x ps (spK K g)) (hr : Room k X.A) (hg : Gl X x) {i : Nat} {n : Str} {pn : Pos} (hN : X.N[i]? = some n) (hv : Vis X.env.scope n) (ha : DA K X es ta) (hdb : (x == ("__debug__" : Str)) = false := by decide) (hd : (n == ("__debug__" : Str)) = false := by decide) (hcd : (n == ("__classdict__" : Str)) = false := by decide) (he : starEach (.Name n pn :: es) X.env = (false, eval (.Name n pn) X.env) :: starEach es X.env := by rfl) (hpl : (backTo pos (starEach es X.env)).any (·.1) = false := by rfl) :
    DE K X (.Call (.Name x p) (.Name n pn :: es) [] pos) (dCallK i g ta) := by
  obtain ⟨fa, fd, F, kp, b, m⟩ := C
  exact de_callK F hr hg m kp b pass0 hN hv ha hdb hd hcd he hpl
/-! ### all handed by name -/
abbrev DK (K : PySem.W.Frag) (X : Cx) (kws : List Keyword) (t : TDA) : Prop := PK X kws (lA K t)
theorem wkK {t t' : TA} (h : PK X kws t') (w : ∀ σ H Q, t σ H Q → t' σ H Q) : PK X kws t := ⟨fun p pins s σ H Q I q => h.run p pins s σ H Q I (w _ _ _ q)⟩
theorem dk_nil : DK K X [] aNil := wkK pk_nil fun σ H Q ⟨f, ρ, pd, A, R, t, k⟩ => k [] ρ [] H t rfl R
theorem dk_cons {u : TDA} (ha : DE K X e te) (hr : DK K X kws u) : DK K X (⟨nm, e, kpos⟩ :: kws) (aCons te u) := by
  refine wkK (pk_cons ha hr) fun σ H Q h => ?_
  obtain ⟨f, ρ, pd, A, R, t, k⟩ := h
  refine ⟨f, ρ, pd, fun d ρ1 => u ρ1 fun ds ρ2 => A (d :: ds) ρ2, R, t, fun d ρ1 x H1 q R1 => ⟨f, ρ1, (x, d) :: pd, _, R1, q, fun ds ρ2 us H2 q2 hl R2 => ?_⟩⟩
  refine k (d :: ds) ρ2 (x :: us) H2 q2 (by simp [hl]) (R2.sub fun p hp => ?_)
  simp at hp ⊢
  rcases hp with h | h | h
  · exact .inr (.inl h)
  · exact .inl h
  · exact .inr (.inr h)
def dCallP (g : RDn) (perm : List Nat) (ta : TDA) : TD := fun ρ Q => ta ρ fun ds ρ1 => g (permL perm [] ds) fun z => Q z ρ1
theorem perm_dq {S : List Addr} {H : Hp} {xs : List V} {ds : List PyData} (g : DqAll K (Ob S H) xs ds) : DqAll K (Ob S H) (permL perm [] xs) (permL perm [] ds) := by
  show DqAll K (Ob S H) (perm.filterMap fun i => xs[i]?) (perm.filterMap fun i => ds[i]?)
  induction perm with
  | nil => exact .nil
  | cons i perm ih =>
    rw [List.filterMap_cons, List.filterMap_cons]
    cases e : ds[i]? with
    | none =>
      have : xs[i]? = none := by
        rw [List.getElem?_eq_none_iff] at e ⊢
        rw [g.1]; exact e
      rw [this]
      exact ih
    | some d =>
      obtain ⟨x, hx, q⟩ := g.at e
      rw [hx]
      exact .cons q ih
theorem de_callKw (C : CalW X.prog X.w X.K X.mg X.base k x ps ks perm (spN K g)) (hr : Room k X.A) (hg : Gl X x) (hkw : DK K X kws ta) (hall : (backToKw pos (keywordEach kws X.env)).all (·.1.isSome) = true := by rfl) (hks : (backToKw pos (keywordEach kws X.env)).filterMap (·.1) = ks := by rfl)
    (hdb : (x == ("__debug__" : Str)) = false := by decide) (hpl : ((backTo pos (starEach [] X.env)).any (·.1) || (backToKw pos (keywordEach kws X.env)).any (·.1.isNone)) = false := by rfl) :
    DE K X (.Call (.Name x p) [] kws pos) (dCallP g perm ta) := by
  obtain ⟨fa, fd, F, kp, hb, m⟩ := C
  have key : PE X (.Call (.Name x p) [] kws pos) (fun σ H Q => lA K ta σ H fun zs H2 => spN K g (permL perm [] zs) H2 Q E0) := by
    refine ⟨fun pins s σ H Q I h => ?_⟩
    refine wpAny_Call_Name_kw (ld_glob I hg m ?_ hdb)
    refine PySem.W.callWith_KW0 (h₀ := X.base) I.ok.mod.kin kp hall (thn (hkw.run pos pins s σ H _ I h) fun ws s2 ⟨zs, H2, I2, rz, q2⟩ => ⟨I2.kIn, ?_⟩) hpl
    rw [hks]
    exact run_fnk F hr hb pass0 I2 (us := []) (vs := []) .nil rz q2
  refine wkE key fun σ H Q h => ?_
  obtain ⟨f, ρ, pd, A, R, t, k⟩ := h
  exact ⟨f, ρ, pd, _, R, t, fun ds ρ1 us H1 q hl R1 => ⟨Sx f ρ1, _, _, R1.alloc, R1.inS, perm_dq (R1.all hl), q, fun d v H' az k' dz => k d ρ1 v H' az ((R1.popAll.keep k').push dz)⟩⟩
end
end Dl

set_option Elab.async false
set_option linter.all false
set_option maxRecDepth 100000
set_option maxHeartbeats 4000000
namespace Dl
open PySem PySem.Spec PyProof.Rows L2 Kt
section
variable {K : PySem.W.Frag} {X : Cx} {pos : Pos}
/-! ### written dicts -/
theorem de_dict0 : DE K X (.Dict [] [] pos) (dc (.dict [])) := by
  refine wkE pe_dnewK fun σ H Q h => ?_
  obtain ⟨f, ρ, pd, A, R, t, k⟩ := h
  refine fun p hp => k _ ρ _ _ t ((R.keep (Kp.new hp)).push ?_)
  exact .dct (kvs := []) (ob_new hp R.alloc) rfl fun i p q h => by simp at h
theorem de_dict1 {s : Str} {i : Int} {j1 j2 p1 p2} : DE K X (.Dict [some (.Constant (.str s) j1 p1)] [.Constant (.int i) j2 p2] pos) (dc (.dict [(.str s, .int i)])) := by
  refine wkE (pe_disp (pps_cons pe_str pe_int pps_nil) rfl rfl (by simp) (by simp)) fun σ H Q h => ?_
  obtain ⟨f, ρ, pd, A, R, t, k⟩ := h
  intro p hp
  show upd H p (.dK []) p = _ ∧ _
  refine ⟨upd_same, [(.inr s, .int i)], rfl, by simp, ?_⟩
  have e : upd (upd H p (.dK [])) p (.dK (mergeK [] [(.inr s, .int i)])) = upd H p (.dK [(.inr s, .int i)]) := by
    have e1 : mergeK [] [((.inr s : L2.Key), V.int i)] = [(.inr s, .int i)] := by simp [mergeK, putK]
    rw [e1]
    funext b
    by_cases z : b = p
    · rw [z, upd_same, upd_same]
    · rw [upd_ne z, upd_ne z, upd_ne z]
  rw [e]
  refine k _ ρ _ _ t ((R.keep (Kp.new hp)).push ?_)
  refine .dct (ob_new hp R.alloc) rfl fun j p q h1 h2 => ?_
  cases j with
  | zero => simp at h1 h2; subst h1; subst h2; exact .int i
  | succ j => simp at h1
end
section
variable {K : PySem.W.Frag} {X : Cx} {a b c : Expr} {pos : Pos}
/-- a, b, c = x, y, z -/
def sPar3 (i j l : Nat) (ta : TDA) : TSD := fun E ρ => ta ρ fun ds ρ1 => match ds with
  | [d, e, g] => match freeSlot ρ1[i]? && freeSlot ρ1[j]? && freeSlot ρ1[l]? with
    | true => E.nx (((ρ1.set i (some (.dat d))).set j (some (.dat e))).set l (some (.dat g)))
    | false => False
  | _ => False
theorem ds_par3 {i j l : Nat} {x y z : Str} {ta : TDA} {px py pz pt : Pos} {kt k2 pt2} (hc : X.calm = true) (hN : X.N.Nodup) (hi : X.N[i]? = some x) (hj : X.N[j]? = some y) (hl : X.N[l]? = some z) (hij : i ≠ j) (hil : i ≠ l) (hjl : j ≠ l)
    (hx : X.env.scope.names.lookup x = some .local) (hy : X.env.scope.names.lookup y = some .local) (hz : X.env.scope.names.lookup z = some .local) (ha : DA K X [a, b, c] ta)
    (hw : swappedStores [.Tuple [.Name x px, .Name y py, .Name z pz] kt pt] (.Tuple [a, b, c] k2 pt2) X.env = pure (some [x, y, z]))
    (hs : swapsWithSole [.Tuple [.Name x px, .Name y py, .Name z pz] kt pt] (.Tuple [a, b, c] k2 pt2) pos.line X.env = pure false := by rfl) :
    DS K X (.Assign [.Tuple [.Name x px, .Name y py, .Name z pz] kt pt] (.Tuple [a, b, c] k2 pt2) pos) (sPar3 i j l ta) := by
  refine wkS (ps_par3 hc hN hi hj hl hij hil hjl hx hy hz ha hw hs) fun D σ H h => ?_
  obtain ⟨f, ρ, pd, E, R, t, L⟩ := h
  refine ⟨f, ρ, pd, _, R, t, fun ds ρ1 vs H1 q hl R1 => ?_⟩
  match ds, vs, hl, q, R1 with
  | [d, e, g], [v, w, u], _, q, R1 =>
    refine ⟨v, w, u, rfl, ?_⟩
    simp only [] at q
    split at q
    · rename_i z
      simp only [Bool.and_eq_true] at z
      have Ra : Rel K f σ H1 ρ1 ((v, d) :: (w, e) :: (u, g) :: pd) := R1
      exact L.nx _ _ _ q (((Ra.set z.1.1).set (free_set z.1.2 hij)).set (free_set (free_set z.2 hil) hjl))
    · exact q.elim
  | [], _, _, q, _ => exact q.elim
  | [_], _, _, q, _ => exact q.elim
  | [_, _], _, _, q, _ => exact q.elim
  | _ :: _ :: _ :: _ :: _, _, _, q, _ => exact q.elim
end
/-! ### draws -/
def g_law_draw : RDn := fun ds A => match ds with
  | [.int many] => (0 < many ∧ many < 1073741824) ∧ ∀ r, 0 ≤ r → r < many → A (.int r)
  | _ => False
theorem draw_imp {K : PySem.W.Frag} : ∀ vs H Q E, spK K g_law_draw vs H Q E → spDraw vs H Q E := by
  intro vs H Q E h
  obtain ⟨S, a, c, ws, ds, A, rfl, hd, ma, mc, al, sy, hx, hg, q⟩ := h
  unfold g_law_draw at hg
  split at hg
  · obtain ⟨v, r, rfl, hv, hr⟩ := hx.inv_cons
    obtain rfl := hr.inv_nil
    obtain rfl := hv.inv_int
    exact ⟨a, c, _, rfl, hd, hg.1.1, hg.1.2, fun H' r h0 h1 hd' k => q _ _ H' (hg.2 r h0 h1) hd' k (.int r)⟩
  · exact hg.elim
/-! ### the law itself: the deck first -/
def spLawD (K : PySem.W.Frag) : Sp := fun vs H Q _ => ∃ (a : Addr) (ns : List Int), vs = [.ref a] ∧ SqL K H a (ns.map V.int) ∧ ns.length ≤ 63 ∧ ∀ H', Q (.bl true) H'
/-- as Kd2's spDeck -/
def spDeckD (K : PySem.W.Frag) : Sp := fun vs H Q _ => ∃ (p : Addr) (ns : List Int), vs = [.ref p] ∧ SqL K H p (ns.map V.int) ∧ ns.length ≤ 63 ∧ ∀ (H' : Hp) (a c : Addr), DeckAt H' a c → Kp [] H H' → H a = none → H c = none → Q (.ref a) H'
def startL (N : List Str) : Rho := none :: some .deck :: List.replicate (N.length - 2) none
theorem startL_at {N : List Str} {i : Nat} {p : Dv} (h : (startL N)[i]? = some (some p)) : i = 1 ∧ p = .deck := by
  unfold startL at h
  match i, h with
  | 0, h => simp at h
  | 1, h => simp at h; exact ⟨rfl, h.symm⟩
  | i + 2, h =>
    rw [List.getElem?_cons_succ, List.getElem?_cons_succ, List.getElem?_replicate] at h
    split at h <;> cases h
theorem owns_startL {N : List Str} : owns (startL N) = [] := by
  cases h : owns (startL N) with
  | nil => rfl
  | cons a r =>
    have : a ∈ owns (startL N) := by rw [h]; exact List.mem_cons_self
    obtain ⟨i, es, hi⟩ := mem_owns.mp this
    cases (startL_at hi).2
theorem rel_startL {K : PySem.W.Frag} {N : List Str} {H : Hp} {σ : Sl} {a c : Addr} (hd : DeckAt H a c) (hl : σ.length = (startL N).length) (h1 : σ[1]? = some (some (.ref a))) : Rel K { H0 := H, G := [], D := [a, c], dk := some (a, c) } σ H (startL N) [] := by
  obtain ⟨o1, o2, q1, q2, _⟩ := hd.some
  refine ⟨Kp.refl, fun a' c' q => ?_, fun a' c' q => ?_, fun b hb => ?_, fun b hb => absurd hb (by simp), trivial, by rw [owns_startL]; exact List.nodup_nil, hl, fun i p hp => ?_, fun p hp => absurd hp (by simp)⟩
  · cases q; exact hd
  · cases q; rw [owns_startL]; simp
  · simp at hb
    rcases hb with z | z
    · rw [z, q1]; simp
    · rw [z, q2]; simp
  · obtain ⟨rfl, rfl⟩ := startL_at hp
    exact ⟨.ref a, h1, .deck rfl⟩
section
variable {P : Program} {w : World} {K : PySem.W.Frag} {mg : Str → Option Value} {base : Heap} {st s1 : Stmt} {rest : List Stmt} {fa fD : Addr} {fd fdD : FuncData} {N : List Str} {k kD : Nat} {t : TSD} {e1 : Expr}
theorem ok_lawD (F : Fun K "law" "law" st fa fd) (S : FnScope N ["script"] (defScope st)) (hb : defBody st = s1 :: rest)
    (first : ∀ (cdv : Value) (A : Around) (outer : List Env) (s : Shared) (H : Hp) (E : XK), Room k (A.deeper (envOfC "law" (defScope st) s.heap.objs.size fa cdv)) → PS (cxOf CX0 P w K mg base N "law" (defScope st) fa cdv A outer s H E).nox s1 (tAsg (tCall (spDeckD K) [] E0 (tCons (tVar 0) tNil)) (gName 1)))
    (body : ∀ (cdv : Value) (A : Around) (outer : List Env) (s : Shared) (H : Hp) (E : XK), (A.deeper (envOfC "law" (defScope st) s.heap.objs.size fa cdv)).guards = some [] → Room k (A.deeper (envOfC "law" (defScope st) s.heap.objs.size fa cdv)) → DSs K (cxOf CX0 P w K mg base N "law" (defScope st) fa cdv A outer s H E).nox rest t)
    (hN : 2 ≤ N.length) (rd : t (endD fun d => d = .bool true) (startL N)) : FnG P w K mg base CX0 (k + 1) fa fd ["script"] (spLawD K) := by
  refine okG F S (fun vs H Q E h => ?_) (fun cdv A outer s H vs Q E hgd hr h => ?_)
  · obtain ⟨a, ns, rfl, _⟩ := h
    rfl
  · obtain ⟨p, ns, rfl, hp, hlen, q⟩ := h
    rw [hb]
    refine ⟨_, pss_cons (first cdv A outer s H E hr) (body cdv A outer s H E hgd hr), ?_⟩
    refine ⟨.ref p, rfl, p, ns, rfl, hp, hlen, fun H' a c hd kk ha hc => ?_⟩
    refine ⟨_, startL N, [], endD fun d => d = .bool true, rel_startL hd ?_ ?_, rd, ?_⟩
    · rw [List.length_set]
      unfold L2.start startL
      simp
      omega
    · rw [List.getElem?_set_self]
      unfold L2.start
      simp
      omega
    · refine ⟨fun σ H ρ h R => (by cases h), fun σ H ρ v d h R => ?_, fun _ _ _ h => h.elim, fun _ _ _ h => h.elim⟩
      cases h
      have := R.top.inv_bool
      rw [this]
      exact q H
end
/-! ### the end -/
theorem walk_ofS {l : PySem.W.OpenLaw} {n k : Nat} {q : Program} {loose : List Str} {XP : (Str → Option Value) → Heap → Prop} {YP : World → Heap → Prop} {d : DefRec} {K : Params → PySem.W.Frag} {sp : World → Sp} {x : Str}
    (hn : l.most = some n) (hn2 : n ≤ sizeLine) (hdf : d.params.defaults = []) (hr : Room k callerA) (hq : importsNone q = true)
    (hY : ∀ (w : World) (h : Heap), YP w h → (K w.params).In h)
    (F : ∀ (w : World) (mg : Str → Option Value) (fa : Addr) (h : Heap), (K w.params).In h → h.Ns mainGlobals mg → mg d.name = some (.ref fa) →
      ∃ fd : FuncData, (∀ (s : Shared) (u : Value), BindsTo s fd ⟨[u], []⟩ [(x, u)]) ∧
        ∀ base : Heap, (K w.params).In base → base.Ns mainGlobals mg → (∃ o, base.get? sysModules = some o) → FnG l.prog w (K w.params) mg base CX0 k fa fd [x] (sp w))
    (hsp : ∀ (w : World) (H : Hp) (a : Addr) (ns : List Int), ns.length ≤ n → Only H → SqL (K w.params) H a (ns.map V.int) → sp w [.ref a] H (fun v _ => v = .bl true) fun _ _ _ => False) :
    PySem.W.WalkO q loose XP YP l.row.toRowW d [] (fun f vs => PySem.call f vs) := by
  refine Att.attach_call hn hdf fun w s₀ s mg mb fa o pm cd doc a vs ns G Y ho hd hcd hmg ha hi hlen hg => ?_
  have KX := hY w _ Y
  have hz : ns.length ≤ sizeLine := Nat.le_trans hlen hn2
  obtain ⟨fd, hb, hF⟩ := F w mg fa _ KX G.T.g hmg
  obtain ⟨mc, hc1, hc2⟩ := G.T.nolimit
  obtain ⟨mm, ⟨oy, es, ep, ey, dy, _⟩, _⟩ := (G.T.seer hq).mods
  have hy : (hidT s.heap (only1 (K w.params) a vs ns)).get? sysModules = some oy := only1_rest ey ha (fun z => by rw [z] at dy; exact nomatch (dy : Data.seq vs.toArray _ = Data.dict es ep))
  have hM : Mod (K w.params) mg (hidT s.heap (only1 (K w.params) a vs ns)) := ⟨only1_kin KX, only1_ns G.T.g ha, ⟨mb, only1_ns G.T.b ha, G.T.builtins⟩, ⟨mc, only1_ns hc1 ha, hc2⟩⟩
  have e0 : Env0 l.prog w (K w.params) mg (hidT s.heap (only1 (K w.params) a vs ns)) callerA [] s (only1 (K w.params) a vs ns) :=
    ⟨rfl, hM, fun _ _ => of_hidT, Nat.le_of_eq (hidT_size _ _), trivial, fun _ z => (List.not_mem_nil z).elim, only1_held ha hi hz, .of_eq hg⟩
  have R := (hF _ hM.kin hM.glob ⟨_, hy⟩).go callerA rfl hr [] s _ e0 ⟨[.ref a], []⟩ [.ref a] [.ref a] (hb s (.ref a)) (.cons rfl .nil) _ _ (hsp w _ a ns hlen only1_only (only1_list KX ha hi hz))
  refine codeAny_mono R fun r s' z => ?_
  cases r with
  | error e => exact False.elim z
  | ok fl =>
    cases fl with
    | next => exact False.elim z
    | brk => exact False.elim z
    | cont => exact False.elim z
    | ret u =>
      obtain ⟨v, H', os, bare, un, hok, rv, rfl⟩ := z
      obtain rfl : u = Value.bool true := rv
      refine ⟨rfl, OldK.of_keep fun b o e => ?_, os, bare⟩
      cases q : only1 (K w.params) a vs ns b with
      | none => exact un.keep b o e q (List.not_mem_nil) (List.not_mem_nil)
      | some u =>
        obtain ⟨rfl, _, rfl⟩ := only1_some q
        rw [ha] at e
        cases e
        exact (hok _ _ (un.frzs _ _ _ q)).1
end Dl

set_option Elab.async false
set_option linter.all false
set_option maxRecDepth 100000
set_option maxHeartbeats 4000000
namespace Dl
open PySem PySem.Spec PyProof.Rows L2 Kt
theorem shp_int (i : Int) : SeqAt.shaped (.int i) = true := shaped_of (by simp [PyData.canLay0]) (by simp [PyData.depth])
theorem shp_nil : SeqAt.shaped (.list []) = true := shaped_of (by simp [PyData.canLay0, PyData.canLayAll0]) (by simp [PyData.depth, PyData.depthAll])
theorem shp_intsT (ns : List Int) : SeqAt.shaped (.tuple (ns.map PyData.int)) = true := by
  refine shaped_of (by simp [PyData.canLay0, canLay_ints]) ?_
  have := depth_ints ns
  simp only [PyData.depth]
  omega
theorem eq_int (i j : Int) : eqD (.int i) (.int j) = decide (i = j) := by
  show PyData.eqv (.int i) (.int j) = _
  by_cases h : i = j <;> simp [PyData.eqv, h]
theorem bEq_int {i j : Int} {A : Bool → Prop} (h : A (decide (i = j))) : bEq (.int i) (.int j) A := ⟨⟨shp_int i, shp_int j⟩, by rw [eq_int]; exact h⟩
theorem bNe_int {i j : Int} {A : Bool → Prop} (h : A (!decide (i = j))) : bNe (.int i) (.int j) A := ⟨⟨shp_int i, shp_int j⟩, by rw [eq_int]; exact h⟩
theorem bEq_str {i j : Str} {A : Bool → Prop} (h : A (decide (i = j))) : bEq (.str i) (.str j) A := ⟨trivial, h⟩
theorem bNe_str {i j : Str} {A : Bool → Prop} (h : A (!decide (i = j))) : bNe (.str i) (.str j) A := ⟨trivial, h⟩
theorem in_ints (i : Int) (ns : List Int) : inD (.int i) (ns.map PyData.int) = decide (i ∈ ns) := by
  unfold inD
  induction ns with
  | nil => rfl
  | cons n ns ih =>
    rw [List.map_cons, List.any_cons, ih]
    by_cases h : n = i
    · subst h; simp [PyData.eqv]
    · have h' : ¬ i = n := fun e => h e.symm
      simp [PyData.eqv, h, h']
theorem in_pairs (q : Int × Int) (rs : List (Int × Int)) : inD (pD q) (rs.map pD) = decide (q ∈ rs) := any_pair rs q
/-! ### comprehensions, by what each turn gives -/
theorem lc_fm {tn : PyData → (Option PyData → Prop) → Prop} (h : PyData → Option PyData) {A : List PyData → Prop} : ∀ {ds acc : List PyData}, (∀ d ∈ ds, ∀ B : Option PyData → Prop, B (h d) → tn d B) → acc.length + ds.length ≤ SZ → A (acc ++ ds.filterMap h) → lcGo tn ds acc A
  | [], acc, _, _, k => by simpa [lcGo] using k
  | d :: ds, acc, hd, hl, k => by
    refine hd d List.mem_cons_self _ ?_
    rw [List.filterMap_cons] at k
    cases e : h d with
    | none =>
      rw [e] at k
      exact lc_fm h (fun x hx => hd x (List.mem_cons_of_mem _ hx)) (by simp at hl; omega) k
    | some y =>
      rw [e] at k
      refine ⟨by simp at hl; omega, lc_fm h (fun x hx => hd x (List.mem_cons_of_mem _ hx)) (by simp at hl ⊢; omega) (by simpa using k)⟩
/-- each item to one -/
theorem lc_map {tn : PyData → (Option PyData → Prop) → Prop} (h : PyData → PyData) {A : List PyData → Prop} {ds : List PyData} (hd : ∀ d ∈ ds, ∀ B : Option PyData → Prop, B (some (h d)) → tn d B) (hl : ds.length ≤ SZ) (k : A (ds.map h)) : lcGo tn ds [] A :=
  lc_fm (fun d => some (h d)) hd (by simpa using hl) (by simpa [List.filterMap_eq_map'] using k)
inductive Outs (Post : PyData → Option PyData → Prop) : List PyData → List PyData → Prop
  | nil : Outs Post [] []
  | no {d : PyData} {ds rs : List PyData} : Post d none → Outs Post ds rs → Outs Post (d :: ds) rs
  | yes {d y : PyData} {ds rs : List PyData} : Post d (some y) → Outs Post ds rs → Outs Post (d :: ds) (y :: rs)
theorem lc_post {tn : PyData → (Option PyData → Prop) → Prop} (Post : PyData → Option PyData → Prop) {A : List PyData → Prop} : ∀ {ds acc : List PyData}, (∀ d ∈ ds, ∀ B : Option PyData → Prop, (∀ o, Post d o → B o) → tn d B) → acc.length + ds.length ≤ SZ → (∀ rs, Outs Post ds rs → A (acc ++ rs)) → lcGo tn ds acc A
  | [], acc, _, _, k => by simpa [lcGo] using k [] .nil
  | d :: ds, acc, hd, hl, k => by
    refine hd d List.mem_cons_self _ fun o ho => ?_
    cases o with
    | none => exact lc_post Post (fun x hx => hd x (List.mem_cons_of_mem _ hx)) (by simp at hl; omega) fun rs h => k rs (.no ho h)
    | some y => exact ⟨by simp at hl; omega, lc_post Post (fun x hx => hd x (List.mem_cons_of_mem _ hx)) (by simp at hl ⊢; omega) fun rs h => by
        have := k (y :: rs) (.yes ho h)
        simpa using this⟩
theorem Outs.all {Post : PyData → Option PyData → Prop} {Q : PyData → Prop} {ds rs : List PyData} (h : Outs Post ds rs) (q : ∀ d ∈ ds, ∀ y, Post d (some y) → Q y) : ∀ y ∈ rs, Q y := by
  induction h with
  | nil => intro y hy; cases hy
  | no hp _ ih => exact ih fun d hd => q d (List.mem_cons_of_mem _ hd)
  | yes hp _ ih =>
    intro y hy
    rcases List.mem_cons.mp hy with e | e
    · rw [e]; exact q _ List.mem_cons_self _ hp
    · exact ih (fun d hd => q d (List.mem_cons_of_mem _ hd)) y e
theorem Outs.len {Post : PyData → Option PyData → Prop} {ds rs : List PyData} (h : Outs Post ds rs) : rs.length ≤ ds.length := by
  induction h with
  | nil => exact Nat.le_refl _
  | no _ _ ih => exact Nat.le_succ_of_le ih
  | yes _ _ ih => exact Nat.succ_le_succ ih

/-! ### what charts are -/
/-- an int that is no bool -/
def wholeD : PyData → Bool
  | .int _ => true
  | _ => false
/-- from 0 to n - 1 -/
def belowD (n : Int) : PyData → Bool
  | .int i => decide (0 ≤ i) && decide (i < n)
  | _ => false
def tupN (n : Int) : PyData → Bool
  | .tuple ds => decide ((ds.length : Int) = n)
  | _ => false
/-- a pair of fields, the lesser first -/
def roadD (n : Int) : PyData → Bool
  | .tuple [.int a, .int b] => decide (0 ≤ a) && decide (a < n) && (decide (0 ≤ b) && decide (b < n)) && decide (a < b)
  | _ => false
theorem road_pair {n : Int} {a b : PyData} : roadD n (.tuple [a, b]) = (belowD n a && belowD n b && match a, b with
    | .int i, .int j => decide (i < j)
    | _, _ => false) := by
  cases a <;> cases b <;> simp [roadD, belowD]
theorem road_tup {n : Int} {d : PyData} (h : tupN 2 d = false) : roadD n d = false := by
  unfold roadD
  split
  · exact absurd h (by simp [tupN])
  · rfl
theorem tup2 {d : PyData} (h : tupN 2 d = true) : ∃ a b, d = .tuple [a, b] := by
  cases d with
  | tuple ds =>
    match ds, h with
    | [a, b], _ => exact ⟨a, b, rfl⟩
    | [], h => simp [tupN] at h
    | [_], h => simp [tupN] at h
    | _ :: _ :: _ :: _, h => simp [tupN] at h; omega
  | _ => simp [tupN] at h
theorem tup3 {d : PyData} (h : tupN 3 d = true) : ∃ a b c, d = .tuple [a, b, c] := by
  cases d with
  | tuple ds =>
    match ds, h with
    | [a, b, c], _ => exact ⟨a, b, c, rfl⟩
    | [], h => simp [tupN] at h
    | [_], h => simp [tupN] at h
    | [_, _], h => simp [tupN] at h
    | _ :: _ :: _ :: _ :: _, h => simp [tupN] at h; omega
  | _ => simp [tupN] at h
/-- the first place that is bad -/
def firstBad (bad : Nat → Bool) (n : Nat) : Option Nat := (List.range n).find? bad
theorem firstBad_none {bad : Nat → Bool} {n : Nat} (h : ∀ j, j < n → bad j = false) : firstBad bad n = none := by
  unfold firstBad
  rw [List.find?_eq_none]
  intro x hx
  rw [h x (List.mem_range.mp hx)]
  exact Bool.false_ne_true
theorem firstBad_some {bad : Nat → Bool} {n i : Nat} (hi : i < n) (hb : bad i = true) (h : ∀ j, j < i → bad j = false) : firstBad bad n = some i := by
  unfold firstBad
  rw [List.find?_eq_some_iff_append]
  refine ⟨hb, List.range i, (List.range (n - i - 1)).map (i + 1 + ·), ?_, fun a ha => by rw [h a (List.mem_range.mp ha)]; rfl⟩
  have e : n = i + (1 + (n - i - 1)) := by omega
  conv => lhs; rw [e, List.range_add, List.range_add]
  simp [List.map_map, Function.comp_def, Nat.add_assoc]
def optD : Option Nat → PyData
  | none => .none
  | some i => .int (i : Nat)
def leB (x y : PyData) : Bool := (leD x y).getD false
/-- the place i of xs is no such thing, or not greater than the one ahead -/
def badAt (ok : PyData → Bool) (xs : List PyData) (i : Nat) : Bool := !ok (xs.getD i .none) || (decide (0 < i) && leB (xs.getD i .none) (xs.getD (i - 1) .none))
/-- what chart_error tells -/
def chartErr : PyData → PyData
  | .tuple [m, .tuple rs, .tuple cs] => match m with
    | .int n => if 1 ≤ n ∧ n ≤ 24 then match firstBad (badAt (roadD n) rs) rs.length with
        | some i => .tuple [.str "road", .int (i : Nat)]
        | none => match firstBad (badAt (belowD n) cs) cs.length with
          | some i => .tuple [.str "centre", .int (i : Nat)]
          | none => .none
      else .str "many"
    | _ => .str "many"
  | _ => .str "form"
theorem road_le {n : Int} {x y : PyData} (hx : roadD n x = true) (hy : roadD n y = true) : leD x y = some (leB x y) := by
  unfold roadD at hx hy
  split at hx
  · split at hy
    · rfl
    · cases hy
  · cases hx
theorem below_le {n : Int} {x y : PyData} (hx : belowD n x = true) (hy : belowD n y = true) : leD x y = some (leB x y) := by
  unfold belowD at hx hy
  split at hx
  · split at hy
    · rfl
    · cases hy
  · cases hx
end Dl

set_option Elab.async false
set_option linter.all false
set_option maxRecDepth 100000
set_option maxHeartbeats 4000000
namespace Dl
open PySem PySem.Spec PyProof.Rows L2 Kt
/-! ### a tuple some times -/
theorem tuple_mulE (l : Addr) (items : Array Value) (n : Nat) (dd : Option Addr) (sl : Array (Option Value)) (x : Int) (u : Tok) (hi : items.isEmpty = true) (c0 : (decide (x < -(2 ^ 63)) || decide (x ≥ 2 ^ 63)) = false) :
    Meets (Builtin.«tuple.__mul__» ⟨[.ref l, .int x u], []⟩) (fun _ R s => s.heap.get? l = some { cls := .type "tuple", dict := dd, data := .seq items n, slots := sl } ∧ R (.ok (.ret (Value.ref l))) s) :=
  .of_wp fun prog w A R s h => by
    obtain ⟨hp, g, d, tk, os⟩ := s
    obtain ⟨hl, h⟩ := h
    have f1 := AutoSeq1.idx_int
    have c1 : (items.isEmpty || x == 1) = true := by rw [hi]; rfl
    wp_walk using AutoSeq1.wpAny_loadPart' hl
    repeat (first
      | (refine wpAny_ite_false (decide_eq_false (by rw [c0]; exact Bool.false_ne_true)) ?_; wp_walk using AutoSeq1.wpAny_loadPart' hl)
      | (refine wpAny_ite_true (decide_eq_true c1) ?_; wp_walk using AutoSeq1.wpAny_loadPart' hl))
    all_goals exact ⟨_, rfl, h⟩
def rRep2 (K : PySem.W.Frag) : R2 := fun x y H Q => ∃ l k xs, x = .ref l ∧ y = .int k ∧ SqT K H l xs ∧ 2 ≤ k ∧ k ≤ 1000 ∧ xs.length ≤ 1000 ∧ (xs = [] → Q (.ref l) H) ∧ (xs ≠ [] → ∀ p, H p = none → Q (.ref p) (upd H p (.tup (List.replicate k.toNat xs).flatten)))
section
variable {X : Cx}
theorem op_rep2 : OpR X (binaryOp .Mult) (rRep2 X.K) := by
  intro pins s σ H x y v u Q I rx ry h
  obtain ⟨l, k, xs, rfl, rfl, hT, h1, h2, hz, q0, q1⟩ := h
  by_cases hne : xs = []
  · cases rx
    obtain ⟨t, rfl⟩ := ry
    obtain ⟨its, r, ⟨⟨cls, dd, data, sl⟩, ho, hc, n, hd⟩, hs⟩ := I.tuple hT
    simp only at hc hd
    subst hc hd
    have hi : its.toArray.isEmpty = true := by
      subst hne
      cases r
      rfl
    have c0 : (decide (k < -(2 ^ 63)) || decide (k ≥ 2 ^ 63)) = false := by
      rw [decide_eq_false (by omega), decide_eq_false (by omega)] <;> rfl
    exact wpAny_binaryOp_repeat_ref (T := "tuple") (U := "int") (by decide) ⟨_, ho, rfl⟩ (fun s' => typeIs_int s' k t) noFill_tuple_mul F.fills_int_mul F.slot_int_rmul repeat_tuple F.slot_int_index.lookup
      (call_meets F.slot_int_rmul (typeIs_int s k t) F.entry_int_rmul (F.args_int_rmul_2 _ _) (int_rmul_tuple k t l its.toArray n dd sl)
        ⟨ho, rfl, ⟨_, ho, rfl⟩, call_meets F.slot_tuple_mul ⟨_, ho, rfl⟩ F.entry_tuple_mul (F.args_tuple_mul_2 _ _) (tuple_mulE l its.toArray n dd sl k t hi c0) ⟨ho, ⟨.ref l, H, I, rfl, q0 hne⟩⟩⟩)
  · exact op_repT pins s σ H _ _ v u Q I rx ry ⟨l, k, xs, rfl, rfl, hT, hne, h1, h2, hz, q1 hne⟩
end
def timesD (k : Nat) (ds : List PyData) : List PyData := (List.replicate k ds).flatten
def dMul : RD2 := fun d e A => match d, e with
  | .int i, .int j => CMul i j ∧ A (.int (i * j))
  | .tuple xs, .int k => (2 ≤ k ∧ k ≤ 1000 ∧ xs.length ≤ 1000) ∧ A (.tuple (timesD k.toNat xs))
  | _, _ => False
section
variable {K : PySem.W.Frag} {X : Cx} {e a b c tg : Expr} {es : List Expr} {pos : Pos} {te ta tb : TD} {S : List Addr} {H : Hp}
theorem rep_dq {xs : List V} {ds : List PyData} (g : DqAll K H xs ds) : ∀ k : Nat, DqAll K H (List.replicate k xs).flatten (timesD k ds)
  | 0 => .nil
  | k + 1 => by
    unfold timesD
    rw [List.replicate_succ, List.replicate_succ, List.flatten_cons, List.flatten_cons]
    exact g.app (rep_dq g k)
theorem od_mul : OpD2 K (fun x y H Q => rI CMul (fun i j => .int (i * j)) x y H Q ∨ rRep2 K x y H Q) dMul := by
  intro S H x y d e A Q al sy hx hy h k
  unfold dMul at h
  split at h
  · obtain rfl := hx.inv_int
    obtain rfl := hy.inv_int
    exact .inl ⟨_, _, rfl, rfl, h.1, k _ _ _ h.2 Kp.refl (.int _)⟩
  · rename_i ds n
    obtain ⟨p, us, rfl, hp, gp⟩ := hx.inv_tup
    obtain rfl := hy.inv_int
    refine .inr ⟨p, n, us, rfl, rfl, obT hp, h.1.1, h.1.2.1, by rw [gp.1]; exact h.1.2.2, fun z => ?_, fun _ q hq => new_tup al (rep_dq gp _) h.2 k hq⟩
    subst z
    have e := List.eq_nil_of_length_eq_zero gp.1.symm
    subst e
    refine k _ _ _ h.2 Kp.refl ?_
    have : timesD n.toNat [] = [] := by simp [timesD]
    rw [this]
    exact .tupA hp gp
  · exact h.elim
theorem de_mulD (hK : X.K = K) (ha : DE K X a ta) (hb : DE K X b tb) : DE K X (.BinOp a .Mult b pos) (dOp dMul ta tb) := by
  subst hK
  exact de_op (op_mul.or op_rep2) od_mul ha hb
/-! ### list(range(n)) -/
def dListR (te : TD) : TD := fun ρ Q => te ρ fun d ρ1 => match d with
  | .int n => (0 ≤ n ∧ n ≤ 16777216) ∧ Q (.list (rngD 0 n.toNat)) ρ1
  | _ => False
theorem rgV_dq (n : Int) : DqAll K H (rgV 0 n) (rngD 0 n.toNat) := by
  refine ⟨by unfold rgV rngD; simp, fun i x d hx hd => ?_⟩
  unfold rgV at hx
  obtain ⟨h1, rfl⟩ := rngD_at hd
  rw [List.getElem?_map] at hx
  obtain ⟨j, hj, rfl⟩ := Option.map_eq_some_iff.mp hx
  obtain ⟨h2, h3⟩ := List.getElem?_eq_some_iff.mp hj
  rw [List.getElem_range] at h3
  subst h3
  exact .int _
theorem de_listR {p p2 pos2 : Pos} (hc : X.calm = true) (hg : Gl X "list") (hm : X.mg "list" = none) (hg2 : Gl X "range") (hm2 : X.mg "range" = none) (h : DE K X a te)
    (na : starEach [.Call (.Name "range" p2) [a] [] pos2] X.env = (false, eval (.Call (.Name "range" p2) [a] [] pos2) X.env) :: starEach [] X.env := by rfl) (na2 : starEach [a] X.env = (false, eval a X.env) :: starEach [] X.env := by rfl) :
    DE K X (.Call (.Name "list" p) [.Call (.Name "range" p2) [a] [] pos2] [] pos) (dListR te) := by
  refine wkE (pe_listRg hc hg hm (prg_1 hg2 hm2 h na2) na) fun σ H Q h => ?_
  obtain ⟨f, ρ, pd, A, R, t, k⟩ := h
  refine ⟨f, ρ, pd, _, R, t, fun d ρ1 x H1 q R1 => ?_⟩
  cases d with
  | int n => exact ⟨n, R1.top.inv_int, RgOk.of_le (by decide) q.1.2 (by decide) q.1.1, fun r hr => k _ ρ1 _ _ q.2 ((R1.pop.keep (Kp.new hr)).push (.lstA (ob_new hr R1.alloc) (rgV_dq n)))⟩
  | _ => exact q.elim
/-! ### some items in a drawn order -/
def g_law_mixed : RDn := fun ds A => match ds with
  | [.list xs] => (xs.length ≤ 100000 ∧ ∀ x ∈ xs, x.canLay0 = true ∧ x.depth ≤ 60) ∧ ∀ ys, ys.Perm xs → A (.list ys)
  | _ => False
theorem permDq {ys xs : List V} (h : ys.Perm xs) : ∀ {ds : List PyData}, DqAll K H xs ds → ∃ es : List PyData, es.Perm ds ∧ DqAll K H ys es := by
  induction h with
  | nil => intro ds g; cases ds with
    | nil => exact ⟨[], .refl _, g⟩
    | cons d ds => cases g.1
  | cons x _ ih =>
    intro ds g
    cases ds with
    | nil => cases g.1
    | cons d ds =>
      obtain ⟨es, h1, h2⟩ := ih g.tail
      exact ⟨d :: es, h1.cons d, .cons g.head h2⟩
  | swap x y l =>
    intro ds g
    match ds, g with
    | [], g => cases g.1
    | [_], g => exact absurd g.1 (by simp)
    | d :: e :: ds, g => exact ⟨e :: d :: ds, .swap _ _ _, .cons g.tail.head (.cons g.head g.tail.tail)⟩
  | trans _ _ ih1 ih2 =>
    intro ds g
    obtain ⟨es, h1, h2⟩ := ih2 g
    obtain ⟨fs, h3, h4⟩ := ih1 h2
    exact ⟨fs, h3.trans h1, h4⟩
end
end Dl

namespace Dl
open PySem PySem.Spec PyProof.Rows L2
def topS (i : Nat) : Stmt := PySem.Challenge.pw_whateverothers_k03_what_boards_are.main.body.getD i (.Pass ⟨0, 0, 0, 0⟩)
end Dl

set_option Elab.async false
set_option linter.all false
set_option maxRecDepth 100000
set_option maxHeartbeats 4000000
namespace Dl
open PySem PySem.Spec PyProof.Rows L2 Kt
/-! ### is_integer -/
abbrev s_is_integer : Stmt := topS 4
abbrev n_is_integer : List Str := ["value"]
theorem sc_is_integer : FnScope n_is_integer ["value"] (defScope s_is_integer) := ⟨rfl, rfl, rfl, by decide +kernel, rfl, by decide +kernel, by decide +kernel⟩
def t_is_integer : TSD := (sRet (dAndV (dIsi isIntD (dv 0)) (dNotV (dIsi isBoolD (dv 0)))))
theorem tr_is_integer {P : Program} {w : World} {K : PySem.W.Frag} {mg : Str → Option Value} {base : Heap} {fa : Addr} (m_isinstance : mg "isinstance" = none) (m_int : mg "int" = none) (m_bool : mg "bool" = none) (cdv : Value) (A : Around) (outer : List Env) (s : Shared) (H : Hp) (E : XK) (hr : Room 0 (A.deeper (envOfC "is_integer" (defScope s_is_integer) s.heap.objs.size fa cdv))) :
    DSs K (cxOf CX0 P w K mg base n_is_integer "is_integer" (defScope s_is_integer) fa cdv A outer s H E).nox (defBody s_is_integer) (t_is_integer ) :=
  (dss_one (ds_ret (de_and (de_isi rfl kit_int (by rfl) m_isinstance (by rfl) m_int PyProof.Rows.boot_int (dpv 0)) (de_one (de_not (de_isi rfl kit_bool (by rfl) m_isinstance (by rfl) m_bool PyProof.Rows.boot_bool (dpv 0)))))))
/-! ### is_below -/
abbrev s_is_below : Stmt := topS 5
abbrev n_is_below : List Str := ["value", "limit"]
theorem sc_is_below : FnScope n_is_below ["value", "limit"] (defScope s_is_below) := ⟨rfl, rfl, rfl, by decide +kernel, rfl, by decide +kernel, by decide +kernel⟩
def t_is_below (g_is_integer : RDn) : TSD := (sRet (dAndV (dCall g_is_integer (aCons (dv 0) aNil)) (dChain (bI fun i j => decide (i ≤ j)) (bI fun i j => decide (i < j)) (dc (.int 0)) (dv 0) (dv 1))))
theorem tr_is_below {P : Program} {w : World} {K : PySem.W.Frag} {mg : Str → Option Value} {base : Heap} {fa : Addr} {g_is_integer : RDn} (C_is_integer : Cal P w K mg base 1 "is_integer" ["value"] (spN K g_is_integer)) (cdv : Value) (A : Around) (outer : List Env) (s : Shared) (H : Hp) (E : XK) (hr : Room 1 (A.deeper (envOfC "is_below" (defScope s_is_below) s.heap.objs.size fa cdv))) :
    DSs K (cxOf CX0 P w K mg base n_is_below "is_below" (defScope s_is_below) fa cdv A outer s H E).nox (defBody s_is_below) (t_is_below g_is_integer) :=
  (dss_one (ds_ret (de_and (de_callC C_is_integer (hr.mono (by decide)) (by rfl) (da_cons (dpv 0) da_nil)) (de_one (de_chain op_le op_lt ob_bI ob_bI de_int (dpv 0) (dpv 1))))))
/-! ### is_tuple_of -/
abbrev s_is_tuple_of : Stmt := topS 6
abbrev n_is_tuple_of : List Str := ["value", "many"]
theorem sc_is_tuple_of : FnScope n_is_tuple_of ["value", "many"] (defScope s_is_tuple_of) := ⟨rfl, rfl, rfl, by decide +kernel, rfl, by decide +kernel, by decide +kernel⟩
def t_is_tuple_of : TSD := (sRet (dAndV (dIsi isTupD (dv 0)) (dCmp bEq (dCall dLen (aCons (dv 0) aNil)) (dv 1))))
theorem tr_is_tuple_of {P : Program} {w : World} {K : PySem.W.Frag} {mg : Str → Option Value} {base : Heap} {fa : Addr} (m_isinstance : mg "isinstance" = none) (m_tuple : mg "tuple" = none) (m_len : mg "len" = none) (cdv : Value) (A : Around) (outer : List Env) (s : Shared) (H : Hp) (E : XK) (hr : Room 0 (A.deeper (envOfC "is_tuple_of" (defScope s_is_tuple_of) s.heap.objs.size fa cdv))) :
    DSs K (cxOf CX0 P w K mg base n_is_tuple_of "is_tuple_of" (defScope s_is_tuple_of) fa cdv A outer s H E).nox (defBody s_is_tuple_of) (t_is_tuple_of ) :=
  (dss_one (ds_ret (de_and (de_isi rfl kit_tup (by rfl) m_isinstance (by rfl) m_tuple PyProof.Rows.boot_tuple (dpv 0)) (de_one (de_eq (de_callB call_len od_len (by rfl) m_len PySem.boot_len (da_cons (dpv 0) da_nil)) (dpv 1) rfl hr)))))
/-! ### _is_road -/
abbrev s_is_road : Stmt := topS 9
abbrev n_is_road : List Str := ["many", "value", "low", "high"]
theorem sc_is_road : FnScope n_is_road ["many", "value"] (defScope s_is_road) := ⟨rfl, rfl, rfl, by decide +kernel, rfl, by decide +kernel, by decide +kernel⟩
def t_is_road (g_is_tuple_of g_is_below : RDn) : TSD := (sSeq (sIf (dNot (dB (dCall g_is_tuple_of (aCons (dv 1) (aCons (dc (.int 2)) aNil))))) (sRet (dc (.bool false))) sNext)
  (sSeq (sAsg (dv 1) (tTupD 2 (tsCons (tn 2) (tsCons (tn 3) tsNil))))
  (sRet (dAndV (dCall g_is_below (aCons (dv 2) (aCons (dv 0) aNil))) (dAndV (dCall g_is_below (aCons (dv 3) (aCons (dv 0) aNil))) (dCmp (bI fun i j => decide (i < j)) (dv 2) (dv 3)))))))
theorem tr_is_road {P : Program} {w : World} {K : PySem.W.Frag} {mg : Str → Option Value} {base : Heap} {fa : Addr} {g_is_tuple_of g_is_below : RDn} (C_is_tuple_of : Cal P w K mg base 1 "is_tuple_of" ["value", "many"] (spN K g_is_tuple_of)) (C_is_below : Cal P w K mg base 2 "is_below" ["value", "limit"] (spN K g_is_below)) (cdv : Value) (A : Around) (outer : List Env) (s : Shared) (H : Hp) (E : XK) (hr : Room 2 (A.deeper (envOfC "_is_road" (defScope s_is_road) s.heap.objs.size fa cdv))) :
    DSs K (cxOf CX0 P w K mg base n_is_road "_is_road" (defScope s_is_road) fa cdv A outer s H E).nox (defBody s_is_road) (t_is_road g_is_tuple_of g_is_below) :=
  (dss_cons (ds_if (dt_not (dt_val (de_callC C_is_tuple_of (hr.mono (by decide)) (by rfl) (da_cons (dpv 1) (da_cons de_int da_nil))))) (dss_one (ds_ret de_bl)) dss_nil)
      (dss_cons (ds_asg (dpv 1) (dg_tup rfl rfl (dgs_cons (dg_name (i := 2) sc_is_road.nd rfl (.inl rfl)) (dgs_cons (dg_name (i := 3) sc_is_road.nd rfl (.inl rfl)) dgs_nil))))
      (dss_one (ds_ret (de_and (de_callC C_is_below (hr.mono (by decide)) (by rfl) (da_cons (dpv 2) (da_cons (dpv 0) da_nil))) (de_and (de_callC C_is_below (hr.mono (by decide)) (by rfl) (da_cons (dpv 3) (da_cons (dpv 0) da_nil))) (de_one (de_lt (dpv 2) (dpv 3)))))))))
/-! ### _first_wrong -/
abbrev s_first_wrong : Stmt := topS 10
abbrev n_first_wrong : List Str := ["items", "right", "place", "item"]
theorem sc_first_wrong : FnScope n_first_wrong ["items", "right"] (defScope s_first_wrong) := ⟨rfl, rfl, rfl, by decide +kernel, rfl, by decide +kernel, by decide +kernel⟩
def t_first_wrong : TSD := (sSeq (sForI (iEnumD (dv 0)) (tTupD 2 (tsCons (tn 2) (tsCons (tn 3) tsNil))) (sIf (dOr (dNot (dB (dOp dGet (dv 1) (dv 2)))) (dAnd (dCmpT (bI fun i j => decide (j < i)) (dv 2) (dc (.int 0))) (dCmpT bLe (dv 3) (dOp dGet (dv 0) (dOp (dI20 fun i j => i - j) (dv 2) (dc (.int 1))))))) (sRet (dv 2)) sNext))
  (sRet (dc .none)))
theorem tr_first_wrong {P : Program} {w : World} {K : PySem.W.Frag} {mg : Str → Option Value} {base : Heap} {fa : Addr} (m_enumerate : mg "enumerate" = none) (cdv : Value) (A : Around) (outer : List Env) (s : Shared) (H : Hp) (E : XK) (hr : Room 0 (A.deeper (envOfC "_first_wrong" (defScope s_first_wrong) s.heap.objs.size fa cdv))) :
    DSs K (cxOf CX0 P w K mg base n_first_wrong "_first_wrong" (defScope s_first_wrong) fa cdv A outer s H E).nox (defBody s_first_wrong) (t_first_wrong ) :=
  (dss_cons (ds_forI PassesOwn.never rfl (di_enum rfl (by rfl) m_enumerate (dpv 0)) (dg_tup rfl rfl (dgs_cons (dg_name (i := 2) sc_first_wrong.nd rfl (.inl rfl)) (dgs_cons (dg_name (i := 3) sc_first_wrong.nd rfl (.inl rfl)) dgs_nil))) (dss_one (ds_if (PW.pt (dw_or (dt_not (dt_val (de_get rfl (dpv 1) (dpv 2)))) (dw_or1 (PW.pt (dw_and (dt_gt (dpv 2) de_int) (dw_and1 (dt_le (dpv 3) (de_get rfl (dpv 0) (de_sub (dpv 2) de_int)) rfl hr))))))) (dss_one (ds_ret (dpv 2))) dss_nil)))
      (dss_one (ds_ret de_non)))
/-! ### chart_error -/
abbrev s_chart_error : Stmt := topS 8
abbrev n_chart_error : List Str := ["value", "many", "roads", "centres", "road_place", "centre_place", "road", "centre"]
theorem sc_chart_error : FnScope n_chart_error ["value"] (defScope s_chart_error) := ⟨rfl, rfl, rfl, by decide +kernel, rfl, by decide +kernel, by decide +kernel⟩
def t_chart_error (g_is_tuple_of g_is_integer g_first_wrong g_is_road g_is_below : RDn) : TSD := (sSeq (sIf (dNot (dB (dCall g_is_tuple_of (aCons (dv 0) (aCons (dc (.int 3)) aNil))))) (sRet (dc (.str "form"))) sNext)
  (sSeq (sAsg (dv 0) (tTupD 3 (tsCons (tn 1) (tsCons (tn 2) (tsCons (tn 3) tsNil)))))
  (sSeq (sIf (dOr (dNot (dB (dIsi isTupD (dv 2)))) (dNot (dB (dIsi isTupD (dv 3))))) (sRet (dc (.str "form"))) sNext)
  (sSeq (sIf (dOr (dNot (dB (dCall g_is_integer (aCons (dv 1) aNil)))) (dNot (dChainT (bI fun i j => decide (i ≤ j)) (bI fun i j => decide (i ≤ j)) (dc (.int 1)) (dv 1) (dc (.int 24))))) (sRet (dc (.str "many"))) sNext)
  (sSeq (sAsg (dCall g_first_wrong (aCons (dv 2) (aCons (dLc (iSeq (dv 2)) (tn 6) dYes (dCall g_is_road (aCons (dv 1) (aCons (dv 6) aNil))) [6]) aNil))) (tn 4))
  (sSeq (sIf (dCmpT bNotN (dv 4) (dc .none)) (sRet (dTup (aCons (dc (.str "road")) (aCons (dv 4) aNil)))) sNext)
  (sSeq (sAsg (dCall g_first_wrong (aCons (dv 3) (aCons (dLc (iSeq (dv 3)) (tn 7) dYes (dCall g_is_below (aCons (dv 7) (aCons (dv 1) aNil))) [7]) aNil))) (tn 5))
  (sSeq (sIf (dCmpT bNotN (dv 5) (dc .none)) (sRet (dTup (aCons (dc (.str "centre")) (aCons (dv 5) aNil)))) sNext)
  (sRet (dc .none))))))))))
theorem tr_chart_error {P : Program} {w : World} {K : PySem.W.Frag} {mg : Str → Option Value} {base : Heap} {fa : Addr} {g_is_tuple_of g_is_integer g_first_wrong g_is_road g_is_below : RDn} (C_is_tuple_of : Cal P w K mg base 1 "is_tuple_of" ["value", "many"] (spN K g_is_tuple_of)) (C_is_integer : Cal P w K mg base 1 "is_integer" ["value"] (spN K g_is_integer)) (C_first_wrong : Cal P w K mg base 1 "_first_wrong" ["items", "right"] (spN K g_first_wrong)) (C_is_road : Cal P w K mg base 3 "_is_road" ["many", "value"] (spN K g_is_road)) (C_is_below : Cal P w K mg base 2 "is_below" ["value", "limit"] (spN K g_is_below)) (m_isinstance : mg "isinstance" = none) (m_tuple : mg "tuple" = none) {u_MAX_FIELDS : Value} (c_MAX_FIELDS : mg "MAX_FIELDS" = some u_MAX_FIELDS) (r_MAX_FIELDS : RelV (.int 24) u_MAX_FIELDS) (cdv : Value) (A : Around) (outer : List Env) (s : Shared) (H : Hp) (E : XK) (hr : Room 3 (A.deeper (envOfC "chart_error" (defScope s_chart_error) s.heap.objs.size fa cdv))) :
    DSs K (cxOf CX0 P w K mg base n_chart_error "chart_error" (defScope s_chart_error) fa cdv A outer s H E).nox (defBody s_chart_error) (t_chart_error g_is_tuple_of g_is_integer g_first_wrong g_is_road g_is_below) :=
  (dss_cons (ds_if (dt_not (dt_val (de_callC C_is_tuple_of (hr.mono (by decide)) (by rfl) (da_cons (dpv 0) (da_cons de_int da_nil))))) (dss_one (ds_ret de_str)) dss_nil)
      (dss_cons (ds_asg (dpv 0) (dg_tup rfl rfl (dgs_cons (dg_name (i := 1) sc_chart_error.nd rfl (.inr rfl)) (dgs_cons (dg_name (i := 2) sc_chart_error.nd rfl (.inl rfl)) (dgs_cons (dg_name (i := 3) sc_chart_error.nd rfl (.inl rfl)) dgs_nil)))))
      (dss_cons (ds_if (PW.pt (dw_or (dt_not (dt_val (de_isi rfl kit_tup (by rfl) m_isinstance (by rfl) m_tuple PyProof.Rows.boot_tuple (dpv 2)))) (dw_or1 (dt_not (dt_val (de_isi rfl kit_tup (by rfl) m_isinstance (by rfl) m_tuple PyProof.Rows.boot_tuple (dpv 3))))))) (dss_one (ds_ret de_str)) dss_nil)
      (dss_cons (ds_if (PW.pt (dw_or (dt_not (dt_val (de_callC C_is_integer (hr.mono (by decide)) (by rfl) (da_cons (dpv 1) da_nil)))) (dw_or1 (dt_not (dt_chain op_le op_le ob_bI ob_bI de_int (dpv 1) (de_glob (by rfl) c_MAX_FIELDS r_MAX_FIELDS (fun _ => .int _))))))) (dss_one (ds_ret de_str)) dss_nil)
      (dss_cons (ds_set (i := 4) sc_chart_error.nd rfl (.inl rfl) (de_callC C_first_wrong (hr.mono (by decide)) (by rfl) (da_cons (dpv 2) (da_cons (de_lc (own := [("road", 6)]) rfl sc_chart_error.nd (di_seq rfl (dpv 2)) (blkOk_by (own := [("road", 6)]) (N := n_chart_error) (sc := defScope s_chart_error) (by decide +kernel)) (fun _ _ _ _ _ => (dg_name (i := 6) sc_chart_error.nd rfl (.inl rfl))) (fun _ _ _ _ _ => dts_nil) (fun _ _ _ _ _ => (de_callC C_is_road (hr.mono (by decide)) (by rfl) (da_cons (dpv 1) (da_cons (dpv 6) da_nil)))) (by decide)) da_nil))))
      (dss_cons (ds_if (dt_notN (dpv 4) de_non) (dss_one (ds_ret (de_tup (da_cons de_str (da_cons (dpv 4) da_nil))))) dss_nil)
      (dss_cons (ds_set (i := 5) sc_chart_error.nd rfl (.inl rfl) (de_callC C_first_wrong (hr.mono (by decide)) (by rfl) (da_cons (dpv 3) (da_cons (de_lc (own := [("centre", 7)]) rfl sc_chart_error.nd (di_seq rfl (dpv 3)) (blkOk_by (own := [("centre", 7)]) (N := n_chart_error) (sc := defScope s_chart_error) (by decide +kernel)) (fun _ _ _ _ _ => (dg_name (i := 7) sc_chart_error.nd rfl (.inl rfl))) (fun _ _ _ _ _ => dts_nil) (fun _ _ _ _ _ => (de_callC C_is_below (hr.mono (by decide)) (by rfl) (da_cons (dpv 7) (da_cons (dpv 1) da_nil)))) (by decide)) da_nil))))
      (dss_cons (ds_if (dt_notN (dpv 5) de_non) (dss_one (ds_ret (de_tup (da_cons de_str (da_cons (dpv 5) da_nil))))) dss_nil)
      (dss_one (ds_ret de_non))))))))))
/-! ### _is_piece -/
abbrev s_is_piece : Stmt := topS 13
abbrev n_is_piece : List Str := ["chart", "value"]
theorem sc_is_piece : FnScope n_is_piece ["chart", "value"] (defScope s_is_piece) := ⟨rfl, rfl, rfl, by decide +kernel, rfl, by decide +kernel, by decide +kernel⟩
def t_is_piece (g_is_tuple_of g_is_below : RDn) : TSD := (sRet (dAndV (dCall g_is_tuple_of (aCons (dv 1) (aCons (dc (.int 2)) aNil))) (dAndV (dCall g_is_below (aCons (dOp dGet (dv 1) (dc (.int 0))) (aCons (dOp dGet (dv 0) (dc (.int 0))) aNil))) (dCall g_is_below (aCons (dOp dGet (dv 1) (dc (.int 1))) (aCons (dc (.int 6)) aNil))))))
theorem tr_is_piece {P : Program} {w : World} {K : PySem.W.Frag} {mg : Str → Option Value} {base : Heap} {fa : Addr} {g_is_tuple_of g_is_below : RDn} (C_is_tuple_of : Cal P w K mg base 1 "is_tuple_of" ["value", "many"] (spN K g_is_tuple_of)) (C_is_below : Cal P w K mg base 2 "is_below" ["value", "limit"] (spN K g_is_below)) {u_MAX_PLAYERS : Value} (c_MAX_PLAYERS : mg "MAX_PLAYERS" = some u_MAX_PLAYERS) (r_MAX_PLAYERS : RelV (.int 6) u_MAX_PLAYERS) (cdv : Value) (A : Around) (outer : List Env) (s : Shared) (H : Hp) (E : XK) (hr : Room 2 (A.deeper (envOfC "_is_piece" (defScope s_is_piece) s.heap.objs.size fa cdv))) :
    DSs K (cxOf CX0 P w K mg base n_is_piece "_is_piece" (defScope s_is_piece) fa cdv A outer s H E).nox (defBody s_is_piece) (t_is_piece g_is_tuple_of g_is_below) :=
  (dss_one (ds_ret (de_and (de_callC C_is_tuple_of (hr.mono (by decide)) (by rfl) (da_cons (dpv 1) (da_cons de_int da_nil))) (de_and (de_callC C_is_below (hr.mono (by decide)) (by rfl) (da_cons (de_get rfl (dpv 1) de_int) (da_cons (de_get rfl (dpv 0) de_int) da_nil))) (de_one (de_callC C_is_below (hr.mono (by decide)) (by rfl) (da_cons (de_get rfl (dpv 1) de_int) (da_cons (de_glob (by rfl) c_MAX_PLAYERS r_MAX_PLAYERS (fun _ => .int _)) da_nil))))))))
/-! ### board_error -/
abbrev s_board_error : Stmt := topS 12
abbrev n_board_error : List Str := ["value", "chart", "pieces", "error", "place", "piece"]
theorem sc_board_error : FnScope n_board_error ["value"] (defScope s_board_error) := ⟨rfl, rfl, rfl, by decide +kernel, rfl, by decide +kernel, by decide +kernel⟩
def t_board_error (g_is_tuple_of g_chart_error g_is_piece : RDn) : TSD := (sSeq (sIf (dNot (dB (dCall g_is_tuple_of (aCons (dv 0) (aCons (dc (.int 2)) aNil))))) (sRet (dc (.str "form"))) sNext)
  (sSeq (sAsg (dv 0) (tTupD 2 (tsCons (tn 1) (tsCons (tn 2) tsNil))))
  (sSeq (sAsg (dCall g_chart_error (aCons (dv 1) aNil)) (tn 3))
  (sSeq (sIf (dCmpT bNotN (dv 3) (dc .none)) (sRet (dTup (aCons (dc (.str "chart")) (aCons (dv 3) aNil)))) sNext)
  (sSeq (sIf (dOr (dNot (dB (dIsi isTupD (dv 2)))) (dCmpT (bI fun i j => decide (j < i)) (dCall dLen (aCons (dv 2) aNil)) (dc (.int 16)))) (sRet (dc (.str "pieces"))) sNext)
  (sSeq (sForI (iEnumD (dv 2)) (tTupD 2 (tsCons (tn 4) (tsCons (tn 5) tsNil))) (sIf (dOr (dNot (dB (dCall g_is_piece (aCons (dv 1) (aCons (dv 5) aNil))))) (dAnd (dCmpT (bI fun i j => decide (j < i)) (dv 4) (dc (.int 0))) (dCmpT bLe (dOp dGet (dv 5) (dc (.int 0))) (dOp dGet (dOp dGet (dv 2) (dOp (dI20 fun i j => i - j) (dv 4) (dc (.int 1)))) (dc (.int 0)))))) (sRet (dTup (aCons (dc (.str "piece")) (aCons (dv 4) aNil)))) sNext))
  (sRet (dc .none))))))))
theorem tr_board_error {P : Program} {w : World} {K : PySem.W.Frag} {mg : Str → Option Value} {base : Heap} {fa : Addr} {g_is_tuple_of g_chart_error g_is_piece : RDn} (C_is_tuple_of : Cal P w K mg base 1 "is_tuple_of" ["value", "many"] (spN K g_is_tuple_of)) (C_chart_error : Cal P w K mg base 4 "chart_error" ["value"] (spN K g_chart_error)) (C_is_piece : Cal P w K mg base 3 "_is_piece" ["chart", "value"] (spN K g_is_piece)) (m_isinstance : mg "isinstance" = none) (m_tuple : mg "tuple" = none) (m_len : mg "len" = none) (m_enumerate : mg "enumerate" = none) {u_MAX_PIECES : Value} (c_MAX_PIECES : mg "MAX_PIECES" = some u_MAX_PIECES) (r_MAX_PIECES : RelV (.int 16) u_MAX_PIECES) (cdv : Value) (A : Around) (outer : List Env) (s : Shared) (H : Hp) (E : XK) (hr : Room 4 (A.deeper (envOfC "board_error" (defScope s_board_error) s.heap.objs.size fa cdv))) :
    DSs K (cxOf CX0 P w K mg base n_board_error "board_error" (defScope s_board_error) fa cdv A outer s H E).nox (defBody s_board_error) (t_board_error g_is_tuple_of g_chart_error g_is_piece) :=
  (dss_cons (ds_if (dt_not (dt_val (de_callC C_is_tuple_of (hr.mono (by decide)) (by rfl) (da_cons (dpv 0) (da_cons de_int da_nil))))) (dss_one (ds_ret de_str)) dss_nil)
      (dss_cons (ds_asg (dpv 0) (dg_tup rfl rfl (dgs_cons (dg_name (i := 1) sc_board_error.nd rfl (.inl rfl)) (dgs_cons (dg_name (i := 2) sc_board_error.nd rfl (.inl rfl)) dgs_nil))))
      (dss_cons (ds_set (i := 3) sc_board_error.nd rfl (.inl rfl) (de_callC C_chart_error (hr.mono (by decide)) (by rfl) (da_cons (dpv 1) da_nil)))
      (dss_cons (ds_if (dt_notN (dpv 3) de_non) (dss_one (ds_ret (de_tup (da_cons de_str (da_cons (dpv 3) da_nil))))) dss_nil)
      (dss_cons (ds_if (PW.pt (dw_or (dt_not (dt_val (de_isi rfl kit_tup (by rfl) m_isinstance (by rfl) m_tuple PyProof.Rows.boot_tuple (dpv 2)))) (dw_or1 (dt_gt (de_callB call_len od_len (by rfl) m_len PySem.boot_len (da_cons (dpv 2) da_nil)) (de_glob (by rfl) c_MAX_PIECES r_MAX_PIECES (fun _ => .int _)))))) (dss_one (ds_ret de_str)) dss_nil)
      (dss_cons (ds_forI PassesOwn.never rfl (di_enum rfl (by rfl) m_enumerate (dpv 2)) (dg_tup rfl rfl (dgs_cons (dg_name (i := 4) sc_board_error.nd rfl (.inl rfl)) (dgs_cons (dg_name (i := 5) sc_board_error.nd rfl (.inl rfl)) dgs_nil))) (dss_one (ds_if (PW.pt (dw_or (dt_not (dt_val (de_callC C_is_piece (hr.mono (by decide)) (by rfl) (da_cons (dpv 1) (da_cons (dpv 5) da_nil))))) (dw_or1 (PW.pt (dw_and (dt_gt (dpv 4) de_int) (dw_and1 (dt_le (de_get rfl (dpv 5) de_int) (de_get rfl (de_get rfl (dpv 2) (de_sub (dpv 4) de_int)) de_int) rfl hr))))))) (dss_one (ds_ret (de_tup (da_cons de_str (da_cons (dpv 4) da_nil))))) dss_nil)))
      (dss_one (ds_ret de_non))))))))
/-! ### _law_pick -/
abbrev s_law_pick : Stmt := topS 17
abbrev n_law_pick : List Str := ["deck", "items"]
theorem sc_law_pick : FnScope n_law_pick ["deck", "items"] (defScope s_law_pick) := ⟨rfl, rfl, rfl, by decide +kernel, rfl, by decide +kernel, by decide +kernel⟩
def t_law_pick (g_law_draw : RDn) : TSD := (sRet (dOp dGet (dv 1) (dCallK 0 g_law_draw (aCons (dCall dLen (aCons (dv 1) aNil)) aNil))))
theorem tr_law_pick {P : Program} {w : World} {K : PySem.W.Frag} {mg : Str → Option Value} {base : Heap} {fa : Addr} {g_law_draw : RDn} (C_law_draw : Cal P w K mg base 1 "_law_draw" ["deck", "many"] (spK K g_law_draw)) (m_len : mg "len" = none) (cdv : Value) (A : Around) (outer : List Env) (s : Shared) (H : Hp) (E : XK) (hr : Room 1 (A.deeper (envOfC "_law_pick" (defScope s_law_pick) s.heap.objs.size fa cdv))) :
    DSs K (cxOf CX0 P w K mg base n_law_pick "_law_pick" (defScope s_law_pick) fa cdv A outer s H E).nox (defBody s_law_pick) (t_law_pick g_law_draw) :=
  (dss_one (ds_ret (de_get rfl (dpv 1) (de_callKC C_law_draw (hr.mono (by decide)) (by rfl) (i := 0) rfl (by first | exact .inl rfl | exact .inr (.inl rfl) | exact .inr (.inr rfl)) (da_cons (de_callB call_len od_len (by rfl) m_len PySem.boot_len (da_cons (dpv 1) da_nil)) da_nil)))))
/-! ### _law_chart -/
abbrev s_law_chart : Stmt := topS 19
abbrev n_law_chart : List Str := ["deck", "many", "more", "roads", "b", "turn", "a", "centres", "field"]
theorem sc_law_chart : FnScope n_law_chart ["deck", "many", "more"] (defScope s_law_chart) := ⟨rfl, rfl, rfl, by decide +kernel, rfl, by decide +kernel, by decide +kernel⟩
def t_law_chart (g_law_draw : RDn) : TSD := (sSeq (sOwn 3)
  (sSeq (sForI (iRng2D (dc (.int 1)) (dv 1)) (tn 4) (sIf (dCmpT (bI fun i j => decide (j < i)) (dCallK 0 g_law_draw (aCons (dc (.int 9)) aNil)) (dc (.int 0))) (sDrop (dApp 3 (dTup (aCons (dCall (dII fun i j => if j > i then j else i) (aCons (dc (.int 0)) (aCons (dOp (dI20 fun i j => i - j) (dOp (dI20 fun i j => i - j) (dv 4) (dc (.int 1))) (dCallK 0 g_law_draw (aCons (dc (.int 3)) aNil))) aNil))) (aCons (dv 4) aNil))))) sNext))
  (sSeq (sForI (iRng1D (dv 2)) (tn 5) (sSeq (sPar 6 4 (aCons (dCallK 0 g_law_draw (aCons (dv 1) aNil)) (aCons (dCallK 0 g_law_draw (aCons (dv 1) aNil)) aNil)))
  (sIf (dAnd (dCmpT (bI fun i j => decide (i < j)) (dv 6) (dv 4)) (dNotInO 3 (dTup (aCons (dv 6) (aCons (dv 4) aNil))))) (sDrop (dApp 3 (dTup (aCons (dv 6) (aCons (dv 4) aNil))))) sNext)))
  (sSeq (sAsg (dLc (iRng1D (dv 1)) (tn 8) (dCmpT bEq (dCallK 0 g_law_draw (aCons (dc (.int 2)) aNil)) (dc (.int 0))) (dv 8) [8]) (tn 7))
  (sRet (dTup (aCons (dv 1) (aCons (dCall dTupF (aCons (dSortedO 3) aNil)) (aCons (dCall dTupF (aCons (dv 7) aNil)) aNil)))))))))
theorem tr_law_chart {P : Program} {w : World} {K : PySem.W.Frag} {mg : Str → Option Value} {base : Heap} {fa : Addr} {g_law_draw : RDn} (C_law_draw : Cal P w K mg base 1 "_law_draw" ["deck", "many"] (spK K g_law_draw)) (m_range : mg "range" = none) (m_max : mg "max" = none) (m_tuple : mg "tuple" = none) (m_sorted : mg "sorted" = none) (cdv : Value) (A : Around) (outer : List Env) (s : Shared) (H : Hp) (E : XK) (hr : Room 1 (A.deeper (envOfC "_law_chart" (defScope s_law_chart) s.heap.objs.size fa cdv))) :
    DSs K (cxOf CX0 P w K mg base n_law_chart "_law_chart" (defScope s_law_chart) fa cdv A outer s H E).nox (defBody s_law_chart) (t_law_chart g_law_draw) :=
  (dss_cons (ds_own (i := 3) sc_law_chart.nd rfl (.inl rfl))
      (dss_cons (ds_forI PassesOwn.never rfl (di_range2 (by rfl) m_range de_int (dpv 1)) (dg_name (i := 4) sc_law_chart.nd rfl (.inl rfl)) (dss_one (ds_if (dt_gt (de_callKC C_law_draw (hr.mono (by decide)) (by rfl) (i := 0) rfl (by first | exact .inl rfl | exact .inr (.inl rfl) | exact .inr (.inr rfl)) (da_cons de_int da_nil)) de_int) (dss_one (ds_expr (de_append (i := 3) rfl (by first | exact .inl rfl | exact .inr (.inl rfl)) (de_tup (da_cons (de_callB (call_max2 rfl) od_II (by rfl) m_max PyProof.Rows.boot_max (da_cons de_int (da_cons (de_sub (de_sub (dpv 4) de_int) (de_callKC C_law_draw (hr.mono (by decide)) (by rfl) (i := 0) rfl (by first | exact .inl rfl | exact .inr (.inl rfl) | exact .inr (.inr rfl)) (da_cons de_int da_nil))) da_nil))) (da_cons (dpv 4) da_nil)))))) dss_nil)))
      (dss_cons (ds_forI PassesOwn.never rfl (di_range1 (by rfl) m_range (dpv 2)) (dg_name (i := 5) sc_law_chart.nd rfl (.inl rfl)) (dss_cons (ds_par (i := 6) (j := 4) rfl sc_law_chart.nd rfl rfl (by decide) rfl rfl (da_cons (de_callKC C_law_draw (hr.mono (by decide)) (by rfl) (i := 0) rfl (by first | exact .inl rfl | exact .inr (.inl rfl) | exact .inr (.inr rfl)) (da_cons (dpv 1) da_nil)) (da_cons (de_callKC C_law_draw (hr.mono (by decide)) (by rfl) (i := 0) rfl (by first | exact .inl rfl | exact .inr (.inl rfl) | exact .inr (.inr rfl)) (da_cons (dpv 1) da_nil)) da_nil)) (by rfl))
      (dss_one (ds_if (PW.pt (dw_and (dt_lt (dpv 6) (dpv 4)) (dw_and1 (dt_notInO (de_tup (da_cons (dpv 6) (da_cons (dpv 4) da_nil))) rfl hr rfl (by first | exact .inl rfl | exact .inr (.inl rfl)) (by rfl))))) (dss_one (ds_expr (de_append (i := 3) rfl (by first | exact .inl rfl | exact .inr (.inl rfl)) (de_tup (da_cons (dpv 6) (da_cons (dpv 4) da_nil)))))) dss_nil))))
      (dss_cons (ds_setLc (i := 7) (own := [("field", 8)]) rfl sc_law_chart.nd rfl rfl (sw_true rfl rfl rfl (by decide +kernel)) (di_range1 (by rfl) m_range (dpv 1)) (blkOk_by (own := [("field", 8)]) (N := n_law_chart) (sc := defScope s_law_chart) (by decide +kernel)) (fun _ _ _ _ _ => (dg_name (i := 8) sc_law_chart.nd rfl (.inl rfl))) (fun _ _ _ _ _ => (dts_one (dt_eq (de_callKC C_law_draw (hr.mono (by decide)) (by rfl) (i := 0) rfl (by first | exact .inl rfl | exact .inr (.inl rfl) | exact .inr (.inr rfl)) (da_cons de_int da_nil)) de_int rfl hr))) (fun _ _ _ _ _ => (dpv 8)) (by decide))
      (dss_one (ds_ret (de_tup (da_cons (dpv 1) (da_cons (de_callTy call_tuple_of od_tup (by rfl) m_tuple PyProof.Rows.boot_tuple (da_cons (de_sortedO rfl (by rfl) m_sorted PyProof.Rows.boot_sorted (i := 3) rfl (by first | exact .inl rfl | exact .inr (.inl rfl))) da_nil)) (da_cons (de_callTy call_tuple_of od_tup (by rfl) m_tuple PyProof.Rows.boot_tuple (da_cons (dpv 7) da_nil)) da_nil))))))))))
/-! ### _law_pieces -/
abbrev s_law_pieces : Stmt := topS 20
abbrev n_law_pieces : List Str := ["deck", "chart", "many", "players", "fields", "field"]
theorem sc_law_pieces : FnScope n_law_pieces ["deck", "chart", "many"] (defScope s_law_pieces) := ⟨rfl, rfl, rfl, by decide +kernel, rfl, by decide +kernel, by decide +kernel⟩
def t_law_pieces (g_law_mixed g_law_draw g_law_pick : RDn) : TSD := (sSeq (sAsg (dSlice (dCallK 0 g_law_mixed (aCons (dListR (dc (.int 6))) aNil)) oNo (oIs (dOp dAdd (dc (.int 2)) (dCallK 0 g_law_draw (aCons (dc (.int 2)) aNil))))) (tn 3))
  (sSeq (sAsg (dCall dSorted (aCons (dSlice (dCallK 0 g_law_mixed (aCons (dListR (dOp dGet (dv 1) (dc (.int 0)))) aNil)) oNo (oIs (dv 2))) aNil)) (tn 4))
  (sRet (dCall dTupF (aCons (dLc (iSeq (dv 4)) (tn 5) dYes (dTup (aCons (dv 5) (aCons (dCallK 0 g_law_pick (aCons (dv 3) aNil)) aNil))) [5]) aNil)))))
theorem tr_law_pieces {P : Program} {w : World} {K : PySem.W.Frag} {mg : Str → Option Value} {base : Heap} {fa : Addr} {g_law_mixed g_law_draw g_law_pick : RDn} (C_law_mixed : Cal P w K mg base 2 "_law_mixed" ["deck", "items"] (spK K g_law_mixed)) (C_law_draw : Cal P w K mg base 1 "_law_draw" ["deck", "many"] (spK K g_law_draw)) (C_law_pick : Cal P w K mg base 2 "_law_pick" ["deck", "items"] (spK K g_law_pick)) (m_list : mg "list" = none) (m_range : mg "range" = none) (m_sorted : mg "sorted" = none) (m_tuple : mg "tuple" = none) (cdv : Value) (A : Around) (outer : List Env) (s : Shared) (H : Hp) (E : XK) (hr : Room 2 (A.deeper (envOfC "_law_pieces" (defScope s_law_pieces) s.heap.objs.size fa cdv))) :
    DSs K (cxOf CX0 P w K mg base n_law_pieces "_law_pieces" (defScope s_law_pieces) fa cdv A outer s H E).nox (defBody s_law_pieces) (t_law_pieces g_law_mixed g_law_draw g_law_pick) :=
  (dss_cons (ds_set (i := 3) sc_law_pieces.nd rfl (.inr rfl) (de_slice rfl (de_callKC C_law_mixed (hr.mono (by decide)) (by rfl) (i := 0) rfl (by first | exact .inl rfl | exact .inr (.inl rfl) | exact .inr (.inr rfl)) (da_cons (de_listR rfl (by rfl) m_list (by rfl) m_range de_int) da_nil)) do_none (do_some (de_add rfl de_int (de_callKC C_law_draw (hr.mono (by decide)) (by rfl) (i := 0) rfl (by first | exact .inl rfl | exact .inr (.inl rfl) | exact .inr (.inr rfl)) (da_cons de_int da_nil))))))
      (dss_cons (ds_set (i := 4) sc_law_pieces.nd rfl (.inl rfl) (de_callB op_sorted od_sorted (by rfl) m_sorted PyProof.Rows.boot_sorted (da_cons (de_slice rfl (de_callKC C_law_mixed (hr.mono (by decide)) (by rfl) (i := 0) rfl (by first | exact .inl rfl | exact .inr (.inl rfl) | exact .inr (.inr rfl)) (da_cons (de_listR rfl (by rfl) m_list (by rfl) m_range (de_get rfl (dpv 1) de_int)) da_nil)) do_none (do_some (dpv 2))) da_nil)))
      (dss_one (ds_ret (de_callTy call_tuple_of od_tup (by rfl) m_tuple PyProof.Rows.boot_tuple (da_cons (de_lc (own := [("field", 5)]) rfl sc_law_pieces.nd (di_seq rfl (dpv 4)) (blkOk_by (own := [("field", 5)]) (N := n_law_pieces) (sc := defScope s_law_pieces) (by decide +kernel)) (fun _ _ _ _ _ => (dg_name (i := 5) sc_law_pieces.nd rfl (.inl rfl))) (fun _ _ _ _ _ => dts_nil) (fun _ _ _ _ _ => (de_tup (da_cons (dpv 5) (da_cons (de_callKC C_law_pick (hr.mono (by decide)) (by rfl) (i := 0) rfl (by first | exact .inl rfl | exact .inr (.inl rfl) | exact .inr (.inr rfl)) (da_cons (dpv 3) da_nil)) da_nil)))) (by decide)) da_nil))))))
/-! ### _law_is_whole -/
abbrev s_law_is_whole : Stmt := topS 21
abbrev n_law_is_whole : List Str := ["value", "low", "high"]
theorem sc_law_is_whole : FnScope n_law_is_whole ["value", "low", "high"] (defScope s_law_is_whole) := ⟨rfl, rfl, rfl, by decide +kernel, rfl, by decide +kernel, by decide +kernel⟩
def t_law_is_whole : TSD := (sRet (dAndV (dIsi isIntD (dv 0)) (dAndV (dNotV (dIsi isBoolD (dv 0))) (dChain (bI fun i j => decide (i ≤ j)) (bI fun i j => decide (i ≤ j)) (dv 1) (dv 0) (dv 2)))))
theorem tr_law_is_whole {P : Program} {w : World} {K : PySem.W.Frag} {mg : Str → Option Value} {base : Heap} {fa : Addr} (m_isinstance : mg "isinstance" = none) (m_int : mg "int" = none) (m_bool : mg "bool" = none) (cdv : Value) (A : Around) (outer : List Env) (s : Shared) (H : Hp) (E : XK) (hr : Room 0 (A.deeper (envOfC "_law_is_whole" (defScope s_law_is_whole) s.heap.objs.size fa cdv))) :
    DSs K (cxOf CX0 P w K mg base n_law_is_whole "_law_is_whole" (defScope s_law_is_whole) fa cdv A outer s H E).nox (defBody s_law_is_whole) (t_law_is_whole ) :=
  (dss_one (ds_ret (de_and (de_isi rfl kit_int (by rfl) m_isinstance (by rfl) m_int PyProof.Rows.boot_int (dpv 0)) (de_and (de_not (de_isi rfl kit_bool (by rfl) m_isinstance (by rfl) m_bool PyProof.Rows.boot_bool (dpv 0))) (de_one (de_chain op_le op_le ob_bI ob_bI (dpv 1) (dpv 0) (dpv 2)))))))
/-! ### _law_chart_slip -/
abbrev s_law_chart_slip : Stmt := topS 22
abbrev n_law_chart_slip : List Str := ["value", "many", "roads", "centres", "spot", "road", "centre"]
theorem sc_law_chart_slip : FnScope n_law_chart_slip ["value"] (defScope s_law_chart_slip) := ⟨rfl, rfl, rfl, by decide +kernel, rfl, by decide +kernel, by decide +kernel⟩
def t_law_chart_slip (g_law_is_whole : RDn) : TSD := (sSeq (sIf (dOr (dNot (dB (dIsi isTupD (dv 0)))) (dOr (dCmpT bNe (dCall dLen (aCons (dv 0) aNil)) (dc (.int 3))) (dNot (dB (dIsi isTupD (dOp dGet (dv 0) (dc (.int 1)))))))) (sRet (dc (.str "form"))) sNext)
  (sSeq (sIf (dNot (dB (dIsi isTupD (dOp dGet (dv 0) (dc (.int 2)))))) (sRet (dc (.str "form"))) sNext)
  (sSeq (sAsg (dv 0) (tTupD 3 (tsCons (tn 1) (tsCons (tn 2) (tsCons (tn 3) tsNil)))))
  (sSeq (sIf (dNot (dB (dCall g_law_is_whole (aCons (dv 1) (aCons (dc (.int 1)) (aCons (dc (.int 24)) aNil)))))) (sRet (dc (.str "many"))) sNext)
  (sSeq (sForI (iEnumD (dv 2)) (tTupD 2 (tsCons (tn 4) (tsCons (tn 5) tsNil))) (sSeq (sIf (dOr (dNot (dB (dIsi isTupD (dv 5)))) (dOr (dCmpT bNe (dCall dLen (aCons (dv 5) aNil)) (dc (.int 2))) (dNot (dB (dCall g_law_is_whole (aCons (dOp dGet (dv 5) (dc (.int 0))) (aCons (dc (.int 0)) (aCons (dOp (dI20 fun i j => i - j) (dv 1) (dc (.int 1))) aNil)))))))) (sRet (dTup (aCons (dc (.str "road")) (aCons (dv 4) aNil)))) sNext)
  (sIf (dOr (dNot (dB (dCall g_law_is_whole (aCons (dOp dGet (dv 5) (dc (.int 1))) (aCons (dOp dAdd (dOp dGet (dv 5) (dc (.int 0))) (dc (.int 1))) (aCons (dOp (dI20 fun i j => i - j) (dv 1) (dc (.int 1))) aNil)))))) (dAnd (dCmpT (bI fun i j => decide (j < i)) (dv 4) (dc (.int 0))) (dCmpT bLe (dv 5) (dOp dGet (dv 2) (dOp (dI20 fun i j => i - j) (dv 4) (dc (.int 1))))))) (sRet (dTup (aCons (dc (.str "road")) (aCons (dv 4) aNil)))) sNext)))
  (sSeq (sForI (iEnumD (dv 3)) (tTupD 2 (tsCons (tn 4) (tsCons (tn 6) tsNil))) (sIf (dOr (dNot (dB (dCall g_law_is_whole (aCons (dv 6) (aCons (dc (.int 0)) (aCons (dOp (dI20 fun i j => i - j) (dv 1) (dc (.int 1))) aNil)))))) (dAnd (dCmpT (bI fun i j => decide (j < i)) (dv 4) (dc (.int 0))) (dCmpT bLe (dv 6) (dOp dGet (dv 3) (dOp (dI20 fun i j => i - j) (dv 4) (dc (.int 1))))))) (sRet (dTup (aCons (dc (.str "centre")) (aCons (dv 4) aNil)))) sNext))
  (sRet (dc .none))))))))
theorem tr_law_chart_slip {P : Program} {w : World} {K : PySem.W.Frag} {mg : Str → Option Value} {base : Heap} {fa : Addr} {g_law_is_whole : RDn} (C_law_is_whole : Cal P w K mg base 1 "_law_is_whole" ["value", "low", "high"] (spN K g_law_is_whole)) (m_isinstance : mg "isinstance" = none) (m_tuple : mg "tuple" = none) (m_len : mg "len" = none) (m_enumerate : mg "enumerate" = none) (cdv : Value) (A : Around) (outer : List Env) (s : Shared) (H : Hp) (E : XK) (hr : Room 1 (A.deeper (envOfC "_law_chart_slip" (defScope s_law_chart_slip) s.heap.objs.size fa cdv))) :
    DSs K (cxOf CX0 P w K mg base n_law_chart_slip "_law_chart_slip" (defScope s_law_chart_slip) fa cdv A outer s H E).nox (defBody s_law_chart_slip) (t_law_chart_slip g_law_is_whole) :=
  (dss_cons (ds_if (PW.pt (dw_or (dt_not (dt_val (de_isi rfl kit_tup (by rfl) m_isinstance (by rfl) m_tuple PyProof.Rows.boot_tuple (dpv 0)))) (dw_or (dt_ne (de_callB call_len od_len (by rfl) m_len PySem.boot_len (da_cons (dpv 0) da_nil)) de_int rfl hr) (dw_or1 (dt_not (dt_val (de_isi rfl kit_tup (by rfl) m_isinstance (by rfl) m_tuple PyProof.Rows.boot_tuple (de_get rfl (dpv 0) de_int)))))))) (dss_one (ds_ret de_str)) dss_nil)
      (dss_cons (ds_if (dt_not (dt_val (de_isi rfl kit_tup (by rfl) m_isinstance (by rfl) m_tuple PyProof.Rows.boot_tuple (de_get rfl (dpv 0) de_int)))) (dss_one (ds_ret de_str)) dss_nil)
      (dss_cons (ds_asg (dpv 0) (dg_tup rfl rfl (dgs_cons (dg_name (i := 1) sc_law_chart_slip.nd rfl (.inl rfl)) (dgs_cons (dg_name (i := 2) sc_law_chart_slip.nd rfl (.inl rfl)) (dgs_cons (dg_name (i := 3) sc_law_chart_slip.nd rfl (.inl rfl)) dgs_nil)))))
      (dss_cons (ds_if (dt_not (dt_val (de_callC C_law_is_whole (hr.mono (by decide)) (by rfl) (da_cons (dpv 1) (da_cons de_int (da_cons de_int da_nil)))))) (dss_one (ds_ret de_str)) dss_nil)
      (dss_cons (ds_forI PassesOwn.never rfl (di_enum rfl (by rfl) m_enumerate (dpv 2)) (dg_tup rfl rfl (dgs_cons (dg_name (i := 4) sc_law_chart_slip.nd rfl (.inl rfl)) (dgs_cons (dg_name (i := 5) sc_law_chart_slip.nd rfl (.inl rfl)) dgs_nil))) (dss_cons (ds_if (PW.pt (dw_or (dt_not (dt_val (de_isi rfl kit_tup (by rfl) m_isinstance (by rfl) m_tuple PyProof.Rows.boot_tuple (dpv 5)))) (dw_or (dt_ne (de_callB call_len od_len (by rfl) m_len PySem.boot_len (da_cons (dpv 5) da_nil)) de_int rfl hr) (dw_or1 (dt_not (dt_val (de_callC C_law_is_whole (hr.mono (by decide)) (by rfl) (da_cons (de_get rfl (dpv 5) de_int) (da_cons de_int (da_cons (de_sub (dpv 1) de_int) da_nil)))))))))) (dss_one (ds_ret (de_tup (da_cons de_str (da_cons (dpv 4) da_nil))))) dss_nil)
      (dss_one (ds_if (PW.pt (dw_or (dt_not (dt_val (de_callC C_law_is_whole (hr.mono (by decide)) (by rfl) (da_cons (de_get rfl (dpv 5) de_int) (da_cons (de_add rfl (de_get rfl (dpv 5) de_int) de_int) (da_cons (de_sub (dpv 1) de_int) da_nil)))))) (dw_or1 (PW.pt (dw_and (dt_gt (dpv 4) de_int) (dw_and1 (dt_le (dpv 5) (de_get rfl (dpv 2) (de_sub (dpv 4) de_int)) rfl hr))))))) (dss_one (ds_ret (de_tup (da_cons de_str (da_cons (dpv 4) da_nil))))) dss_nil))))
      (dss_cons (ds_forI PassesOwn.never rfl (di_enum rfl (by rfl) m_enumerate (dpv 3)) (dg_tup rfl rfl (dgs_cons (dg_name (i := 4) sc_law_chart_slip.nd rfl (.inl rfl)) (dgs_cons (dg_name (i := 6) sc_law_chart_slip.nd rfl (.inl rfl)) dgs_nil))) (dss_one (ds_if (PW.pt (dw_or (dt_not (dt_val (de_callC C_law_is_whole (hr.mono (by decide)) (by rfl) (da_cons (dpv 6) (da_cons de_int (da_cons (de_sub (dpv 1) de_int) da_nil)))))) (dw_or1 (PW.pt (dw_and (dt_gt (dpv 4) de_int) (dw_and1 (dt_le (dpv 6) (de_get rfl (dpv 3) (de_sub (dpv 4) de_int)) rfl hr))))))) (dss_one (ds_ret (de_tup (da_cons de_str (da_cons (dpv 4) da_nil))))) dss_nil)))
      (dss_one (ds_ret de_non))))))))
/-! ### _law_board_slip -/
abbrev s_law_board_slip : Stmt := topS 23
abbrev n_law_board_slip : List Str := ["chart", "pieces", "spot", "piece"]
theorem sc_law_board_slip : FnScope n_law_board_slip ["chart", "pieces"] (defScope s_law_board_slip) := ⟨rfl, rfl, rfl, by decide +kernel, rfl, by decide +kernel, by decide +kernel⟩
def t_law_board_slip (g_law_chart_slip g_law_is_whole : RDn) : TSD := (sSeq (sIf (dCmpT bNotN (dCall g_law_chart_slip (aCons (dv 0) aNil)) (dc .none)) (sRet (dTup (aCons (dc (.str "chart")) (aCons (dCall g_law_chart_slip (aCons (dv 0) aNil)) aNil)))) sNext)
  (sSeq (sIf (dOr (dNot (dB (dIsi isTupD (dv 1)))) (dCmpT (bI fun i j => decide (j < i)) (dCall dLen (aCons (dv 1) aNil)) (dc (.int 16)))) (sRet (dc (.str "pieces"))) sNext)
  (sSeq (sForI (iEnumD (dv 1)) (tTupD 2 (tsCons (tn 2) (tsCons (tn 3) tsNil))) (sSeq (sIf (dOr (dNot (dB (dIsi isTupD (dv 3)))) (dOr (dCmpT bNe (dCall dLen (aCons (dv 3) aNil)) (dc (.int 2))) (dNot (dB (dCall g_law_is_whole (aCons (dOp dGet (dv 3) (dc (.int 0))) (aCons (dc (.int 0)) (aCons (dOp (dI20 fun i j => i - j) (dOp dGet (dv 0) (dc (.int 0))) (dc (.int 1))) aNil)))))))) (sRet (dTup (aCons (dc (.str "piece")) (aCons (dv 2) aNil)))) sNext)
  (sIf (dOr (dNot (dB (dCall g_law_is_whole (aCons (dOp dGet (dv 3) (dc (.int 1))) (aCons (dc (.int 0)) (aCons (dc (.int 5)) aNil)))))) (dAnd (dCmpT (bI fun i j => decide (j < i)) (dv 2) (dc (.int 0))) (dCmpT bLe (dOp dGet (dv 3) (dc (.int 0))) (dOp dGet (dOp dGet (dv 1) (dOp (dI20 fun i j => i - j) (dv 2) (dc (.int 1)))) (dc (.int 0)))))) (sRet (dTup (aCons (dc (.str "piece")) (aCons (dv 2) aNil)))) sNext)))
  (sRet (dc .none)))))
theorem tr_law_board_slip {P : Program} {w : World} {K : PySem.W.Frag} {mg : Str → Option Value} {base : Heap} {fa : Addr} {g_law_chart_slip g_law_is_whole : RDn} (C_law_chart_slip : Cal P w K mg base 2 "_law_chart_slip" ["value"] (spN K g_law_chart_slip)) (C_law_is_whole : Cal P w K mg base 1 "_law_is_whole" ["value", "low", "high"] (spN K g_law_is_whole)) (m_isinstance : mg "isinstance" = none) (m_tuple : mg "tuple" = none) (m_len : mg "len" = none) (m_enumerate : mg "enumerate" = none) (cdv : Value) (A : Around) (outer : List Env) (s : Shared) (H : Hp) (E : XK) (hr : Room 2 (A.deeper (envOfC "_law_board_slip" (defScope s_law_board_slip) s.heap.objs.size fa cdv))) :
    DSs K (cxOf CX0 P w K mg base n_law_board_slip "_law_board_slip" (defScope s_law_board_slip) fa cdv A outer s H E).nox (defBody s_law_board_slip) (t_law_board_slip g_law_chart_slip g_law_is_whole) :=
  (dss_cons (ds_if (dt_notN (de_callC C_law_chart_slip (hr.mono (by decide)) (by rfl) (da_cons (dpv 0) da_nil)) de_non) (dss_one (ds_ret (de_tup (da_cons de_str (da_cons (de_callC C_law_chart_slip (hr.mono (by decide)) (by rfl) (da_cons (dpv 0) da_nil)) da_nil))))) dss_nil)
      (dss_cons (ds_if (PW.pt (dw_or (dt_not (dt_val (de_isi rfl kit_tup (by rfl) m_isinstance (by rfl) m_tuple PyProof.Rows.boot_tuple (dpv 1)))) (dw_or1 (dt_gt (de_callB call_len od_len (by rfl) m_len PySem.boot_len (da_cons (dpv 1) da_nil)) de_int)))) (dss_one (ds_ret de_str)) dss_nil)
      (dss_cons (ds_forI PassesOwn.never rfl (di_enum rfl (by rfl) m_enumerate (dpv 1)) (dg_tup rfl rfl (dgs_cons (dg_name (i := 2) sc_law_board_slip.nd rfl (.inl rfl)) (dgs_cons (dg_name (i := 3) sc_law_board_slip.nd rfl (.inl rfl)) dgs_nil))) (dss_cons (ds_if (PW.pt (dw_or (dt_not (dt_val (de_isi rfl kit_tup (by rfl) m_isinstance (by rfl) m_tuple PyProof.Rows.boot_tuple (dpv 3)))) (dw_or (dt_ne (de_callB call_len od_len (by rfl) m_len PySem.boot_len (da_cons (dpv 3) da_nil)) de_int rfl hr) (dw_or1 (dt_not (dt_val (de_callC C_law_is_whole (hr.mono (by decide)) (by rfl) (da_cons (de_get rfl (dpv 3) de_int) (da_cons de_int (da_cons (de_sub (de_get rfl (dpv 0) de_int) de_int) da_nil)))))))))) (dss_one (ds_ret (de_tup (da_cons de_str (da_cons (dpv 2) da_nil))))) dss_nil)
      (dss_one (ds_if (PW.pt (dw_or (dt_not (dt_val (de_callC C_law_is_whole (hr.mono (by decide)) (by rfl) (da_cons (de_get rfl (dpv 3) de_int) (da_cons de_int (da_cons de_int da_nil)))))) (dw_or1 (PW.pt (dw_and (dt_gt (dpv 2) de_int) (dw_and1 (dt_le (de_get rfl (dpv 3) de_int) (de_get rfl (de_get rfl (dpv 1) (de_sub (dpv 2) de_int)) de_int) rfl hr))))))) (dss_one (ds_ret (de_tup (da_cons de_str (da_cons (dpv 2) da_nil))))) dss_nil))))
      (dss_one (ds_ret de_non)))))
/-! ### _law_odd -/
abbrev s_law_odd : Stmt := topS 25
abbrev n_law_odd : List Str := ["deck", "odd"]
theorem sc_law_odd : FnScope n_law_odd ["deck"] (defScope s_law_odd) := ⟨rfl, rfl, rfl, by decide +kernel, rfl, by decide +kernel, by decide +kernel⟩
def t_law_odd (g_law_pick : RDn) : TSD := (sSeq (sAsg (dLst (aCons (dc .none) (aCons (dc (.bool true)) (aCons (dc (.bool false)) (aCons (dc (.int 0)) (aCons (dUn dNeg (dc (.int 1))) (aCons (dc (.int 7)) (aCons (dOp (dI2 CPow fun i j => i ^ j.toNat) (dc (.int 10)) (dc (.int 30))) (aCons (dc (.str "")) (aCons (dc (.str "orders")) (aCons (dc (.str "stay")) (aCons (dTup aNil) (aCons (dLst aNil) (aCons (dc (.dict [])) (aCons (dc (.dict [(.str "a", .int 1)])) (aCons (dTup (aCons (dTup aNil) aNil)) (aCons (dTup (aCons (dc (.int 1)) (aCons (dc (.int 2)) aNil))) (aCons (dTup (aCons (dc (.str "stay")) aNil)) aNil)))))))))))))))))) (tn 1))
  (sRet (dCallK 0 g_law_pick (aCons (dOp dAdd (dv 1) (dLst (aCons (dTup (aCons (dc .none) aNil)) (aCons (dLst (aCons (dc .none) aNil)) (aCons (dTup (aCons (dc (.bool true)) aNil)) (aCons (dTup (aCons (dTup (aCons (dc (.int 0)) (aCons (dc (.int 0)) aNil))) aNil)) (aCons (dLst (aCons (dTup (aCons (dc (.int 0)) (aCons (dc (.int 0)) aNil))) aNil)) (aCons (dTup (aCons (dTup (aCons (dc (.str "stay")) aNil)) aNil)) (aCons (dc (.str "0:a")) (aCons (dc (.str "\n")) (aCons (dTup (aCons (dc (.str "go")) (aCons (dc (.int 1)) aNil))) aNil))))))))))) aNil))))
theorem tr_law_odd {P : Program} {w : World} {K : PySem.W.Frag} {mg : Str → Option Value} {base : Heap} {fa : Addr} {g_law_pick : RDn} (C_law_pick : Cal P w K mg base 2 "_law_pick" ["deck", "items"] (spK K g_law_pick)) (cdv : Value) (A : Around) (outer : List Env) (s : Shared) (H : Hp) (E : XK) (hr : Room 2 (A.deeper (envOfC "_law_odd" (defScope s_law_odd) s.heap.objs.size fa cdv))) :
    DSs K (cxOf CX0 P w K mg base n_law_odd "_law_odd" (defScope s_law_odd) fa cdv A outer s H E).nox (defBody s_law_odd) (t_law_odd g_law_pick) :=
  (dss_cons (ds_set (i := 1) sc_law_odd.nd rfl (.inl rfl) (de_lst (da_cons de_non (da_cons de_bl (da_cons de_bl (da_cons de_int (da_cons (de_neg de_int) (da_cons de_int (da_cons (de_pow de_int de_int) (da_cons de_str (da_cons de_str (da_cons de_str (da_cons (de_tup da_nil) (da_cons (de_lst da_nil) (da_cons de_dict0 (da_cons de_dict1 (da_cons (de_tup (da_cons (de_tup da_nil) da_nil)) (da_cons (de_tup (da_cons de_int (da_cons de_int da_nil))) (da_cons (de_tup (da_cons de_str da_nil)) da_nil)))))))))))))))))))
      (dss_one (ds_ret (de_callKC C_law_pick (hr.mono (by decide)) (by rfl) (i := 0) rfl (by first | exact .inl rfl | exact .inr (.inl rfl) | exact .inr (.inr rfl)) (da_cons (de_add rfl (dpv 1) (de_lst (da_cons (de_tup (da_cons de_non da_nil)) (da_cons (de_lst (da_cons de_non da_nil)) (da_cons (de_tup (da_cons de_bl da_nil)) (da_cons (de_tup (da_cons (de_tup (da_cons de_int (da_cons de_int da_nil))) da_nil)) (da_cons (de_lst (da_cons (de_tup (da_cons de_int (da_cons de_int da_nil))) da_nil)) (da_cons (de_tup (da_cons (de_tup (da_cons de_str da_nil)) da_nil)) (da_cons de_str (da_cons de_str (da_cons (de_tup (da_cons de_str (da_cons de_int da_nil))) da_nil))))))))))) da_nil)))))
/-! ### _law_bent_board -/
abbrev s_law_bent_board : Stmt := topS 24
abbrev n_law_bent_board : List Str := ["deck", "chart", "pieces", "many", "roads", "centres", "way", "odd"]
theorem sc_law_bent_board : FnScope n_law_bent_board ["deck", "chart", "pieces"] (defScope s_law_bent_board) := ⟨rfl, rfl, rfl, by decide +kernel, rfl, by decide +kernel, by decide +kernel⟩
def t_law_bent_board (g_law_draw g_law_odd g_law_pick : RDn) : TSD := (sSeq (sAsg (dv 1) (tTupD 3 (tsCons (tn 3) (tsCons (tn 4) (tsCons (tn 5) tsNil)))))
  (sSeq (sPar 6 7 (aCons (dCallK 0 g_law_draw (aCons (dc (.int 8)) aNil)) (aCons (dCallK 0 g_law_odd aNil) aNil)))
  (sSeq (sIf (dCmpT bEq (dv 6) (dc (.int 0))) (sRet (dTup (aCons (dv 7) (aCons (dv 2) aNil)))) sNext)
  (sSeq (sIf (dCmpT bEq (dv 6) (dc (.int 1))) (sRet (dTup (aCons (dv 1) (aCons (dv 7) aNil)))) sNext)
  (sSeq (sIf (dCmpT bEq (dv 6) (dc (.int 2))) (sRet (dTup (aCons (dTup (aCons (dCallK 0 g_law_pick (aCons (dLst (aCons (dc (.int 0)) (aCons (dc (.int 25)) (aCons (dc (.bool true)) (aCons (dOp (dI20 fun i j => i - j) (dv 3) (dc (.int 1))) aNil))))) aNil)) (aCons (dv 4) (aCons (dv 5) aNil)))) (aCons (dv 2) aNil)))) sNext)
  (sSeq (sIf (dCmpT bEq (dv 6) (dc (.int 3))) (sRet (dTup (aCons (dTup (aCons (dv 3) (aCons (dOp dAdd (dv 4) (dTup (aCons (dCallK 0 g_law_pick (aCons (dLst (aCons (dTup (aCons (dc (.int 0)) (aCons (dc (.int 0)) aNil))) (aCons (dTup (aCons (dc (.int 1)) (aCons (dc (.int 0)) aNil))) (aCons (dTup (aCons (dc (.int 0)) (aCons (dv 3) aNil))) (aCons (dv 7) aNil))))) aNil)) aNil))) (aCons (dv 5) aNil)))) (aCons (dv 2) aNil)))) sNext)
  (sSeq (sIf (dCmpT bEq (dv 6) (dc (.int 4))) (sRet (dTup (aCons (dTup (aCons (dv 3) (aCons (dv 4) (aCons (dOp dAdd (dv 5) (dTup (aCons (dCallK 0 g_law_pick (aCons (dLst (aCons (dv 3) (aCons (dUn dNeg (dc (.int 1))) (aCons (dc (.bool true)) (aCons (dv 7) aNil))))) aNil)) aNil))) aNil)))) (aCons (dv 2) aNil)))) sNext)
  (sSeq (sIf (dCmpT bEq (dv 6) (dc (.int 5))) (sRet (dTup (aCons (dv 1) (aCons (dOp dAdd (dv 2) (dTup (aCons (dCallK 0 g_law_pick (aCons (dLst (aCons (dTup (aCons (dc (.int 0)) (aCons (dc (.int 0)) aNil))) (aCons (dTup (aCons (dv 3) (aCons (dc (.int 0)) aNil))) (aCons (dTup (aCons (dOp (dI20 fun i j => i - j) (dv 3) (dc (.int 1))) (aCons (dc (.int 6)) aNil))) (aCons (dTup (aCons (dOp (dI20 fun i j => i - j) (dv 3) (dc (.int 1))) (aCons (dc (.bool true)) aNil))) (aCons (dv 7) aNil)))))) aNil)) aNil))) aNil)))) sNext)
  (sRet (dIf (dCmpT bEq (dv 6) (dc (.int 6))) (dTup (aCons (dv 1) (aCons (dCall dListF (aCons (dv 2) aNil)) aNil))) (dTup (aCons (dTup (aCons (dv 3) (aCons (dCall dListF (aCons (dv 4) aNil)) (aCons (dv 5) aNil)))) (aCons (dv 2) aNil)))))))))))))
theorem tr_law_bent_board {P : Program} {w : World} {K : PySem.W.Frag} {mg : Str → Option Value} {base : Heap} {fa : Addr} {g_law_draw g_law_odd g_law_pick : RDn} (C_law_draw : Cal P w K mg base 1 "_law_draw" ["deck", "many"] (spK K g_law_draw)) (C_law_odd : Cal P w K mg base 3 "_law_odd" ["deck"] (spK K g_law_odd)) (C_law_pick : Cal P w K mg base 2 "_law_pick" ["deck", "items"] (spK K g_law_pick)) (m_list : mg "list" = none) (cdv : Value) (A : Around) (outer : List Env) (s : Shared) (H : Hp) (E : XK) (hr : Room 3 (A.deeper (envOfC "_law_bent_board" (defScope s_law_bent_board) s.heap.objs.size fa cdv))) :
    DSs K (cxOf CX0 P w K mg base n_law_bent_board "_law_bent_board" (defScope s_law_bent_board) fa cdv A outer s H E).nox (defBody s_law_bent_board) (t_law_bent_board g_law_draw g_law_odd g_law_pick) :=
  (dss_cons (ds_asg (dpv 1) (dg_tup rfl rfl (dgs_cons (dg_name (i := 3) sc_law_bent_board.nd rfl (.inl rfl)) (dgs_cons (dg_name (i := 4) sc_law_bent_board.nd rfl (.inl rfl)) (dgs_cons (dg_name (i := 5) sc_law_bent_board.nd rfl (.inl rfl)) dgs_nil)))))
      (dss_cons (ds_par (i := 6) (j := 7) rfl sc_law_bent_board.nd rfl rfl (by decide) rfl rfl (da_cons (de_callKC C_law_draw (hr.mono (by decide)) (by rfl) (i := 0) rfl (by first | exact .inl rfl | exact .inr (.inl rfl) | exact .inr (.inr rfl)) (da_cons de_int da_nil)) (da_cons (de_callKC C_law_odd (hr.mono (by decide)) (by rfl) (i := 0) rfl (by first | exact .inl rfl | exact .inr (.inl rfl) | exact .inr (.inr rfl)) da_nil) da_nil)) (by rfl))
      (dss_cons (ds_if (dt_eq (dpv 6) de_int rfl hr) (dss_one (ds_ret (de_tup (da_cons (dpv 7) (da_cons (dpv 2) da_nil))))) dss_nil)
      (dss_cons (ds_if (dt_eq (dpv 6) de_int rfl hr) (dss_one (ds_ret (de_tup (da_cons (dpv 1) (da_cons (dpv 7) da_nil))))) dss_nil)
      (dss_cons (ds_if (dt_eq (dpv 6) de_int rfl hr) (dss_one (ds_ret (de_tup (da_cons (de_tup (da_cons (de_callKC C_law_pick (hr.mono (by decide)) (by rfl) (i := 0) rfl (by first | exact .inl rfl | exact .inr (.inl rfl) | exact .inr (.inr rfl)) (da_cons (de_lst (da_cons de_int (da_cons de_int (da_cons de_bl (da_cons (de_sub (dpv 3) de_int) da_nil))))) da_nil)) (da_cons (dpv 4) (da_cons (dpv 5) da_nil)))) (da_cons (dpv 2) da_nil))))) dss_nil)
      (dss_cons (ds_if (dt_eq (dpv 6) de_int rfl hr) (dss_one (ds_ret (de_tup (da_cons (de_tup (da_cons (dpv 3) (da_cons (de_add rfl (dpv 4) (de_tup (da_cons (de_callKC C_law_pick (hr.mono (by decide)) (by rfl) (i := 0) rfl (by first | exact .inl rfl | exact .inr (.inl rfl) | exact .inr (.inr rfl)) (da_cons (de_lst (da_cons (de_tup (da_cons de_int (da_cons de_int da_nil))) (da_cons (de_tup (da_cons de_int (da_cons de_int da_nil))) (da_cons (de_tup (da_cons de_int (da_cons (dpv 3) da_nil))) (da_cons (dpv 7) da_nil))))) da_nil)) da_nil))) (da_cons (dpv 5) da_nil)))) (da_cons (dpv 2) da_nil))))) dss_nil)
      (dss_cons (ds_if (dt_eq (dpv 6) de_int rfl hr) (dss_one (ds_ret (de_tup (da_cons (de_tup (da_cons (dpv 3) (da_cons (dpv 4) (da_cons (de_add rfl (dpv 5) (de_tup (da_cons (de_callKC C_law_pick (hr.mono (by decide)) (by rfl) (i := 0) rfl (by first | exact .inl rfl | exact .inr (.inl rfl) | exact .inr (.inr rfl)) (da_cons (de_lst (da_cons (dpv 3) (da_cons (de_neg de_int) (da_cons de_bl (da_cons (dpv 7) da_nil))))) da_nil)) da_nil))) da_nil)))) (da_cons (dpv 2) da_nil))))) dss_nil)
      (dss_cons (ds_if (dt_eq (dpv 6) de_int rfl hr) (dss_one (ds_ret (de_tup (da_cons (dpv 1) (da_cons (de_add rfl (dpv 2) (de_tup (da_cons (de_callKC C_law_pick (hr.mono (by decide)) (by rfl) (i := 0) rfl (by first | exact .inl rfl | exact .inr (.inl rfl) | exact .inr (.inr rfl)) (da_cons (de_lst (da_cons (de_tup (da_cons de_int (da_cons de_int da_nil))) (da_cons (de_tup (da_cons (dpv 3) (da_cons de_int da_nil))) (da_cons (de_tup (da_cons (de_sub (dpv 3) de_int) (da_cons de_int da_nil))) (da_cons (de_tup (da_cons (de_sub (dpv 3) de_int) (da_cons de_bl da_nil))) (da_cons (dpv 7) da_nil)))))) da_nil)) da_nil))) da_nil))))) dss_nil)
      (dss_one (ds_ret (de_ifExp (dt_eq (dpv 6) de_int rfl hr) (de_tup (da_cons (dpv 1) (da_cons (de_callTy call_list_of od_list (by rfl) m_list PyProof.Rows.boot_list (da_cons (dpv 2) da_nil)) da_nil))) (de_tup (da_cons (de_tup (da_cons (dpv 3) (da_cons (de_callTy call_list_of od_list (by rfl) m_list PyProof.Rows.boot_list (da_cons (dpv 4) da_nil)) (da_cons (dpv 5) da_nil)))) (da_cons (dpv 2) da_nil))))))))))))))
/-! ### _law_due -/
abbrev s_law_due : Stmt := topS 26
abbrev n_law_due : List Str := ["value"]
theorem sc_law_due : FnScope n_law_due ["value"] (defScope s_law_due) := ⟨rfl, rfl, rfl, by decide +kernel, rfl, by decide +kernel, by decide +kernel⟩
def t_law_due (g_law_board_slip : RDn) : TSD := (sSeq (sIf (dOr (dNot (dB (dIsi isTupD (dv 0)))) (dCmpT bNe (dCall dLen (aCons (dv 0) aNil)) (dc (.int 2)))) (sRet (dc (.str "form"))) sNext)
  (sRet (dCall g_law_board_slip (aCons (dOp dGet (dv 0) (dc (.int 0))) (aCons (dOp dGet (dv 0) (dc (.int 1))) aNil)))))
theorem tr_law_due {P : Program} {w : World} {K : PySem.W.Frag} {mg : Str → Option Value} {base : Heap} {fa : Addr} {g_law_board_slip : RDn} (C_law_board_slip : Cal P w K mg base 3 "_law_board_slip" ["chart", "pieces"] (spN K g_law_board_slip)) (m_isinstance : mg "isinstance" = none) (m_tuple : mg "tuple" = none) (m_len : mg "len" = none) (cdv : Value) (A : Around) (outer : List Env) (s : Shared) (H : Hp) (E : XK) (hr : Room 3 (A.deeper (envOfC "_law_due" (defScope s_law_due) s.heap.objs.size fa cdv))) :
    DSs K (cxOf CX0 P w K mg base n_law_due "_law_due" (defScope s_law_due) fa cdv A outer s H E).nox (defBody s_law_due) (t_law_due g_law_board_slip) :=
  (dss_cons (ds_if (PW.pt (dw_or (dt_not (dt_val (de_isi rfl kit_tup (by rfl) m_isinstance (by rfl) m_tuple PyProof.Rows.boot_tuple (dpv 0)))) (dw_or1 (dt_ne (de_callB call_len od_len (by rfl) m_len PySem.boot_len (da_cons (dpv 0) da_nil)) de_int rfl hr)))) (dss_one (ds_ret de_str)) dss_nil)
      (dss_one (ds_ret (de_callC C_law_board_slip (hr.mono (by decide)) (by rfl) (da_cons (de_get rfl (dpv 0) de_int) (da_cons (de_get rfl (dpv 0) de_int) da_nil))))))
/-! ### _law_turned -/
abbrev s_law_turned : Stmt := topS 27
abbrev n_law_turned : List Str := ["deck", "board", "chart", "pieces", "way", "odd", "spot", "field", "player", "piece", "turned"]
theorem sc_law_turned : FnScope n_law_turned ["deck", "board"] (defScope s_law_turned) := ⟨rfl, rfl, rfl, by decide +kernel, rfl, by decide +kernel, by decide +kernel⟩
def t_law_turned (g_law_draw g_law_odd g_law_pick g_law_bent_board : RDn) : TSD := (sSeq (sAsg (dv 1) (tTupD 2 (tsCons (tn 2) (tsCons (tn 3) tsNil))))
  (sSeq (sPar3 4 5 6 (aCons (dCallK 0 g_law_draw (aCons (dc (.int 6)) aNil)) (aCons (dCallK 0 g_law_odd aNil) (aCons (dCallK 0 g_law_draw (aCons (dOp dAdd (dCall dLen (aCons (dv 3) aNil)) (dc (.int 1))) aNil)) aNil))))
  (sSeq (sIf (dCmpT bEq (dv 4) (dc (.int 0))) (sRet (dCallK 0 g_law_pick (aCons (dLst (aCons (dv 5) (aCons (dLst (aCons (dv 2) (aCons (dv 3) aNil))) (aCons (dTup (aCons (dv 2) aNil)) (aCons (dTup (aCons (dv 2) (aCons (dv 3) (aCons (dc (.int 0)) aNil)))) (aCons (dTup (aCons (dv 3) (aCons (dv 2) aNil))) (aCons (dTup aNil) aNil))))))) aNil))) sNext)
  (sSeq (sIf (dCmpT (bI fun i j => decide (i < j)) (dv 4) (dc (.int 3))) (sRet (dCallK 0 g_law_bent_board (aCons (dv 2) (aCons (dv 3) aNil)))) sNext)
  (sSeq (sPar 7 8 (aCons (dCallK 0 g_law_draw (aCons (dOp dGet (dv 2) (dc (.int 0))) aNil)) (aCons (dCallK 0 g_law_draw (aCons (dc (.int 6)) aNil)) aNil)))
  (sSeq (sAsg (dLst (aCons (dTup (aCons (dv 7) (aCons (dv 8) aNil))) (aCons (dTup (aCons (dv 7) (aCons (dc (.int 6)) aNil))) (aCons (dTup (aCons (dv 7) (aCons (dUn dNeg (dc (.int 1))) aNil))) (aCons (dTup (aCons (dv 7) (aCons (dc (.bool true)) aNil))) (aCons (dTup (aCons (dc (.bool true)) (aCons (dv 8) aNil))) (aCons (dTup (aCons (dOp dGet (dv 2) (dc (.int 0))) (aCons (dc (.int 0)) aNil))) (aCons (dTup (aCons (dv 7) aNil)) aNil)))))))) (tn 9))
  (sSeq (sAsg (dCallK 0 g_law_pick (aCons (dOp dAdd (dv 9) (dLst (aCons (dLst (aCons (dv 7) (aCons (dc (.int 0)) aNil))) (aCons (dv 5) (aCons (dTup (aCons (dv 7) (aCons (dv 8) (aCons (dc (.int 0)) aNil)))) (aCons (dTup (aCons (dc .none) (aCons (dv 8) aNil))) (aCons (dTup (aCons (dv 7) (aCons (dc .none) aNil))) aNil))))))) aNil)) (tn 9))
  (sSeq (sIf (dCmpT (bI fun i j => decide (i < j)) (dv 4) (dc (.int 5))) (sRet (dTup (aCons (dv 2) (aCons (dOp dAdd (dOp dAdd (dSlice (dv 3) oNo (oIs (dv 6))) (dTup (aCons (dv 9) aNil))) (dSlice (dv 3) (oIs (dOp (dI20 fun i j => i - j) (dOp dAdd (dv 6) (dv 4)) (dc (.int 3)))) oNo)) aNil)))) sNext)
  (sSeq (sAsg (dLst (aCons (dRev (dv 3)) (aCons (dOp dAdd (dv 3) (dSlice (dv 3) (oIs (dUn dNeg (dc (.int 1)))) oNo)) (aCons (dOp dAdd (dSlice (dv 3) (oIs (dc (.int 1))) oNo) (dSlice (dv 3) oNo (oIs (dc (.int 1))))) (aCons (dOp dMul (dv 3) (dc (.int 2))) (aCons (dCall dListF (aCons (dv 3) aNil)) aNil)))))) (tn 10))
  (sRet (dTup (aCons (dv 2) (aCons (dCallK 0 g_law_pick (aCons (dv 10) aNil)) aNil)))))))))))))
theorem tr_law_turned {P : Program} {w : World} {K : PySem.W.Frag} {mg : Str → Option Value} {base : Heap} {fa : Addr} {g_law_draw g_law_odd g_law_pick g_law_bent_board : RDn} (C_law_draw : Cal P w K mg base 1 "_law_draw" ["deck", "many"] (spK K g_law_draw)) (C_law_odd : Cal P w K mg base 3 "_law_odd" ["deck"] (spK K g_law_odd)) (C_law_pick : Cal P w K mg base 2 "_law_pick" ["deck", "items"] (spK K g_law_pick)) (C_law_bent_board : Cal P w K mg base 4 "_law_bent_board" ["deck", "chart", "pieces"] (spK K g_law_bent_board)) (m_len : mg "len" = none) (m_list : mg "list" = none) (cdv : Value) (A : Around) (outer : List Env) (s : Shared) (H : Hp) (E : XK) (hr : Room 4 (A.deeper (envOfC "_law_turned" (defScope s_law_turned) s.heap.objs.size fa cdv))) :
    DSs K (cxOf CX0 P w K mg base n_law_turned "_law_turned" (defScope s_law_turned) fa cdv A outer s H E).nox (defBody s_law_turned) (t_law_turned g_law_draw g_law_odd g_law_pick g_law_bent_board) :=
  (dss_cons (ds_asg (dpv 1) (dg_tup rfl rfl (dgs_cons (dg_name (i := 2) sc_law_turned.nd rfl (.inl rfl)) (dgs_cons (dg_name (i := 3) sc_law_turned.nd rfl (.inl rfl)) dgs_nil))))
      (dss_cons (ds_par3 (i := 4) (j := 5) (l := 6) rfl sc_law_turned.nd rfl rfl rfl (by decide) (by decide) (by decide) rfl rfl rfl (da_cons (de_callKC C_law_draw (hr.mono (by decide)) (by rfl) (i := 0) rfl (by first | exact .inl rfl | exact .inr (.inl rfl) | exact .inr (.inr rfl)) (da_cons de_int da_nil)) (da_cons (de_callKC C_law_odd (hr.mono (by decide)) (by rfl) (i := 0) rfl (by first | exact .inl rfl | exact .inr (.inl rfl) | exact .inr (.inr rfl)) da_nil) (da_cons (de_callKC C_law_draw (hr.mono (by decide)) (by rfl) (i := 0) rfl (by first | exact .inl rfl | exact .inr (.inl rfl) | exact .inr (.inr rfl)) (da_cons (de_add rfl (de_callB call_len od_len (by rfl) m_len PySem.boot_len (da_cons (dpv 3) da_nil)) de_int) da_nil)) da_nil))) (by rfl))
      (dss_cons (ds_if (dt_eq (dpv 4) de_int rfl hr) (dss_one (ds_ret (de_callKC C_law_pick (hr.mono (by decide)) (by rfl) (i := 0) rfl (by first | exact .inl rfl | exact .inr (.inl rfl) | exact .inr (.inr rfl)) (da_cons (de_lst (da_cons (dpv 5) (da_cons (de_lst (da_cons (dpv 2) (da_cons (dpv 3) da_nil))) (da_cons (de_tup (da_cons (dpv 2) da_nil)) (da_cons (de_tup (da_cons (dpv 2) (da_cons (dpv 3) (da_cons de_int da_nil)))) (da_cons (de_tup (da_cons (dpv 3) (da_cons (dpv 2) da_nil))) (da_cons (de_tup da_nil) da_nil))))))) da_nil)))) dss_nil)
      (dss_cons (ds_if (dt_lt (dpv 4) de_int) (dss_one (ds_ret (de_callKC C_law_bent_board (hr.mono (by decide)) (by rfl) (i := 0) rfl (by first | exact .inl rfl | exact .inr (.inl rfl) | exact .inr (.inr rfl)) (da_cons (dpv 2) (da_cons (dpv 3) da_nil))))) dss_nil)
      (dss_cons (ds_par (i := 7) (j := 8) rfl sc_law_turned.nd rfl rfl (by decide) rfl rfl (da_cons (de_callKC C_law_draw (hr.mono (by decide)) (by rfl) (i := 0) rfl (by first | exact .inl rfl | exact .inr (.inl rfl) | exact .inr (.inr rfl)) (da_cons (de_get rfl (dpv 2) de_int) da_nil)) (da_cons (de_callKC C_law_draw (hr.mono (by decide)) (by rfl) (i := 0) rfl (by first | exact .inl rfl | exact .inr (.inl rfl) | exact .inr (.inr rfl)) (da_cons de_int da_nil)) da_nil)) (by rfl))
      (dss_cons (ds_set (i := 9) sc_law_turned.nd rfl (.inl rfl) (de_lst (da_cons (de_tup (da_cons (dpv 7) (da_cons (dpv 8) da_nil))) (da_cons (de_tup (da_cons (dpv 7) (da_cons de_int da_nil))) (da_cons (de_tup (da_cons (dpv 7) (da_cons (de_neg de_int) da_nil))) (da_cons (de_tup (da_cons (dpv 7) (da_cons de_bl da_nil))) (da_cons (de_tup (da_cons de_bl (da_cons (dpv 8) da_nil))) (da_cons (de_tup (da_cons (de_get rfl (dpv 2) de_int) (da_cons de_int da_nil))) (da_cons (de_tup (da_cons (dpv 7) da_nil)) da_nil)))))))))
      (dss_cons (ds_set (i := 9) sc_law_turned.nd rfl (.inl rfl) (de_callKC C_law_pick (hr.mono (by decide)) (by rfl) (i := 0) rfl (by first | exact .inl rfl | exact .inr (.inl rfl) | exact .inr (.inr rfl)) (da_cons (de_add rfl (dpv 9) (de_lst (da_cons (de_lst (da_cons (dpv 7) (da_cons de_int da_nil))) (da_cons (dpv 5) (da_cons (de_tup (da_cons (dpv 7) (da_cons (dpv 8) (da_cons de_int da_nil)))) (da_cons (de_tup (da_cons de_non (da_cons (dpv 8) da_nil))) (da_cons (de_tup (da_cons (dpv 7) (da_cons de_non da_nil))) da_nil))))))) da_nil)))
      (dss_cons (ds_if (dt_lt (dpv 4) de_int) (dss_one (ds_ret (de_tup (da_cons (dpv 2) (da_cons (de_add rfl (de_add rfl (de_slice rfl (dpv 3) do_none (do_some (dpv 6))) (de_tup (da_cons (dpv 9) da_nil))) (de_slice rfl (dpv 3) (do_some (de_sub (de_add rfl (dpv 6) (dpv 4)) de_int)) do_none)) da_nil))))) dss_nil)
      (dss_cons (ds_set (i := 10) sc_law_turned.nd rfl (.inl rfl) (de_lst (da_cons (de_rev rfl (dpv 3)) (da_cons (de_add rfl (dpv 3) (de_slice rfl (dpv 3) (do_some (de_neg de_int)) do_none)) (da_cons (de_add rfl (de_slice rfl (dpv 3) (do_some de_int) do_none) (de_slice rfl (dpv 3) do_none (do_some de_int))) (da_cons (de_mulD rfl (dpv 3) de_int) (da_cons (de_callTy call_list_of od_list (by rfl) m_list PyProof.Rows.boot_list (da_cons (dpv 3) da_nil)) da_nil)))))))
      (dss_one (ds_ret (de_tup (da_cons (dpv 2) (da_cons (de_callKC C_law_pick (hr.mono (by decide)) (by rfl) (i := 0) rfl (by first | exact .inl rfl | exact .inr (.inl rfl) | exact .inr (.inr rfl)) (da_cons (dpv 10) da_nil)) da_nil))))))))))))))
/-! ### law -/
abbrev s_law : Stmt := topS 28
abbrev n_law : List Str := ["script", "deck", "turn", "chart", "board", "one", "two", "spot", "value", "kept", "due", "told", "wide", "many", "pieces", "again", "own", "field"]
theorem sc_law : FnScope n_law ["script"] (defScope s_law) := ⟨rfl, rfl, rfl, by decide +kernel, rfl, by decide +kernel, by decide +kernel⟩
def t_law (g_law_chart g_law_pick g_law_draw g_law_pieces g_law_turned g_law_due g_law_odd g_board_error : RDn) : TSD := (sSeq (sForI (iRng1D (dc (.int 6))) (tn 2) (sSeq (sAsg (dCallK 1 g_law_chart (aCons (dCallK 1 g_law_pick (aCons (dLst (aCons (dc (.int 1)) (aCons (dc (.int 3)) (aCons (dc (.int 5)) (aCons (dc (.int 9)) aNil))))) aNil)) (aCons (dCallK 1 g_law_draw (aCons (dc (.int 4)) aNil)) aNil))) (tn 3))
  (sSeq (sAsg (dTup (aCons (dv 3) (aCons (dCallK 1 g_law_pieces (aCons (dv 3) (aCons (dCallK 1 g_law_draw (aCons (dc (.int 9)) aNil)) aNil))) aNil))) (tn 4))
  (sSeq (sAsg (dLc (iRng1D (dc (.int 8))) (tn 15) dYes (dCallK 1 g_law_turned (aCons (dv 4) aNil)) [15]) (tn 5))
  (sSeq (sAsg (dLc (iSeq (dv 5)) (tn 16) (dCmpT bIsN (dCall g_law_due (aCons (dv 16) aNil)) (dc .none)) (dCallK 1 g_law_turned (aCons (dv 16) aNil)) [16]) (tn 6))
  (sForI (iEnumD (dOp dAdd (dOp dAdd (dOp dAdd (dLst (aCons (dv 4) aNil)) (dv 5)) (dv 6)) (dLst (aCons (dCallK 1 g_law_odd aNil) aNil)))) (tTupD 2 (tsCons (tn 7) (tsCons (tn 8) tsNil))) (sSeq (sPar 9 10 (aCons (dCall dRepr (aCons (dv 8) aNil)) (aCons (dCall dRepr (aCons (dCall g_law_due (aCons (dv 8) aNil)) aNil)) aNil)))
  (sSeq (sAsg (dIf (dCmpT bEq (dv 7) (dv 2)) (dCallP g_board_error [0] (aCons (dv 8) aNil)) (dCall g_board_error (aCons (dv 8) aNil))) (tn 11))
  (sIf (dOr (dCmpT bNe (dCall dRepr (aCons (dv 11) aNil)) (dv 10)) (dOr (dCmpT bNe (dCall dRepr (aCons (dCall g_board_error (aCons (dv 8) aNil)) aNil)) (dv 10)) (dCmpT bNe (dCall dRepr (aCons (dv 8) aNil)) (dv 9)))) (sRet (dc (.bool false))) sNext)))))))))
  (sSeq (sAsg (dTup (aCons (dc (.int 24)) (aCons (dTup (aCons (dTup (aCons (dc (.int 0)) (aCons (dc (.int 23)) aNil))) aNil)) (aCons (dTup aNil) aNil)))) (tn 12))
  (sSeq (sAsg (dOp dAdd (dc (.int 16)) (dCallK 1 g_law_draw (aCons (dc (.int 3)) aNil))) (tn 13))
  (sSeq (sAsg (dCall dTupF (aCons (dLc (iRng1D (dv 13)) (tn 17) dYes (dTup (aCons (dv 17) (aCons (dCallK 1 g_law_draw (aCons (dc (.int 6)) aNil)) aNil))) [17]) aNil)) (tn 14))
  (sRet (dCmp bEq (dCall dRepr (aCons (dCall g_board_error (aCons (dTup (aCons (dv 12) (aCons (dv 14) aNil))) aNil)) aNil)) (dCall dRepr (aCons (dIf (dCmpT bEq (dv 13) (dc (.int 16))) (dc .none) (dc (.str "pieces"))) aNil))))))))
theorem tr_law {P : Program} {w : World} {K : PySem.W.Frag} {mg : Str → Option Value} {base : Heap} {fa : Addr} {g_law_chart g_law_pick g_law_draw g_law_pieces g_law_turned g_law_due g_law_odd g_board_error : RDn} (C_law_chart : Cal P w K mg base 2 "_law_chart" ["deck", "many", "more"] (spK K g_law_chart)) (C_law_pick : Cal P w K mg base 2 "_law_pick" ["deck", "items"] (spK K g_law_pick)) (C_law_draw : Cal P w K mg base 1 "_law_draw" ["deck", "many"] (spK K g_law_draw)) (C_law_pieces : Cal P w K mg base 3 "_law_pieces" ["deck", "chart", "many"] (spK K g_law_pieces)) (C_law_turned : Cal P w K mg base 5 "_law_turned" ["deck", "board"] (spK K g_law_turned)) (C_law_due : Cal P w K mg base 4 "_law_due" ["value"] (spN K g_law_due)) (C_law_odd : Cal P w K mg base 3 "_law_odd" ["deck"] (spK K g_law_odd)) (C_board_error : Cal P w K mg base 5 "board_error" ["value"] (spN K g_board_error)) (KW_board_error0 : CalW P w K mg base 5 "board_error" ["value"] ["value"] [0] (spN K g_board_error)) (m_range : mg "range" = none) (m_enumerate : mg "enumerate" = none) (m_repr : mg "repr" = none) (m_tuple : mg "tuple" = none) (cdv : Value) (A : Around) (outer : List Env) (s : Shared) (H : Hp) (E : XK) (hsys : ∃ o, base.get? sysModules = some o) (hgd : (A.deeper (envOfC "law" (defScope s_law) s.heap.objs.size fa cdv)).guards = some []) (hr : Room 5 (A.deeper (envOfC "law" (defScope s_law) s.heap.objs.size fa cdv))) :
    DSs K (cxOf CX0 P w K mg base n_law "law" (defScope s_law) fa cdv A outer s H E).nox (defBody s_law).tail (t_law g_law_chart g_law_pick g_law_draw g_law_pieces g_law_turned g_law_due g_law_odd g_board_error) :=
  (dss_cons (ds_forI PassesOwn.never rfl (di_range1 (by rfl) m_range de_int) (dg_name (i := 2) sc_law.nd rfl (.inl rfl)) (dss_cons (ds_set (i := 3) sc_law.nd rfl (.inl rfl) (de_callKC C_law_chart (hr.mono (by decide)) (by rfl) (i := 1) rfl (by first | exact .inl rfl | exact .inr (.inl rfl) | exact .inr (.inr rfl)) (da_cons (de_callKC C_law_pick (hr.mono (by decide)) (by rfl) (i := 1) rfl (by first | exact .inl rfl | exact .inr (.inl rfl) | exact .inr (.inr rfl)) (da_cons (de_lst (da_cons de_int (da_cons de_int (da_cons de_int (da_cons de_int da_nil))))) da_nil)) (da_cons (de_callKC C_law_draw (hr.mono (by decide)) (by rfl) (i := 1) rfl (by first | exact .inl rfl | exact .inr (.inl rfl) | exact .inr (.inr rfl)) (da_cons de_int da_nil)) da_nil))))
      (dss_cons (ds_set (i := 4) sc_law.nd rfl (.inr rfl) (de_tup (da_cons (dpv 3) (da_cons (de_callKC C_law_pieces (hr.mono (by decide)) (by rfl) (i := 1) rfl (by first | exact .inl rfl | exact .inr (.inl rfl) | exact .inr (.inr rfl)) (da_cons (dpv 3) (da_cons (de_callKC C_law_draw (hr.mono (by decide)) (by rfl) (i := 1) rfl (by first | exact .inl rfl | exact .inr (.inl rfl) | exact .inr (.inr rfl)) (da_cons de_int da_nil)) da_nil))) da_nil))))
      (dss_cons (ds_setLc (i := 5) (own := [("again", 15)]) rfl sc_law.nd rfl rfl (sw_true rfl rfl rfl (by decide +kernel)) (di_range1 (by rfl) m_range de_int) (blkOk_by (own := [("again", 15)]) (N := n_law) (sc := defScope s_law) (by decide +kernel)) (fun _ _ _ _ _ => (dg_name (i := 15) sc_law.nd rfl (.inl rfl))) (fun _ _ _ _ _ => dts_nil) (fun _ _ _ _ _ => (de_callKC C_law_turned (hr.mono (by decide)) (by rfl) (i := 1) rfl (by first | exact .inl rfl | exact .inr (.inl rfl) | exact .inr (.inr rfl)) (da_cons (dpv 4) da_nil))) (by decide))
      (dss_cons (ds_setLc (i := 6) (own := [("own", 16)]) rfl sc_law.nd rfl rfl (sw_true rfl rfl rfl (by decide +kernel)) (di_seq rfl (dpv 5)) (blkOk_by (own := [("own", 16)]) (N := n_law) (sc := defScope s_law) (by decide +kernel)) (fun _ _ _ _ _ => (dg_name (i := 16) sc_law.nd rfl (.inl rfl))) (fun _ _ _ _ _ => (dts_one (dt_isN (de_callC C_law_due (hr.mono (by decide)) (by rfl) (da_cons (dpv 16) da_nil)) de_non))) (fun _ _ _ _ _ => (de_callKC C_law_turned (hr.mono (by decide)) (by rfl) (i := 1) rfl (by first | exact .inl rfl | exact .inr (.inl rfl) | exact .inr (.inr rfl)) (da_cons (dpv 16) da_nil))) (by decide))
      (dss_one (ds_forI PassesOwn.never rfl (di_enum rfl (by rfl) m_enumerate (de_add rfl (de_add rfl (de_add rfl (de_lst (da_cons (dpv 4) da_nil)) (dpv 5)) (dpv 6)) (de_lst (da_cons (de_callKC C_law_odd (hr.mono (by decide)) (by rfl) (i := 1) rfl (by first | exact .inl rfl | exact .inr (.inl rfl) | exact .inr (.inr rfl)) da_nil) da_nil)))) (dg_tup rfl rfl (dgs_cons (dg_name (i := 7) sc_law.nd rfl (.inl rfl)) (dgs_cons (dg_name (i := 8) sc_law.nd rfl (.inl rfl)) dgs_nil))) (dss_cons (ds_par (i := 9) (j := 10) rfl sc_law.nd rfl rfl (by decide) rfl rfl (da_cons (de_repr rfl hsys hgd hr.units (by rfl) m_repr (dpv 8)) (da_cons (de_repr rfl hsys hgd hr.units (by rfl) m_repr (de_callC C_law_due (hr.mono (by decide)) (by rfl) (da_cons (dpv 8) da_nil))) da_nil)) (by rfl))
      (dss_cons (ds_set (i := 11) sc_law.nd rfl (.inl rfl) (de_ifExp (dt_eq (dpv 7) (dpv 2) rfl hr) (de_callKw KW_board_error0 (hr.mono (by decide)) (by rfl) (dk_cons (dpv 8) dk_nil)) (de_callC C_board_error (hr.mono (by decide)) (by rfl) (da_cons (dpv 8) da_nil))))
      (dss_one (ds_if (PW.pt (dw_or (dt_ne (de_repr rfl hsys hgd hr.units (by rfl) m_repr (dpv 11)) (dpv 10) rfl hr) (dw_or (dt_ne (de_repr rfl hsys hgd hr.units (by rfl) m_repr (de_callC C_board_error (hr.mono (by decide)) (by rfl) (da_cons (dpv 8) da_nil))) (dpv 10) rfl hr) (dw_or1 (dt_ne (de_repr rfl hsys hgd hr.units (by rfl) m_repr (dpv 8)) (dpv 9) rfl hr))))) (dss_one (ds_ret de_bl)) dss_nil)))))))))))
      (dss_cons (ds_set (i := 12) sc_law.nd rfl (.inl rfl) (de_tup (da_cons de_int (da_cons (de_tup (da_cons (de_tup (da_cons de_int (da_cons de_int da_nil))) da_nil)) (da_cons (de_tup da_nil) da_nil)))))
      (dss_cons (ds_set (i := 13) sc_law.nd rfl (.inl rfl) (de_add rfl de_int (de_callKC C_law_draw (hr.mono (by decide)) (by rfl) (i := 1) rfl (by first | exact .inl rfl | exact .inr (.inl rfl) | exact .inr (.inr rfl)) (da_cons de_int da_nil))))
      (dss_cons (ds_set (i := 14) sc_law.nd rfl (.inl rfl) (de_callTy call_tuple_of od_tup (by rfl) m_tuple PyProof.Rows.boot_tuple (da_cons (de_lc (own := [("field", 17)]) rfl sc_law.nd (di_range1 (by rfl) m_range (dpv 13)) (blkOk_by (own := [("field", 17)]) (N := n_law) (sc := defScope s_law) (by decide +kernel)) (fun _ _ _ _ _ => (dg_name (i := 17) sc_law.nd rfl (.inl rfl))) (fun _ _ _ _ _ => dts_nil) (fun _ _ _ _ _ => (de_tup (da_cons (dpv 17) (da_cons (de_callKC C_law_draw (hr.mono (by decide)) (by rfl) (i := 1) rfl (by first | exact .inl rfl | exact .inr (.inl rfl) | exact .inr (.inr rfl)) (da_cons de_int da_nil)) da_nil)))) (by decide)) da_nil)))
      (dss_one (ds_ret (de_eq (de_repr rfl hsys hgd hr.units (by rfl) m_repr (de_callC C_board_error (hr.mono (by decide)) (by rfl) (da_cons (de_tup (da_cons (dpv 12) (da_cons (dpv 14) da_nil))) da_nil))) (de_repr rfl hsys hgd hr.units (by rfl) m_repr (de_ifExp (dt_eq (dpv 13) de_int rfl hr) de_non de_str)) rfl hr)))))))
end Dl

set_option Elab.async false
set_option linter.all false
set_option maxRecDepth 100000
set_option maxHeartbeats 4000000
namespace Dl
open PySem PySem.Spec PyProof.Rows L2 Kt
def g_is_integer : RDn := fun ds A => match ds with
  | [d] => A (.bool (wholeD d))
  | _ => False
theorem rd_is_integer : ∀ ds A, g_is_integer ds A → ds.length = 1 ∧ t_is_integer (endD A) (startD n_is_integer ds) := by
  intro ds A h
  match ds, h with
  | [d], h => exact ⟨rfl, by cases d <;> exact h⟩
def g_is_below : RDn := fun ds A => match ds with
  | [d, .int n] => A (.bool (belowD n d))
  | _ => False
theorem rd_is_below : ∀ ds A, g_is_below ds A → ds.length = 2 ∧ t_is_below g_is_integer (endD A) (startD n_is_below ds) := by
  intro ds A h
  match ds, h with
  | [d, .int n], h =>
    refine ⟨rfl, ?_⟩
    simp only [sSeq, sCut, sIf, sNext, sRet, sAsg, sPar, sPar3, sDrop, sBreak, sCont, sOwn, sFor, sForI, sWhile, dNot, dB, dAnd, dOr, dAndV, dOrV, dNotV, dIf, dCall, dCallK, dCallP, dv, dc, dOp, dCmp, dCmpT, dUn, dNeg, dIsi, dLst, dTup, dRev, dSlice, dChain, dChainT, dApp, dSortedO, dNotInO, dLc, dYes, aCons, aNil, aStar, oNo, oIs, tTupD, tsCons, tsNil, tn, iSeq, iEnumD, iRng1D, iRng2D, bI, bIsN, bNotN, dI20, dI2, dLen, dTupF, dListF, dInt1, dII, dRepr, dSorted, isDeck, isOwn, freeSlot, endD, startD, startK, startL, List.map, List.length, List.replicate, List.cons_append, List.nil_append, List.append_nil, List.getElem?_cons_succ, List.getElem?_cons_zero, Nat.reduceAdd, Nat.reduceSub, List.set, Bool.and_true, Bool.true_and, Bool.and_false, Bool.false_and, Bool.not_true, Bool.not_false, Nat.reduceBEq, beq_self_eq_true, reduceIte, reduceCtorEq, isNoneD, wipeD, freeAll, List.all_cons, List.all_nil, Kt.at0, Kt.at1, Kt.at2, true_and, and_true, List.getElem?_cons_succ, t_is_below, n_is_below, g_is_integer, g_is_below] at h ⊢
    cases d <;> simp only [wholeD, belowD] at h ⊢ <;> try exact h
    cases e : decide (0 ≤ ‹Int›) <;> simpa [e] using h
def g_is_tuple_of : RDn := fun ds A => match ds with
  | [d, .int n] => A (.bool (tupN n d))
  | _ => False
theorem rd_is_tuple_of : ∀ ds A, g_is_tuple_of ds A → ds.length = 2 ∧ t_is_tuple_of (endD A) (startD n_is_tuple_of ds) := by
  intro ds A h
  match ds, h with
  | [d, .int n], h =>
    refine ⟨rfl, ?_⟩
    cases d with
    | tuple xs =>
      have h : A (.bool (decide ((xs.length : Int) = n))) := h
      exact bEq_int (A := fun z => A (.bool z)) h
    | _ => exact h
def g_is_road : RDn := fun ds A => match ds with
  | [.int n, d] => A (.bool (roadD n d))
  | _ => False
theorem rd_is_road : ∀ ds A, g_is_road ds A → ds.length = 2 ∧ t_is_road g_is_tuple_of g_is_below (endD A) (startD n_is_road ds) := by
  intro ds A h
  match ds, h with
  | [.int n, d], h =>
    refine ⟨rfl, ?_⟩
    simp only [sSeq, sCut, sIf, sNext, sRet, sAsg, sPar, sPar3, sDrop, sBreak, sCont, sOwn, sFor, sForI, sWhile, dNot, dB, dAnd, dOr, dAndV, dOrV, dNotV, dIf, dCall, dCallK, dCallP, dv, dc, dOp, dCmp, dCmpT, dUn, dNeg, dIsi, dLst, dTup, dRev, dSlice, dChain, dChainT, dApp, dSortedO, dNotInO, dLc, dYes, aCons, aNil, aStar, oNo, oIs, tTupD, tsCons, tsNil, tn, iSeq, iEnumD, iRng1D, iRng2D, bI, bIsN, bNotN, dI20, dI2, dLen, dTupF, dListF, dInt1, dII, dRepr, dSorted, isDeck, isOwn, freeSlot, endD, startD, startK, startL, List.map, List.length, List.replicate, List.cons_append, List.nil_append, List.append_nil, List.getElem?_cons_succ, List.getElem?_cons_zero, Nat.reduceAdd, Nat.reduceSub, List.set, Bool.and_true, Bool.true_and, Bool.and_false, Bool.false_and, Bool.not_true, Bool.not_false, Nat.reduceBEq, beq_self_eq_true, reduceIte, reduceCtorEq, isNoneD, wipeD, freeAll, List.all_cons, List.all_nil, Kt.at0, Kt.at1, Kt.at2, true_and, and_true, List.getElem?_cons_succ, t_is_road, n_is_road, g_is_tuple_of, g_is_below, g_is_road] at h ⊢
    cases e : tupN 2 d with
    | false => rw [road_tup e] at h; exact h
    | true =>
      obtain ⟨a, b, rfl⟩ := tup2 e
      rw [road_pair] at h
      refine ⟨rfl, ?_⟩
      cases e1 : belowD n a with
      | false => rw [e1] at h; simpa [e1] using h
      | true =>
        cases e2 : belowD n b with
        | false => rw [e1, e2] at h; simpa [e1, e2] using h
        | true =>
          rw [e1, e2] at h
          cases a <;> first | (cases e1; done) | skip
          cases b <;> first | (cases e2; done) | skip
          simpa [e1, e2] using h

def g_first_wrong : RDn := fun ds A => match ds with
  | [.tuple xs, .list bs] => ∃ ok : PyData → Bool, bs = xs.map (fun x => .bool (ok x)) ∧ (∀ x y, ok x = true → ok y = true → leD x y = some (leB x y)) ∧ A (optD (firstBad (badAt ok xs) xs.length))
  | _ => False
theorem getD_at {xs : List PyData} {i : Nat} {x : PyData} (h : xs[i]? = some x) : xs.getD i .none = x := by
  rw [List.getD_eq_getElem?_getD, h]; rfl
theorem enum_len {xs : List PyData} : (enumD xs).length = xs.length := enumD_len
theorem rd_first_wrong : ∀ ds A, g_first_wrong ds A → ds.length = 2 ∧ t_first_wrong (endD A) (startD n_first_wrong ds) := by
  intro ds A h
  match ds, h with
  | [.tuple xs, .list bs], h =>
    refine ⟨rfl, ?_⟩
    obtain ⟨ok, rfl, hle, k⟩ := h
    simp only [sSeq, sCut, sIf, sNext, sRet, sAsg, sPar, sPar3, sDrop, sBreak, sCont, sOwn, sFor, sForI, sWhile, dNot, dB, dAnd, dOr, dAndV, dOrV, dNotV, dIf, dCall, dCallK, dCallP, dv, dc, dOp, dCmp, dCmpT, dUn, dNeg, dIsi, dLst, dTup, dRev, dSlice, dChain, dChainT, dApp, dSortedO, dNotInO, dLc, dYes, aCons, aNil, aStar, oNo, oIs, tTupD, tsCons, tsNil, tn, iSeq, iEnumD, iRng1D, iRng2D, bI, bIsN, bNotN, dI20, dI2, dLen, dTupF, dListF, dInt1, dII, dRepr, dSorted, isDeck, isOwn, freeSlot, endD, startD, startK, startL, List.map, List.length, List.replicate, List.cons_append, List.nil_append, List.append_nil, List.getElem?_cons_succ, List.getElem?_cons_zero, Nat.reduceAdd, Nat.reduceSub, List.set, Bool.and_true, Bool.true_and, Bool.and_false, Bool.false_and, Bool.not_true, Bool.not_false, Nat.reduceBEq, beq_self_eq_true, reduceIte, reduceCtorEq, isNoneD, wipeD, freeAll, List.all_cons, List.all_nil, Kt.at0, Kt.at1, Kt.at2, true_and, and_true, List.getElem?_cons_succ, t_first_wrong, n_first_wrong]
    refine ⟨fun i ρ => (∃ o2 o3, ρ = [some (Dv.dat (.tuple xs)), some (Dv.dat (.list (xs.map fun x => .bool (ok x)))), o2, o3] ∧ freeSlot (some o2) = true ∧ freeSlot (some o3) = true) ∧ ∀ j, j < i → badAt ok xs j = false, ⟨⟨none, none, rfl, rfl, rfl⟩, fun j hj => absurd hj (Nat.not_lt_zero _)⟩, ?_, ?_⟩
    · rintro i d ρ hd ⟨⟨o2, o3, rfl, f2, f3⟩, hb⟩
      obtain ⟨x, hx, rfl⟩ := enumD_at hd
      have hi : i < xs.length := (List.getElem?_eq_some_iff.mp hx).1
      have hbs : (xs.map fun x => PyData.bool (ok x))[i]? = some (.bool (ok x)) := by rw [List.getElem?_map, hx]; rfl
      simp only [freeSlot] at f2 f3
      simp only [sSeq, sCut, sIf, sNext, sRet, sAsg, sPar, sPar3, sDrop, sBreak, sCont, sOwn, sFor, sForI, sWhile, dNot, dB, dAnd, dOr, dAndV, dOrV, dNotV, dIf, dCall, dCallK, dCallP, dv, dc, dOp, dCmp, dCmpT, dUn, dNeg, dIsi, dLst, dTup, dRev, dSlice, dChain, dChainT, dApp, dSortedO, dNotInO, dLc, dYes, aCons, aNil, aStar, oNo, oIs, tTupD, tsCons, tsNil, tn, iSeq, iEnumD, iRng1D, iRng2D, bI, bIsN, bNotN, dI20, dI2, dLen, dTupF, dListF, dInt1, dII, dRepr, dSorted, isDeck, isOwn, freeSlot, endD, startD, startK, startL, List.map, List.length, List.replicate, List.cons_append, List.nil_append, List.append_nil, List.getElem?_cons_succ, List.getElem?_cons_zero, Nat.reduceAdd, Nat.reduceSub, List.set, Bool.and_true, Bool.true_and, Bool.and_false, Bool.false_and, Bool.not_true, Bool.not_false, Nat.reduceBEq, beq_self_eq_true, reduceIte, reduceCtorEq, isNoneD, wipeD, freeAll, List.all_cons, List.all_nil, Kt.at0, Kt.at1, Kt.at2, true_and, and_true, List.getElem?_cons_succ, dGet, f2, f3]
      rw [atI_nat hbs]
      simp only [sSeq, sCut, sIf, sNext, sRet, sAsg, sPar, sPar3, sDrop, sBreak, sCont, sOwn, sFor, sForI, sWhile, dNot, dB, dAnd, dOr, dAndV, dOrV, dNotV, dIf, dCall, dCallK, dCallP, dv, dc, dOp, dCmp, dCmpT, dUn, dNeg, dIsi, dLst, dTup, dRev, dSlice, dChain, dChainT, dApp, dSortedO, dNotInO, dLc, dYes, aCons, aNil, aStar, oNo, oIs, tTupD, tsCons, tsNil, tn, iSeq, iEnumD, iRng1D, iRng2D, bI, bIsN, bNotN, dI20, dI2, dLen, dTupF, dListF, dInt1, dII, dRepr, dSorted, isDeck, isOwn, freeSlot, endD, startD, startK, startL, List.map, List.length, List.replicate, List.cons_append, List.nil_append, List.append_nil, List.getElem?_cons_succ, List.getElem?_cons_zero, Nat.reduceAdd, Nat.reduceSub, List.set, Bool.and_true, Bool.true_and, Bool.and_false, Bool.false_and, Bool.not_true, Bool.not_false, Nat.reduceBEq, beq_self_eq_true, reduceIte, reduceCtorEq, isNoneD, wipeD, freeAll, List.all_cons, List.all_nil, Kt.at0, Kt.at1, Kt.at2, true_and, and_true, List.getElem?_cons_succ]
      have hbad : badAt ok xs i = (!ok x || (decide (0 < i) && leB x (xs.getD (i - 1) .none))) := by
        unfold badAt
        rw [getD_at hx]
      have fin : badAt ok xs i = true → A (.int (i : Nat)) := fun e => by
        rw [firstBad_some hi e hb] at k
        exact k
      have nxt : badAt ok xs i = false → ∀ j, j < i + 1 → badAt ok xs j = false := fun e j hj => by
        by_cases z : j = i
        · rw [z]; exact e
        · exact hb j (by omega)
      cases e : ok x with
      | false => exact fin (by rw [hbad, e]; rfl)
      | true =>
        by_cases h0 : 0 < i
        · have hc : decide ((0 : Int) < (i : Nat)) = true := decide_eq_true (by omega)
          simp only [Bool.not_true, hc]
          have hi1 : i - 1 < xs.length := by omega
          obtain ⟨y, hy⟩ : ∃ y, xs[i - 1]? = some y := ⟨_, List.getElem?_eq_getElem hi1⟩
          have ei : ((i : Nat) : Int) - 1 = ((i - 1 : Nat) : Int) := by omega
          rw [ei, atI_nat hy]
          have oky : ok y = true := by
            have := hb (i - 1) (by omega)
            unfold badAt at this
            rw [getD_at hy] at this
            simp only [Bool.or_eq_false_iff, Bool.not_eq_false'] at this
            exact this.1
          show bLe x y _
          unfold bLe
          rw [hle x y e oky]
          rw [getD_at hy] at hbad
          cases e2 : leB x y with
          | true => exact fin (by rw [hbad, e2]; simp [h0])
          | false =>
            refine ⟨⟨_, _, rfl, rfl, rfl⟩, nxt (by rw [hbad, e, e2]; simp)⟩
        · have hc : decide ((0 : Int) < (i : Nat)) = false := decide_eq_false (by omega)
          simp only [Bool.not_true, hc]
          exact ⟨⟨_, _, rfl, rfl, rfl⟩, nxt (by rw [hbad, e]; simp [h0])⟩
    · rintro ρ ⟨_, hb⟩
      rw [enumD_len] at hb
      rw [firstBad_none hb] at k
      exact k
end Dl

set_option Elab.async false
set_option linter.all false
set_option maxRecDepth 100000
set_option maxHeartbeats 4000000
namespace Dl
open PySem PySem.Spec PyProof.Rows L2 Kt
/-- no long tuples -/
def fewD (k : Nat) : PyData → Prop
  | .tuple [_, .tuple rs, .tuple cs] => rs.length ≤ k ∧ cs.length ≤ k
  | _ => True
theorem chartErr_form {d : PyData} (h : tupN 3 d = false) : chartErr d = .str "form" := by
  unfold chartErr
  split
  · exact absurd h (by simp [tupN])
  · rfl
theorem chartErr_form3 {a b c : PyData} (h : (isTupD b && isTupD c) = false) : chartErr (.tuple [a, b, c]) = .str "form" := by
  unfold chartErr
  split
  · rename_i e
    cases e
    exact absurd h (by simp [isTupD])
  · rfl
theorem isTup_form {d : PyData} (h : isTupD d = true) : ∃ xs, d = .tuple xs := by
  cases d with
  | tuple xs => exact ⟨xs, rfl⟩
  | _ => cases h
def g_chart_error : RDn := fun ds A => match ds with
  | [d] => fewD SZ d ∧ A (chartErr d)
  | _ => False
theorem rd_chart_error : ∀ ds A, g_chart_error ds A → ds.length = 1 ∧ t_chart_error g_is_tuple_of g_is_integer g_first_wrong g_is_road g_is_below (endD A) (startD n_chart_error ds) := by
  intro ds A h
  match ds, h with
  | [d], h =>
    refine ⟨rfl, ?_⟩
    obtain ⟨hf, h⟩ := h
    simp only [sSeq, sCut, sIf, sNext, sRet, sAsg, sPar, sPar3, sDrop, sBreak, sCont, sOwn, sFor, sForI, sWhile, dNot, dB, dAnd, dOr, dAndV, dOrV, dNotV, dIf, dCall, dCallK, dCallP, dv, dc, dOp, dCmp, dCmpT, dUn, dNeg, dIsi, dLst, dTup, dRev, dSlice, dChain, dChainT, dApp, dSortedO, dNotInO, dLc, dYes, aCons, aNil, aStar, oNo, oIs, tTupD, tsCons, tsNil, tn, iSeq, iEnumD, iRng1D, iRng2D, bI, bIsN, bNotN, dI20, dI2, dLen, dTupF, dListF, dInt1, dII, dRepr, dSorted, isDeck, isOwn, freeSlot, endD, startD, startK, startL, List.map, List.length, List.replicate, List.cons_append, List.nil_append, List.append_nil, List.getElem?_cons_succ, List.getElem?_cons_zero, Nat.reduceAdd, Nat.reduceSub, List.set, Bool.and_true, Bool.true_and, Bool.and_false, Bool.false_and, Bool.not_true, Bool.not_false, Nat.reduceBEq, beq_self_eq_true, reduceIte, reduceCtorEq, isNoneD, wipeD, freeAll, List.all_cons, List.all_nil, Kt.at0, Kt.at1, Kt.at2, true_and, and_true, List.getElem?_cons_succ, t_chart_error, n_chart_error, dGet, g_is_tuple_of, g_is_integer]
    cases e : tupN 3 d with
    | false => rw [chartErr_form e] at h; exact h
    | true =>
      obtain ⟨a, b, c, rfl⟩ := tup3 e
      simp only [sSeq, sCut, sIf, sNext, sRet, sAsg, sPar, sPar3, sDrop, sBreak, sCont, sOwn, sFor, sForI, sWhile, dNot, dB, dAnd, dOr, dAndV, dOrV, dNotV, dIf, dCall, dCallK, dCallP, dv, dc, dOp, dCmp, dCmpT, dUn, dNeg, dIsi, dLst, dTup, dRev, dSlice, dChain, dChainT, dApp, dSortedO, dNotInO, dLc, dYes, aCons, aNil, aStar, oNo, oIs, tTupD, tsCons, tsNil, tn, iSeq, iEnumD, iRng1D, iRng2D, bI, bIsN, bNotN, dI20, dI2, dLen, dTupF, dListF, dInt1, dII, dRepr, dSorted, isDeck, isOwn, freeSlot, endD, startD, startK, startL, List.map, List.length, List.replicate, List.cons_append, List.nil_append, List.append_nil, List.getElem?_cons_succ, List.getElem?_cons_zero, Nat.reduceAdd, Nat.reduceSub, List.set, Bool.and_true, Bool.true_and, Bool.and_false, Bool.false_and, Bool.not_true, Bool.not_false, Nat.reduceBEq, beq_self_eq_true, reduceIte, reduceCtorEq, isNoneD, wipeD, freeAll, List.all_cons, List.all_nil, Kt.at0, Kt.at1, Kt.at2, true_and, and_true, List.getElem?_cons_succ]
      cases eb : isTupD b with
      | false => rw [chartErr_form3 (by rw [eb]; rfl)] at h; exact h
      | true =>
        cases ec : isTupD c with
        | false => rw [chartErr_form3 (by rw [eb, ec]; rfl)] at h; exact h
        | true =>
          cases b <;> first | (cases eb; done) | skip
          rename_i rs
          cases c <;> first | (cases ec; done) | skip
          rename_i cs
          cases a <;> simp only [sSeq, sCut, sIf, sNext, sRet, sAsg, sPar, sPar3, sDrop, sBreak, sCont, sOwn, sFor, sForI, sWhile, dNot, dB, dAnd, dOr, dAndV, dOrV, dNotV, dIf, dCall, dCallK, dCallP, dv, dc, dOp, dCmp, dCmpT, dUn, dNeg, dIsi, dLst, dTup, dRev, dSlice, dChain, dChainT, dApp, dSortedO, dNotInO, dLc, dYes, aCons, aNil, aStar, oNo, oIs, tTupD, tsCons, tsNil, tn, iSeq, iEnumD, iRng1D, iRng2D, bI, bIsN, bNotN, dI20, dI2, dLen, dTupF, dListF, dInt1, dII, dRepr, dSorted, isDeck, isOwn, freeSlot, endD, startD, startK, startL, List.map, List.length, List.replicate, List.cons_append, List.nil_append, List.append_nil, List.getElem?_cons_succ, List.getElem?_cons_zero, Nat.reduceAdd, Nat.reduceSub, List.set, Bool.and_true, Bool.true_and, Bool.and_false, Bool.false_and, Bool.not_true, Bool.not_false, Nat.reduceBEq, beq_self_eq_true, reduceIte, reduceCtorEq, isNoneD, wipeD, freeAll, List.all_cons, List.all_nil, Kt.at0, Kt.at1, Kt.at2, true_and, and_true, List.getElem?_cons_succ, wholeD] <;> try exact h
          rename_i n
          have h : A (if 1 ≤ n ∧ n ≤ 24 then match firstBad (badAt (roadD n) rs) rs.length with
            | some i => .tuple [.str "road", .int (i : Nat)]
            | none => match firstBad (badAt (belowD n) cs) cs.length with
              | some i => .tuple [.str "centre", .int (i : Nat)]
              | none => .none
            else .str "many") := h
          by_cases h1 : 1 ≤ n
          · simp only [decide_eq_true h1]
            by_cases h2 : n ≤ 24
            · rw [if_pos ⟨h1, h2⟩] at h
              simp only [decide_eq_true h2, Bool.not_true]
              refine lc_map (fun x => .bool (roadD n x)) (fun x _ B hB => by simp only [sSeq, sCut, sIf, sNext, sRet, sAsg, sPar, sPar3, sDrop, sBreak, sCont, sOwn, sFor, sForI, sWhile, dNot, dB, dAnd, dOr, dAndV, dOrV, dNotV, dIf, dCall, dCallK, dCallP, dv, dc, dOp, dCmp, dCmpT, dUn, dNeg, dIsi, dLst, dTup, dRev, dSlice, dChain, dChainT, dApp, dSortedO, dNotInO, dLc, dYes, aCons, aNil, aStar, oNo, oIs, tTupD, tsCons, tsNil, tn, iSeq, iEnumD, iRng1D, iRng2D, bI, bIsN, bNotN, dI20, dI2, dLen, dTupF, dListF, dInt1, dII, dRepr, dSorted, isDeck, isOwn, freeSlot, endD, startD, startK, startL, List.map, List.length, List.replicate, List.cons_append, List.nil_append, List.append_nil, List.getElem?_cons_succ, List.getElem?_cons_zero, Nat.reduceAdd, Nat.reduceSub, List.set, Bool.and_true, Bool.true_and, Bool.and_false, Bool.false_and, Bool.not_true, Bool.not_false, Nat.reduceBEq, beq_self_eq_true, reduceIte, reduceCtorEq, isNoneD, wipeD, freeAll, List.all_cons, List.all_nil, Kt.at0, Kt.at1, Kt.at2, true_and, and_true, List.getElem?_cons_succ, turnD, g_is_road]; exact hB) hf.1 ?_
              refine ⟨roadD n, rfl, fun x y => road_le, ?_⟩
              cases e1 : firstBad (badAt (roadD n) rs) rs.length with
              | some i =>
                rw [e1] at h
                exact ⟨by decide, h⟩
              | none =>
                rw [e1] at h
                simp only [sSeq, sCut, sIf, sNext, sRet, sAsg, sPar, sPar3, sDrop, sBreak, sCont, sOwn, sFor, sForI, sWhile, dNot, dB, dAnd, dOr, dAndV, dOrV, dNotV, dIf, dCall, dCallK, dCallP, dv, dc, dOp, dCmp, dCmpT, dUn, dNeg, dIsi, dLst, dTup, dRev, dSlice, dChain, dChainT, dApp, dSortedO, dNotInO, dLc, dYes, aCons, aNil, aStar, oNo, oIs, tTupD, tsCons, tsNil, tn, iSeq, iEnumD, iRng1D, iRng2D, bI, bIsN, bNotN, dI20, dI2, dLen, dTupF, dListF, dInt1, dII, dRepr, dSorted, isDeck, isOwn, freeSlot, endD, startD, startK, startL, List.map, List.length, List.replicate, List.cons_append, List.nil_append, List.append_nil, List.getElem?_cons_succ, List.getElem?_cons_zero, Nat.reduceAdd, Nat.reduceSub, List.set, Bool.and_true, Bool.true_and, Bool.and_false, Bool.false_and, Bool.not_true, Bool.not_false, Nat.reduceBEq, beq_self_eq_true, reduceIte, reduceCtorEq, isNoneD, wipeD, freeAll, List.all_cons, List.all_nil, Kt.at0, Kt.at1, Kt.at2, true_and, and_true, List.getElem?_cons_succ, optD]
                refine lc_map (fun x => .bool (belowD n x)) (fun x _ B hB => by simp only [sSeq, sCut, sIf, sNext, sRet, sAsg, sPar, sPar3, sDrop, sBreak, sCont, sOwn, sFor, sForI, sWhile, dNot, dB, dAnd, dOr, dAndV, dOrV, dNotV, dIf, dCall, dCallK, dCallP, dv, dc, dOp, dCmp, dCmpT, dUn, dNeg, dIsi, dLst, dTup, dRev, dSlice, dChain, dChainT, dApp, dSortedO, dNotInO, dLc, dYes, aCons, aNil, aStar, oNo, oIs, tTupD, tsCons, tsNil, tn, iSeq, iEnumD, iRng1D, iRng2D, bI, bIsN, bNotN, dI20, dI2, dLen, dTupF, dListF, dInt1, dII, dRepr, dSorted, isDeck, isOwn, freeSlot, endD, startD, startK, startL, List.map, List.length, List.replicate, List.cons_append, List.nil_append, List.append_nil, List.getElem?_cons_succ, List.getElem?_cons_zero, Nat.reduceAdd, Nat.reduceSub, List.set, Bool.and_true, Bool.true_and, Bool.and_false, Bool.false_and, Bool.not_true, Bool.not_false, Nat.reduceBEq, beq_self_eq_true, reduceIte, reduceCtorEq, isNoneD, wipeD, freeAll, List.all_cons, List.all_nil, Kt.at0, Kt.at1, Kt.at2, true_and, and_true, List.getElem?_cons_succ, turnD, g_is_below]; exact hB) hf.2 ?_
                refine ⟨belowD n, rfl, fun x y => below_le, ?_⟩
                cases e2 : firstBad (badAt (belowD n) cs) cs.length with
                | some i =>
                  rw [e2] at h
                  exact ⟨by decide, h⟩
                | none =>
                  rw [e2] at h
                  exact h
            · rw [if_neg (fun z => h2 z.2)] at h
              simp only [decide_eq_false h2, Bool.not_false]
              exact h
          · rw [if_neg (fun z => h1 z.1)] at h
            simp only [decide_eq_false h1]
            exact h
/-! ### the law's own look -/
def wholeIn (lo hi : Int) : PyData → Bool
  | .int i => decide (lo ≤ i) && decide (i ≤ hi)
  | _ => false
def g_law_is_whole : RDn := fun ds A => match ds with
  | [d, .int lo, .int hi] => A (.bool (wholeIn lo hi d))
  | _ => False
theorem rd_law_is_whole : ∀ ds A, g_law_is_whole ds A → ds.length = 3 ∧ t_law_is_whole (endD A) (startD n_law_is_whole ds) := by
  intro ds A h
  match ds, h with
  | [d, .int lo, .int hi], h =>
    refine ⟨rfl, ?_⟩
    simp only [sSeq, sCut, sIf, sNext, sRet, sAsg, sPar, sPar3, sDrop, sBreak, sCont, sOwn, sFor, sForI, sWhile, dNot, dB, dAnd, dOr, dAndV, dOrV, dNotV, dIf, dCall, dCallK, dCallP, dv, dc, dOp, dCmp, dCmpT, dUn, dNeg, dIsi, dLst, dTup, dRev, dSlice, dChain, dChainT, dApp, dSortedO, dNotInO, dLc, dYes, aCons, aNil, aStar, oNo, oIs, tTupD, tsCons, tsNil, tn, iSeq, iEnumD, iRng1D, iRng2D, bI, bIsN, bNotN, dI20, dI2, dLen, dTupF, dListF, dInt1, dII, dRepr, dSorted, isDeck, isOwn, freeSlot, endD, startD, startK, startL, List.map, List.length, List.replicate, List.cons_append, List.nil_append, List.append_nil, List.getElem?_cons_succ, List.getElem?_cons_zero, Nat.reduceAdd, Nat.reduceSub, List.set, Bool.and_true, Bool.true_and, Bool.and_false, Bool.false_and, Bool.not_true, Bool.not_false, Nat.reduceBEq, beq_self_eq_true, reduceIte, reduceCtorEq, isNoneD, wipeD, freeAll, List.all_cons, List.all_nil, Kt.at0, Kt.at1, Kt.at2, true_and, and_true, List.getElem?_cons_succ, t_law_is_whole, n_law_is_whole]
    cases d <;> simp only [sSeq, sCut, sIf, sNext, sRet, sAsg, sPar, sPar3, sDrop, sBreak, sCont, sOwn, sFor, sForI, sWhile, dNot, dB, dAnd, dOr, dAndV, dOrV, dNotV, dIf, dCall, dCallK, dCallP, dv, dc, dOp, dCmp, dCmpT, dUn, dNeg, dIsi, dLst, dTup, dRev, dSlice, dChain, dChainT, dApp, dSortedO, dNotInO, dLc, dYes, aCons, aNil, aStar, oNo, oIs, tTupD, tsCons, tsNil, tn, iSeq, iEnumD, iRng1D, iRng2D, bI, bIsN, bNotN, dI20, dI2, dLen, dTupF, dListF, dInt1, dII, dRepr, dSorted, isDeck, isOwn, freeSlot, endD, startD, startK, startL, List.map, List.length, List.replicate, List.cons_append, List.nil_append, List.append_nil, List.getElem?_cons_succ, List.getElem?_cons_zero, Nat.reduceAdd, Nat.reduceSub, List.set, Bool.and_true, Bool.true_and, Bool.and_false, Bool.false_and, Bool.not_true, Bool.not_false, Nat.reduceBEq, beq_self_eq_true, reduceIte, reduceCtorEq, isNoneD, wipeD, freeAll, List.all_cons, List.all_nil, Kt.at0, Kt.at1, Kt.at2, true_and, and_true, List.getElem?_cons_succ, isIntD, isBoolD] <;> try exact h
    rename_i i
    have h : A (.bool (decide (lo ≤ i) && decide (i ≤ hi))) := h
    cases e : decide (lo ≤ i) <;> simpa [e] using h
theorem whole_below {n : Int} {d : PyData} : wholeIn 0 (n - 1) d = belowD n d := by
  cases d <;> simp only [wholeIn, belowD]
  rw [Bool.eq_iff_iff]
  simp only [Bool.and_eq_true, decide_eq_true_eq]
  omega
theorem road_whole {n : Int} {a b : PyData} (h : wholeIn 0 (n - 1) a = true) : ∃ i, a = .int i ∧ roadD n (.tuple [a, b]) = wholeIn (i + 1) (n - 1) b := by
  cases a <;> simp only [wholeIn] at h <;> try cases h
  rename_i i
  refine ⟨i, rfl, ?_⟩
  simp only [Bool.and_eq_true, decide_eq_true_eq] at h
  cases b <;> simp only [roadD, wholeIn]
  rw [Bool.eq_iff_iff]
  simp only [Bool.and_eq_true, decide_eq_true_eq]
  omega
theorem road_whole0 {n : Int} {a b : PyData} (h : wholeIn 0 (n - 1) a = false) : roadD n (.tuple [a, b]) = false := by
  rw [road_pair, ← whole_below, h]
  rfl
def g_law_chart_slip : RDn := fun ds A => match ds with
  | [d] => A (chartErr d)
  | _ => False
theorem rd_law_chart_slip : ∀ ds A, g_law_chart_slip ds A → ds.length = 1 ∧ t_law_chart_slip g_law_is_whole (endD A) (startD n_law_chart_slip ds) := by
  intro ds A h
  match ds, h with
  | [d], h =>
    refine ⟨rfl, ?_⟩
    have h : A (chartErr d) := h
    simp only [sSeq, sCut, sIf, sNext, sRet, sAsg, sPar, sPar3, sDrop, sBreak, sCont, sOwn, sFor, sForI, sWhile, dNot, dB, dAnd, dOr, dAndV, dOrV, dNotV, dIf, dCall, dCallK, dCallP, dv, dc, dOp, dCmp, dCmpT, dUn, dNeg, dIsi, dLst, dTup, dRev, dSlice, dChain, dChainT, dApp, dSortedO, dNotInO, dLc, dYes, aCons, aNil, aStar, oNo, oIs, tTupD, tsCons, tsNil, tn, iSeq, iEnumD, iRng1D, iRng2D, bI, bIsN, bNotN, dI20, dI2, dLen, dTupF, dListF, dInt1, dII, dRepr, dSorted, isDeck, isOwn, freeSlot, endD, startD, startK, startL, List.map, List.length, List.replicate, List.cons_append, List.nil_append, List.append_nil, List.getElem?_cons_succ, List.getElem?_cons_zero, Nat.reduceAdd, Nat.reduceSub, List.set, Bool.and_true, Bool.true_and, Bool.and_false, Bool.false_and, Bool.not_true, Bool.not_false, Nat.reduceBEq, beq_self_eq_true, reduceIte, reduceCtorEq, isNoneD, wipeD, freeAll, List.all_cons, List.all_nil, Kt.at0, Kt.at1, Kt.at2, true_and, and_true, List.getElem?_cons_succ, t_law_chart_slip, n_law_chart_slip, dGet, g_law_is_whole]
    cases et : isTupD d with
    | false =>
      have : tupN 3 d = false := by cases d <;> first | rfl | (cases et; done)
      rw [chartErr_form this] at h
      exact h
    | true =>
      obtain ⟨us, rfl⟩ := isTup_form et
      simp only [sSeq, sCut, sIf, sNext, sRet, sAsg, sPar, sPar3, sDrop, sBreak, sCont, sOwn, sFor, sForI, sWhile, dNot, dB, dAnd, dOr, dAndV, dOrV, dNotV, dIf, dCall, dCallK, dCallP, dv, dc, dOp, dCmp, dCmpT, dUn, dNeg, dIsi, dLst, dTup, dRev, dSlice, dChain, dChainT, dApp, dSortedO, dNotInO, dLc, dYes, aCons, aNil, aStar, oNo, oIs, tTupD, tsCons, tsNil, tn, iSeq, iEnumD, iRng1D, iRng2D, bI, bIsN, bNotN, dI20, dI2, dLen, dTupF, dListF, dInt1, dII, dRepr, dSorted, isDeck, isOwn, freeSlot, endD, startD, startK, startL, List.map, List.length, List.replicate, List.cons_append, List.nil_append, List.append_nil, List.getElem?_cons_succ, List.getElem?_cons_zero, Nat.reduceAdd, Nat.reduceSub, List.set, Bool.and_true, Bool.true_and, Bool.and_false, Bool.false_and, Bool.not_true, Bool.not_false, Nat.reduceBEq, beq_self_eq_true, reduceIte, reduceCtorEq, isNoneD, wipeD, freeAll, List.all_cons, List.all_nil, Kt.at0, Kt.at1, Kt.at2, true_and, and_true, List.getElem?_cons_succ]
      refine bNe_int ?_
      cases el : decide (((us.length : Nat) : Int) = 3) with
      | false =>
        rw [chartErr_form (show tupN 3 (.tuple us) = false from el)] at h
        exact h
      | true =>
        obtain ⟨a, b, c, e⟩ := tup3 (show tupN 3 (.tuple us) = true from el)
        cases e
        simp only [sSeq, sCut, sIf, sNext, sRet, sAsg, sPar, sPar3, sDrop, sBreak, sCont, sOwn, sFor, sForI, sWhile, dNot, dB, dAnd, dOr, dAndV, dOrV, dNotV, dIf, dCall, dCallK, dCallP, dv, dc, dOp, dCmp, dCmpT, dUn, dNeg, dIsi, dLst, dTup, dRev, dSlice, dChain, dChainT, dApp, dSortedO, dNotInO, dLc, dYes, aCons, aNil, aStar, oNo, oIs, tTupD, tsCons, tsNil, tn, iSeq, iEnumD, iRng1D, iRng2D, bI, bIsN, bNotN, dI20, dI2, dLen, dTupF, dListF, dInt1, dII, dRepr, dSorted, isDeck, isOwn, freeSlot, endD, startD, startK, startL, List.map, List.length, List.replicate, List.cons_append, List.nil_append, List.append_nil, List.getElem?_cons_succ, List.getElem?_cons_zero, Nat.reduceAdd, Nat.reduceSub, List.set, Bool.and_true, Bool.true_and, Bool.and_false, Bool.false_and, Bool.not_true, Bool.not_false, Nat.reduceBEq, beq_self_eq_true, reduceIte, reduceCtorEq, isNoneD, wipeD, freeAll, List.all_cons, List.all_nil, Kt.at0, Kt.at1, Kt.at2, true_and, and_true, List.getElem?_cons_succ]
        cases eb : isTupD b with
        | false => rw [chartErr_form3 (by rw [eb]; rfl)] at h; exact h
        | true =>
          cases ec : isTupD c with
          | false => rw [chartErr_form3 (by rw [eb, ec]; rfl)] at h; exact h
          | true =>
            obtain ⟨rs, rfl⟩ := isTup_form eb
            obtain ⟨cs, rfl⟩ := isTup_form ec
            simp only [sSeq, sCut, sIf, sNext, sRet, sAsg, sPar, sPar3, sDrop, sBreak, sCont, sOwn, sFor, sForI, sWhile, dNot, dB, dAnd, dOr, dAndV, dOrV, dNotV, dIf, dCall, dCallK, dCallP, dv, dc, dOp, dCmp, dCmpT, dUn, dNeg, dIsi, dLst, dTup, dRev, dSlice, dChain, dChainT, dApp, dSortedO, dNotInO, dLc, dYes, aCons, aNil, aStar, oNo, oIs, tTupD, tsCons, tsNil, tn, iSeq, iEnumD, iRng1D, iRng2D, bI, bIsN, bNotN, dI20, dI2, dLen, dTupF, dListF, dInt1, dII, dRepr, dSorted, isDeck, isOwn, freeSlot, endD, startD, startK, startL, List.map, List.length, List.replicate, List.cons_append, List.nil_append, List.append_nil, List.getElem?_cons_succ, List.getElem?_cons_zero, Nat.reduceAdd, Nat.reduceSub, List.set, Bool.and_true, Bool.true_and, Bool.and_false, Bool.false_and, Bool.not_true, Bool.not_false, Nat.reduceBEq, beq_self_eq_true, reduceIte, reduceCtorEq, isNoneD, wipeD, freeAll, List.all_cons, List.all_nil, Kt.at0, Kt.at1, Kt.at2, true_and, and_true, List.getElem?_cons_succ]
            cases a with
            | int n =>
              have h : A (if 1 ≤ n ∧ n ≤ 24 then match firstBad (badAt (roadD n) rs) rs.length with
                | some i => .tuple [.str "road", .int (i : Nat)]
                | none => match firstBad (badAt (belowD n) cs) cs.length with
                  | some i => .tuple [.str "centre", .int (i : Nat)]
                  | none => .none
                else .str "many") := h
              have ew : wholeIn 1 24 (.int n) = decide (1 ≤ n ∧ n ≤ 24) := by
                show (decide (1 ≤ n) && decide (n ≤ 24)) = _
                by_cases h1 : 1 ≤ n <;> by_cases h2 : n ≤ 24 <;> simp [h1, h2]
              rw [ew]
              by_cases hn : 1 ≤ n ∧ n ≤ 24
              · rw [if_pos hn] at h
                simp only [decide_eq_true hn, Bool.not_true]
                -- roads
                refine ⟨fun i ρ => (∃ o4 o5 o6, ρ = [some (Dv.dat (.tuple [.int n, .tuple rs, .tuple cs])), some (Dv.dat (.int n)), some (Dv.dat (.tuple rs)), some (Dv.dat (.tuple cs)), o4, o5, o6] ∧ freeSlot (some o4) = true ∧ freeSlot (some o5) = true ∧ freeSlot (some o6) = true) ∧ ∀ j, j < i → badAt (roadD n) rs j = false,
                  ⟨⟨none, none, none, rfl, rfl, rfl, rfl⟩, fun j hj => absurd hj (Nat.not_lt_zero _)⟩, ?_, ?_⟩
                · rintro i d ρ hd ⟨⟨o4, o5, o6, rfl, f4, f5, f6⟩, hb⟩
                  obtain ⟨x, hx, rfl⟩ := enumD_at hd
                  have hi : i < rs.length := (List.getElem?_eq_some_iff.mp hx).1
                  simp only [freeSlot] at f4 f5
                  simp only [sSeq, sCut, sIf, sNext, sRet, sAsg, sPar, sPar3, sDrop, sBreak, sCont, sOwn, sFor, sForI, sWhile, dNot, dB, dAnd, dOr, dAndV, dOrV, dNotV, dIf, dCall, dCallK, dCallP, dv, dc, dOp, dCmp, dCmpT, dUn, dNeg, dIsi, dLst, dTup, dRev, dSlice, dChain, dChainT, dApp, dSortedO, dNotInO, dLc, dYes, aCons, aNil, aStar, oNo, oIs, tTupD, tsCons, tsNil, tn, iSeq, iEnumD, iRng1D, iRng2D, bI, bIsN, bNotN, dI20, dI2, dLen, dTupF, dListF, dInt1, dII, dRepr, dSorted, isDeck, isOwn, freeSlot, endD, startD, startK, startL, List.map, List.length, List.replicate, List.cons_append, List.nil_append, List.append_nil, List.getElem?_cons_succ, List.getElem?_cons_zero, Nat.reduceAdd, Nat.reduceSub, List.set, Bool.and_true, Bool.true_and, Bool.and_false, Bool.false_and, Bool.not_true, Bool.not_false, Nat.reduceBEq, beq_self_eq_true, reduceIte, reduceCtorEq, isNoneD, wipeD, freeAll, List.all_cons, List.all_nil, Kt.at0, Kt.at1, Kt.at2, true_and, and_true, List.getElem?_cons_succ, f4, f5]
                  have hbad : badAt (roadD n) rs i = (!roadD n x || (decide (0 < i) && leB x (rs.getD (i - 1) .none))) := by
                    unfold badAt
                    rw [getD_at hx]
                  have fin : badAt (roadD n) rs i = true → 2 ≤ SZ ∧ A (.tuple [.str "road", .int (i : Nat)]) := fun e => by
                    rw [firstBad_some hi e hb] at h
                    exact ⟨by decide, h⟩
                  have nxt : badAt (roadD n) rs i = false → ∀ j, j < i + 1 → badAt (roadD n) rs j = false := fun e j hj => by
                    by_cases z : j = i
                    · rw [z]; exact e
                    · exact hb j (by omega)
                  cases ex : isTupD x with
                  | false => exact fin (by rw [hbad, road_tup (by cases x <;> first | rfl | (cases ex; done))]; rfl)
                  | true =>
                    obtain ⟨us, rfl⟩ := isTup_form ex
                    simp only [sSeq, sCut, sIf, sNext, sRet, sAsg, sPar, sPar3, sDrop, sBreak, sCont, sOwn, sFor, sForI, sWhile, dNot, dB, dAnd, dOr, dAndV, dOrV, dNotV, dIf, dCall, dCallK, dCallP, dv, dc, dOp, dCmp, dCmpT, dUn, dNeg, dIsi, dLst, dTup, dRev, dSlice, dChain, dChainT, dApp, dSortedO, dNotInO, dLc, dYes, aCons, aNil, aStar, oNo, oIs, tTupD, tsCons, tsNil, tn, iSeq, iEnumD, iRng1D, iRng2D, bI, bIsN, bNotN, dI20, dI2, dLen, dTupF, dListF, dInt1, dII, dRepr, dSorted, isDeck, isOwn, freeSlot, endD, startD, startK, startL, List.map, List.length, List.replicate, List.cons_append, List.nil_append, List.append_nil, List.getElem?_cons_succ, List.getElem?_cons_zero, Nat.reduceAdd, Nat.reduceSub, List.set, Bool.and_true, Bool.true_and, Bool.and_false, Bool.false_and, Bool.not_true, Bool.not_false, Nat.reduceBEq, beq_self_eq_true, reduceIte, reduceCtorEq, isNoneD, wipeD, freeAll, List.all_cons, List.all_nil, Kt.at0, Kt.at1, Kt.at2, true_and, and_true, List.getElem?_cons_succ]
                    refine bNe_int ?_
                    cases el2 : decide (((us.length : Nat) : Int) = 2) with
                    | false => exact fin (by rw [hbad, road_tup (show tupN 2 (.tuple us) = false from el2)]; rfl)
                    | true =>
                      obtain ⟨u, v, e⟩ := tup2 (show tupN 2 (.tuple us) = true from el2)
                      cases e
                      simp only [sSeq, sCut, sIf, sNext, sRet, sAsg, sPar, sPar3, sDrop, sBreak, sCont, sOwn, sFor, sForI, sWhile, dNot, dB, dAnd, dOr, dAndV, dOrV, dNotV, dIf, dCall, dCallK, dCallP, dv, dc, dOp, dCmp, dCmpT, dUn, dNeg, dIsi, dLst, dTup, dRev, dSlice, dChain, dChainT, dApp, dSortedO, dNotInO, dLc, dYes, aCons, aNil, aStar, oNo, oIs, tTupD, tsCons, tsNil, tn, iSeq, iEnumD, iRng1D, iRng2D, bI, bIsN, bNotN, dI20, dI2, dLen, dTupF, dListF, dInt1, dII, dRepr, dSorted, isDeck, isOwn, freeSlot, endD, startD, startK, startL, List.map, List.length, List.replicate, List.cons_append, List.nil_append, List.append_nil, List.getElem?_cons_succ, List.getElem?_cons_zero, Nat.reduceAdd, Nat.reduceSub, List.set, Bool.and_true, Bool.true_and, Bool.and_false, Bool.false_and, Bool.not_true, Bool.not_false, Nat.reduceBEq, beq_self_eq_true, reduceIte, reduceCtorEq, isNoneD, wipeD, freeAll, List.all_cons, List.all_nil, Kt.at0, Kt.at1, Kt.at2, true_and, and_true, List.getElem?_cons_succ]
                      cases eu : wholeIn 0 (n - 1) u with
                      | false => exact fin (by rw [hbad, road_whole0 eu]; rfl)
                      | true =>
                        obtain ⟨k, rfl, er⟩ := road_whole (b := v) eu
                        simp only [sSeq, sCut, sIf, sNext, sRet, sAsg, sPar, sPar3, sDrop, sBreak, sCont, sOwn, sFor, sForI, sWhile, dNot, dB, dAnd, dOr, dAndV, dOrV, dNotV, dIf, dCall, dCallK, dCallP, dv, dc, dOp, dCmp, dCmpT, dUn, dNeg, dIsi, dLst, dTup, dRev, dSlice, dChain, dChainT, dApp, dSortedO, dNotInO, dLc, dYes, aCons, aNil, aStar, oNo, oIs, tTupD, tsCons, tsNil, tn, iSeq, iEnumD, iRng1D, iRng2D, bI, bIsN, bNotN, dI20, dI2, dLen, dTupF, dListF, dInt1, dII, dRepr, dSorted, isDeck, isOwn, freeSlot, endD, startD, startK, startL, List.map, List.length, List.replicate, List.cons_append, List.nil_append, List.append_nil, List.getElem?_cons_succ, List.getElem?_cons_zero, Nat.reduceAdd, Nat.reduceSub, List.set, Bool.and_true, Bool.true_and, Bool.and_false, Bool.false_and, Bool.not_true, Bool.not_false, Nat.reduceBEq, beq_self_eq_true, reduceIte, reduceCtorEq, isNoneD, wipeD, freeAll, List.all_cons, List.all_nil, Kt.at0, Kt.at1, Kt.at2, true_and, and_true, List.getElem?_cons_succ, dAdd]
                        rw [er] at hbad
                        cases ev : wholeIn (k + 1) (n - 1) v with
                        | false => exact fin (by rw [hbad, ev]; rfl)
                        | true =>
                          simp only [sSeq, sCut, sIf, sNext, sRet, sAsg, sPar, sPar3, sDrop, sBreak, sCont, sOwn, sFor, sForI, sWhile, dNot, dB, dAnd, dOr, dAndV, dOrV, dNotV, dIf, dCall, dCallK, dCallP, dv, dc, dOp, dCmp, dCmpT, dUn, dNeg, dIsi, dLst, dTup, dRev, dSlice, dChain, dChainT, dApp, dSortedO, dNotInO, dLc, dYes, aCons, aNil, aStar, oNo, oIs, tTupD, tsCons, tsNil, tn, iSeq, iEnumD, iRng1D, iRng2D, bI, bIsN, bNotN, dI20, dI2, dLen, dTupF, dListF, dInt1, dII, dRepr, dSorted, isDeck, isOwn, freeSlot, endD, startD, startK, startL, List.map, List.length, List.replicate, List.cons_append, List.nil_append, List.append_nil, List.getElem?_cons_succ, List.getElem?_cons_zero, Nat.reduceAdd, Nat.reduceSub, List.set, Bool.and_true, Bool.true_and, Bool.and_false, Bool.false_and, Bool.not_true, Bool.not_false, Nat.reduceBEq, beq_self_eq_true, reduceIte, reduceCtorEq, isNoneD, wipeD, freeAll, List.all_cons, List.all_nil, Kt.at0, Kt.at1, Kt.at2, true_and, and_true, List.getElem?_cons_succ]
                          by_cases h0 : 0 < i
                          · have hc : decide ((0 : Int) < (i : Nat)) = true := decide_eq_true (by omega)
                            simp only [hc]
                            have hi1 : i - 1 < rs.length := by omega
                            obtain ⟨y, hy⟩ : ∃ y, rs[i - 1]? = some y := ⟨_, List.getElem?_eq_getElem hi1⟩
                            have ei : ((i : Nat) : Int) - 1 = ((i - 1 : Nat) : Int) := by omega
                            rw [ei, atI_nat hy]
                            have oky : roadD n y = true := by
                              have := hb (i - 1) (by omega)
                              unfold badAt at this
                              rw [getD_at hy] at this
                              simp only [Bool.or_eq_false_iff, Bool.not_eq_false'] at this
                              exact this.1
                            show bLe _ y _
                            unfold bLe
                            rw [road_le (er.trans ev) oky]
                            rw [getD_at hy] at hbad
                            cases e2 : leB (.tuple [.int k, v]) y with
                            | true => exact fin (by rw [hbad, ev, e2]; simp [h0])
                            | false => exact ⟨⟨_, _, _, rfl, rfl, rfl, f6⟩, nxt (by rw [hbad, ev, e2]; simp)⟩
                          · have hc : decide ((0 : Int) < (i : Nat)) = false := decide_eq_false (by omega)
                            simp only [hc]
                            exact ⟨⟨_, _, _, rfl, rfl, rfl, f6⟩, nxt (by rw [hbad, ev]; simp [h0])⟩
                · rintro ρ ⟨⟨o4, o5, o6, rfl, f4, f5, f6⟩, hb⟩
                  rw [enumD_len] at hb
                  rw [firstBad_none hb] at h
                  simp only [sSeq, sCut, sIf, sNext, sRet, sAsg, sPar, sPar3, sDrop, sBreak, sCont, sOwn, sFor, sForI, sWhile, dNot, dB, dAnd, dOr, dAndV, dOrV, dNotV, dIf, dCall, dCallK, dCallP, dv, dc, dOp, dCmp, dCmpT, dUn, dNeg, dIsi, dLst, dTup, dRev, dSlice, dChain, dChainT, dApp, dSortedO, dNotInO, dLc, dYes, aCons, aNil, aStar, oNo, oIs, tTupD, tsCons, tsNil, tn, iSeq, iEnumD, iRng1D, iRng2D, bI, bIsN, bNotN, dI20, dI2, dLen, dTupF, dListF, dInt1, dII, dRepr, dSorted, isDeck, isOwn, freeSlot, endD, startD, startK, startL, List.map, List.length, List.replicate, List.cons_append, List.nil_append, List.append_nil, List.getElem?_cons_succ, List.getElem?_cons_zero, Nat.reduceAdd, Nat.reduceSub, List.set, Bool.and_true, Bool.true_and, Bool.and_false, Bool.false_and, Bool.not_true, Bool.not_false, Nat.reduceBEq, beq_self_eq_true, reduceIte, reduceCtorEq, isNoneD, wipeD, freeAll, List.all_cons, List.all_nil, Kt.at0, Kt.at1, Kt.at2, true_and, and_true, List.getElem?_cons_succ]
                  -- centres
                  refine ⟨fun i ρ => (∃ o4 o5 o6, ρ = [some (Dv.dat (.tuple [.int n, .tuple rs, .tuple cs])), some (Dv.dat (.int n)), some (Dv.dat (.tuple rs)), some (Dv.dat (.tuple cs)), o4, o5, o6] ∧ freeSlot (some o4) = true ∧ freeSlot (some o6) = true) ∧ ∀ j, j < i → badAt (belowD n) cs j = false,
                    ⟨⟨_, _, _, rfl, f4, f6⟩, fun j hj => absurd hj (Nat.not_lt_zero _)⟩, ?_, ?_⟩
                  · rintro i d ρ hd ⟨⟨o4, o5, o6, rfl, f4, f6⟩, hb⟩
                    obtain ⟨x, hx, rfl⟩ := enumD_at hd
                    have hi : i < cs.length := (List.getElem?_eq_some_iff.mp hx).1
                    simp only [freeSlot] at f4 f6
                    simp only [sSeq, sCut, sIf, sNext, sRet, sAsg, sPar, sPar3, sDrop, sBreak, sCont, sOwn, sFor, sForI, sWhile, dNot, dB, dAnd, dOr, dAndV, dOrV, dNotV, dIf, dCall, dCallK, dCallP, dv, dc, dOp, dCmp, dCmpT, dUn, dNeg, dIsi, dLst, dTup, dRev, dSlice, dChain, dChainT, dApp, dSortedO, dNotInO, dLc, dYes, aCons, aNil, aStar, oNo, oIs, tTupD, tsCons, tsNil, tn, iSeq, iEnumD, iRng1D, iRng2D, bI, bIsN, bNotN, dI20, dI2, dLen, dTupF, dListF, dInt1, dII, dRepr, dSorted, isDeck, isOwn, freeSlot, endD, startD, startK, startL, List.map, List.length, List.replicate, List.cons_append, List.nil_append, List.append_nil, List.getElem?_cons_succ, List.getElem?_cons_zero, Nat.reduceAdd, Nat.reduceSub, List.set, Bool.and_true, Bool.true_and, Bool.and_false, Bool.false_and, Bool.not_true, Bool.not_false, Nat.reduceBEq, beq_self_eq_true, reduceIte, reduceCtorEq, isNoneD, wipeD, freeAll, List.all_cons, List.all_nil, Kt.at0, Kt.at1, Kt.at2, true_and, and_true, List.getElem?_cons_succ, f4, f6]
                    rw [whole_below]
                    have hbad : badAt (belowD n) cs i = (!belowD n x || (decide (0 < i) && leB x (cs.getD (i - 1) .none))) := by
                      unfold badAt
                      rw [getD_at hx]
                    have fin : badAt (belowD n) cs i = true → 2 ≤ SZ ∧ A (.tuple [.str "centre", .int (i : Nat)]) := fun e => by
                      rw [firstBad_some hi e hb] at h
                      exact ⟨by decide, h⟩
                    have nxt : badAt (belowD n) cs i = false → ∀ j, j < i + 1 → badAt (belowD n) cs j = false := fun e j hj => by
                      by_cases z : j = i
                      · rw [z]; exact e
                      · exact hb j (by omega)
                    cases ev : belowD n x with
                    | false => exact fin (by rw [hbad, ev]; rfl)
                    | true =>
                      simp only [sSeq, sCut, sIf, sNext, sRet, sAsg, sPar, sPar3, sDrop, sBreak, sCont, sOwn, sFor, sForI, sWhile, dNot, dB, dAnd, dOr, dAndV, dOrV, dNotV, dIf, dCall, dCallK, dCallP, dv, dc, dOp, dCmp, dCmpT, dUn, dNeg, dIsi, dLst, dTup, dRev, dSlice, dChain, dChainT, dApp, dSortedO, dNotInO, dLc, dYes, aCons, aNil, aStar, oNo, oIs, tTupD, tsCons, tsNil, tn, iSeq, iEnumD, iRng1D, iRng2D, bI, bIsN, bNotN, dI20, dI2, dLen, dTupF, dListF, dInt1, dII, dRepr, dSorted, isDeck, isOwn, freeSlot, endD, startD, startK, startL, List.map, List.length, List.replicate, List.cons_append, List.nil_append, List.append_nil, List.getElem?_cons_succ, List.getElem?_cons_zero, Nat.reduceAdd, Nat.reduceSub, List.set, Bool.and_true, Bool.true_and, Bool.and_false, Bool.false_and, Bool.not_true, Bool.not_false, Nat.reduceBEq, beq_self_eq_true, reduceIte, reduceCtorEq, isNoneD, wipeD, freeAll, List.all_cons, List.all_nil, Kt.at0, Kt.at1, Kt.at2, true_and, and_true, List.getElem?_cons_succ]
                      by_cases h0 : 0 < i
                      · have hc : decide ((0 : Int) < (i : Nat)) = true := decide_eq_true (by omega)
                        simp only [hc]
                        have hi1 : i - 1 < cs.length := by omega
                        obtain ⟨y, hy⟩ : ∃ y, cs[i - 1]? = some y := ⟨_, List.getElem?_eq_getElem hi1⟩
                        have ei : ((i : Nat) : Int) - 1 = ((i - 1 : Nat) : Int) := by omega
                        rw [ei, atI_nat hy]
                        have oky : belowD n y = true := by
                          have := hb (i - 1) (by omega)
                          unfold badAt at this
                          rw [getD_at hy] at this
                          simp only [Bool.or_eq_false_iff, Bool.not_eq_false'] at this
                          exact this.1
                        show bLe _ y _
                        unfold bLe
                        rw [below_le ev oky]
                        rw [getD_at hy] at hbad
                        cases e2 : leB x y with
                        | true => exact fin (by rw [hbad, ev, e2]; simp [h0])
                        | false => exact ⟨⟨_, _, _, rfl, rfl, rfl⟩, nxt (by rw [hbad, ev, e2]; simp)⟩
                      · have hc : decide ((0 : Int) < (i : Nat)) = false := decide_eq_false (by omega)
                        simp only [hc]
                        exact ⟨⟨_, _, _, rfl, rfl, rfl⟩, nxt (by rw [hbad, ev]; simp [h0])⟩
                  · rintro ρ ⟨_, hb⟩
                    rw [enumD_len] at hb
                    rw [firstBad_none hb] at h
                    exact h
              · rw [if_neg hn] at h
                simp only [decide_eq_false hn, Bool.not_false]
                exact h
            | _ => exact h
end Dl

set_option Elab.async false
set_option linter.all false
set_option maxRecDepth 100000
set_option maxHeartbeats 4000000
namespace Dl
open PySem PySem.Spec PyProof.Rows L2 Kt
theorem lc_emb {β : Type} {tn : PyData → (Option PyData → Prop) → Prop} (emb : β → PyData) (g : β → Option PyData) {A : List PyData → Prop} : ∀ {rs : List β} {acc : List PyData}, (∀ r ∈ rs, ∀ B : Option PyData → Prop, B (g r) → tn (emb r) B) → acc.length + rs.length ≤ SZ → A (acc ++ rs.filterMap g) → lcGo tn (rs.map emb) acc A
  | [], acc, _, _, k => by simpa [lcGo] using k
  | d :: ds, acc, hd, hl, k => by
    refine hd d List.mem_cons_self _ ?_
    rw [List.filterMap_cons] at k
    cases e : g d with
    | none =>
      rw [e] at k
      exact lc_emb emb g (fun x hx => hd x (List.mem_cons_of_mem _ hx)) (by simp at hl; omega) k
    | some y =>
      rw [e] at k
      refine ⟨by simp at hl; omega, lc_emb emb g (fun x hx => hd x (List.mem_cons_of_mem _ hx)) (by simp at hl ⊢; omega) (by simpa using k)⟩
def g_law_pick : RDn := fun ds A => match ds with
  | [.list xs] => (0 < xs.length ∧ xs.length < 1073741824) ∧ ∀ d ∈ xs, A d
  | _ => False
theorem rd_law_pick : ∀ ds A, g_law_pick ds A → ds.length + 1 = 2 ∧ t_law_pick g_law_draw (endD A) (startK n_law_pick ds) := by
  intro ds A h
  match ds, h with
  | [.list xs], h =>
    refine ⟨rfl, ?_⟩
    obtain ⟨⟨h0, h1⟩, k⟩ := h
    simp only [sSeq, sCut, sIf, sNext, sRet, sAsg, sPar, sPar3, sDrop, sBreak, sCont, sOwn, sFor, sForI, sWhile, dNot, dB, dAnd, dOr, dAndV, dOrV, dNotV, dIf, dCall, dCallK, dCallP, dv, dc, dOp, dCmp, dCmpT, dUn, dNeg, dIsi, dLst, dTup, dRev, dSlice, dChain, dChainT, dApp, dSortedO, dNotInO, dLc, dYes, aCons, aNil, aStar, oNo, oIs, tTupD, tsCons, tsNil, tn, iSeq, iEnumD, iRng1D, iRng2D, bI, bIsN, bNotN, dI20, dI2, dLen, dTupF, dListF, dInt1, dII, dRepr, dSorted, isDeck, isOwn, freeSlot, endD, startD, startK, startL, List.map, List.length, List.replicate, List.cons_append, List.nil_append, List.append_nil, List.getElem?_cons_succ, List.getElem?_cons_zero, Nat.reduceAdd, Nat.reduceSub, List.set, Bool.and_true, Bool.true_and, Bool.and_false, Bool.false_and, Bool.not_true, Bool.not_false, Nat.reduceBEq, beq_self_eq_true, reduceIte, reduceCtorEq, isNoneD, wipeD, freeAll, List.all_cons, List.all_nil, Kt.at0, Kt.at1, Kt.at2, true_and, and_true, List.getElem?_cons_succ, t_law_pick, n_law_pick, g_law_draw]
    refine ⟨⟨by omega, by omega⟩, fun r r0 r1 => ?_⟩
    obtain ⟨j, rfl⟩ := Int.eq_ofNat_of_zero_le r0
    have hj : j < xs.length := by omega
    simp only [sSeq, sCut, sIf, sNext, sRet, sAsg, sPar, sPar3, sDrop, sBreak, sCont, sOwn, sFor, sForI, sWhile, dNot, dB, dAnd, dOr, dAndV, dOrV, dNotV, dIf, dCall, dCallK, dCallP, dv, dc, dOp, dCmp, dCmpT, dUn, dNeg, dIsi, dLst, dTup, dRev, dSlice, dChain, dChainT, dApp, dSortedO, dNotInO, dLc, dYes, aCons, aNil, aStar, oNo, oIs, tTupD, tsCons, tsNil, tn, iSeq, iEnumD, iRng1D, iRng2D, bI, bIsN, bNotN, dI20, dI2, dLen, dTupF, dListF, dInt1, dII, dRepr, dSorted, isDeck, isOwn, freeSlot, endD, startD, startK, startL, List.map, List.length, List.replicate, List.cons_append, List.nil_append, List.append_nil, List.getElem?_cons_succ, List.getElem?_cons_zero, Nat.reduceAdd, Nat.reduceSub, List.set, Bool.and_true, Bool.true_and, Bool.and_false, Bool.false_and, Bool.not_true, Bool.not_false, Nat.reduceBEq, beq_self_eq_true, reduceIte, reduceCtorEq, isNoneD, wipeD, freeAll, List.all_cons, List.all_nil, Kt.at0, Kt.at1, Kt.at2, true_and, and_true, List.getElem?_cons_succ, dGet]
    rw [atI_nat (List.getElem?_eq_getElem hj)]
    exact k _ (List.getElem_mem hj)
end Dl

set_option Elab.async false
set_option linter.all false
set_option maxRecDepth 100000
set_option maxHeartbeats 4000000
namespace Dl
open PySem PySem.Spec PyProof.Rows L2 Kt
structure ChartOk (n : Int) (rs : List (Int × Int)) (cs : List Int) : Prop where
  r : ∀ q ∈ rs, 0 ≤ q.1 ∧ q.1 < q.2 ∧ q.2 < n
  rp : rs.Pairwise fun u v => SrtO.lexB u v = true
  c : ∀ x ∈ cs, 0 ≤ x ∧ x < n
  cp : cs.Pairwise (· < ·)
def chD (n : Int) (rs : List (Int × Int)) (cs : List Int) : PyData := .tuple [.int n, .tuple (rs.map pD), .tuple (cs.map .int)]
/-- roads while they are gathered -/
structure Gath (n top : Int) (k : Nat) (rs : List (Int × Int)) : Prop where
  r : ∀ q ∈ rs, 0 ≤ q.1 ∧ q.1 < q.2 ∧ q.2 < n
  t : ∀ q ∈ rs, q.2 < top
  nd : rs.Nodup
  l : rs.length ≤ k
theorem Gath.up {n top top' : Int} {k k' : Nat} {rs : List (Int × Int)} (h : Gath n top k rs) (ht : top ≤ top') (hk : k ≤ k') : Gath n top' k' rs :=
  ⟨h.r, fun q hq => Int.lt_of_lt_of_le (h.t q hq) ht, h.nd, Nat.le_trans h.l hk⟩
theorem Gath.add {n top : Int} {k : Nat} {rs : List (Int × Int)} {a b : Int} (h : Gath n top k rs) (h0 : 0 ≤ a) (h1 : a < b) (h2 : b < n) (h3 : b < top) (hn : (a, b) ∉ rs) : Gath n top (k + 1) (rs ++ [(a, b)]) := by
  refine ⟨fun q hq => ?_, fun q hq => ?_, ?_, ?_⟩
  · rcases List.mem_append.mp hq with z | z
    · exact h.r q z
    · rw [List.mem_singleton.mp z]; exact ⟨h0, h1, h2⟩
  · rcases List.mem_append.mp hq with z | z
    · exact h.t q z
    · rw [List.mem_singleton.mp z]; exact h3
  · rw [List.nodup_append]
    refine ⟨h.nd, by simp, fun x hx y hy e => ?_⟩
    rw [List.mem_singleton.mp hy] at e
    subst e
    exact hn hx
  · have := h.l
    rw [List.length_append, List.length_singleton]
    omega
theorem sorted_strict {rs ss : List (Int × Int)} (hn : rs.Nodup) (hp : ss.Perm rs) (hs : ss.Pairwise fun u v => SrtO.lexB v u = false) : ss.Pairwise fun u v => SrtO.lexB u v = true := by
  have hn2 : ss.Pairwise (· ≠ ·) := hp.nodup_iff.mpr hn
  refine (hs.and hn2).imp fun {u v} h => ?_
  have h1 := SrtO.lexB_no.mp h.1
  refine SrtO.lexB_iff.mpr ?_
  have h2 : ¬ (u.1 = v.1 ∧ u.2 = v.2) := fun z => h.2 (Prod.ext z.1 z.2)
  omega
theorem outs_sub {ds rs : List PyData} {Post : PyData → Option PyData → Prop} (h : Outs Post ds rs) (hp : ∀ d y, Post d (some y) → y = d) : rs.Sublist ds := by
  induction h with
  | nil => exact List.Sublist.refl _
  | no _ _ ih => exact ih.cons _
  | yes q _ ih => rw [hp _ _ q]; exact ih.cons₂ _
theorem rng_ints (i : Int) (n : Nat) : ∃ ns : List Int, rngD i n = ns.map PyData.int ∧ ns.Pairwise (· < ·) ∧ (∀ x ∈ ns, i ≤ x ∧ x < i + n) ∧ ns.length = n := by
  refine ⟨(List.range n).map fun (k : Nat) => i + (k : Int), ?_, ?_, ?_, by simp⟩
  · unfold rngD
    rw [List.map_map]
    rfl
  · rw [List.pairwise_map]
    exact List.pairwise_lt_range.imp fun {a b} h => by omega
  · intro x hx
    obtain ⟨k, hk, rfl⟩ := List.mem_map.mp hx
    have := List.mem_range.mp hk
    omega
theorem sub_ints {ns : List Int} {rs : List PyData} (h : rs.Sublist (ns.map PyData.int)) : ∃ cs : List Int, rs = cs.map PyData.int ∧ cs.Sublist ns := by
  obtain ⟨cs, h1, h2⟩ := List.sublist_map_iff.mp h
  exact ⟨cs, h2, h1⟩
theorem rng_at {i : Int} {n k : Nat} {d : PyData} (h : (rngD i n)[k]? = some d) : d = .int (i + k) ∧ k < n := ⟨(rngD_at h).2, (rngD_at h).1⟩
theorem rng_len {i : Int} {n : Nat} : (rngD i n).length = n := by simp [rngD]
def LC1 (n m : Int) (a : Addr) (i : Nat) (ρ : Rho) : Prop := ∃ rs o4, ρ = [some .deck, some (.dat (.int n)), some (.dat (.int m)), some (.own a (rs.map pD)), o4, none, none, none, none] ∧ freeSlot (some o4) = true ∧ Gath n ((i : Int) + 1) i rs
def LC2 (n m : Int) (a : Addr) (i : Nat) (ρ : Rho) : Prop := ∃ rs o4 o5 o6, ρ = [some .deck, some (.dat (.int n)), some (.dat (.int m)), some (.own a (rs.map pD)), o4, o5, o6, none, none] ∧ freeSlot (some o4) = true ∧ freeSlot (some o5) = true ∧ freeSlot (some o6) = true ∧ Gath n n (23 + i) rs
def g_law_chart : RDn := fun ds A => match ds with
  | [.int n, .int m] => (1 ≤ n ∧ n ≤ 24 ∧ 0 ≤ m ∧ m ≤ 6) ∧ ∀ rs cs, ChartOk n rs cs → rs.length ≤ 40 → cs.length ≤ 40 → A (chD n rs cs)
  | _ => False
theorem rd_law_chart : ∀ ds A, g_law_chart ds A → ds.length + 1 = 3 ∧ t_law_chart g_law_draw (endD A) (startK n_law_chart ds) := by
  intro ds A h
  match ds, h with
  | [.int n, .int m], h =>
    refine ⟨rfl, ?_⟩
    obtain ⟨⟨n1, n2, m1, m2⟩, k⟩ := h
    simp only [sSeq, sCut, sIf, sNext, sRet, sAsg, sPar, sPar3, sDrop, sBreak, sCont, sOwn, sFor, sForI, sWhile, dNot, dB, dAnd, dOr, dAndV, dOrV, dNotV, dIf, dCall, dCallK, dCallP, dv, dc, dOp, dCmp, dCmpT, dUn, dNeg, dIsi, dLst, dTup, dRev, dSlice, dChain, dChainT, dApp, dSortedO, dNotInO, dLc, dYes, aCons, aNil, aStar, oNo, oIs, tTupD, tsCons, tsNil, tn, iSeq, iEnumD, iRng1D, iRng2D, bI, bIsN, bNotN, dI20, dI2, dLen, dTupF, dListF, dInt1, dII, dRepr, dSorted, isDeck, isOwn, freeSlot, endD, startD, startK, startL, List.map, List.length, List.replicate, List.cons_append, List.nil_append, List.append_nil, List.getElem?_cons_succ, List.getElem?_cons_zero, Nat.reduceAdd, Nat.reduceSub, List.set, Bool.and_true, Bool.true_and, Bool.and_false, Bool.false_and, Bool.not_true, Bool.not_false, Nat.reduceBEq, beq_self_eq_true, reduceIte, reduceCtorEq, isNoneD, wipeD, freeAll, List.all_cons, List.all_nil, Kt.at0, Kt.at1, Kt.at2, true_and, and_true, List.getElem?_cons_succ, t_law_chart, n_law_chart, g_law_draw]
    intro a
    refine ⟨by omega, LC1 n m a, ⟨[], none, rfl, rfl, ⟨by simp, by simp, by simp, by simp⟩⟩, ?_, ?_⟩
    · rintro i d ρ hd ⟨rs, o4, rfl, f4, hg⟩
      obtain ⟨hd, hi2⟩ := rng_at hd
      subst hd
      simp only [freeSlot] at f4
      simp only [sSeq, sCut, sIf, sNext, sRet, sAsg, sPar, sPar3, sDrop, sBreak, sCont, sOwn, sFor, sForI, sWhile, dNot, dB, dAnd, dOr, dAndV, dOrV, dNotV, dIf, dCall, dCallK, dCallP, dv, dc, dOp, dCmp, dCmpT, dUn, dNeg, dIsi, dLst, dTup, dRev, dSlice, dChain, dChainT, dApp, dSortedO, dNotInO, dLc, dYes, aCons, aNil, aStar, oNo, oIs, tTupD, tsCons, tsNil, tn, iSeq, iEnumD, iRng1D, iRng2D, bI, bIsN, bNotN, dI20, dI2, dLen, dTupF, dListF, dInt1, dII, dRepr, dSorted, isDeck, isOwn, freeSlot, endD, startD, startK, startL, List.map, List.length, List.replicate, List.cons_append, List.nil_append, List.append_nil, List.getElem?_cons_succ, List.getElem?_cons_zero, Nat.reduceAdd, Nat.reduceSub, List.set, Bool.and_true, Bool.true_and, Bool.and_false, Bool.false_and, Bool.not_true, Bool.not_false, Nat.reduceBEq, beq_self_eq_true, reduceIte, reduceCtorEq, isNoneD, wipeD, freeAll, List.all_cons, List.all_nil, Kt.at0, Kt.at1, Kt.at2, true_and, and_true, List.getElem?_cons_succ, f4]
      refine ⟨by decide, fun r r0 r9 => ?_⟩
      by_cases h0 : 0 < r
      · simp only [decide_eq_true h0]
        refine ⟨rfl, by decide, fun q q0 q3 => ⟨by decide, ?_, ?_⟩⟩
        · have := hg.l
          rw [List.length_map]
          have : (100 : Nat) ≤ SZ := by decide
          omega
        · refine ⟨rs ++ [((if 1 + (i : Int) - 1 - q > 0 then 1 + (i : Int) - 1 - q else 0), 1 + (i : Int))], _, by rw [List.map_append]; rfl, rfl, ?_⟩
          have hb : ∀ p ∈ rs, p.2 ≠ 1 + (i : Int) := fun p hp => by have := hg.t p hp; omega
          refine (hg.up (by omega) (Nat.le_refl _)).add ?_ ?_ (by omega) (by omega) (fun z => hb _ z rfl) <;> split <;> omega
      · simp only [decide_eq_false h0]
        exact ⟨rs, _, rfl, rfl, hg.up (by omega) (by omega)⟩
    · rintro ρ ⟨rs, o4, rfl, f4, hg⟩
      rw [rng_len] at hg
      simp only [freeSlot] at f4
      simp only [sSeq, sCut, sIf, sNext, sRet, sAsg, sPar, sPar3, sDrop, sBreak, sCont, sOwn, sFor, sForI, sWhile, dNot, dB, dAnd, dOr, dAndV, dOrV, dNotV, dIf, dCall, dCallK, dCallP, dv, dc, dOp, dCmp, dCmpT, dUn, dNeg, dIsi, dLst, dTup, dRev, dSlice, dChain, dChainT, dApp, dSortedO, dNotInO, dLc, dYes, aCons, aNil, aStar, oNo, oIs, tTupD, tsCons, tsNil, tn, iSeq, iEnumD, iRng1D, iRng2D, bI, bIsN, bNotN, dI20, dI2, dLen, dTupF, dListF, dInt1, dII, dRepr, dSorted, isDeck, isOwn, freeSlot, endD, startD, startK, startL, List.map, List.length, List.replicate, List.cons_append, List.nil_append, List.append_nil, List.getElem?_cons_succ, List.getElem?_cons_zero, Nat.reduceAdd, Nat.reduceSub, List.set, Bool.and_true, Bool.true_and, Bool.and_false, Bool.false_and, Bool.not_true, Bool.not_false, Nat.reduceBEq, beq_self_eq_true, reduceIte, reduceCtorEq, isNoneD, wipeD, freeAll, List.all_cons, List.all_nil, Kt.at0, Kt.at1, Kt.at2, true_and, and_true, List.getElem?_cons_succ, f4]
      refine ⟨by omega, LC2 n m a, ⟨rs, o4, none, none, rfl, f4, rfl, rfl, hg.up (by omega) (by omega)⟩, ?_, ?_⟩
      · rintro i d ρ hd ⟨rs, o4, o5, o6, rfl, f4, f5, f6, hg⟩
        obtain ⟨hd, hi2⟩ := rng_at hd
        subst hd
        simp only [freeSlot] at f4 f5 f6
        simp only [sSeq, sCut, sIf, sNext, sRet, sAsg, sPar, sPar3, sDrop, sBreak, sCont, sOwn, sFor, sForI, sWhile, dNot, dB, dAnd, dOr, dAndV, dOrV, dNotV, dIf, dCall, dCallK, dCallP, dv, dc, dOp, dCmp, dCmpT, dUn, dNeg, dIsi, dLst, dTup, dRev, dSlice, dChain, dChainT, dApp, dSortedO, dNotInO, dLc, dYes, aCons, aNil, aStar, oNo, oIs, tTupD, tsCons, tsNil, tn, iSeq, iEnumD, iRng1D, iRng2D, bI, bIsN, bNotN, dI20, dI2, dLen, dTupF, dListF, dInt1, dII, dRepr, dSorted, isDeck, isOwn, freeSlot, endD, startD, startK, startL, List.map, List.length, List.replicate, List.cons_append, List.nil_append, List.append_nil, List.getElem?_cons_succ, List.getElem?_cons_zero, Nat.reduceAdd, Nat.reduceSub, List.set, Bool.and_true, Bool.true_and, Bool.and_false, Bool.false_and, Bool.not_true, Bool.not_false, Nat.reduceBEq, beq_self_eq_true, reduceIte, reduceCtorEq, isNoneD, wipeD, freeAll, List.all_cons, List.all_nil, Kt.at0, Kt.at1, Kt.at2, true_and, and_true, List.getElem?_cons_succ, f4, f5, f6]
        refine ⟨by omega, fun r r0 r1 => ⟨by omega, fun q q0 q1 => ?_⟩⟩
        by_cases h1 : r < q
        · simp only [decide_eq_true h1]
          refine ⟨by decide, ⟨shp_pair (r, q), shp_pairs rs⟩, ?_⟩
          rw [show (PyData.tuple [.int r, .int q]) = pD (r, q) from rfl, in_pairs]
          by_cases h2 : (r, q) ∈ rs
          · simp only [decide_eq_true h2, Bool.not_true]
            exact ⟨rs, _, _, _, rfl, rfl, rfl, rfl, hg.up (Int.le_refl _) (by omega)⟩
          · simp only [decide_eq_false h2, Bool.not_false]
            refine ⟨rfl, by decide, ?_, rs ++ [(r, q)], _, _, _, by rw [List.map_append]; rfl, rfl, rfl, rfl, hg.add r0 h1 q1 q1 h2⟩
            have := hg.l
            rw [List.length_map]
            have : (100 : Nat) ≤ SZ := by decide
            omega
        · simp only [decide_eq_false h1]
          exact ⟨rs, _, _, _, rfl, rfl, rfl, rfl, hg.up (Int.le_refl _) (by omega)⟩
      · rintro ρ ⟨rs, o4, o5, o6, rfl, f4, f5, f6, hg⟩
        rw [rng_len] at hg
        simp only [freeSlot] at f4 f5 f6
        simp only [sSeq, sCut, sIf, sNext, sRet, sAsg, sPar, sPar3, sDrop, sBreak, sCont, sOwn, sFor, sForI, sWhile, dNot, dB, dAnd, dOr, dAndV, dOrV, dNotV, dIf, dCall, dCallK, dCallP, dv, dc, dOp, dCmp, dCmpT, dUn, dNeg, dIsi, dLst, dTup, dRev, dSlice, dChain, dChainT, dApp, dSortedO, dNotInO, dLc, dYes, aCons, aNil, aStar, oNo, oIs, tTupD, tsCons, tsNil, tn, iSeq, iEnumD, iRng1D, iRng2D, bI, bIsN, bNotN, dI20, dI2, dLen, dTupF, dListF, dInt1, dII, dRepr, dSorted, isDeck, isOwn, freeSlot, endD, startD, startK, startL, List.map, List.length, List.replicate, List.cons_append, List.nil_append, List.append_nil, List.getElem?_cons_succ, List.getElem?_cons_zero, Nat.reduceAdd, Nat.reduceSub, List.set, Bool.and_true, Bool.true_and, Bool.and_false, Bool.false_and, Bool.not_true, Bool.not_false, Nat.reduceBEq, beq_self_eq_true, reduceIte, reduceCtorEq, isNoneD, wipeD, freeAll, List.all_cons, List.all_nil, Kt.at0, Kt.at1, Kt.at2, true_and, and_true, List.getElem?_cons_succ, f4, f5, f6]
        refine ⟨by omega, ?_⟩
        refine lc_post (fun d o => o = none ∨ o = some d) (fun d _ B hB => ?_) (by rw [rng_len]; have : (100 : Nat) ≤ SZ := by decide
                                                                                   simp; omega) ?_
        · simp only [sSeq, sCut, sIf, sNext, sRet, sAsg, sPar, sPar3, sDrop, sBreak, sCont, sOwn, sFor, sForI, sWhile, dNot, dB, dAnd, dOr, dAndV, dOrV, dNotV, dIf, dCall, dCallK, dCallP, dv, dc, dOp, dCmp, dCmpT, dUn, dNeg, dIsi, dLst, dTup, dRev, dSlice, dChain, dChainT, dApp, dSortedO, dNotInO, dLc, dYes, aCons, aNil, aStar, oNo, oIs, tTupD, tsCons, tsNil, tn, iSeq, iEnumD, iRng1D, iRng2D, bI, bIsN, bNotN, dI20, dI2, dLen, dTupF, dListF, dInt1, dII, dRepr, dSorted, isDeck, isOwn, freeSlot, endD, startD, startK, startL, List.map, List.length, List.replicate, List.cons_append, List.nil_append, List.append_nil, List.getElem?_cons_succ, List.getElem?_cons_zero, Nat.reduceAdd, Nat.reduceSub, List.set, Bool.and_true, Bool.true_and, Bool.and_false, Bool.false_and, Bool.not_true, Bool.not_false, Nat.reduceBEq, beq_self_eq_true, reduceIte, reduceCtorEq, isNoneD, wipeD, freeAll, List.all_cons, List.all_nil, Kt.at0, Kt.at1, Kt.at2, true_and, and_true, List.getElem?_cons_succ, turnD]
          refine ⟨by decide, fun r r0 r1 => bEq_int ?_⟩
          by_cases h1 : r = 0
          · simp only [decide_eq_true h1]
            exact hB _ (.inr rfl)
          · simp only [decide_eq_false h1]
            exact hB _ (.inl rfl)
        · intro ys ho
          have hs := outs_sub ho fun d y z => by
            rcases z with z | z
            · cases z
            · cases z; rfl
          obtain ⟨ns, e1, e2, e3, e4⟩ := rng_ints 0 n.toNat
          rw [e1] at hs
          obtain ⟨cs, rfl, hc⟩ := sub_ints hs
          rw [List.nil_append]
          refine .inr ⟨rs, rfl, fun ss hp hs => ?_⟩
          have hl := hp.length_eq
          have hgl := hg.l
          have hcl := hc.length_le
          exact ⟨by decide, k ss cs ⟨fun q hq => hg.r q (hp.mem_iff.mp hq), sorted_strict hg.nd hp hs, fun x hx => by have := e3 x (hc.subset hx); omega, e2.sublist hc⟩ (by omega) (by omega)⟩
end Dl

set_option Elab.async false
set_option linter.all false
set_option maxRecDepth 100000
set_option maxHeartbeats 4000000
namespace Dl
open PySem PySem.Spec PyProof.Rows L2 Kt
/-- what can be shown, with its weight and depth -/
structure Fi (k e : Nat) (d : PyData) : Prop where
  s : d.showable = true
  l : d.leavesShort 40 = true
  w : d.weight ≤ k
  d : d.depth ≤ e
structure FiA (k e : Nat) (xs : List PyData) : Prop where
  s : ∀ x ∈ xs, x.showable = true
  l : ∀ x ∈ xs, x.leavesShort 40 = true
  w : PyData.weightAll xs ≤ k
  d : ∀ x ∈ xs, x.depth ≤ e
theorem showAll_iff : ∀ {xs : List PyData}, PyData.showableAll xs = true ↔ ∀ x ∈ xs, x.showable = true
  | [] => by simp [PyData.showableAll]
  | x :: xs => by simp [PyData.showableAll, showAll_iff (xs := xs)]
theorem leavesAll_iff : ∀ {xs : List PyData}, PyData.leavesShortAll 40 xs = true ↔ ∀ x ∈ xs, x.leavesShort 40 = true
  | [] => by simp [PyData.leavesShortAll]
  | x :: xs => by simp [PyData.leavesShortAll, leavesAll_iff (xs := xs)]
theorem depthAll_iff {e : Nat} : ∀ {xs : List PyData}, PyData.depthAll xs ≤ e ↔ ∀ x ∈ xs, x.depth ≤ e
  | [] => by simp [PyData.depthAll]
  | x :: xs => by
    have := depthAll_iff (e := e) (xs := xs)
    simp only [PyData.depthAll, List.forall_mem_cons, ← this]
    omega
theorem weightAll_sum : ∀ {xs : List PyData}, PyData.weightAll xs = (xs.map fun x => x.weight + 1).sum
  | [] => by simp [PyData.weightAll]
  | x :: xs => by simp [PyData.weightAll, weightAll_sum (xs := xs)]
theorem Fi.le {k k' e e' : Nat} {d : PyData} (h : Fi k e d) (hk : k ≤ k') (he : e ≤ e') : Fi k' e' d := ⟨h.s, h.l, Nat.le_trans h.w hk, Nat.le_trans h.d he⟩
theorem Fi.tup {k e : Nat} {xs : List PyData} (h : FiA k e xs) : Fi k (e + 1) (.tuple xs) :=
  ⟨by simpa only [PyData.showable, showAll_iff] using h.s, by simpa only [PyData.leavesShort, leavesAll_iff] using h.l, by simpa only [PyData.weight] using h.w, by simpa only [PyData.depth, Nat.add_le_add_iff_right, depthAll_iff] using h.d⟩
theorem Fi.lst {k e : Nat} {xs : List PyData} (h : FiA k e xs) : Fi k (e + 1) (.list xs) :=
  ⟨by simpa only [PyData.showable, showAll_iff] using h.s, by simpa only [PyData.leavesShort, leavesAll_iff] using h.l, by simpa only [PyData.weight] using h.w, by simpa only [PyData.depth, Nat.add_le_add_iff_right, depthAll_iff] using h.d⟩
theorem Fi.un {k e : Nat} {xs : List PyData} (h : Fi k (e + 1) (.tuple xs)) : FiA k e xs :=
  ⟨by simpa only [PyData.showable, showAll_iff] using h.s, by simpa only [PyData.leavesShort, leavesAll_iff] using h.l, by simpa only [PyData.weight] using h.w, by simpa only [PyData.depth, Nat.add_le_add_iff_right, depthAll_iff] using h.d⟩
theorem FiA.nil {k e : Nat} : FiA k e [] := ⟨by simp, by simp, by simp [PyData.weightAll], by simp⟩
theorem FiA.cons {k k' e e' : Nat} {x : PyData} {xs : List PyData} (h : Fi k e x) (t : FiA k' e' xs) : FiA (k + 1 + k') (max e e') (x :: xs) :=
  ⟨by simpa only [List.forall_mem_cons] using ⟨h.s, t.s⟩, by simpa only [List.forall_mem_cons] using ⟨h.l, t.l⟩, by have := h.w; have := t.w; simp only [PyData.weightAll]; omega,
   by
    rw [List.forall_mem_cons]
    exact ⟨Nat.le_trans h.d (Nat.le_max_left _ _), fun x hx => Nat.le_trans (t.d x hx) (Nat.le_max_right _ _)⟩⟩
theorem FiA.app {k k' e e' : Nat} {xs ys : List PyData} (h : FiA k e xs) (t : FiA k' e' ys) : FiA (k + k') (max e e') (xs ++ ys) :=
  ⟨fun x hx => (List.mem_append.mp hx).elim (h.s x) (t.s x), fun x hx => (List.mem_append.mp hx).elim (h.l x) (t.l x), by
    have h1 := h.w; have h2 := t.w
    rw [weightAll_sum] at *
    rw [List.map_append, List.sum_append]; omega, fun x hx => (List.mem_append.mp hx).elim (fun z => Nat.le_trans (h.d x z) (Nat.le_max_left _ _)) (fun z => Nat.le_trans (t.d x z) (Nat.le_max_right _ _))⟩
theorem FiA.sub {k e : Nat} {xs ys : List PyData} (h : FiA k e xs) (t : ys.Sublist xs) : FiA k e ys :=
  ⟨fun x hx => h.s x (t.subset hx), fun x hx => h.l x (t.subset hx), by
    have h1 := h.w
    rw [weightAll_sum] at *
    have : ∀ {as bs : List Nat}, as.Sublist bs → as.sum ≤ bs.sum := by
      intro as bs h
      induction h with
      | slnil => exact Nat.le_refl _
      | cons _ _ ih => simp; omega
      | cons_cons _ _ ih => simp; omega
    exact Nat.le_trans (this (t.map _)) h1, fun x hx => h.d x (t.subset hx)⟩
theorem FiA.cut {k e : Nat} {xs : List PyData} {lo hi : Option Int} (h : FiA k e xs) : FiA k e (cutD xs lo hi) := h.sub ((List.take_sublist _ _).trans (List.drop_sublist _ _))
theorem FiA.rev {k e : Nat} {xs : List PyData} (h : FiA k e xs) : FiA k e xs.reverse :=
  ⟨fun x hx => h.s x (List.mem_reverse.mp hx), fun x hx => h.l x (List.mem_reverse.mp hx), by
    have h1 := h.w
    rw [weightAll_sum] at *
    rw [List.map_reverse, List.sum_reverse]; exact h1, fun x hx => h.d x (List.mem_reverse.mp hx)⟩
theorem FiA.len {k e : Nat} {xs : List PyData} (h : FiA k e xs) : xs.length ≤ k := by
  have h1 := h.w
  rw [weightAll_sum] at h1
  refine Nat.le_trans ?_ h1
  clear h1 h
  induction xs with
  | nil => simp
  | cons x xs ih => simp only [List.map_cons, List.sum_cons, List.length_cons]; omega
theorem FiA.at {k e : Nat} {xs : List PyData} (h : FiA k e xs) {x : PyData} (hx : x ∈ xs) : Fi k e x := by
  refine ⟨h.s x hx, h.l x hx, ?_, h.d x hx⟩
  have h1 := h.w
  rw [weightAll_sum] at h1
  refine Nat.le_trans ?_ h1
  clear h1 h
  induction xs with
  | nil => cases hx
  | cons y xs ih =>
    simp only [List.map_cons, List.sum_cons]
    rcases List.mem_cons.mp hx with z | z
    · rw [z]; omega
    · have := ih z; omega
theorem Fi.lit {k e : Nat} {d : PyData} (h : (d.showable && d.leavesShort 40 && decide (d.weight ≤ k) && decide (d.depth ≤ e)) = true) : Fi k e d := by
  simp only [Bool.and_eq_true, decide_eq_true_eq] at h
  exact ⟨h.1.1.1, h.1.1.2, h.1.2, h.2⟩
theorem Fi.lits {k e : Nat} {xs : List PyData} (h : (xs.all fun d => d.showable && d.leavesShort 40 && decide (d.weight ≤ k) && decide (d.depth ≤ e)) = true) : ∀ d ∈ xs, Fi k e d := fun d hd => Fi.lit (List.all_eq_true.mp h d hd)
theorem Fi.shw {k e : Nat} {d : PyData} (h : Fi k e d) (hk : k ≤ 100000) (he : e ≤ 60) : Shw d := by
  refine ⟨h.s, ?_, Nat.le_trans h.d he⟩
  have := PyData.shown_le 40 (by decide) d h.l
  have := h.w
  omega
theorem Fi.int {i : Int} (h : -1 ≤ i ∧ i ≤ 30) : Fi 6 0 (.int i) := by
  obtain ⟨j, hj⟩ := Int.eq_ofNat_of_zero_le (show 0 ≤ i + 1 by omega)
  have hj2 : j < 32 := by omega
  have e : i = (j : Int) - 1 := by omega
  subst e
  have : ∀ j : Fin 32, ((PyData.int ((j.val : Int) - 1)).showable && (PyData.int ((j.val : Int) - 1)).leavesShort 40 && decide ((PyData.int ((j.val : Int) - 1)).weight ≤ 6) && decide ((PyData.int ((j.val : Int) - 1)).depth ≤ 0)) = true := by decide +kernel
  exact Fi.lit (this ⟨j, hj2⟩)
def g_law_odd : RDn := fun ds A => match ds with
  | [] => ∀ d, Fi 110 2 d → A d
  | _ => False
theorem rd_law_odd : ∀ ds A, g_law_odd ds A → ds.length + 1 = 1 ∧ t_law_odd g_law_pick (endD A) (startK n_law_odd ds) := by
  intro ds A h
  match ds, h with
  | [], h =>
    refine ⟨rfl, ?_⟩
    simp only [sSeq, sCut, sIf, sNext, sRet, sAsg, sPar, sPar3, sDrop, sBreak, sCont, sOwn, sFor, sForI, sWhile, dNot, dB, dAnd, dOr, dAndV, dOrV, dNotV, dIf, dCall, dCallK, dCallP, dv, dc, dOp, dCmp, dCmpT, dUn, dNeg, dIsi, dLst, dTup, dRev, dSlice, dChain, dChainT, dApp, dSortedO, dNotInO, dLc, dYes, aCons, aNil, aStar, oNo, oIs, tTupD, tsCons, tsNil, tn, iSeq, iEnumD, iRng1D, iRng2D, bI, bIsN, bNotN, dI20, dI2, dLen, dTupF, dListF, dInt1, dII, dRepr, dSorted, isDeck, isOwn, freeSlot, endD, startD, startK, startL, List.map, List.length, List.replicate, List.cons_append, List.nil_append, List.append_nil, List.getElem?_cons_succ, List.getElem?_cons_zero, Nat.reduceAdd, Nat.reduceSub, List.set, Bool.and_true, Bool.true_and, Bool.and_false, Bool.false_and, Bool.not_true, Bool.not_false, Nat.reduceBEq, beq_self_eq_true, reduceIte, reduceCtorEq, isNoneD, wipeD, freeAll, List.all_cons, List.all_nil, Kt.at0, Kt.at1, Kt.at2, true_and, and_true, List.getElem?_cons_succ, t_law_odd, n_law_odd, g_law_pick, dAdd]
    refine ⟨by unfold CPow; decide, ?_⟩
    iterate 19 refine ⟨by decide, ?_⟩
    refine ⟨by decide, fun d hd => h d (Fi.lits ?_ d hd)⟩
    decide +kernel
theorem fm_nil {P : PyData → Prop} : ∀ d ∈ ([] : List PyData), P d := fun d h => by cases h
theorem fm_cons {P : PyData → Prop} {x : PyData} {xs : List PyData} (h : P x) (t : ∀ d ∈ xs, P d) : ∀ d ∈ x :: xs, P d := fun d hd => by
  rcases List.mem_cons.mp hd with z | z
  · rw [z]; exact h
  · exact t d z
def revD : PyData → PyData
  | .tuple xs => .tuple xs.reverse
  | d => d
theorem Fi.revD {k e : Nat} {d : PyData} (h : Fi k e d) : Fi k e (revD d) ∧ (Dl.revD d).weight = d.weight := by
  cases d with
  | tuple xs =>
    have hw : (PyData.tuple xs.reverse).weight = (PyData.tuple xs).weight := by
      simp only [PyData.weight, weightAll_sum, List.map_reverse, List.sum_reverse]
    refine ⟨⟨?_, ?_, Nat.le_trans (Nat.le_of_eq hw) h.w, ?_⟩, hw⟩
    · have := h.s
      simp only [PyData.showable, showAll_iff, Dl.revD] at this ⊢
      exact fun x hx => this x (List.mem_reverse.mp hx)
    · have := h.l
      simp only [PyData.leavesShort, leavesAll_iff, Dl.revD] at this ⊢
      exact fun x hx => this x (List.mem_reverse.mp hx)
    · have := h.d
      cases e with
      | zero => simp [PyData.depth] at this
      | succ e =>
        simp only [PyData.depth, Nat.add_le_add_iff_right, depthAll_iff, Dl.revD] at this ⊢
        exact fun x hx => this x (List.mem_reverse.mp hx)
  | _ => exact ⟨h, rfl⟩
theorem FiA.revD {k e : Nat} {xs : List PyData} (h : FiA k e xs) : FiA k e (xs.map Dl.revD) := by
  refine ⟨fun x hx => ?_, fun x hx => ?_, ?_, fun x hx => ?_⟩
  · obtain ⟨y, hy, rfl⟩ := List.mem_map.mp hx
    exact (Fi.revD (h.at hy)).1.s
  · obtain ⟨y, hy, rfl⟩ := List.mem_map.mp hx
    exact (Fi.revD (h.at hy)).1.l
  · have h1 := h.w
    rw [weightAll_sum] at *
    rw [List.map_map]
    refine Nat.le_trans (Nat.le_of_eq (congrArg List.sum (List.map_congr_left fun x hx => ?_))) h1
    show (Dl.revD x).weight + 1 = _
    rw [(Fi.revD (h.at hx)).2]
  · obtain ⟨y, hy, rfl⟩ := List.mem_map.mp hx
    exact (Fi.revD (h.at hy)).1.d
theorem cut_len {xs : List PyData} {lo hi : Option Int} : (cutD xs lo hi).length ≤ xs.length := by
  have := ((List.take_sublist (HT.sIx xs.length xs.length hi - HT.sIx xs.length 0 lo) (xs.drop (HT.sIx xs.length 0 lo))).trans (List.drop_sublist _ xs)).length_le
  exact this
theorem cut_mem {xs : List PyData} {lo hi : Option Int} {x : PyData} (h : x ∈ cutD xs lo hi) : x ∈ xs := ((List.take_sublist _ _).trans (List.drop_sublist _ _)).subset h
end Dl

set_option Elab.async false
set_option linter.all false
set_option maxRecDepth 100000
set_option maxHeartbeats 4000000
namespace Dl
open PySem PySem.Spec PyProof.Rows L2 Kt
theorem FiA.of {k e : Nat} : ∀ {xs : List PyData}, (∀ x ∈ xs, Fi k e x) → FiA (xs.length * (k + 1)) e xs
  | [], _ => ⟨by simp, by simp, by simp [PyData.weightAll], by simp⟩
  | x :: xs, h => by
    have h1 := h x List.mem_cons_self
    have h2 := FiA.of fun y hy => h y (List.mem_cons_of_mem _ hy)
    have := FiA.cons h1 h2
    rw [Nat.max_self] at this
    refine ⟨this.s, this.l, Nat.le_trans this.w ?_, this.d⟩
    rw [List.length_cons, Nat.add_mul]
    omega
theorem FiA.ints {ns : List Int} (h : ∀ x ∈ ns, -1 ≤ x ∧ x ≤ 30) : FiA (ns.length * 7) 0 (ns.map PyData.int) := by
  have := FiA.of (k := 6) (e := 0) (xs := ns.map PyData.int) fun x hx => by
    obtain ⟨y, hy, rfl⟩ := List.mem_map.mp hx
    exact Fi.int (h y hy)
  rwa [List.length_map] at this
theorem Fi.nat {i : Nat} (h : i < 9800) : Fi 20 0 (.int (i : Nat)) := by
  have : ((List.range 9800).all fun j => (PyData.int (j : Nat)).showable && (PyData.int (j : Nat)).leavesShort 40 && decide ((PyData.int (j : Nat)).weight ≤ 20) && decide ((PyData.int (j : Nat)).depth ≤ 0)) = true := by decide +kernel
  exact Fi.lit (List.all_eq_true.mp this i (List.mem_range.mpr h))
theorem fi_chart {n : Int} {rs : List (Int × Int)} {cs : List Int} (hn : 1 ≤ n ∧ n ≤ 24) (ok : ChartOk n rs cs) (lr : rs.length ≤ 40) (lc : cs.length ≤ 40) : Fi 950 5 (chD n rs cs) := by
  have f1 : Fi 6 0 (.int n) := Fi.int ⟨by omega, by omega⟩
  have f2 : FiA ((rs.map pD).length * (14 + 1)) 1 (rs.map pD) := FiA.of fun x hx => by
    obtain ⟨q, hq, rfl⟩ := List.mem_map.mp hx
    have := ok.r q hq
    have g1 : Fi 6 0 (.int q.1) := Fi.int ⟨by omega, by omega⟩
    have g2 : Fi 6 0 (.int q.2) := Fi.int ⟨by omega, by omega⟩
    unfold pD
    (apply Fi.le; (· (repeat (first | assumption | exact Fi.int ⟨by omega, by omega⟩ | exact Fi.lit (k := 2) (e := 0) (by decide +kernel) | exact Fi.lit (k := 110) (e := 2) (by decide +kernel) | exact FiA.nil (k := 0) (e := 0) | apply Fi.tup | apply Fi.lst | apply FiA.cons | apply FiA.app | apply FiA.cut | apply FiA.rev))); (· omega); (· omega))
  have f3 : FiA (cs.length * 7) 0 (cs.map PyData.int) := FiA.ints fun x hx => by have := ok.c x hx; omega
  rw [List.length_map] at f2
  unfold chD
  (apply Fi.le; (· (repeat (first | assumption | exact Fi.int ⟨by omega, by omega⟩ | exact Fi.lit (k := 2) (e := 0) (by decide +kernel) | exact Fi.lit (k := 110) (e := 2) (by decide +kernel) | exact FiA.nil (k := 0) (e := 0) | apply Fi.tup | apply Fi.lst | apply FiA.cons | apply FiA.app | apply FiA.cut | apply FiA.rev))); (· omega); (· omega))
theorem firstBad_lt {bad : Nat → Bool} {n i : Nat} (h : firstBad bad n = some i) : i < n := by
  unfold firstBad at h
  exact List.mem_range.mp (List.mem_of_find?_eq_some h)
theorem firstBad_ok {bad : Nat → Bool} {n : Nat} (h : firstBad bad n = none) : ∀ j, j < n → bad j = false := by
  unfold firstBad at h
  intro j hj
  have := List.find?_eq_none.mp h j (List.mem_range.mpr hj)
  simpa using this
theorem err_shw {k e : Nat} {d : PyData} (h : Fi k (e + 2) d) (hk : k < 9800) : Shw (chartErr d) := by
  have F1 : ∀ s : Str, (PyData.str s).leavesShort 40 = true → (PyData.str s).weight ≤ 20 → ∀ i : Nat, i < 9800 → Shw (.tuple [.str s, .int (i : Nat)]) := fun s h1 h2 i hi => by
    have f1 : Fi 20 0 (.str s) := ⟨rfl, h1, h2, Nat.le_refl _⟩
    have f2 := Fi.nat hi
    refine Fi.shw (k := 60) (e := 2) ?_ (by decide) (by decide)
    (apply Fi.le; (· (repeat (first | assumption | exact Fi.int ⟨by omega, by omega⟩ | exact Fi.lit (k := 2) (e := 0) (by decide +kernel) | exact Fi.lit (k := 110) (e := 2) (by decide +kernel) | exact FiA.nil (k := 0) (e := 0) | apply Fi.tup | apply Fi.lst | apply FiA.cons | apply FiA.app | apply FiA.cut | apply FiA.rev))); (· omega); (· omega))
  unfold chartErr
  split
  · rename_i m rs cs
    have hu := h.un
    have lr := (hu.at (x := .tuple rs) (by simp)).un.len
    have lc := (hu.at (x := .tuple cs) (by simp)).un.len
    split
    · split
      · split
        · rename_i i hi
          have := firstBad_lt hi
          exact F1 _ (by decide +kernel) (by decide +kernel) i (by omega)
        · split
          · rename_i i hi
            have := firstBad_lt hi
            exact F1 _ (by decide +kernel) (by decide +kernel) i (by omega)
          · exact Fi.shw (k := 0) (e := 0) (Fi.lit (by decide +kernel)) (by decide) (by decide)
      · exact Fi.shw (k := 100) (e := 0) (Fi.lit (by decide +kernel)) (by decide) (by decide)
    · exact Fi.shw (k := 100) (e := 0) (Fi.lit (by decide +kernel)) (by decide) (by decide)
  · exact Fi.shw (k := 100) (e := 0) (Fi.lit (by decide +kernel)) (by decide) (by decide)
theorem err_few {k e : Nat} {d : PyData} (h : Fi k (e + 2) d) (hk : k < 9800) : fewD SZ d := by
  unfold fewD
  split
  · rename_i m rs cs
    have hu := h.un
    have lr := (hu.at (x := .tuple rs) (by simp)).un.len
    have lc := (hu.at (x := .tuple cs) (by simp)).un.len
    have : (100000 : Nat) ≤ SZ := by decide
    omega
  · trivial
theorem err_none {d : PyData} (h : chartErr d = .none) : ∃ n rs cs, d = .tuple [.int n, .tuple rs, .tuple cs] ∧ (1 ≤ n ∧ n ≤ 24) ∧ ∀ x ∈ rs, ∃ xs, x = .tuple xs := by
  unfold chartErr at h
  split at h
  · rename_i m rs cs
    split at h
    · rename_i n
      split at h
      · rename_i hn
        split at h
        · cases h
        · rename_i e
          refine ⟨n, rs, cs, rfl, hn, fun x hx => ?_⟩
          obtain ⟨i, hi⟩ := List.mem_iff_getElem?.mp hx
          have hl := (List.getElem?_eq_some_iff.mp hi).1
          have := firstBad_ok e i hl
          unfold badAt at this
          rw [getD_at hi] at this
          simp only [Bool.or_eq_false_iff, Bool.not_eq_false'] at this
          have h1 := this.1
          unfold roadD at h1
          split at h1
          · exact ⟨_, rfl⟩
          · cases h1
      · cases h
    · cases h
  · cases h
end Dl

set_option Elab.async false
set_option linter.all false
set_option maxRecDepth 100000
set_option maxHeartbeats 4000000
namespace Dl
open PySem PySem.Spec PyProof.Rows L2 Kt
def pieceD (n : Int) : PyData → Bool
  | .tuple [a, b] => belowD n a && belowD 6 b
  | _ => false
def fstD : PyData → PyData
  | .tuple (x :: _) => x
  | _ => .none
def badP (n : Int) (qs : List PyData) (i : Nat) : Bool := !pieceD n (qs.getD i .none) || (decide (0 < i) && leB (fstD (qs.getD i .none)) (fstD (qs.getD (i - 1) .none)))
def boardErr : PyData → PyData
  | .tuple [ch, ps] => match chartErr ch with
    | .none => match ch, ps with
      | .tuple [.int n, _, _], .tuple qs => if qs.length ≤ 16 then match firstBad (badP n qs) qs.length with
          | some i => .tuple [.str "piece", .int (i : Nat)]
          | none => .none
        else .str "pieces"
      | _, _ => .str "pieces"
    | e => .tuple [.str "chart", e]
  | _ => .str "form"
theorem piece_tup {n : Int} {d : PyData} (h : tupN 2 d = false) : pieceD n d = false := by
  unfold pieceD
  split
  · exact absurd h (by simp [tupN])
  · rfl
theorem piece_ok {n : Int} {d : PyData} (h : pieceD n d = true) : ∃ i j, d = .tuple [.int i, .int j] := by
  unfold pieceD at h
  split at h
  · rename_i a b
    simp only [Bool.and_eq_true] at h
    cases a <;> first | (cases h.1; done) | skip
    cases b <;> first | (cases h.2; done) | skip
    exact ⟨_, _, rfl⟩
  · cases h
def g_is_piece : RDn := fun ds A => match ds with
  | [.tuple [.int n, _, _], d] => A (.bool (pieceD n d))
  | _ => False
theorem rd_is_piece : ∀ ds A, g_is_piece ds A → ds.length = 2 ∧ t_is_piece g_is_tuple_of g_is_below (endD A) (startD n_is_piece ds) := by
  intro ds A h
  match ds, h with
  | [.tuple [.int n, r, c], d], h =>
    refine ⟨rfl, ?_⟩
    have h : A (.bool (pieceD n d)) := h
    simp only [sSeq, sCut, sIf, sNext, sRet, sAsg, sPar, sPar3, sDrop, sBreak, sCont, sOwn, sFor, sForI, sWhile, dNot, dB, dAnd, dOr, dAndV, dOrV, dNotV, dIf, dCall, dCallK, dCallP, dv, dc, dOp, dCmp, dCmpT, dUn, dNeg, dIsi, dLst, dTup, dRev, dSlice, dChain, dChainT, dApp, dSortedO, dNotInO, dLc, dYes, aCons, aNil, aStar, oNo, oIs, tTupD, tsCons, tsNil, tn, iSeq, iEnumD, iRng1D, iRng2D, bI, bIsN, bNotN, dI20, dI2, dLen, dTupF, dListF, dInt1, dII, dRepr, dSorted, isDeck, isOwn, freeSlot, endD, startD, startK, startL, List.map, List.length, List.replicate, List.cons_append, List.nil_append, List.append_nil, List.getElem?_cons_succ, List.getElem?_cons_zero, Nat.reduceAdd, Nat.reduceSub, List.set, Bool.and_true, Bool.true_and, Bool.and_false, Bool.false_and, Bool.not_true, Bool.not_false, Nat.reduceBEq, beq_self_eq_true, reduceIte, reduceCtorEq, isNoneD, wipeD, freeAll, List.all_cons, List.all_nil, Kt.at0, Kt.at1, Kt.at2, true_and, and_true, List.getElem?_cons_succ, t_is_piece, n_is_piece, g_is_tuple_of, g_is_below, dGet]
    cases e : tupN 2 d with
    | false => rw [piece_tup e] at h; exact h
    | true =>
      obtain ⟨a, b, rfl⟩ := tup2 e
      have h : A (.bool (belowD n a && belowD 6 b)) := h
      simp only [sSeq, sCut, sIf, sNext, sRet, sAsg, sPar, sPar3, sDrop, sBreak, sCont, sOwn, sFor, sForI, sWhile, dNot, dB, dAnd, dOr, dAndV, dOrV, dNotV, dIf, dCall, dCallK, dCallP, dv, dc, dOp, dCmp, dCmpT, dUn, dNeg, dIsi, dLst, dTup, dRev, dSlice, dChain, dChainT, dApp, dSortedO, dNotInO, dLc, dYes, aCons, aNil, aStar, oNo, oIs, tTupD, tsCons, tsNil, tn, iSeq, iEnumD, iRng1D, iRng2D, bI, bIsN, bNotN, dI20, dI2, dLen, dTupF, dListF, dInt1, dII, dRepr, dSorted, isDeck, isOwn, freeSlot, endD, startD, startK, startL, List.map, List.length, List.replicate, List.cons_append, List.nil_append, List.append_nil, List.getElem?_cons_succ, List.getElem?_cons_zero, Nat.reduceAdd, Nat.reduceSub, List.set, Bool.and_true, Bool.true_and, Bool.and_false, Bool.false_and, Bool.not_true, Bool.not_false, Nat.reduceBEq, beq_self_eq_true, reduceIte, reduceCtorEq, isNoneD, wipeD, freeAll, List.all_cons, List.all_nil, Kt.at0, Kt.at1, Kt.at2, true_and, and_true, List.getElem?_cons_succ]
      cases e1 : belowD n a with
      | false => rw [e1] at h; exact h
      | true => rw [e1] at h; exact h
theorem boardErr_form {d : PyData} (h : tupN 2 d = false) : boardErr d = .str "form" := by
  unfold boardErr
  split
  · exact absurd h (by simp [tupN])
  · rfl
theorem boardErr_chart {ch ps : PyData} (h : isNoneD (chartErr ch) = false) : boardErr (.tuple [ch, ps]) = .tuple [.str "chart", chartErr ch] := by
  unfold boardErr
  simp only []
  split
  · rename_i e; rw [e] at h; cases h
  · rfl
theorem boardErr_on {n : Int} {r c ps : PyData} (h : chartErr (.tuple [.int n, r, c]) = .none) : boardErr (.tuple [.tuple [.int n, r, c], ps]) = match ps with
    | .tuple qs => if qs.length ≤ 16 then match firstBad (badP n qs) qs.length with
          | some i => .tuple [.str "piece", .int (i : Nat)]
          | none => .none
        else .str "pieces"
    | _ => .str "pieces" := by
  unfold boardErr
  simp only [h]
  cases ps <;> rfl
theorem isNone_iff {d : PyData} : isNoneD d = true ↔ d = .none := by cases d <;> simp [isNoneD]
def fewB : PyData → Prop
  | .tuple [ch, _] => fewD SZ ch
  | _ => True
def g_board_error : RDn := fun ds A => match ds with
  | [d] => fewB d ∧ A (boardErr d)
  | _ => False
theorem getD_b {n : Int} {qs : List PyData} {i : Nat} {x : PyData} (h : qs[i]? = some x) : badP n qs i = (!pieceD n x || (decide (0 < i) && leB (fstD x) (fstD (qs.getD (i - 1) .none)))) := by
  unfold badP
  rw [getD_at h]
def LB (a b c e : PyData) (n : Int) (qs : List PyData) (i : Nat) (ρ : Rho) : Prop := (∃ o4 o5, ρ = [some (.dat a), some (.dat b), some (.dat c), some (.dat e), o4, o5] ∧ freeSlot (some o4) = true ∧ freeSlot (some o5) = true) ∧ ∀ j, j < i → badP n qs j = false
theorem rd_board_error : ∀ ds A, g_board_error ds A → ds.length = 1 ∧ t_board_error g_is_tuple_of g_chart_error g_is_piece (endD A) (startD n_board_error ds) := by
  intro ds A h
  match ds, h with
  | [d], h =>
    refine ⟨rfl, ?_⟩
    obtain ⟨hf, h⟩ := h
    simp only [sSeq, sCut, sIf, sNext, sRet, sAsg, sPar, sPar3, sDrop, sBreak, sCont, sOwn, sFor, sForI, sWhile, dNot, dB, dAnd, dOr, dAndV, dOrV, dNotV, dIf, dCall, dCallK, dCallP, dv, dc, dOp, dCmp, dCmpT, dUn, dNeg, dIsi, dLst, dTup, dRev, dSlice, dChain, dChainT, dApp, dSortedO, dNotInO, dLc, dYes, aCons, aNil, aStar, oNo, oIs, tTupD, tsCons, tsNil, tn, iSeq, iEnumD, iRng1D, iRng2D, bI, bIsN, bNotN, dI20, dI2, dLen, dTupF, dListF, dInt1, dII, dRepr, dSorted, isDeck, isOwn, freeSlot, endD, startD, startK, startL, List.map, List.length, List.replicate, List.cons_append, List.nil_append, List.append_nil, List.getElem?_cons_succ, List.getElem?_cons_zero, Nat.reduceAdd, Nat.reduceSub, List.set, Bool.and_true, Bool.true_and, Bool.and_false, Bool.false_and, Bool.not_true, Bool.not_false, Nat.reduceBEq, beq_self_eq_true, reduceIte, reduceCtorEq, isNoneD, wipeD, freeAll, List.all_cons, List.all_nil, Kt.at0, Kt.at1, Kt.at2, true_and, and_true, List.getElem?_cons_succ, t_board_error, n_board_error, dGet, g_is_tuple_of, g_chart_error]
    cases e : tupN 2 d with
    | false => rw [boardErr_form e] at h; exact h
    | true =>
      obtain ⟨ch, ps, rfl⟩ := tup2 e
      simp only [sSeq, sCut, sIf, sNext, sRet, sAsg, sPar, sPar3, sDrop, sBreak, sCont, sOwn, sFor, sForI, sWhile, dNot, dB, dAnd, dOr, dAndV, dOrV, dNotV, dIf, dCall, dCallK, dCallP, dv, dc, dOp, dCmp, dCmpT, dUn, dNeg, dIsi, dLst, dTup, dRev, dSlice, dChain, dChainT, dApp, dSortedO, dNotInO, dLc, dYes, aCons, aNil, aStar, oNo, oIs, tTupD, tsCons, tsNil, tn, iSeq, iEnumD, iRng1D, iRng2D, bI, bIsN, bNotN, dI20, dI2, dLen, dTupF, dListF, dInt1, dII, dRepr, dSorted, isDeck, isOwn, freeSlot, endD, startD, startK, startL, List.map, List.length, List.replicate, List.cons_append, List.nil_append, List.append_nil, List.getElem?_cons_succ, List.getElem?_cons_zero, Nat.reduceAdd, Nat.reduceSub, List.set, Bool.and_true, Bool.true_and, Bool.and_false, Bool.false_and, Bool.not_true, Bool.not_false, Nat.reduceBEq, beq_self_eq_true, reduceIte, reduceCtorEq, isNoneD, wipeD, freeAll, List.all_cons, List.all_nil, Kt.at0, Kt.at1, Kt.at2, true_and, and_true, List.getElem?_cons_succ]
      refine ⟨hf, ?_⟩
      cases en : isNoneD (chartErr ch) with
      | false =>
        rw [boardErr_chart en] at h
        simp only [isNoneD] at en
        simp only [en, Bool.not_false]
        exact ⟨by decide, h⟩
      | true =>
        have en2 := isNone_iff.mp en
        obtain ⟨n, rs, cs, rfl, hn, ht⟩ := err_none en2
        rw [boardErr_on en2] at h
        rw [en2]
        simp only [sSeq, sCut, sIf, sNext, sRet, sAsg, sPar, sPar3, sDrop, sBreak, sCont, sOwn, sFor, sForI, sWhile, dNot, dB, dAnd, dOr, dAndV, dOrV, dNotV, dIf, dCall, dCallK, dCallP, dv, dc, dOp, dCmp, dCmpT, dUn, dNeg, dIsi, dLst, dTup, dRev, dSlice, dChain, dChainT, dApp, dSortedO, dNotInO, dLc, dYes, aCons, aNil, aStar, oNo, oIs, tTupD, tsCons, tsNil, tn, iSeq, iEnumD, iRng1D, iRng2D, bI, bIsN, bNotN, dI20, dI2, dLen, dTupF, dListF, dInt1, dII, dRepr, dSorted, isDeck, isOwn, freeSlot, endD, startD, startK, startL, List.map, List.length, List.replicate, List.cons_append, List.nil_append, List.append_nil, List.getElem?_cons_succ, List.getElem?_cons_zero, Nat.reduceAdd, Nat.reduceSub, List.set, Bool.and_true, Bool.true_and, Bool.and_false, Bool.false_and, Bool.not_true, Bool.not_false, Nat.reduceBEq, beq_self_eq_true, reduceIte, reduceCtorEq, isNoneD, wipeD, freeAll, List.all_cons, List.all_nil, Kt.at0, Kt.at1, Kt.at2, true_and, and_true, List.getElem?_cons_succ]
        cases et : isTupD ps with
        | false =>
          have : A (.str "pieces") := by cases ps <;> first | exact h | (cases et; done)
          exact this
        | true =>
          obtain ⟨qs, rfl⟩ := isTup_form et
          simp only [sSeq, sCut, sIf, sNext, sRet, sAsg, sPar, sPar3, sDrop, sBreak, sCont, sOwn, sFor, sForI, sWhile, dNot, dB, dAnd, dOr, dAndV, dOrV, dNotV, dIf, dCall, dCallK, dCallP, dv, dc, dOp, dCmp, dCmpT, dUn, dNeg, dIsi, dLst, dTup, dRev, dSlice, dChain, dChainT, dApp, dSortedO, dNotInO, dLc, dYes, aCons, aNil, aStar, oNo, oIs, tTupD, tsCons, tsNil, tn, iSeq, iEnumD, iRng1D, iRng2D, bI, bIsN, bNotN, dI20, dI2, dLen, dTupF, dListF, dInt1, dII, dRepr, dSorted, isDeck, isOwn, freeSlot, endD, startD, startK, startL, List.map, List.length, List.replicate, List.cons_append, List.nil_append, List.append_nil, List.getElem?_cons_succ, List.getElem?_cons_zero, Nat.reduceAdd, Nat.reduceSub, List.set, Bool.and_true, Bool.true_and, Bool.and_false, Bool.false_and, Bool.not_true, Bool.not_false, Nat.reduceBEq, beq_self_eq_true, reduceIte, reduceCtorEq, isNoneD, wipeD, freeAll, List.all_cons, List.all_nil, Kt.at0, Kt.at1, Kt.at2, true_and, and_true, List.getElem?_cons_succ]
          by_cases hl : qs.length ≤ 16
          · have h : A (match firstBad (badP n qs) qs.length with
              | some i => .tuple [.str "piece", .int (i : Nat)]
              | none => .none) := by simpa only [if_pos hl] using h
            have hl2 : decide ((16 : Int) < (qs.length : Nat)) = false := decide_eq_false (by omega)
            simp only [hl2]
            refine ⟨LB _ _ _ _ n qs, ⟨⟨none, none, rfl, rfl, rfl⟩, fun j hj => absurd hj (Nat.not_lt_zero _)⟩, ?_, ?_⟩
            · rintro i d ρ hd ⟨⟨o4, o5, rfl, f4, f5⟩, hb⟩
              obtain ⟨x, hx, rfl⟩ := enumD_at hd
              have hi : i < qs.length := (List.getElem?_eq_some_iff.mp hx).1
              simp only [freeSlot] at f4 f5
              simp only [sSeq, sCut, sIf, sNext, sRet, sAsg, sPar, sPar3, sDrop, sBreak, sCont, sOwn, sFor, sForI, sWhile, dNot, dB, dAnd, dOr, dAndV, dOrV, dNotV, dIf, dCall, dCallK, dCallP, dv, dc, dOp, dCmp, dCmpT, dUn, dNeg, dIsi, dLst, dTup, dRev, dSlice, dChain, dChainT, dApp, dSortedO, dNotInO, dLc, dYes, aCons, aNil, aStar, oNo, oIs, tTupD, tsCons, tsNil, tn, iSeq, iEnumD, iRng1D, iRng2D, bI, bIsN, bNotN, dI20, dI2, dLen, dTupF, dListF, dInt1, dII, dRepr, dSorted, isDeck, isOwn, freeSlot, endD, startD, startK, startL, List.map, List.length, List.replicate, List.cons_append, List.nil_append, List.append_nil, List.getElem?_cons_succ, List.getElem?_cons_zero, Nat.reduceAdd, Nat.reduceSub, List.set, Bool.and_true, Bool.true_and, Bool.and_false, Bool.false_and, Bool.not_true, Bool.not_false, Nat.reduceBEq, beq_self_eq_true, reduceIte, reduceCtorEq, isNoneD, wipeD, freeAll, List.all_cons, List.all_nil, Kt.at0, Kt.at1, Kt.at2, true_and, and_true, List.getElem?_cons_succ, f4, f5, g_is_piece]
              have hbad := getD_b (n := n) hx
              have fin : badP n qs i = true → 2 ≤ SZ ∧ A (.tuple [.str "piece", .int (i : Nat)]) := fun e => by
                rw [firstBad_some hi e hb] at h
                exact ⟨by decide, h⟩
              have nxt : badP n qs i = false → ∀ j, j < i + 1 → badP n qs j = false := fun e j hj => by
                by_cases z : j = i
                · rw [z]; exact e
                · exact hb j (by omega)
              cases ex : pieceD n x with
              | false => exact fin (by rw [hbad, ex]; rfl)
              | true =>
                simp only [sSeq, sCut, sIf, sNext, sRet, sAsg, sPar, sPar3, sDrop, sBreak, sCont, sOwn, sFor, sForI, sWhile, dNot, dB, dAnd, dOr, dAndV, dOrV, dNotV, dIf, dCall, dCallK, dCallP, dv, dc, dOp, dCmp, dCmpT, dUn, dNeg, dIsi, dLst, dTup, dRev, dSlice, dChain, dChainT, dApp, dSortedO, dNotInO, dLc, dYes, aCons, aNil, aStar, oNo, oIs, tTupD, tsCons, tsNil, tn, iSeq, iEnumD, iRng1D, iRng2D, bI, bIsN, bNotN, dI20, dI2, dLen, dTupF, dListF, dInt1, dII, dRepr, dSorted, isDeck, isOwn, freeSlot, endD, startD, startK, startL, List.map, List.length, List.replicate, List.cons_append, List.nil_append, List.append_nil, List.getElem?_cons_succ, List.getElem?_cons_zero, Nat.reduceAdd, Nat.reduceSub, List.set, Bool.and_true, Bool.true_and, Bool.and_false, Bool.false_and, Bool.not_true, Bool.not_false, Nat.reduceBEq, beq_self_eq_true, reduceIte, reduceCtorEq, isNoneD, wipeD, freeAll, List.all_cons, List.all_nil, Kt.at0, Kt.at1, Kt.at2, true_and, and_true, List.getElem?_cons_succ]
                by_cases h0 : 0 < i
                · have hc : decide ((0 : Int) < (i : Nat)) = true := decide_eq_true (by omega)
                  simp only [hc]
                  have hi1 : i - 1 < qs.length := by omega
                  obtain ⟨y, hy⟩ : ∃ y, qs[i - 1]? = some y := ⟨_, List.getElem?_eq_getElem hi1⟩
                  have ei : ((i : Nat) : Int) - 1 = ((i - 1 : Nat) : Int) := by omega
                  rw [ei, atI_nat hy]
                  have oky : pieceD n y = true := by
                    have := hb (i - 1) (by omega)
                    unfold badP at this
                    rw [getD_at hy] at this
                    simp only [Bool.or_eq_false_iff, Bool.not_eq_false'] at this
                    exact this.1
                  obtain ⟨a1, b1, rfl⟩ := piece_ok ex
                  obtain ⟨a2, b2, rfl⟩ := piece_ok oky
                  simp only [sSeq, sCut, sIf, sNext, sRet, sAsg, sPar, sPar3, sDrop, sBreak, sCont, sOwn, sFor, sForI, sWhile, dNot, dB, dAnd, dOr, dAndV, dOrV, dNotV, dIf, dCall, dCallK, dCallP, dv, dc, dOp, dCmp, dCmpT, dUn, dNeg, dIsi, dLst, dTup, dRev, dSlice, dChain, dChainT, dApp, dSortedO, dNotInO, dLc, dYes, aCons, aNil, aStar, oNo, oIs, tTupD, tsCons, tsNil, tn, iSeq, iEnumD, iRng1D, iRng2D, bI, bIsN, bNotN, dI20, dI2, dLen, dTupF, dListF, dInt1, dII, dRepr, dSorted, isDeck, isOwn, freeSlot, endD, startD, startK, startL, List.map, List.length, List.replicate, List.cons_append, List.nil_append, List.append_nil, List.getElem?_cons_succ, List.getElem?_cons_zero, Nat.reduceAdd, Nat.reduceSub, List.set, Bool.and_true, Bool.true_and, Bool.and_false, Bool.false_and, Bool.not_true, Bool.not_false, Nat.reduceBEq, beq_self_eq_true, reduceIte, reduceCtorEq, isNoneD, wipeD, freeAll, List.all_cons, List.all_nil, Kt.at0, Kt.at1, Kt.at2, true_and, and_true, List.getElem?_cons_succ]
                  rw [getD_at hy] at hbad
                  show bLe (.int a1) (.int a2) _
                  unfold bLe
                  have el : leD (.int a1) (.int a2) = some (leB (fstD (.tuple [.int a1, .int b1])) (fstD (.tuple [.int a2, .int b2]))) := rfl
                  rw [el]
                  cases e2 : leB (fstD (.tuple [.int a1, .int b1])) (fstD (.tuple [.int a2, .int b2])) with
                  | true => exact fin (by rw [hbad, e2]; simp [h0])
                  | false => exact ⟨⟨_, _, rfl, rfl, rfl⟩, nxt (by rw [hbad, ex, e2]; simp)⟩
                · have hc : decide ((0 : Int) < (i : Nat)) = false := decide_eq_false (by omega)
                  simp only [hc]
                  exact ⟨⟨_, _, rfl, rfl, rfl⟩, nxt (by rw [hbad, ex]; simp [h0])⟩
            · rintro ρ ⟨_, hb⟩
              rw [enumD_len] at hb
              rw [firstBad_none hb] at h
              exact h
          · have h : A (.str "pieces") := by simpa only [if_neg hl] using h
            have hl2 : decide ((16 : Int) < (qs.length : Nat)) = true := decide_eq_true (by omega)
            simp only [hl2]
            exact h
def g_law_board_slip : RDn := fun ds A => match ds with
  | [ch, ps] => A (boardErr (.tuple [ch, ps]))
  | _ => False
theorem rd_law_board_slip : ∀ ds A, g_law_board_slip ds A → ds.length = 2 ∧ t_law_board_slip g_law_chart_slip g_law_is_whole (endD A) (startD n_law_board_slip ds) := by
  intro ds A h
  match ds, h with
  | [ch, ps], h =>
    refine ⟨rfl, ?_⟩
    have h : A (boardErr (.tuple [ch, ps])) := h
    simp only [sSeq, sCut, sIf, sNext, sRet, sAsg, sPar, sPar3, sDrop, sBreak, sCont, sOwn, sFor, sForI, sWhile, dNot, dB, dAnd, dOr, dAndV, dOrV, dNotV, dIf, dCall, dCallK, dCallP, dv, dc, dOp, dCmp, dCmpT, dUn, dNeg, dIsi, dLst, dTup, dRev, dSlice, dChain, dChainT, dApp, dSortedO, dNotInO, dLc, dYes, aCons, aNil, aStar, oNo, oIs, tTupD, tsCons, tsNil, tn, iSeq, iEnumD, iRng1D, iRng2D, bI, bIsN, bNotN, dI20, dI2, dLen, dTupF, dListF, dInt1, dII, dRepr, dSorted, isDeck, isOwn, freeSlot, endD, startD, startK, startL, List.map, List.length, List.replicate, List.cons_append, List.nil_append, List.append_nil, List.getElem?_cons_succ, List.getElem?_cons_zero, Nat.reduceAdd, Nat.reduceSub, List.set, Bool.and_true, Bool.true_and, Bool.and_false, Bool.false_and, Bool.not_true, Bool.not_false, Nat.reduceBEq, beq_self_eq_true, reduceIte, reduceCtorEq, isNoneD, wipeD, freeAll, List.all_cons, List.all_nil, Kt.at0, Kt.at1, Kt.at2, true_and, and_true, List.getElem?_cons_succ, t_law_board_slip, n_law_board_slip, dGet, g_law_chart_slip, g_law_is_whole]
    cases en : isNoneD (chartErr ch) with
    | false =>
      rw [boardErr_chart en] at h
      simp only [isNoneD] at en
      simp only [en, Bool.not_false]
      exact ⟨by decide, h⟩
    | true =>
      have en2 := isNone_iff.mp en
      obtain ⟨n, rs, cs, rfl, hn, ht⟩ := err_none en2
      rw [boardErr_on en2] at h
      rw [en2]
      simp only [sSeq, sCut, sIf, sNext, sRet, sAsg, sPar, sPar3, sDrop, sBreak, sCont, sOwn, sFor, sForI, sWhile, dNot, dB, dAnd, dOr, dAndV, dOrV, dNotV, dIf, dCall, dCallK, dCallP, dv, dc, dOp, dCmp, dCmpT, dUn, dNeg, dIsi, dLst, dTup, dRev, dSlice, dChain, dChainT, dApp, dSortedO, dNotInO, dLc, dYes, aCons, aNil, aStar, oNo, oIs, tTupD, tsCons, tsNil, tn, iSeq, iEnumD, iRng1D, iRng2D, bI, bIsN, bNotN, dI20, dI2, dLen, dTupF, dListF, dInt1, dII, dRepr, dSorted, isDeck, isOwn, freeSlot, endD, startD, startK, startL, List.map, List.length, List.replicate, List.cons_append, List.nil_append, List.append_nil, List.getElem?_cons_succ, List.getElem?_cons_zero, Nat.reduceAdd, Nat.reduceSub, List.set, Bool.and_true, Bool.true_and, Bool.and_false, Bool.false_and, Bool.not_true, Bool.not_false, Nat.reduceBEq, beq_self_eq_true, reduceIte, reduceCtorEq, isNoneD, wipeD, freeAll, List.all_cons, List.all_nil, Kt.at0, Kt.at1, Kt.at2, true_and, and_true, List.getElem?_cons_succ]
      cases et : isTupD ps with
      | false =>
        have : A (.str "pieces") := by cases ps <;> first | exact h | (cases et; done)
        exact this
      | true =>
        obtain ⟨qs, rfl⟩ := isTup_form et
        simp only [sSeq, sCut, sIf, sNext, sRet, sAsg, sPar, sPar3, sDrop, sBreak, sCont, sOwn, sFor, sForI, sWhile, dNot, dB, dAnd, dOr, dAndV, dOrV, dNotV, dIf, dCall, dCallK, dCallP, dv, dc, dOp, dCmp, dCmpT, dUn, dNeg, dIsi, dLst, dTup, dRev, dSlice, dChain, dChainT, dApp, dSortedO, dNotInO, dLc, dYes, aCons, aNil, aStar, oNo, oIs, tTupD, tsCons, tsNil, tn, iSeq, iEnumD, iRng1D, iRng2D, bI, bIsN, bNotN, dI20, dI2, dLen, dTupF, dListF, dInt1, dII, dRepr, dSorted, isDeck, isOwn, freeSlot, endD, startD, startK, startL, List.map, List.length, List.replicate, List.cons_append, List.nil_append, List.append_nil, List.getElem?_cons_succ, List.getElem?_cons_zero, Nat.reduceAdd, Nat.reduceSub, List.set, Bool.and_true, Bool.true_and, Bool.and_false, Bool.false_and, Bool.not_true, Bool.not_false, Nat.reduceBEq, beq_self_eq_true, reduceIte, reduceCtorEq, isNoneD, wipeD, freeAll, List.all_cons, List.all_nil, Kt.at0, Kt.at1, Kt.at2, true_and, and_true, List.getElem?_cons_succ]
        by_cases hl : qs.length ≤ 16
        · have h : A (match firstBad (badP n qs) qs.length with
            | some i => .tuple [.str "piece", .int (i : Nat)]
            | none => .none) := by simpa only [if_pos hl] using h
          have hl2 : decide ((16 : Int) < (qs.length : Nat)) = false := decide_eq_false (by omega)
          simp only [hl2]
          refine ⟨fun i ρ => (∃ o2 o3, ρ = [some (.dat (.tuple [.int n, .tuple rs, .tuple cs])), some (.dat (.tuple qs)), o2, o3] ∧ freeSlot (some o2) = true ∧ freeSlot (some o3) = true) ∧ ∀ j, j < i → badP n qs j = false, ⟨⟨none, none, rfl, rfl, rfl⟩, fun j hj => absurd hj (Nat.not_lt_zero _)⟩, ?_, ?_⟩
          · rintro i d ρ hd ⟨⟨o4, o5, rfl, f4, f5⟩, hb⟩
            obtain ⟨x, hx, rfl⟩ := enumD_at hd
            have hi : i < qs.length := (List.getElem?_eq_some_iff.mp hx).1
            simp only [freeSlot] at f4 f5
            simp only [sSeq, sCut, sIf, sNext, sRet, sAsg, sPar, sPar3, sDrop, sBreak, sCont, sOwn, sFor, sForI, sWhile, dNot, dB, dAnd, dOr, dAndV, dOrV, dNotV, dIf, dCall, dCallK, dCallP, dv, dc, dOp, dCmp, dCmpT, dUn, dNeg, dIsi, dLst, dTup, dRev, dSlice, dChain, dChainT, dApp, dSortedO, dNotInO, dLc, dYes, aCons, aNil, aStar, oNo, oIs, tTupD, tsCons, tsNil, tn, iSeq, iEnumD, iRng1D, iRng2D, bI, bIsN, bNotN, dI20, dI2, dLen, dTupF, dListF, dInt1, dII, dRepr, dSorted, isDeck, isOwn, freeSlot, endD, startD, startK, startL, List.map, List.length, List.replicate, List.cons_append, List.nil_append, List.append_nil, List.getElem?_cons_succ, List.getElem?_cons_zero, Nat.reduceAdd, Nat.reduceSub, List.set, Bool.and_true, Bool.true_and, Bool.and_false, Bool.false_and, Bool.not_true, Bool.not_false, Nat.reduceBEq, beq_self_eq_true, reduceIte, reduceCtorEq, isNoneD, wipeD, freeAll, List.all_cons, List.all_nil, Kt.at0, Kt.at1, Kt.at2, true_and, and_true, List.getElem?_cons_succ, f4, f5]
            have hbad := getD_b (n := n) hx
            have fin : badP n qs i = true → 2 ≤ SZ ∧ A (.tuple [.str "piece", .int (i : Nat)]) := fun e => by
              rw [firstBad_some hi e hb] at h
              exact ⟨by decide, h⟩
            have nxt : badP n qs i = false → ∀ j, j < i + 1 → badP n qs j = false := fun e j hj => by
              by_cases z : j = i
              · rw [z]; exact e
              · exact hb j (by omega)
            cases ex : isTupD x with
            | false => exact fin (by rw [hbad, piece_tup (by cases x <;> first | rfl | (cases ex; done))]; rfl)
            | true =>
              obtain ⟨us, rfl⟩ := isTup_form ex
              simp only [sSeq, sCut, sIf, sNext, sRet, sAsg, sPar, sPar3, sDrop, sBreak, sCont, sOwn, sFor, sForI, sWhile, dNot, dB, dAnd, dOr, dAndV, dOrV, dNotV, dIf, dCall, dCallK, dCallP, dv, dc, dOp, dCmp, dCmpT, dUn, dNeg, dIsi, dLst, dTup, dRev, dSlice, dChain, dChainT, dApp, dSortedO, dNotInO, dLc, dYes, aCons, aNil, aStar, oNo, oIs, tTupD, tsCons, tsNil, tn, iSeq, iEnumD, iRng1D, iRng2D, bI, bIsN, bNotN, dI20, dI2, dLen, dTupF, dListF, dInt1, dII, dRepr, dSorted, isDeck, isOwn, freeSlot, endD, startD, startK, startL, List.map, List.length, List.replicate, List.cons_append, List.nil_append, List.append_nil, List.getElem?_cons_succ, List.getElem?_cons_zero, Nat.reduceAdd, Nat.reduceSub, List.set, Bool.and_true, Bool.true_and, Bool.and_false, Bool.false_and, Bool.not_true, Bool.not_false, Nat.reduceBEq, beq_self_eq_true, reduceIte, reduceCtorEq, isNoneD, wipeD, freeAll, List.all_cons, List.all_nil, Kt.at0, Kt.at1, Kt.at2, true_and, and_true, List.getElem?_cons_succ]
              refine bNe_int ?_
              cases el2 : decide (((us.length : Nat) : Int) = 2) with
              | false => exact fin (by rw [hbad, piece_tup (show tupN 2 (.tuple us) = false from el2)]; rfl)
              | true =>
                obtain ⟨u, v, e⟩ := tup2 (show tupN 2 (.tuple us) = true from el2)
                cases e
                simp only [sSeq, sCut, sIf, sNext, sRet, sAsg, sPar, sPar3, sDrop, sBreak, sCont, sOwn, sFor, sForI, sWhile, dNot, dB, dAnd, dOr, dAndV, dOrV, dNotV, dIf, dCall, dCallK, dCallP, dv, dc, dOp, dCmp, dCmpT, dUn, dNeg, dIsi, dLst, dTup, dRev, dSlice, dChain, dChainT, dApp, dSortedO, dNotInO, dLc, dYes, aCons, aNil, aStar, oNo, oIs, tTupD, tsCons, tsNil, tn, iSeq, iEnumD, iRng1D, iRng2D, bI, bIsN, bNotN, dI20, dI2, dLen, dTupF, dListF, dInt1, dII, dRepr, dSorted, isDeck, isOwn, freeSlot, endD, startD, startK, startL, List.map, List.length, List.replicate, List.cons_append, List.nil_append, List.append_nil, List.getElem?_cons_succ, List.getElem?_cons_zero, Nat.reduceAdd, Nat.reduceSub, List.set, Bool.and_true, Bool.true_and, Bool.and_false, Bool.false_and, Bool.not_true, Bool.not_false, Nat.reduceBEq, beq_self_eq_true, reduceIte, reduceCtorEq, isNoneD, wipeD, freeAll, List.all_cons, List.all_nil, Kt.at0, Kt.at1, Kt.at2, true_and, and_true, List.getElem?_cons_succ]
                rw [whole_below]
                rw [show pieceD n (.tuple [u, v]) = (belowD n u && belowD 6 v) from rfl] at hbad
                cases eu : belowD n u with
                | false => exact fin (by rw [hbad, eu]; rfl)
                | true =>
                  simp only [sSeq, sCut, sIf, sNext, sRet, sAsg, sPar, sPar3, sDrop, sBreak, sCont, sOwn, sFor, sForI, sWhile, dNot, dB, dAnd, dOr, dAndV, dOrV, dNotV, dIf, dCall, dCallK, dCallP, dv, dc, dOp, dCmp, dCmpT, dUn, dNeg, dIsi, dLst, dTup, dRev, dSlice, dChain, dChainT, dApp, dSortedO, dNotInO, dLc, dYes, aCons, aNil, aStar, oNo, oIs, tTupD, tsCons, tsNil, tn, iSeq, iEnumD, iRng1D, iRng2D, bI, bIsN, bNotN, dI20, dI2, dLen, dTupF, dListF, dInt1, dII, dRepr, dSorted, isDeck, isOwn, freeSlot, endD, startD, startK, startL, List.map, List.length, List.replicate, List.cons_append, List.nil_append, List.append_nil, List.getElem?_cons_succ, List.getElem?_cons_zero, Nat.reduceAdd, Nat.reduceSub, List.set, Bool.and_true, Bool.true_and, Bool.and_false, Bool.false_and, Bool.not_true, Bool.not_false, Nat.reduceBEq, beq_self_eq_true, reduceIte, reduceCtorEq, isNoneD, wipeD, freeAll, List.all_cons, List.all_nil, Kt.at0, Kt.at1, Kt.at2, true_and, and_true, List.getElem?_cons_succ]
                  rw [show (5 : Int) = 6 - 1 from rfl, whole_below]
                  cases ev : belowD 6 v with
                  | false => exact fin (by rw [hbad, eu, ev]; rfl)
                  | true =>
                    simp only [sSeq, sCut, sIf, sNext, sRet, sAsg, sPar, sPar3, sDrop, sBreak, sCont, sOwn, sFor, sForI, sWhile, dNot, dB, dAnd, dOr, dAndV, dOrV, dNotV, dIf, dCall, dCallK, dCallP, dv, dc, dOp, dCmp, dCmpT, dUn, dNeg, dIsi, dLst, dTup, dRev, dSlice, dChain, dChainT, dApp, dSortedO, dNotInO, dLc, dYes, aCons, aNil, aStar, oNo, oIs, tTupD, tsCons, tsNil, tn, iSeq, iEnumD, iRng1D, iRng2D, bI, bIsN, bNotN, dI20, dI2, dLen, dTupF, dListF, dInt1, dII, dRepr, dSorted, isDeck, isOwn, freeSlot, endD, startD, startK, startL, List.map, List.length, List.replicate, List.cons_append, List.nil_append, List.append_nil, List.getElem?_cons_succ, List.getElem?_cons_zero, Nat.reduceAdd, Nat.reduceSub, List.set, Bool.and_true, Bool.true_and, Bool.and_false, Bool.false_and, Bool.not_true, Bool.not_false, Nat.reduceBEq, beq_self_eq_true, reduceIte, reduceCtorEq, isNoneD, wipeD, freeAll, List.all_cons, List.all_nil, Kt.at0, Kt.at1, Kt.at2, true_and, and_true, List.getElem?_cons_succ]
                    by_cases h0 : 0 < i
                    · have hc : decide ((0 : Int) < (i : Nat)) = true := decide_eq_true (by omega)
                      simp only [hc]
                      have hi1 : i - 1 < qs.length := by omega
                      obtain ⟨y, hy⟩ : ∃ y, qs[i - 1]? = some y := ⟨_, List.getElem?_eq_getElem hi1⟩
                      have ei : ((i : Nat) : Int) - 1 = ((i - 1 : Nat) : Int) := by omega
                      rw [ei, atI_nat hy]
                      have oky : pieceD n y = true := by
                        have := hb (i - 1) (by omega)
                        unfold badP at this
                        rw [getD_at hy] at this
                        simp only [Bool.or_eq_false_iff, Bool.not_eq_false'] at this
                        exact this.1
                      obtain ⟨a2, b2, rfl⟩ := piece_ok oky
                      cases u <;> first | (cases eu; done) | skip
                      rename_i a1
                      simp only [sSeq, sCut, sIf, sNext, sRet, sAsg, sPar, sPar3, sDrop, sBreak, sCont, sOwn, sFor, sForI, sWhile, dNot, dB, dAnd, dOr, dAndV, dOrV, dNotV, dIf, dCall, dCallK, dCallP, dv, dc, dOp, dCmp, dCmpT, dUn, dNeg, dIsi, dLst, dTup, dRev, dSlice, dChain, dChainT, dApp, dSortedO, dNotInO, dLc, dYes, aCons, aNil, aStar, oNo, oIs, tTupD, tsCons, tsNil, tn, iSeq, iEnumD, iRng1D, iRng2D, bI, bIsN, bNotN, dI20, dI2, dLen, dTupF, dListF, dInt1, dII, dRepr, dSorted, isDeck, isOwn, freeSlot, endD, startD, startK, startL, List.map, List.length, List.replicate, List.cons_append, List.nil_append, List.append_nil, List.getElem?_cons_succ, List.getElem?_cons_zero, Nat.reduceAdd, Nat.reduceSub, List.set, Bool.and_true, Bool.true_and, Bool.and_false, Bool.false_and, Bool.not_true, Bool.not_false, Nat.reduceBEq, beq_self_eq_true, reduceIte, reduceCtorEq, isNoneD, wipeD, freeAll, List.all_cons, List.all_nil, Kt.at0, Kt.at1, Kt.at2, true_and, and_true, List.getElem?_cons_succ]
                      rw [getD_at hy] at hbad
                      show bLe (.int a1) (.int a2) _
                      unfold bLe
                      have el : leD (.int a1) (.int a2) = some (leB (fstD (.tuple [.int a1, v])) (fstD (.tuple [.int a2, .int b2]))) := rfl
                      rw [el]
                      cases e2 : leB (fstD (.tuple [.int a1, v])) (fstD (.tuple [.int a2, .int b2])) with
                      | true => exact fin (by rw [hbad, e2]; simp [h0])
                      | false => exact ⟨⟨_, _, rfl, rfl, rfl⟩, nxt (by rw [hbad, eu, ev, e2]; simp)⟩
                    · have hc : decide ((0 : Int) < (i : Nat)) = false := decide_eq_false (by omega)
                      simp only [hc]
                      exact ⟨⟨_, _, rfl, rfl, rfl⟩, nxt (by rw [hbad, eu, ev]; simp [h0])⟩
          · rintro ρ ⟨_, hb⟩
            rw [enumD_len] at hb
            rw [firstBad_none hb] at h
            exact h
        · have h : A (.str "pieces") := by simpa only [if_neg hl] using h
          have hl2 : decide ((16 : Int) < (qs.length : Nat)) = true := decide_eq_true (by omega)
          simp only [hl2]
          exact h
def g_law_due : RDn := fun ds A => match ds with
  | [d] => A (boardErr d)
  | _ => False
theorem rd_law_due : ∀ ds A, g_law_due ds A → ds.length = 1 ∧ t_law_due g_law_board_slip (endD A) (startD n_law_due ds) := by
  intro ds A h
  match ds, h with
  | [d], h =>
    refine ⟨rfl, ?_⟩
    have h : A (boardErr d) := h
    simp only [sSeq, sCut, sIf, sNext, sRet, sAsg, sPar, sPar3, sDrop, sBreak, sCont, sOwn, sFor, sForI, sWhile, dNot, dB, dAnd, dOr, dAndV, dOrV, dNotV, dIf, dCall, dCallK, dCallP, dv, dc, dOp, dCmp, dCmpT, dUn, dNeg, dIsi, dLst, dTup, dRev, dSlice, dChain, dChainT, dApp, dSortedO, dNotInO, dLc, dYes, aCons, aNil, aStar, oNo, oIs, tTupD, tsCons, tsNil, tn, iSeq, iEnumD, iRng1D, iRng2D, bI, bIsN, bNotN, dI20, dI2, dLen, dTupF, dListF, dInt1, dII, dRepr, dSorted, isDeck, isOwn, freeSlot, endD, startD, startK, startL, List.map, List.length, List.replicate, List.cons_append, List.nil_append, List.append_nil, List.getElem?_cons_succ, List.getElem?_cons_zero, Nat.reduceAdd, Nat.reduceSub, List.set, Bool.and_true, Bool.true_and, Bool.and_false, Bool.false_and, Bool.not_true, Bool.not_false, Nat.reduceBEq, beq_self_eq_true, reduceIte, reduceCtorEq, isNoneD, wipeD, freeAll, List.all_cons, List.all_nil, Kt.at0, Kt.at1, Kt.at2, true_and, and_true, List.getElem?_cons_succ, t_law_due, n_law_due, dGet, g_law_board_slip]
    cases et : isTupD d with
    | false =>
      have : tupN 2 d = false := by cases d <;> first | rfl | (cases et; done)
      rw [boardErr_form this] at h
      exact h
    | true =>
      obtain ⟨us, rfl⟩ := isTup_form et
      simp only [sSeq, sCut, sIf, sNext, sRet, sAsg, sPar, sPar3, sDrop, sBreak, sCont, sOwn, sFor, sForI, sWhile, dNot, dB, dAnd, dOr, dAndV, dOrV, dNotV, dIf, dCall, dCallK, dCallP, dv, dc, dOp, dCmp, dCmpT, dUn, dNeg, dIsi, dLst, dTup, dRev, dSlice, dChain, dChainT, dApp, dSortedO, dNotInO, dLc, dYes, aCons, aNil, aStar, oNo, oIs, tTupD, tsCons, tsNil, tn, iSeq, iEnumD, iRng1D, iRng2D, bI, bIsN, bNotN, dI20, dI2, dLen, dTupF, dListF, dInt1, dII, dRepr, dSorted, isDeck, isOwn, freeSlot, endD, startD, startK, startL, List.map, List.length, List.replicate, List.cons_append, List.nil_append, List.append_nil, List.getElem?_cons_succ, List.getElem?_cons_zero, Nat.reduceAdd, Nat.reduceSub, List.set, Bool.and_true, Bool.true_and, Bool.and_false, Bool.false_and, Bool.not_true, Bool.not_false, Nat.reduceBEq, beq_self_eq_true, reduceIte, reduceCtorEq, isNoneD, wipeD, freeAll, List.all_cons, List.all_nil, Kt.at0, Kt.at1, Kt.at2, true_and, and_true, List.getElem?_cons_succ]
      refine bNe_int ?_
      cases el : decide (((us.length : Nat) : Int) = 2) with
      | false =>
        rw [boardErr_form (show tupN 2 (.tuple us) = false from el)] at h
        exact h
      | true =>
        obtain ⟨a, b, e⟩ := tup2 (show tupN 2 (.tuple us) = true from el)
        cases e
        exact h
end Dl

set_option Elab.async false
set_option linter.all false
set_option maxRecDepth 100000
set_option maxHeartbeats 4000000
namespace Dl
open PySem PySem.Spec PyProof.Rows L2 Kt
/-- pieces of a chart of n fields -/
structure PcOk (n : Int) (ps : List (Int × Int)) : Prop where
  fld : ∀ p ∈ ps, 0 ≤ p.1 ∧ p.1 < n ∧ 0 ≤ p.2 ∧ p.2 < 6
  asc : ps.Pairwise fun p q => p.1 < q.1
theorem perm_ints2 {ys : List PyData} {ns : List Int} (h : ys.Perm (ns.map PyData.int)) : ∃ ms : List Int, ys = ms.map PyData.int ∧ ms.Perm ns := by
  let toI : PyData → Int := fun d => match d with
    | .int i => i
    | _ => 0
  have e : ∀ zs : List PyData, (∀ z ∈ zs, ∃ n, z = PyData.int n) → zs = (zs.map toI).map PyData.int := fun zs hz => by
    induction zs with
    | nil => rfl
    | cons z zs ih =>
      obtain ⟨n, rfl⟩ := hz z List.mem_cons_self
      rw [List.map_cons, List.map_cons, ← ih fun x hx => hz x (List.mem_cons_of_mem _ hx)]
  refine ⟨ys.map toI, e ys fun z hz => ?_, ?_⟩
  · obtain ⟨n, _, rfl⟩ := List.mem_map.mp (h.mem_iff.mp hz)
    exact ⟨n, rfl⟩
  · have q := h.map toI
    rw [List.map_map] at q
    have : (toI ∘ PyData.int) = id := rfl
    rw [this, List.map_id] at q
    exact q
theorem cut_sub {xs : List PyData} {lo hi : Option Int} : (cutD xs lo hi).Sublist xs := (List.take_sublist _ _).trans (List.drop_sublist _ _)
theorem cut_first {xs : List PyData} {k : Int} (h : 0 < k) (hx : xs ≠ []) : cutD xs none (some k) ≠ [] := by
  unfold cutD
  have e : k = ((k.toNat : Nat) : Int) := by omega
  rw [HT.sIx_none, e, HT.sIx_nat, List.drop_zero, Nat.sub_zero]
  cases xs with
  | nil => exact absurd rfl hx
  | cons x xs =>
    intro z
    have := congrArg List.length z
    simp at this
    omega
theorem outs_pairs {Post : PyData → Option PyData → Prop} {P : Int → Prop} (hp : ∀ f o, Post (.int f) o → ∃ p, o = some (pD (f, p)) ∧ P p) : ∀ {ms : List Int} {rs : List PyData}, Outs Post (ms.map PyData.int) rs → ∃ ps : List (Int × Int), rs = ps.map pD ∧ ps.map (·.1) = ms ∧ ∀ q ∈ ps, P q.2
  | [], rs, h => by cases h; exact ⟨[], rfl, rfl, by simp⟩
  | m :: ms, rs, h => by
    cases h with
    | no q t => obtain ⟨p, e, _⟩ := hp _ _ q; cases e
    | yes q t =>
      obtain ⟨p, e, hP⟩ := hp _ _ q
      cases e
      obtain ⟨ps, e1, e2, e3⟩ := outs_pairs hp t
      exact ⟨(m, p) :: ps, by rw [e1]; rfl, by rw [← e2]; rfl, fun q hq => by
        rcases List.mem_cons.mp hq with z | z
        · rw [z]; exact hP
        · exact e3 q z⟩
def g_law_pieces : RDn := fun ds A => match ds with
  | [.tuple [.int n, _, _], .int m] => (1 ≤ n ∧ n ≤ 24 ∧ 0 ≤ m) ∧ ∀ ps, PcOk n ps → ps.length ≤ 24 → (ps.length : Int) ≤ m → A (.tuple (ps.map pD))
  | _ => False
theorem int_lay {ns : List Int} : ∀ x ∈ ns.map PyData.int, x.canLay0 = true ∧ x.depth ≤ 60 := fun x hx => by
  obtain ⟨i, _, rfl⟩ := List.mem_map.mp hx
  exact ⟨by simp [PyData.canLay0], by simp [PyData.depth]⟩
theorem cut_len_to {xs : List PyData} {k : Int} (h : 0 ≤ k) : ((cutD xs none (some k)).length : Int) ≤ k := by
  unfold cutD
  have e : k = ((k.toNat : Nat) : Int) := by omega
  rw [HT.sIx_none, e, HT.sIx_nat, List.drop_zero, Nat.sub_zero, List.length_take]
  omega
theorem rd_law_pieces : ∀ ds A, g_law_pieces ds A → ds.length + 1 = 3 ∧ t_law_pieces g_law_mixed g_law_draw g_law_pick (endD A) (startK n_law_pieces ds) := by
  intro ds A h
  match ds, h with
  | [.tuple [.int n, r, c], .int m], h =>
    refine ⟨rfl, ?_⟩
    obtain ⟨⟨n1, n2, m0⟩, k⟩ := h
    simp only [sSeq, sCut, sIf, sNext, sRet, sAsg, sPar, sPar3, sDrop, sBreak, sCont, sOwn, sFor, sForI, sWhile, dNot, dB, dAnd, dOr, dAndV, dOrV, dNotV, dIf, dCall, dCallK, dCallP, dv, dc, dOp, dCmp, dCmpT, dUn, dNeg, dIsi, dLst, dTup, dRev, dSlice, dChain, dChainT, dApp, dSortedO, dNotInO, dLc, dYes, aCons, aNil, aStar, oNo, oIs, tTupD, tsCons, tsNil, tn, iSeq, iEnumD, iRng1D, iRng2D, bI, bIsN, bNotN, dI20, dI2, dLen, dTupF, dListF, dInt1, dII, dRepr, dSorted, isDeck, isOwn, freeSlot, endD, startD, startK, startL, List.map, List.length, List.replicate, List.cons_append, List.nil_append, List.append_nil, List.getElem?_cons_succ, List.getElem?_cons_zero, Nat.reduceAdd, Nat.reduceSub, List.set, Bool.and_true, Bool.true_and, Bool.and_false, Bool.false_and, Bool.not_true, Bool.not_false, Nat.reduceBEq, beq_self_eq_true, reduceIte, reduceCtorEq, isNoneD, wipeD, freeAll, List.all_cons, List.all_nil, Kt.at0, Kt.at1, Kt.at2, true_and, and_true, List.getElem?_cons_succ, t_law_pieces, n_law_pieces, dGet, dListR, g_law_mixed, g_law_draw, dAdd]
    obtain ⟨ns, e1, e2, e3, e4⟩ := rng_ints 0 (Int.toNat 6)
    rw [e1]
    refine ⟨by decide, ⟨by rw [List.length_map, e4]; decide, int_lay⟩, fun ys hy => ⟨by decide, fun r r0 r1 => ?_⟩⟩
    obtain ⟨pl, rfl, hpl⟩ := perm_ints2 hy
    have hne : cutD (pl.map PyData.int) none (some (2 + r)) ≠ [] := cut_first (by omega) (by
      intro z
      have := congrArg List.length z
      rw [List.length_map, hpl.length_eq, e4] at this
      exact absurd this (by decide))
    have hin : ∀ d ∈ cutD (pl.map PyData.int) none (some (2 + r)), ∃ p, d = .int p ∧ 0 ≤ p ∧ p < 6 := fun d hd => by
      obtain ⟨p, hp, rfl⟩ := List.mem_map.mp (cut_mem hd)
      have := e3 p (hpl.mem_iff.mp hp)
      have s6 : ((Int.toNat 6 : Nat) : Int) = 6 := rfl
      exact ⟨p, rfl, by omega⟩
    have hlp : (cutD (pl.map PyData.int) none (some (2 + r))).length ≤ 6 := by
      have := cut_len (xs := pl.map PyData.int) (lo := none) (hi := some (2 + r))
      rw [List.length_map, hpl.length_eq, e4] at this
      exact this
    generalize cutD (pl.map PyData.int) none (some (2 + r)) = players at hne hin hlp
    obtain ⟨fs, g1, g2, g3, g4⟩ := rng_ints 0 n.toNat
    rw [g1]
    refine ⟨by omega, ⟨by rw [List.length_map, g4]; omega, int_lay⟩, fun ys hy => ?_⟩
    obtain ⟨fl, rfl, hfl⟩ := perm_ints2 hy
    obtain ⟨ms0, q1, q2⟩ := sub_ints (cut_sub (xs := fl.map PyData.int) (lo := none) (hi := some m))
    have hm := cut_len_to (xs := fl.map PyData.int) m0
    rw [q1, List.length_map] at hm
    rw [q1]
    refine .inl ⟨ms0, rfl, fun ms hp hs => ?_⟩
    have nd : ms.Nodup := hp.nodup_iff.mpr (q2.nodup (hfl.nodup_iff.mpr (g2.imp fun h => by omega)))
    have st : ms.Pairwise (· < ·) := (hs.and nd).imp fun {a b} h => by
      have := h.1
      have := h.2
      omega
    have hl1 := hp.length_eq
    have hl2 := q2.length_le
    have hl3 := hfl.length_eq
    have sz : (100 : Nat) ≤ SZ := by decide
    simp only [sSeq, sCut, sIf, sNext, sRet, sAsg, sPar, sPar3, sDrop, sBreak, sCont, sOwn, sFor, sForI, sWhile, dNot, dB, dAnd, dOr, dAndV, dOrV, dNotV, dIf, dCall, dCallK, dCallP, dv, dc, dOp, dCmp, dCmpT, dUn, dNeg, dIsi, dLst, dTup, dRev, dSlice, dChain, dChainT, dApp, dSortedO, dNotInO, dLc, dYes, aCons, aNil, aStar, oNo, oIs, tTupD, tsCons, tsNil, tn, iSeq, iEnumD, iRng1D, iRng2D, bI, bIsN, bNotN, dI20, dI2, dLen, dTupF, dListF, dInt1, dII, dRepr, dSorted, isDeck, isOwn, freeSlot, endD, startD, startK, startL, List.map, List.length, List.replicate, List.cons_append, List.nil_append, List.append_nil, List.getElem?_cons_succ, List.getElem?_cons_zero, Nat.reduceAdd, Nat.reduceSub, List.set, Bool.and_true, Bool.true_and, Bool.and_false, Bool.false_and, Bool.not_true, Bool.not_false, Nat.reduceBEq, beq_self_eq_true, reduceIte, reduceCtorEq, isNoneD, wipeD, freeAll, List.all_cons, List.all_nil, Kt.at0, Kt.at1, Kt.at2, true_and, and_true, List.getElem?_cons_succ]
    refine lc_post (fun d o => ∀ f, d = .int f → ∃ p, o = some (pD (f, p)) ∧ 0 ≤ p ∧ p < 6) (fun d hd B hB => ?_) (by rw [List.length_map]; simp; omega) fun rs ho => ?_
    · obtain ⟨f, hf, rfl⟩ := List.mem_map.mp hd
      simp only [sSeq, sCut, sIf, sNext, sRet, sAsg, sPar, sPar3, sDrop, sBreak, sCont, sOwn, sFor, sForI, sWhile, dNot, dB, dAnd, dOr, dAndV, dOrV, dNotV, dIf, dCall, dCallK, dCallP, dv, dc, dOp, dCmp, dCmpT, dUn, dNeg, dIsi, dLst, dTup, dRev, dSlice, dChain, dChainT, dApp, dSortedO, dNotInO, dLc, dYes, aCons, aNil, aStar, oNo, oIs, tTupD, tsCons, tsNil, tn, iSeq, iEnumD, iRng1D, iRng2D, bI, bIsN, bNotN, dI20, dI2, dLen, dTupF, dListF, dInt1, dII, dRepr, dSorted, isDeck, isOwn, freeSlot, endD, startD, startK, startL, List.map, List.length, List.replicate, List.cons_append, List.nil_append, List.append_nil, List.getElem?_cons_succ, List.getElem?_cons_zero, Nat.reduceAdd, Nat.reduceSub, List.set, Bool.and_true, Bool.true_and, Bool.and_false, Bool.false_and, Bool.not_true, Bool.not_false, Nat.reduceBEq, beq_self_eq_true, reduceIte, reduceCtorEq, isNoneD, wipeD, freeAll, List.all_cons, List.all_nil, Kt.at0, Kt.at1, Kt.at2, true_and, and_true, List.getElem?_cons_succ, turnD, g_law_pick]
      have hpos : 0 < players.length := by
        cases players with
        | nil => exact absurd rfl hne
        | cons _ _ => simp
      refine ⟨⟨hpos, by omega⟩, fun p hp => ⟨by decide, hB _ fun f' e => ?_⟩⟩
      cases e
      obtain ⟨p, rfl, h⟩ := hin p hp
      exact ⟨p, rfl, h⟩
    · obtain ⟨ps, rfl, e5, e6⟩ := outs_pairs (P := fun p => 0 ≤ p ∧ p < 6) (fun f o h => h f rfl) ho
      rw [List.nil_append]
      have hlen : ps.length = ms.length := by rw [← e5, List.length_map]
      refine k ps ⟨fun q hq => ?_, ?_⟩ (by omega) (by omega)
      · have h1 : q.1 ∈ ms := by rw [← e5]; exact List.mem_map_of_mem hq
        have h2 := g3 q.1 (hfl.mem_iff.mp (q2.subset (hp.mem_iff.mp h1)))
        have h3 := e6 q hq
        omega
      · rw [← e5, List.pairwise_map] at st
        exact st
end Dl

set_option Elab.async false
set_option linter.all false
set_option maxRecDepth 100000
set_option maxHeartbeats 4000000
namespace Dl
open PySem PySem.Spec PyProof.Rows L2 Kt
/-- a board's parts, with their weights -/
theorem board_parts {n : Int} {rs cs qs : List PyData} {k e : Nat} (hn : 1 ≤ n ∧ n ≤ 24) (h : Fi k (e + 2) (.tuple [.tuple [.int n, .tuple rs, .tuple cs], .tuple qs])) (he : 4 ≤ e) :
    ∃ kn kr kc kq e1, e = e1 + 1 ∧ Fi kn 0 (.int n) ∧ FiA kr e1 rs ∧ FiA kc e1 cs ∧ FiA kq (e1 + 1) qs ∧ kn ≤ 6 ∧ kn + 1 + (kr + 1 + (kc + 1)) + 1 + (kq + 1) ≤ k := by
  have hw := h.un.w
  simp only [PyData.weightAll, PyData.weight] at hw
  obtain ⟨e1, rfl⟩ : ∃ e1, e = e1 + 1 := ⟨e - 1, by omega⟩
  have f0 : Fi 6 0 (.int n) := Fi.int ⟨by omega, by omega⟩
  have hc := (h.un.at (x := .tuple [.int n, .tuple rs, .tuple cs]) (by simp))
  have fr := (hc.un.at (x := .tuple rs) (by simp)).un
  have fc := (hc.un.at (x := .tuple cs) (by simp)).un
  have fq := (h.un.at (x := .tuple qs) (by simp)).un
  refine ⟨(PyData.int n).weight, PyData.weightAll rs, PyData.weightAll cs, PyData.weightAll qs, e1, rfl, ⟨f0.s, f0.l, Nat.le_refl _, f0.d⟩, ⟨fr.s, fr.l, Nat.le_refl _, fr.d⟩, ⟨fc.s, fc.l, Nat.le_refl _, fc.d⟩, ⟨fq.s, fq.l, Nat.le_refl _, fq.d⟩, f0.w, ?_⟩
  simp only [PyData.weight]
  omega
def g_law_bent_board : RDn := fun ds A => match ds with
  | [.tuple [.int n, .tuple rs, .tuple cs], .tuple qs] => (1 ≤ n ∧ n ≤ 24) ∧ ∃ k e, Fi k (e + 2) (.tuple [.tuple [.int n, .tuple rs, .tuple cs], .tuple qs]) ∧ (k ≤ 20000 ∧ 4 ≤ e) ∧ ∀ z, Fi (2 * k + 300) (e + 3) z → A z
  | _ => False
theorem rd_law_bent_board : ∀ ds A, g_law_bent_board ds A → ds.length + 1 = 3 ∧ t_law_bent_board g_law_draw g_law_odd g_law_pick (endD A) (startK n_law_bent_board ds) := by
  intro ds A h
  match ds, h with
  | [.tuple [.int n, .tuple rs, .tuple cs], .tuple qs], h =>
    refine ⟨rfl, ?_⟩
    obtain ⟨hn, k, e, hF, ⟨hk, he⟩, q⟩ := h
    obtain ⟨kn, kr, kc, kq, e, rfl, fn, fr, fc, fq, hkn, hw⟩ := board_parts hn hF he
    have lr := fr.len
    have lc := fc.len
    have lq := fq.len
    have sz : (100000 : Nat) ≤ SZ := by decide
    simp only [sSeq, sCut, sIf, sNext, sRet, sAsg, sPar, sPar3, sDrop, sBreak, sCont, sOwn, sFor, sForI, sWhile, dNot, dB, dAnd, dOr, dAndV, dOrV, dNotV, dIf, dCall, dCallK, dCallP, dv, dc, dOp, dCmp, dCmpT, dUn, dNeg, dIsi, dLst, dTup, dRev, dSlice, dChain, dChainT, dApp, dSortedO, dNotInO, dLc, dYes, aCons, aNil, aStar, oNo, oIs, tTupD, tsCons, tsNil, tn, iSeq, iEnumD, iRng1D, iRng2D, bI, bIsN, bNotN, dI20, dI2, dLen, dTupF, dListF, dInt1, dII, dRepr, dSorted, isDeck, isOwn, freeSlot, endD, startD, startK, startL, List.map, List.length, List.replicate, List.cons_append, List.nil_append, List.append_nil, List.getElem?_cons_succ, List.getElem?_cons_zero, Nat.reduceAdd, Nat.reduceSub, List.set, Bool.and_true, Bool.true_and, Bool.and_false, Bool.false_and, Bool.not_true, Bool.not_false, Nat.reduceBEq, beq_self_eq_true, reduceIte, reduceCtorEq, isNoneD, wipeD, freeAll, List.all_cons, List.all_nil, Kt.at0, Kt.at1, Kt.at2, true_and, and_true, List.getElem?_cons_succ, t_law_bent_board, n_law_bent_board, g_law_draw, g_law_pick, g_law_odd, dAdd]
    refine ⟨by decide, fun way w0 w9 odd ho => ?_⟩
    refine bEq_int ?_
    by_cases h0 : way = 0
    · simp only [decide_eq_true h0]
      refine ⟨by decide, q _ ?_⟩
      (apply Fi.le; (· (repeat (first | assumption | exact Fi.int ⟨by omega, by omega⟩ | exact FiA.nil (k := 0) (e := 0) | apply Fi.tup | apply Fi.lst | apply FiA.cons | apply FiA.app | apply FiA.cut | apply FiA.rev | exact Fi.lit (k := 2) (e := 0) (by decide +kernel) | exact Fi.lit (k := 110) (e := 2) (by decide +kernel)))); (· omega); (· omega))
    simp only [decide_eq_false h0]
    refine bEq_int ?_
    by_cases h1 : way = 1
    · simp only [decide_eq_true h1]
      refine ⟨by decide, q _ ?_⟩
      (apply Fi.le; (· (repeat (first | assumption | exact Fi.int ⟨by omega, by omega⟩ | exact FiA.nil (k := 0) (e := 0) | apply Fi.tup | apply Fi.lst | apply FiA.cons | apply FiA.app | apply FiA.cut | apply FiA.rev | exact Fi.lit (k := 2) (e := 0) (by decide +kernel) | exact Fi.lit (k := 110) (e := 2) (by decide +kernel)))); (· omega); (· omega))
    simp only [decide_eq_false h1]
    refine bEq_int ?_
    by_cases h2 : way = 2
    · simp only [decide_eq_true h2]
      refine ⟨by decide, by decide, fun d hd => ⟨by decide, by decide, q _ ?_⟩⟩
      have fd : Fi 110 2 d := by
        revert d
        (repeat (first | exact fm_nil | refine fm_cons (by (apply Fi.le; (· (repeat (first | assumption | exact Fi.int ⟨by omega, by omega⟩ | exact FiA.nil (k := 0) (e := 0) | apply Fi.tup | apply Fi.lst | apply FiA.cons | apply FiA.app | apply FiA.cut | apply FiA.rev | exact Fi.lit (k := 2) (e := 0) (by decide +kernel) | exact Fi.lit (k := 110) (e := 2) (by decide +kernel)))); (· omega); (· omega))) ?_))
      clear hd
      (apply Fi.le; (· (repeat (first | assumption | exact Fi.int ⟨by omega, by omega⟩ | exact FiA.nil (k := 0) (e := 0) | apply Fi.tup | apply Fi.lst | apply FiA.cons | apply FiA.app | apply FiA.cut | apply FiA.rev | exact Fi.lit (k := 2) (e := 0) (by decide +kernel) | exact Fi.lit (k := 110) (e := 2) (by decide +kernel)))); (· omega); (· omega))
    simp only [decide_eq_false h2]
    refine bEq_int ?_
    by_cases h3 : way = 3
    · simp only [decide_eq_true h3]
      iterate 4 refine ⟨by decide, ?_⟩
      refine ⟨by decide, fun d hd => ⟨by decide, by omega, by decide, by decide, q _ ?_⟩⟩
      have fd : Fi 110 2 d := by
        revert d
        (repeat (first | exact fm_nil | refine fm_cons (by (apply Fi.le; (· (repeat (first | assumption | exact Fi.int ⟨by omega, by omega⟩ | exact FiA.nil (k := 0) (e := 0) | apply Fi.tup | apply Fi.lst | apply FiA.cons | apply FiA.app | apply FiA.cut | apply FiA.rev | exact Fi.lit (k := 2) (e := 0) (by decide +kernel) | exact Fi.lit (k := 110) (e := 2) (by decide +kernel)))); (· omega); (· omega))) ?_))
      clear hd
      (apply Fi.le; (· (repeat (first | assumption | exact Fi.int ⟨by omega, by omega⟩ | exact FiA.nil (k := 0) (e := 0) | apply Fi.tup | apply Fi.lst | apply FiA.cons | apply FiA.app | apply FiA.cut | apply FiA.rev | exact Fi.lit (k := 2) (e := 0) (by decide +kernel) | exact Fi.lit (k := 110) (e := 2) (by decide +kernel)))); (· omega); (· omega))
    simp only [decide_eq_false h3]
    refine bEq_int ?_
    by_cases h4 : way = 4
    · simp only [decide_eq_true h4]
      refine ⟨by decide, by decide, fun d hd => ⟨by decide, by omega, by decide, by decide, q _ ?_⟩⟩
      have fd : Fi 110 2 d := by
        revert d
        (repeat (first | exact fm_nil | refine fm_cons (by (apply Fi.le; (· (repeat (first | assumption | exact Fi.int ⟨by omega, by omega⟩ | exact FiA.nil (k := 0) (e := 0) | apply Fi.tup | apply Fi.lst | apply FiA.cons | apply FiA.app | apply FiA.cut | apply FiA.rev | exact Fi.lit (k := 2) (e := 0) (by decide +kernel) | exact Fi.lit (k := 110) (e := 2) (by decide +kernel)))); (· omega); (· omega))) ?_))
      clear hd
      (apply Fi.le; (· (repeat (first | assumption | exact Fi.int ⟨by omega, by omega⟩ | exact FiA.nil (k := 0) (e := 0) | apply Fi.tup | apply Fi.lst | apply FiA.cons | apply FiA.app | apply FiA.cut | apply FiA.rev | exact Fi.lit (k := 2) (e := 0) (by decide +kernel) | exact Fi.lit (k := 110) (e := 2) (by decide +kernel)))); (· omega); (· omega))
    simp only [decide_eq_false h4]
    refine bEq_int ?_
    by_cases h5 : way = 5
    · simp only [decide_eq_true h5]
      iterate 5 refine ⟨by decide, ?_⟩
      refine ⟨by decide, fun d hd => ⟨by decide, by omega, by decide, q _ ?_⟩⟩
      have fd : Fi 110 2 d := by
        revert d
        (repeat (first | exact fm_nil | refine fm_cons (by (apply Fi.le; (· (repeat (first | assumption | exact Fi.int ⟨by omega, by omega⟩ | exact FiA.nil (k := 0) (e := 0) | apply Fi.tup | apply Fi.lst | apply FiA.cons | apply FiA.app | apply FiA.cut | apply FiA.rev | exact Fi.lit (k := 2) (e := 0) (by decide +kernel) | exact Fi.lit (k := 110) (e := 2) (by decide +kernel)))); (· omega); (· omega))) ?_))
      clear hd
      (apply Fi.le; (· (repeat (first | assumption | exact Fi.int ⟨by omega, by omega⟩ | exact FiA.nil (k := 0) (e := 0) | apply Fi.tup | apply Fi.lst | apply FiA.cons | apply FiA.app | apply FiA.cut | apply FiA.rev | exact Fi.lit (k := 2) (e := 0) (by decide +kernel) | exact Fi.lit (k := 110) (e := 2) (by decide +kernel)))); (· omega); (· omega))
    simp only [decide_eq_false h5]
    refine bEq_int ?_
    by_cases h6 : way = 6
    · simp only [decide_eq_true h6]
      refine ⟨by decide, q _ ?_⟩
      (apply Fi.le; (· (repeat (first | assumption | exact Fi.int ⟨by omega, by omega⟩ | exact FiA.nil (k := 0) (e := 0) | apply Fi.tup | apply Fi.lst | apply FiA.cons | apply FiA.app | apply FiA.cut | apply FiA.rev | exact Fi.lit (k := 2) (e := 0) (by decide +kernel) | exact Fi.lit (k := 110) (e := 2) (by decide +kernel)))); (· omega); (· omega))
    · simp only [decide_eq_false h6]
      refine ⟨by decide, by decide, q _ ?_⟩
      (apply Fi.le; (· (repeat (first | assumption | exact Fi.int ⟨by omega, by omega⟩ | exact FiA.nil (k := 0) (e := 0) | apply Fi.tup | apply Fi.lst | apply FiA.cons | apply FiA.app | apply FiA.cut | apply FiA.rev | exact Fi.lit (k := 2) (e := 0) (by decide +kernel) | exact Fi.lit (k := 110) (e := 2) (by decide +kernel)))); (· omega); (· omega))
theorem FiA.times2 {k e : Nat} {xs : List PyData} (h : FiA k e xs) : FiA (2 * k) e (timesD 2 xs) := by
  have e1 : timesD 2 xs = xs ++ (xs ++ []) := rfl
  rw [e1, List.append_nil]
  have := h.app h
  rw [Nat.max_self] at this
  exact ⟨this.s, this.l, Nat.le_trans this.w (by omega), this.d⟩
def g_law_turned : RDn := fun ds A => match ds with
  | [.tuple [.tuple [.int n, .tuple rs, .tuple cs], .tuple qs]] => (1 ≤ n ∧ n ≤ 24) ∧ qs.length ≤ 500 ∧ ∃ k e, Fi k (e + 2) (.tuple [.tuple [.int n, .tuple rs, .tuple cs], .tuple qs]) ∧ (k ≤ 20000 ∧ 4 ≤ e) ∧ ∀ z, Fi (2 * k + 300) (e + 3) z → A z
  | _ => False
theorem rd_law_turned : ∀ ds A, g_law_turned ds A → ds.length + 1 = 2 ∧ t_law_turned g_law_draw g_law_odd g_law_pick g_law_bent_board (endD A) (startK n_law_turned ds) := by
  intro ds A h
  match ds, h with
  | [.tuple [.tuple [.int n, .tuple rs, .tuple cs], .tuple qs]], h =>
    refine ⟨rfl, ?_⟩
    obtain ⟨hn, h500, k, e, hF, ⟨hk, he⟩, q⟩ := h
    obtain ⟨kn, kr, kc, kq, e, rfl, fn, fr, fc, fq, hkn, hw⟩ := board_parts hn hF he
    have lr := fr.len
    have lc := fc.len
    have lq := fq.len
    have sz : (100000 : Nat) ≤ SZ := by decide
    simp only [sSeq, sCut, sIf, sNext, sRet, sAsg, sPar, sPar3, sDrop, sBreak, sCont, sOwn, sFor, sForI, sWhile, dNot, dB, dAnd, dOr, dAndV, dOrV, dNotV, dIf, dCall, dCallK, dCallP, dv, dc, dOp, dCmp, dCmpT, dUn, dNeg, dIsi, dLst, dTup, dRev, dSlice, dChain, dChainT, dApp, dSortedO, dNotInO, dLc, dYes, aCons, aNil, aStar, oNo, oIs, tTupD, tsCons, tsNil, tn, iSeq, iEnumD, iRng1D, iRng2D, bI, bIsN, bNotN, dI20, dI2, dLen, dTupF, dListF, dInt1, dII, dRepr, dSorted, isDeck, isOwn, freeSlot, endD, startD, startK, startL, List.map, List.length, List.replicate, List.cons_append, List.nil_append, List.append_nil, List.getElem?_cons_succ, List.getElem?_cons_zero, Nat.reduceAdd, Nat.reduceSub, List.set, Bool.and_true, Bool.true_and, Bool.and_false, Bool.false_and, Bool.not_true, Bool.not_false, Nat.reduceBEq, beq_self_eq_true, reduceIte, reduceCtorEq, isNoneD, wipeD, freeAll, List.all_cons, List.all_nil, Kt.at0, Kt.at1, Kt.at2, true_and, and_true, List.getElem?_cons_succ, t_law_turned, n_law_turned, g_law_draw, g_law_pick, g_law_odd, dAdd, dGet, dMul]
    refine ⟨by decide, fun way w0 w9 odd ho => ⟨by omega, fun spot s0 s1 => ?_⟩⟩
    have fch : Fi (kn + 1 + (kr + 1 + (kc + 1))) (e + 2) (.tuple [.int n, .tuple rs, .tuple cs]) := by
      (apply Fi.le; (· (repeat (first | assumption | exact Fi.int ⟨by omega, by omega⟩ | exact FiA.nil (k := 0) (e := 0) | apply Fi.tup | apply Fi.lst | apply FiA.cons | apply FiA.app | apply FiA.cut | apply FiA.rev | exact Fi.lit (k := 2) (e := 0) (by decide +kernel) | exact Fi.lit (k := 110) (e := 2) (by decide +kernel)))); (· omega); (· omega))
    have fqq : Fi kq (e + 2) (.tuple qs) := Fi.tup fq
    have ft : FiA (2 * kq) (e + 1) (timesD (Int.toNat 2) qs) := FiA.times2 fq
    have ll : ∀ lo hi, (cutD qs lo hi).length ≤ kq := fun lo hi => Nat.le_trans cut_len lq
    refine bEq_int ?_
    by_cases h0 : way = 0
    · simp only [decide_eq_true h0]
      iterate 6 refine ⟨by decide, ?_⟩
      refine ⟨by decide, fun d hd => q d ?_⟩
      revert d
      (repeat (first | exact fm_nil | refine fm_cons (by (apply Fi.le; (· (repeat (first | assumption | exact Fi.int ⟨by omega, by omega⟩ | exact FiA.nil (k := 0) (e := 0) | apply Fi.tup | apply Fi.lst | apply FiA.cons | apply FiA.app | apply FiA.cut | apply FiA.rev | exact Fi.lit (k := 2) (e := 0) (by decide +kernel) | exact Fi.lit (k := 110) (e := 2) (by decide +kernel)))); (· omega); (· omega))) ?_))
    simp only [decide_eq_false h0]
    by_cases h3 : way < 3
    · simp only [decide_eq_true h3]
      exact ⟨hn, k, e + 1, hF, ⟨hk, he⟩, q⟩
    simp only [decide_eq_false h3]
    refine ⟨by omega, fun field f0 f1 => ⟨by decide, fun player p0 p1 => ?_⟩⟩
    iterate 14 refine ⟨by decide, ?_⟩
    refine ⟨by decide, fun piece hp => ?_⟩
    have fp : Fi 130 3 piece := by
      revert piece
      (repeat (first | exact fm_nil | refine fm_cons (by (apply Fi.le; (· (repeat (first | assumption | exact Fi.int ⟨by omega, by omega⟩ | exact FiA.nil (k := 0) (e := 0) | apply Fi.tup | apply Fi.lst | apply FiA.cons | apply FiA.app | apply FiA.cut | apply FiA.rev | exact Fi.lit (k := 2) (e := 0) (by decide +kernel) | exact Fi.lit (k := 110) (e := 2) (by decide +kernel)))); (· omega); (· omega))) ?_))
    clear hp
    by_cases h5 : way < 5
    · simp only [decide_eq_true h5]
      have l1 := ll none (some spot)
      have l2 := ll (some (spot + way - 3)) none
      refine ⟨by decide, by omega, by rw [List.length_append, List.length_singleton]; omega, by decide, q _ ?_⟩
      (apply Fi.le; (· (repeat (first | assumption | exact Fi.int ⟨by omega, by omega⟩ | exact FiA.nil (k := 0) (e := 0) | apply Fi.tup | apply Fi.lst | apply FiA.cons | apply FiA.app | apply FiA.cut | apply FiA.rev | exact Fi.lit (k := 2) (e := 0) (by decide +kernel) | exact Fi.lit (k := 110) (e := 2) (by decide +kernel)))); (· omega); (· omega))
    simp only [decide_eq_false h5]
    have l1 := ll (some (-1)) none
    have l2 := ll (some 1) none
    have l3 := ll none (some 1)
    refine ⟨by omega, by omega, ⟨by decide, by decide, by omega⟩, by decide, by decide, fun d hd => ⟨by decide, q _ ?_⟩⟩
    have fd : Fi (2 * kq) (e + 2) d := by
      revert d
      (repeat (first | exact fm_nil | refine fm_cons (by (apply Fi.le; (· (repeat (first | assumption | exact Fi.int ⟨by omega, by omega⟩ | exact FiA.nil (k := 0) (e := 0) | apply Fi.tup | apply Fi.lst | apply FiA.cons | apply FiA.app | apply FiA.cut | apply FiA.rev | exact Fi.lit (k := 2) (e := 0) (by decide +kernel) | exact Fi.lit (k := 110) (e := 2) (by decide +kernel)))); (· omega); (· omega))) ?_))
    clear hd
    (apply Fi.le; (· (repeat (first | assumption | exact Fi.int ⟨by omega, by omega⟩ | exact FiA.nil (k := 0) (e := 0) | apply Fi.tup | apply Fi.lst | apply FiA.cons | apply FiA.app | apply FiA.cut | apply FiA.rev | exact Fi.lit (k := 2) (e := 0) (by decide +kernel) | exact Fi.lit (k := 110) (e := 2) (by decide +kernel)))); (· omega); (· omega))
end Dl

set_option Elab.async false
set_option linter.all false
set_option maxRecDepth 100000
set_option maxHeartbeats 4000000
namespace Dl
open PySem PySem.Spec PyProof.Rows L2 Kt
theorem err_fi {k e : Nat} {d : PyData} (h : Fi k (e + 2) d) (hk : k < 9800) : Fi 110 2 (chartErr d) := by
  have F1 : ∀ s : Str, (PyData.str s).leavesShort 40 = true → (PyData.str s).weight ≤ 20 → ∀ i : Nat, i < 9800 → Fi 110 2 (.tuple [.str s, .int (i : Nat)]) := fun s h1 h2 i hi => by
    have f1 : Fi 20 0 (.str s) := ⟨rfl, h1, h2, Nat.le_refl _⟩
    have f2 := Fi.nat hi
    (apply Fi.le; (· (repeat (first | assumption | exact Fi.int ⟨by omega, by omega⟩ | exact FiA.nil (k := 0) (e := 0) | apply Fi.tup | apply Fi.lst | apply FiA.cons | apply FiA.app | apply FiA.cut | apply FiA.rev | exact Fi.lit (k := 2) (e := 0) (by decide +kernel) | exact Fi.lit (k := 110) (e := 2) (by decide +kernel)))); (· omega); (· omega))
  unfold chartErr
  split
  · rename_i m rs cs
    have hu := h.un
    have lr := (hu.at (x := .tuple rs) (by simp)).un.len
    have lc := (hu.at (x := .tuple cs) (by simp)).un.len
    split
    · split
      · split
        · rename_i i hi
          have := firstBad_lt hi
          exact F1 _ (by decide +kernel) (by decide +kernel) i (by omega)
        · split
          · rename_i i hi
            have := firstBad_lt hi
            exact F1 _ (by decide +kernel) (by decide +kernel) i (by omega)
          · exact Fi.lit (by decide +kernel)
      · exact Fi.lit (by decide +kernel)
    · exact Fi.lit (by decide +kernel)
  · exact Fi.lit (by decide +kernel)
theorem errB_shw {k e : Nat} {d : PyData} (h : Fi k (e + 3) d) (hk : k < 9800) : Shw (boardErr d) := by
  unfold boardErr
  split
  · rename_i ch ps
    have hc : Fi k (e + 2) ch := h.un.at (by simp)
    split
    · split
      · rename_i n a b qs _
        have lq := (h.un.at (x := .tuple qs) (by simp)).un.len
        split
        · split
          · rename_i i hi
            have := firstBad_lt hi
            have f2 := Fi.nat (show i < 9800 by omega)
            refine Fi.shw (k := 200) (e := 3) ?_ (by decide) (by decide)
            (apply Fi.le; (· (repeat (first | assumption | exact Fi.int ⟨by omega, by omega⟩ | exact FiA.nil (k := 0) (e := 0) | apply Fi.tup | apply Fi.lst | apply FiA.cons | apply FiA.app | apply FiA.cut | apply FiA.rev | exact Fi.lit (k := 2) (e := 0) (by decide +kernel) | exact Fi.lit (k := 110) (e := 2) (by decide +kernel)))); (· omega); (· omega))
          · exact Fi.shw (k := 0) (e := 0) (Fi.lit (by decide +kernel)) (by decide) (by decide)
        · exact Fi.shw (k := 100) (e := 0) (Fi.lit (by decide +kernel)) (by decide) (by decide)
      · exact Fi.shw (k := 100) (e := 0) (Fi.lit (by decide +kernel)) (by decide) (by decide)
    · have f1 := err_fi hc hk
      refine Fi.shw (k := 300) (e := 4) ?_ (by decide) (by decide)
      (apply Fi.le; (· (repeat (first | assumption | exact Fi.int ⟨by omega, by omega⟩ | exact FiA.nil (k := 0) (e := 0) | apply Fi.tup | apply Fi.lst | apply FiA.cons | apply FiA.app | apply FiA.cut | apply FiA.rev | exact Fi.lit (k := 2) (e := 0) (by decide +kernel) | exact Fi.lit (k := 110) (e := 2) (by decide +kernel)))); (· omega); (· omega))
  · exact Fi.shw (k := 100) (e := 0) (Fi.lit (by decide +kernel)) (by decide) (by decide)
theorem errB_few {k e : Nat} {d : PyData} (h : Fi k (e + 3) d) (hk : k < 9800) : fewB d := by
  unfold fewB
  split
  · exact err_few (e := e) (h.un.at (by simp)) hk
  · trivial
theorem errB_none {d : PyData} (h : boardErr d = .none) : ∃ n rs cs qs, d = .tuple [.tuple [.int n, .tuple rs, .tuple cs], .tuple qs] ∧ (1 ≤ n ∧ n ≤ 24) ∧ qs.length ≤ 16 := by
  unfold boardErr at h
  split at h
  · rename_i ch ps
    split at h
    · rename_i e
      obtain ⟨n, rs, cs, rfl, hn, _⟩ := err_none e
      split at h
      · rename_i n' a b qs ee
        cases ee
        split at h
        · rename_i hl
          exact ⟨n, rs, cs, qs, rfl, hn, hl⟩
        · cases h
      · cases h
    · cases h
  · cases h
theorem fi_pieces {n : Int} {ps : List (Int × Int)} (hn : n ≤ 24) (ok : PcOk n ps) : FiA (ps.length * 15) 1 (ps.map pD) := by
  have := FiA.of (k := 14) (e := 1) (xs := ps.map pD) fun x hx => by
    obtain ⟨q, hq, rfl⟩ := List.mem_map.mp hx
    have := ok.fld q hq
    have g1 : Fi 6 0 (.int q.1) := Fi.int ⟨by omega, by omega⟩
    have g2 : Fi 6 0 (.int q.2) := Fi.int ⟨by omega, by omega⟩
    unfold pD
    (apply Fi.le; (· (repeat (first | assumption | exact Fi.int ⟨by omega, by omega⟩ | exact FiA.nil (k := 0) (e := 0) | apply Fi.tup | apply Fi.lst | apply FiA.cons | apply FiA.app | apply FiA.cut | apply FiA.rev | exact Fi.lit (k := 2) (e := 0) (by decide +kernel) | exact Fi.lit (k := 110) (e := 2) (by decide +kernel)))); (· omega); (· omega))
  rwa [List.length_map] at this
theorem fi_board {n : Int} {rs : List (Int × Int)} {cs : List Int} {ps : List (Int × Int)} (hn : 1 ≤ n ∧ n ≤ 24) (ok : ChartOk n rs cs) (lr : rs.length ≤ 40) (lc : cs.length ≤ 40) (op : PcOk n ps) (lp : ps.length ≤ 24) : Fi 1350 6 (.tuple [chD n rs cs, .tuple (ps.map pD)]) := by
  have f1 := fi_chart hn ok lr lc
  have f2 := fi_pieces hn.2 op
  (apply Fi.le; (· (repeat (first | assumption | exact Fi.int ⟨by omega, by omega⟩ | exact FiA.nil (k := 0) (e := 0) | apply Fi.tup | apply Fi.lst | apply FiA.cons | apply FiA.app | apply FiA.cut | apply FiA.rev | exact Fi.lit (k := 2) (e := 0) (by decide +kernel) | exact Fi.lit (k := 110) (e := 2) (by decide +kernel)))); (· omega); (· omega))
theorem bad_none {n : Int} {ps : List (Int × Int)} (ok : PcOk n ps) {j : Nat} (hj : j < (ps.map pD).length) : badP n (ps.map pD) j = false := by
  rw [List.length_map] at hj
  have h1 : (ps.map pD)[j]? = some (pD ps[j]) := by rw [List.getElem?_map, List.getElem?_eq_getElem hj]; rfl
  rw [getD_b h1]
  have f1 := ok.fld ps[j] (List.getElem_mem hj)
  have p1 : pieceD n (pD ps[j]) = true := by
    show (belowD n (.int ps[j].1) && belowD 6 (.int ps[j].2)) = true
    simp [belowD]
    omega
  rw [p1]
  by_cases h0 : 0 < j
  · have hj1 : j - 1 < ps.length := by omega
    have h2 : (ps.map pD)[j - 1]? = some (pD ps[j - 1]) := by rw [List.getElem?_map, List.getElem?_eq_getElem hj1]; rfl
    rw [getD_at h2]
    have := (List.pairwise_iff_getElem.mp ok.asc) (j - 1) j hj1 hj (by omega)
    show (false || (decide (0 < j) && leB (.int ps[j].1) (.int ps[j - 1].1))) = false
    have e : leB (.int ps[j].1) (.int ps[j - 1].1) = decide (ps[j].1 ≤ ps[j - 1].1) := rfl
    have n2 : ¬ (ps[j].1 ≤ ps[j - 1].1) := by omega
    rw [e, decide_eq_false n2, Bool.and_false]
    rfl
  · simp [h0]
/-- the law's slots between its turns -/
def LW (i : Nat) (ρ : Rho) : Prop := ∃ o2 o3 o4 o5 o6 o7 o8 o9 o10 o11 : Option Dv, ρ = [none, some .deck, o2, o3, o4, o5, o6, o7, o8, o9, o10, o11, none, none, none, none, none, none] ∧ freeSlot (some o2) = true ∧ freeSlot (some o3) = true ∧ freeSlot (some o4) = true ∧ freeSlot (some o5) = true ∧ freeSlot (some o6) = true ∧ freeSlot (some o7) = true ∧ freeSlot (some o8) = true ∧ freeSlot (some o9) = true ∧ freeSlot (some o10) = true ∧ freeSlot (some o11) = true
def LV (t a b c d : PyData) (i : Nat) (ρ : Rho) : Prop := ∃ o7 o8 o9 o10 o11 : Option Dv, ρ = [none, some .deck, some (.dat t), some (.dat a), some (.dat b), some (.dat c), some (.dat d), o7, o8, o9, o10, o11, none, none, none, none, none, none] ∧ freeSlot (some o7) = true ∧ freeSlot (some o8) = true ∧ freeSlot (some o9) = true ∧ freeSlot (some o10) = true ∧ freeSlot (some o11) = true
theorem LV.lw {t a b c d : PyData} {i j : Nat} {ρ : Rho} (h : LV t a b c d i ρ) : LW j ρ := by
  obtain ⟨o7, o8, o9, o10, o11, e, f7, f8, f9, f10, f11⟩ := h
  exact ⟨_, _, _, _, _, _, _, _, _, _, e, rfl, rfl, rfl, rfl, rfl, f7, f8, f9, f10, f11⟩
theorem bNe_same {s : Str} {A : Bool → Prop} (h : A false) : bNe (.str s) (.str s) A := bNe_str (by rw [decide_eq_true rfl]; exact h)
theorem rd_law : t_law g_law_chart g_law_pick g_law_draw g_law_pieces g_law_turned g_law_due g_law_odd g_board_error (endD fun d => d = .bool true) (startL n_law) := by
  simp only [sSeq, sCut, sIf, sNext, sRet, sAsg, sPar, sPar3, sDrop, sBreak, sCont, sOwn, sFor, sForI, sWhile, dNot, dB, dAnd, dOr, dAndV, dOrV, dNotV, dIf, dCall, dCallK, dCallP, dv, dc, dOp, dCmp, dCmpT, dUn, dNeg, dIsi, dLst, dTup, dRev, dSlice, dChain, dChainT, dApp, dSortedO, dNotInO, dLc, dYes, aCons, aNil, aStar, oNo, oIs, tTupD, tsCons, tsNil, tn, iSeq, iEnumD, iRng1D, iRng2D, bI, bIsN, bNotN, dI20, dI2, dLen, dTupF, dListF, dInt1, dII, dRepr, dSorted, isDeck, isOwn, freeSlot, endD, startD, startK, startL, List.map, List.length, List.replicate, List.cons_append, List.nil_append, List.append_nil, List.getElem?_cons_succ, List.getElem?_cons_zero, Nat.reduceAdd, Nat.reduceSub, List.set, Bool.and_true, Bool.true_and, Bool.and_false, Bool.false_and, Bool.not_true, Bool.not_false, Nat.reduceBEq, beq_self_eq_true, reduceIte, reduceCtorEq, isNoneD, wipeD, freeAll, List.all_cons, List.all_nil, Kt.at0, Kt.at1, Kt.at2, true_and, and_true, List.getElem?_cons_succ, t_law, n_law]
  refine ⟨by decide, LW, ⟨none, none, none, none, none, none, none, none, none, none, rfl, rfl, rfl, rfl, rfl, rfl, rfl, rfl, rfl, rfl, rfl⟩, ?_, ?_⟩
  · rintro turn d ρ hd ⟨o2, o3, o4, o5, o6, o7, o8, o9, o10, o11, rfl, f2, f3, f4, f5, f6, f7, f8, f9, f10, f11⟩
    obtain ⟨hd, hi2⟩ := rng_at hd
    subst hd
    simp only [freeSlot] at f2 f3 f4 f5 f6 f7 f8 f9 f10 f11
    simp only [sSeq, sCut, sIf, sNext, sRet, sAsg, sPar, sPar3, sDrop, sBreak, sCont, sOwn, sFor, sForI, sWhile, dNot, dB, dAnd, dOr, dAndV, dOrV, dNotV, dIf, dCall, dCallK, dCallP, dv, dc, dOp, dCmp, dCmpT, dUn, dNeg, dIsi, dLst, dTup, dRev, dSlice, dChain, dChainT, dApp, dSortedO, dNotInO, dLc, dYes, aCons, aNil, aStar, oNo, oIs, tTupD, tsCons, tsNil, tn, iSeq, iEnumD, iRng1D, iRng2D, bI, bIsN, bNotN, dI20, dI2, dLen, dTupF, dListF, dInt1, dII, dRepr, dSorted, isDeck, isOwn, freeSlot, endD, startD, startK, startL, List.map, List.length, List.replicate, List.cons_append, List.nil_append, List.append_nil, List.getElem?_cons_succ, List.getElem?_cons_zero, Nat.reduceAdd, Nat.reduceSub, List.set, Bool.and_true, Bool.true_and, Bool.and_false, Bool.false_and, Bool.not_true, Bool.not_false, Nat.reduceBEq, beq_self_eq_true, reduceIte, reduceCtorEq, isNoneD, wipeD, freeAll, List.all_cons, List.all_nil, Kt.at0, Kt.at1, Kt.at2, true_and, and_true, List.getElem?_cons_succ, f2, f3, f4, f5, f6, f7, f8, f9, f10, f11, g_law_chart, g_law_pick, g_law_draw, dAdd, g_law_odd]
    refine ⟨by decide, by decide, fun d hd => ⟨by decide, fun m m0 m1 => ?_⟩⟩
    have hn : ∃ n, d = .int n ∧ 1 ≤ n ∧ n ≤ 24 := by
      revert d
      repeat (first | exact fm_nil | refine fm_cons ⟨_, rfl, by decide, by decide⟩ ?_)
    clear hd
    obtain ⟨n, rfl, n1, n2⟩ := hn
    refine ⟨by omega, fun rs cs ok lr lc => ⟨by decide, fun pm p0 p1 => ?_⟩⟩
    unfold chD
    simp only [sSeq, sCut, sIf, sNext, sRet, sAsg, sPar, sPar3, sDrop, sBreak, sCont, sOwn, sFor, sForI, sWhile, dNot, dB, dAnd, dOr, dAndV, dOrV, dNotV, dIf, dCall, dCallK, dCallP, dv, dc, dOp, dCmp, dCmpT, dUn, dNeg, dIsi, dLst, dTup, dRev, dSlice, dChain, dChainT, dApp, dSortedO, dNotInO, dLc, dYes, aCons, aNil, aStar, oNo, oIs, tTupD, tsCons, tsNil, tn, iSeq, iEnumD, iRng1D, iRng2D, bI, bIsN, bNotN, dI20, dI2, dLen, dTupF, dListF, dInt1, dII, dRepr, dSorted, isDeck, isOwn, freeSlot, endD, startD, startK, startL, List.map, List.length, List.replicate, List.cons_append, List.nil_append, List.append_nil, List.getElem?_cons_succ, List.getElem?_cons_zero, Nat.reduceAdd, Nat.reduceSub, List.set, Bool.and_true, Bool.true_and, Bool.and_false, Bool.false_and, Bool.not_true, Bool.not_false, Nat.reduceBEq, beq_self_eq_true, reduceIte, reduceCtorEq, isNoneD, wipeD, freeAll, List.all_cons, List.all_nil, Kt.at0, Kt.at1, Kt.at2, true_and, and_true, List.getElem?_cons_succ, g_law_pieces]
    refine ⟨⟨n1, n2, p0⟩, fun ps op lp lp2 => ⟨by decide, by decide, ?_⟩⟩
    have fch := fi_board ⟨n1, n2⟩ ok lr lc op lp
    unfold chD at fch
    generalize hch : PyData.tuple [PyData.tuple [.int n, .tuple (rs.map pD), .tuple (cs.map .int)], .tuple (ps.map pD)] = bd at *
    refine lc_post (fun _ o => ∃ z, o = some z ∧ Fi 3000 7 z) (fun d _ B hB => ?_) (by rw [rng_len]; decide) fun one h1 => ?_
    · simp only [sSeq, sCut, sIf, sNext, sRet, sAsg, sPar, sPar3, sDrop, sBreak, sCont, sOwn, sFor, sForI, sWhile, dNot, dB, dAnd, dOr, dAndV, dOrV, dNotV, dIf, dCall, dCallK, dCallP, dv, dc, dOp, dCmp, dCmpT, dUn, dNeg, dIsi, dLst, dTup, dRev, dSlice, dChain, dChainT, dApp, dSortedO, dNotInO, dLc, dYes, aCons, aNil, aStar, oNo, oIs, tTupD, tsCons, tsNil, tn, iSeq, iEnumD, iRng1D, iRng2D, bI, bIsN, bNotN, dI20, dI2, dLen, dTupF, dListF, dInt1, dII, dRepr, dSorted, isDeck, isOwn, freeSlot, endD, startD, startK, startL, List.map, List.length, List.replicate, List.cons_append, List.nil_append, List.append_nil, List.getElem?_cons_succ, List.getElem?_cons_zero, Nat.reduceAdd, Nat.reduceSub, List.set, Bool.and_true, Bool.true_and, Bool.and_false, Bool.false_and, Bool.not_true, Bool.not_false, Nat.reduceBEq, beq_self_eq_true, reduceIte, reduceCtorEq, isNoneD, wipeD, freeAll, List.all_cons, List.all_nil, Kt.at0, Kt.at1, Kt.at2, true_and, and_true, List.getElem?_cons_succ, turnD]
      subst hch
      simp only [sSeq, sCut, sIf, sNext, sRet, sAsg, sPar, sPar3, sDrop, sBreak, sCont, sOwn, sFor, sForI, sWhile, dNot, dB, dAnd, dOr, dAndV, dOrV, dNotV, dIf, dCall, dCallK, dCallP, dv, dc, dOp, dCmp, dCmpT, dUn, dNeg, dIsi, dLst, dTup, dRev, dSlice, dChain, dChainT, dApp, dSortedO, dNotInO, dLc, dYes, aCons, aNil, aStar, oNo, oIs, tTupD, tsCons, tsNil, tn, iSeq, iEnumD, iRng1D, iRng2D, bI, bIsN, bNotN, dI20, dI2, dLen, dTupF, dListF, dInt1, dII, dRepr, dSorted, isDeck, isOwn, freeSlot, endD, startD, startK, startL, List.map, List.length, List.replicate, List.cons_append, List.nil_append, List.append_nil, List.getElem?_cons_succ, List.getElem?_cons_zero, Nat.reduceAdd, Nat.reduceSub, List.set, Bool.and_true, Bool.true_and, Bool.and_false, Bool.false_and, Bool.not_true, Bool.not_false, Nat.reduceBEq, beq_self_eq_true, reduceIte, reduceCtorEq, isNoneD, wipeD, freeAll, List.all_cons, List.all_nil, Kt.at0, Kt.at1, Kt.at2, true_and, and_true, List.getElem?_cons_succ, g_law_turned]
      exact ⟨⟨n1, n2⟩, by rw [List.length_map]; omega, 1350, 4, fch, by decide, fun z hz => hB _ ⟨z, rfl, hz⟩⟩
    have l1 := h1.len
    have a1 : ∀ y ∈ one, Fi 3000 7 y := h1.all fun d _ y hy => by
      obtain ⟨z, e, hz⟩ := hy
      cases e
      exact hz
    rw [rng_len] at l1
    rw [List.nil_append]
    have sz : (100 : Nat) ≤ SZ := by decide
    have s8 : Int.toNat 8 = 8 := rfl
    refine lc_post (fun _ o => o = none ∨ ∃ z, o = some z ∧ Fi 6300 8 z) (fun d hd B hB => ?_) (by simp; omega) fun two h2 => ?_
    · simp only [sSeq, sCut, sIf, sNext, sRet, sAsg, sPar, sPar3, sDrop, sBreak, sCont, sOwn, sFor, sForI, sWhile, dNot, dB, dAnd, dOr, dAndV, dOrV, dNotV, dIf, dCall, dCallK, dCallP, dv, dc, dOp, dCmp, dCmpT, dUn, dNeg, dIsi, dLst, dTup, dRev, dSlice, dChain, dChainT, dApp, dSortedO, dNotInO, dLc, dYes, aCons, aNil, aStar, oNo, oIs, tTupD, tsCons, tsNil, tn, iSeq, iEnumD, iRng1D, iRng2D, bI, bIsN, bNotN, dI20, dI2, dLen, dTupF, dListF, dInt1, dII, dRepr, dSorted, isDeck, isOwn, freeSlot, endD, startD, startK, startL, List.map, List.length, List.replicate, List.cons_append, List.nil_append, List.append_nil, List.getElem?_cons_succ, List.getElem?_cons_zero, Nat.reduceAdd, Nat.reduceSub, List.set, Bool.and_true, Bool.true_and, Bool.and_false, Bool.false_and, Bool.not_true, Bool.not_false, Nat.reduceBEq, beq_self_eq_true, reduceIte, reduceCtorEq, isNoneD, wipeD, freeAll, List.all_cons, List.all_nil, Kt.at0, Kt.at1, Kt.at2, true_and, and_true, List.getElem?_cons_succ, turnD, g_law_due]
      have fd := a1 d hd
      by_cases e : boardErr d = .none
      · obtain ⟨n, rs, cs, qs, rfl, hn, hq⟩ := errB_none e
        rw [e]
        simp only [sSeq, sCut, sIf, sNext, sRet, sAsg, sPar, sPar3, sDrop, sBreak, sCont, sOwn, sFor, sForI, sWhile, dNot, dB, dAnd, dOr, dAndV, dOrV, dNotV, dIf, dCall, dCallK, dCallP, dv, dc, dOp, dCmp, dCmpT, dUn, dNeg, dIsi, dLst, dTup, dRev, dSlice, dChain, dChainT, dApp, dSortedO, dNotInO, dLc, dYes, aCons, aNil, aStar, oNo, oIs, tTupD, tsCons, tsNil, tn, iSeq, iEnumD, iRng1D, iRng2D, bI, bIsN, bNotN, dI20, dI2, dLen, dTupF, dListF, dInt1, dII, dRepr, dSorted, isDeck, isOwn, freeSlot, endD, startD, startK, startL, List.map, List.length, List.replicate, List.cons_append, List.nil_append, List.append_nil, List.getElem?_cons_succ, List.getElem?_cons_zero, Nat.reduceAdd, Nat.reduceSub, List.set, Bool.and_true, Bool.true_and, Bool.and_false, Bool.false_and, Bool.not_true, Bool.not_false, Nat.reduceBEq, beq_self_eq_true, reduceIte, reduceCtorEq, isNoneD, wipeD, freeAll, List.all_cons, List.all_nil, Kt.at0, Kt.at1, Kt.at2, true_and, and_true, List.getElem?_cons_succ, g_law_turned]
        exact ⟨hn, by omega, 3000, 5, fd, by decide, fun z hz => hB _ (.inr ⟨z, rfl, hz⟩)⟩
      · have e2 : isNoneD (boardErr d) = false := by
          cases h : boardErr d <;> first | rfl | exact absurd h e
        simp only [isNoneD] at e2
        simp only [e2]
        exact hB _ (.inl rfl)
    have l2 := h2.len
    have a2 : ∀ y ∈ two, Fi 6300 8 y := h2.all fun d _ y hy => by
      rcases hy with e | ⟨z, e, hz⟩
      · cases e
      · cases e
        exact hz
    rw [List.nil_append]
    refine ⟨by decide, by omega, by omega, fun od ho => ⟨by decide, by rw [List.length_append]; omega, ?_⟩⟩
    refine ⟨LV (.int (0 + (turn : Int))) _ bd (.list one) (.list two), ⟨_, _, _, _, _, rfl, f7, f8, f9, f10, f11⟩, ?_, fun ρ h => h.lw⟩
    rintro i d ρ hd ⟨o7, o8, o9, o10, o11, rfl, f7, f8, f9, f10, f11⟩
    obtain ⟨x, hx, rfl⟩ := enumD_at hd
    have fx : Fi 6300 8 x := by
      rcases List.mem_cons.mp (List.mem_of_getElem? hx) with z | z
      · rw [z]; exact fch.le (by decide) (by decide)
      · rcases List.mem_append.mp z with z | z
        · rcases List.mem_append.mp z with z | z
          · exact (a1 x z).le (by decide) (by decide)
          · exact a2 x z
        · rw [List.mem_singleton.mp z]; exact ho.le (by decide) (by decide)
    have s1 := fx.shw (by decide) (by decide)
    have s2 := errB_shw (k := 6300) (e := 5) fx (by decide)
    have s3 := errB_few (k := 6300) (e := 5) fx (by decide)
    simp only [freeSlot] at f7 f8 f9 f10 f11
    simp only [sSeq, sCut, sIf, sNext, sRet, sAsg, sPar, sPar3, sDrop, sBreak, sCont, sOwn, sFor, sForI, sWhile, dNot, dB, dAnd, dOr, dAndV, dOrV, dNotV, dIf, dCall, dCallK, dCallP, dv, dc, dOp, dCmp, dCmpT, dUn, dNeg, dIsi, dLst, dTup, dRev, dSlice, dChain, dChainT, dApp, dSortedO, dNotInO, dLc, dYes, aCons, aNil, aStar, oNo, oIs, tTupD, tsCons, tsNil, tn, iSeq, iEnumD, iRng1D, iRng2D, bI, bIsN, bNotN, dI20, dI2, dLen, dTupF, dListF, dInt1, dII, dRepr, dSorted, isDeck, isOwn, freeSlot, endD, startD, startK, startL, List.map, List.length, List.replicate, List.cons_append, List.nil_append, List.append_nil, List.getElem?_cons_succ, List.getElem?_cons_zero, Nat.reduceAdd, Nat.reduceSub, List.set, Bool.and_true, Bool.true_and, Bool.and_false, Bool.false_and, Bool.not_true, Bool.not_false, Nat.reduceBEq, beq_self_eq_true, reduceIte, reduceCtorEq, isNoneD, wipeD, freeAll, List.all_cons, List.all_nil, Kt.at0, Kt.at1, Kt.at2, true_and, and_true, List.getElem?_cons_succ, f7, f8, f9, f10, f11, g_law_due, g_board_error, permL]
    refine ⟨s1, s2, bEq_int ?_⟩
    by_cases e : ((i : Nat) : Int) = 0 + (turn : Int)
    · simp only [decide_eq_true e]
      exact ⟨s3, s2, bNe_same ⟨s3, s2, bNe_same ⟨s1, bNe_same ⟨_, _, _, _, _, rfl, rfl, rfl, rfl, rfl, rfl⟩⟩⟩⟩
    · simp only [decide_eq_false e]
      exact ⟨s3, s2, bNe_same ⟨s3, s2, bNe_same ⟨s1, bNe_same ⟨_, _, _, _, _, rfl, rfl, rfl, rfl, rfl, rfl⟩⟩⟩⟩
  · rintro ρ ⟨o2, o3, o4, o5, o6, o7, o8, o9, o10, o11, rfl, f2, f3, f4, f5, f6, f7, f8, f9, f10, f11⟩
    simp only [sSeq, sCut, sIf, sNext, sRet, sAsg, sPar, sPar3, sDrop, sBreak, sCont, sOwn, sFor, sForI, sWhile, dNot, dB, dAnd, dOr, dAndV, dOrV, dNotV, dIf, dCall, dCallK, dCallP, dv, dc, dOp, dCmp, dCmpT, dUn, dNeg, dIsi, dLst, dTup, dRev, dSlice, dChain, dChainT, dApp, dSortedO, dNotInO, dLc, dYes, aCons, aNil, aStar, oNo, oIs, tTupD, tsCons, tsNil, tn, iSeq, iEnumD, iRng1D, iRng2D, bI, bIsN, bNotN, dI20, dI2, dLen, dTupF, dListF, dInt1, dII, dRepr, dSorted, isDeck, isOwn, freeSlot, endD, startD, startK, startL, List.map, List.length, List.replicate, List.cons_append, List.nil_append, List.append_nil, List.getElem?_cons_succ, List.getElem?_cons_zero, Nat.reduceAdd, Nat.reduceSub, List.set, Bool.and_true, Bool.true_and, Bool.and_false, Bool.false_and, Bool.not_true, Bool.not_false, Nat.reduceBEq, beq_self_eq_true, reduceIte, reduceCtorEq, isNoneD, wipeD, freeAll, List.all_cons, List.all_nil, Kt.at0, Kt.at1, Kt.at2, true_and, and_true, List.getElem?_cons_succ, g_law_draw, dAdd]
    refine ⟨by decide, by decide, by decide, by decide, by decide, fun r r0 r1 => ?_⟩
    obtain ⟨fs, g1, g2, g3, g4⟩ := rng_ints 0 (16 + r).toNat
    rw [g1]
    refine ⟨by omega, ?_⟩
    have sz : (100 : Nat) ≤ SZ := by decide
    refine lc_post (fun d o => ∀ f, d = .int f → ∃ p, o = some (pD (f, p)) ∧ 0 ≤ p ∧ p < 6) (fun d hd B hB => ?_) (by rw [List.length_map, g4]; simp; omega) fun rs ho => ?_
    · obtain ⟨f, hf, rfl⟩ := List.mem_map.mp hd
      simp only [sSeq, sCut, sIf, sNext, sRet, sAsg, sPar, sPar3, sDrop, sBreak, sCont, sOwn, sFor, sForI, sWhile, dNot, dB, dAnd, dOr, dAndV, dOrV, dNotV, dIf, dCall, dCallK, dCallP, dv, dc, dOp, dCmp, dCmpT, dUn, dNeg, dIsi, dLst, dTup, dRev, dSlice, dChain, dChainT, dApp, dSortedO, dNotInO, dLc, dYes, aCons, aNil, aStar, oNo, oIs, tTupD, tsCons, tsNil, tn, iSeq, iEnumD, iRng1D, iRng2D, bI, bIsN, bNotN, dI20, dI2, dLen, dTupF, dListF, dInt1, dII, dRepr, dSorted, isDeck, isOwn, freeSlot, endD, startD, startK, startL, List.map, List.length, List.replicate, List.cons_append, List.nil_append, List.append_nil, List.getElem?_cons_succ, List.getElem?_cons_zero, Nat.reduceAdd, Nat.reduceSub, List.set, Bool.and_true, Bool.true_and, Bool.and_false, Bool.false_and, Bool.not_true, Bool.not_false, Nat.reduceBEq, beq_self_eq_true, reduceIte, reduceCtorEq, isNoneD, wipeD, freeAll, List.all_cons, List.all_nil, Kt.at0, Kt.at1, Kt.at2, true_and, and_true, List.getElem?_cons_succ, turnD]
      refine ⟨by decide, fun p p0 p1 => ⟨by decide, hB _ fun f' e => ?_⟩⟩
      cases e
      exact ⟨p, rfl, p0, p1⟩
    · obtain ⟨ps, rfl, e5, e6⟩ := outs_pairs (P := fun p => 0 ≤ p ∧ p < 6) (fun f o h => h f rfl) ho
      rw [List.nil_append]
      have hlen : ps.length = (16 + r).toNat := by rw [← g4, ← e5, List.length_map]
      have op : PcOk 24 ps := by
        refine ⟨fun q hq => ?_, ?_⟩
        · have h1 : q.1 ∈ fs := by rw [← e5]; exact List.mem_map_of_mem hq
          have h2 := g3 q.1 h1
          have h3 := e6 q hq
          omega
        · rw [← e5, List.pairwise_map] at g2
          exact g2
      have hw : chartErr (.tuple [.int 24, .tuple [.tuple [.int 0, .int 23]], .tuple []]) = .none := rfl
      simp only [sSeq, sCut, sIf, sNext, sRet, sAsg, sPar, sPar3, sDrop, sBreak, sCont, sOwn, sFor, sForI, sWhile, dNot, dB, dAnd, dOr, dAndV, dOrV, dNotV, dIf, dCall, dCallK, dCallP, dv, dc, dOp, dCmp, dCmpT, dUn, dNeg, dIsi, dLst, dTup, dRev, dSlice, dChain, dChainT, dApp, dSortedO, dNotInO, dLc, dYes, aCons, aNil, aStar, oNo, oIs, tTupD, tsCons, tsNil, tn, iSeq, iEnumD, iRng1D, iRng2D, bI, bIsN, bNotN, dI20, dI2, dLen, dTupF, dListF, dInt1, dII, dRepr, dSorted, isDeck, isOwn, freeSlot, endD, startD, startK, startL, List.map, List.length, List.replicate, List.cons_append, List.nil_append, List.append_nil, List.getElem?_cons_succ, List.getElem?_cons_zero, Nat.reduceAdd, Nat.reduceSub, List.set, Bool.and_true, Bool.true_and, Bool.and_false, Bool.false_and, Bool.not_true, Bool.not_false, Nat.reduceBEq, beq_self_eq_true, reduceIte, reduceCtorEq, isNoneD, wipeD, freeAll, List.all_cons, List.all_nil, Kt.at0, Kt.at1, Kt.at2, true_and, and_true, List.getElem?_cons_succ, g_board_error]
      rw [boardErr_on hw]
      refine ⟨by decide, ⟨by decide, by decide⟩, ?_⟩
      by_cases h : r = 0
      · subst h
        have hl : (ps.map pD).length ≤ 16 := by rw [List.length_map, hlen]; decide
        simp only [if_pos hl]
        rw [firstBad_none (fun j hj => bad_none op hj)]
        refine ⟨Fi.shw (k := 0) (e := 0) (Fi.lit (by decide +kernel)) (by decide) (by decide), bEq_int ?_⟩
        refine ⟨Fi.shw (k := 0) (e := 0) (Fi.lit (by decide +kernel)) (by decide) (by decide), bEq_str ?_⟩
        rw [decide_eq_true rfl]
      · have hl : ¬ (ps.map pD).length ≤ 16 := by rw [List.length_map, hlen]; omega
        simp only [if_neg hl]
        refine ⟨Fi.shw (k := 100) (e := 0) (Fi.lit (by decide +kernel)) (by decide) (by decide), bEq_int ?_⟩
        rw [decide_eq_false (show ¬ (16 + r = 16) by omega)]
        refine ⟨Fi.shw (k := 100) (e := 0) (Fi.lit (by decide +kernel)) (by decide) (by decide), bEq_str ?_⟩
        rw [decide_eq_true rfl]
end Dl

set_option Elab.async false
set_option linter.all false
set_option maxRecDepth 100000
set_option maxHeartbeats 4000000
namespace Kt
open PySem PySem.Spec PyProof.Rows L2
abbrev sDraw : Stmt := Dl.topS 16
abbrev sDeck : Stmt := Dl.topS 15
section
variable {P : Program} {w : World} {K : PySem.W.Frag} {mg : Str → Option Value} {base : Heap}
theorem scDraw : FnScope ["deck", "many", "cell", "mixed"] ["deck", "many"] (defScope sDraw) := ⟨rfl, rfl, rfl, by decide +kernel, rfl, by decide +kernel, by decide +kernel⟩
theorem ok_draw {f : Addr} {fd : FuncData} (F : Fun K "_law_draw" "_law_draw" sDraw f fd) (mI : mg "int" = none) : FnOk P w K mg base CX0 1 f fd ["deck", "many"] spDraw := by
  refine F.ok scDraw (fun vs H Q E h => ?_) (fun cdv A outer s H vs Q E hr h => ?_)
  · obtain ⟨a, c, m, rfl, _⟩ := h
    rfl
  · obtain ⟨a, c, m, rfl, ⟨cells, st, n, h1, h2, nac⟩, hm0, hm1, k⟩ := h
    refine ⟨_, pss_cons (ps_if (pt_cmpR (op_neD hr.units) (kl (pv 0) pe_int) (pe_lst pa_nil) (nomark _))
        (pss_cons (ps_set (i := 2) scDraw.nd rfl (.inl rfl) (kl (kl (pv 0) pe_int) pe_int))
        (pss_cons (ps_asg (pe_op op_fdiv (pv 2) (pv 1)) (pg_sub (kl (pv 0) pe_int) pe_int set_list))
        (pss_cons (ps_if (pt_cmpR op_lt (pv 2) (pv 1) (nomark _)) (pss_one (ps_expr (pe_bm PySem.F.plainAttrs_list PySem.F.slot_list_pop PySem.F.type_list_pop mt_popAt (kl (pv 0) pe_int) (pa_cons pe_int pa_nil)))) pss_nil)
        (pss_one (ps_ret (pe_op op_mod (pe_callTy call_int1 (by rfl) mI PyProof.Rows.boot_int (pa_cons (pv 2) pa_nil)) (pv 1))))))) pss_nil)
      (pss_cons (ps_asg (pe_op op_add (kl (pv 0) pe_int) pe_int) (pg_sub (pv 0) pe_int set_list))
      (pss_cons (ps_set (i := 3) scDraw.nd rfl (.inl rfl) (pe_op op_mod (pe_callTy call_int1 (by rfl) mI PyProof.Rows.boot_int (pa_cons (pe_op op_add (kl (pv 0) pe_int) (pe_op op_mul pe_int (kl (pv 0) pe_int))) pa_nil)) pe_int))
      (pss_cons (ps_set (i := 3) scDraw.nd rfl (.inl rfl) (pe_op op_mod (pe_callTy call_int1 (by rfl) mI PyProof.Rows.boot_int (pa_cons (pe_op op_add (pe_op op_add (pe_op op_mul (pv 3) (pv 3)) (pe_op op_mul pe_int (kl (pv 0) pe_int))) pe_int) pa_nil)) pe_int))
      (pss_cons (ps_set (i := 3) scDraw.nd rfl (.inl rfl) (pe_op op_mod (pe_callTy call_int1 (by rfl) mI PyProof.Rows.boot_int (pa_cons (pe_op op_add (pe_op op_mul (pv 3) (pv 3)) (kl (pv 0) pe_int)) pa_nil)) pe_int))
      (pss_one (ps_ret (pe_op op_mod (pe_callTy call_int1 (by rfl) mI PyProof.Rows.boot_int (pa_cons (pe_op op_fdiv (pv 3) pe_int) pa_nil)) (pv 1)))))))), ?_⟩
    refine ⟨.ref a, rfl, a, _, 0, _, rfl, rfl, SqL.of h1, at0, Nat.zero_le _, fun e he => ?_⟩
    have ne1 := ne_of_none h1 he
    have ne2 := ne_of_none h2 he
    have h1' : (upd H e (.lst [])) a = some (.lst [.ref c, .int st, .int n]) := by rw [upd_ne ne1]; exact h1
    have h2' : (upd H e (.lst [])) c = some (.lst (cells.map V.int)) := by rw [upd_ne ne2]; exact h2
    have k0 : Kp [a, c] H (upd H e (.lst [])) := Kp.new he
    refine ⟨_, _, .lst (SqL.of h2') (dp_ints cells), .lst (SqL.of upd_same) .nil, shaped_ints cells, shaped_ints [], _, rfl, ?_⟩
    generalize upd H e (.lst []) = H1 at h1' h2' k0
    rw [eqv_nil]
    cases cells with
    | nil =>
      refine iteF ?_
      -- deck[2] = deck[2] + 1
      refine ⟨.ref a, rfl, a, _, 2, _, rfl, rfl, SqL.of h1', at2, n, 1, rfl, rfl, .ref a, rfl, a, _, 2, 2, rfl, rfl, h1', ix2, ?_⟩
      have h1n : (upd H1 a (.lst [.ref c, .int st, .int (n + 1)])) a = some (.lst [.ref c, .int st, .int (n + 1)]) := upd_same
      have k1 : Kp [a, c] H (upd H1 a (.lst [.ref c, .int st, .int (n + 1)])) := k0.trans (Kp.put (by simp))
      have h2n : (upd H1 a (.lst [.ref c, .int st, .int (n + 1)])) c = some (.lst []) := by rw [upd_ne nac.symm]; exact h2'
      show tSeq _ _ _ _ (upd H1 a (.lst [.ref c, .int st, .int (n + 1)]))
      generalize upd H1 a (.lst [.ref c, .int st, .int (n + 1)]) = H2 at h1n h2n k1
      refine ⟨.ref a, rfl, a, _, 1, _, rfl, rfl, SqL.of h1n, at1, .ref a, rfl, a, _, 2, _, rfl, rfl, SqL.of h1n, at2, _, _, rfl, rfl, .inl ⟨by decide, by decide⟩, _, _, rfl, rfl, .inl ⟨_, rfl, _, _, rfl, rfl, (by show (0 : Int) < 4294967291; decide), ?_⟩⟩
      generalize hx : (st + 2654435761 * (n + 1)) % 4294967291 = x
      have hx0 : 0 ≤ x ∧ x < 4294967291 := by omega
      refine ⟨_, rfl, _, rfl, _, _, rfl, rfl, .inl ⟨by omega, by omega⟩, .ref a, rfl, a, _, 2, _, rfl, rfl, SqL.of h1n, at2, _, _, rfl, rfl, .inl ⟨by decide, by decide⟩, _, _, rfl, rfl, _, _, rfl, rfl, .inl ⟨_, rfl, _, _, rfl, rfl, (by show (0 : Int) < 4294967279; decide), ?_⟩⟩
      generalize hy : (x * x + 40503 * (n + 1) + 11) % 4294967279 = y
      have hy0 : 0 ≤ y ∧ y < 4294967279 := by omega
      refine ⟨_, rfl, _, rfl, _, _, rfl, rfl, .inl ⟨by omega, by omega⟩, .ref a, rfl, a, _, 1, _, rfl, rfl, SqL.of h1n, at1, _, _, rfl, rfl, .inl ⟨_, rfl, _, _, rfl, rfl, (by show (0 : Int) < 4294967231; decide), ?_⟩⟩
      refine ⟨_, rfl, _, _, rfl, rfl, ⟨by decide, by decide⟩, .inl ⟨_, rfl, .int m, rfl, _, _, rfl, rfl, hm0, ?_⟩⟩
      exact k H2 _ (Int.emod_nonneg _ (by omega)) (Int.emod_lt_of_pos _ hm0) ⟨[], st, n + 1, h1n, h2n, nac⟩ k1
    | cons x cells =>
      refine iteT ?_
      -- cell = deck[0][0]
      refine ⟨.ref a, rfl, a, _, 0, _, rfl, rfl, SqL.of h1', at0, c, _, 0, _, rfl, rfl, SqL.of h2', at0, ?_⟩
      -- deck[0][0] = cell // many
      refine ⟨_, rfl, _, rfl, _, _, rfl, rfl, ⟨hm0, hm1⟩, .ref a, rfl, a, _, 0, _, rfl, rfl, SqL.of h1', at0, c, _, 0, 0, rfl, rfl, h2', ix0 (by simp), ?_⟩
      have e3 : ((x :: cells).map V.int).set 0 (.int (x / m)) = (x / m :: cells).map V.int := rfl
      rw [e3]
      have h1n : (upd H1 c (.lst ((x / m :: cells).map V.int))) a = some (.lst [.ref c, .int st, .int n]) := by rw [upd_ne nac]; exact h1'
      have h2n : (upd H1 c (.lst ((x / m :: cells).map V.int))) c = some (.lst ((x / m :: cells).map V.int)) := upd_same
      have k1 : Kp [a, c] H (upd H1 c (.lst ((x / m :: cells).map V.int))) := k0.trans (Kp.put (by simp))
      generalize upd H1 c (.lst ((x / m :: cells).map V.int)) = H2 at h1n h2n k1
      -- if cell < many
      refine ⟨_, rfl, _, rfl, _, _, rfl, rfl, _, rfl, ite2 (fun _ => ?_) (fun _ => ?_)⟩
      · refine ⟨.ref a, rfl, a, _, 0, _, rfl, rfl, SqL.of h1n, at0, .inl ⟨rfl, _, SqL.of h2n⟩, c, _, 0, 0, _, rfl, rfl, h2n, by decide, by decide, seq0 (by simp), rfl, ?_⟩
        refine ⟨_, rfl, .inl ⟨_, rfl, .int m, rfl, _, _, rfl, rfl, hm0, ?_⟩⟩
        refine k _ _ (Int.emod_nonneg _ (by omega)) (Int.emod_lt_of_pos _ hm0) ⟨cells, st, n, by rw [upd_ne nac]; exact h1n, upd_same, nac⟩ (k1.trans (Kp.put (by simp)))
      · refine ⟨_, rfl, .inl ⟨_, rfl, .int m, rfl, _, _, rfl, rfl, hm0, ?_⟩⟩
        exact k _ _ (Int.emod_nonneg _ (by omega)) (Int.emod_lt_of_pos _ hm0) ⟨_, st, n, h1n, h2n, nac⟩ k1
end
end Kt

namespace Kt
open PySem PySem.Spec PyProof.Rows L2
theorem map_ints_get {ns : List Int} {i : Nat} {y : V} (h : (ns.map V.int)[i]? = some y) : ∃ n, ns[i]? = some n ∧ y = .int n := by
  rw [List.getElem?_map] at h
  cases e : ns[i]? with
  | none => rw [e] at h; cases h
  | some n => rw [e] at h; exact ⟨n, rfl, (Option.some.inj h).symm⟩
theorem cutV_ints (ns : List Int) (lo hi : Option Int) : ∃ ms : List Int, cutV (ns.map V.int) lo hi = ms.map V.int ∧ ms.length ≤ ns.length := by
  refine ⟨(ns.drop (HT.sIx (ns.map V.int).length 0 lo)).take (HT.sIx (ns.map V.int).length (ns.map V.int).length hi - HT.sIx (ns.map V.int).length 0 lo), ?_, ?_⟩
  · unfold cutV
    rw [List.map_take, List.map_drop]
  · rw [List.length_take, List.length_drop]
    omega
theorem kz_seq {H H' : Hp} (h : Kp [] H H') : Same H H' := fun b o e => h b o (by simp) e
def spDeck (K : PySem.W.Frag) : Sp := fun vs H Q _ => ∃ (p : Addr) (ns : List Int), vs = [.ref p] ∧ SqL K H p (ns.map V.int) ∧ ns.length ≤ 63 ∧ ∀ (H' : Hp) (a c : Addr), DeckAt H' a c → Kp [] H H' → H a = none → H c = none → Q (.ref a) H'
section
variable {P : Program} {w : World} {K : PySem.W.Frag} {mg : Str → Option Value} {base : Heap}
theorem scDeck : FnScope ["script", "cell", "cells", "stirred"] ["script"] (defScope sDeck) := ⟨rfl, rfl, rfl, by decide +kernel, rfl, by decide +kernel, by decide +kernel⟩
theorem ok_deck {f : Addr} {fd : FuncData} (F : Fun K "_law_deck" "_law_deck" sDeck f fd) (mI : mg "int" = none) (mL : mg "len" = none) : FnOk P w K mg base CX0 1 f fd ["script"] (spDeck K) := by
  refine F.ok scDeck (fun vs H Q E h => ?_) (fun cdv A outer s H vs Q E hr h => ?_)
  · obtain ⟨p, ns, rfl, _⟩ := h
    rfl
  · obtain ⟨p, ns, rfl, hp, hlen, k⟩ := h
    refine ⟨_, pss_cons (ps_par (i := 2) (j := 3) rfl scDeck.nd rfl rfl (by decide) rfl rfl
        (pa_cons (pe_lc (own := [("cell", 1)]) (g := gName 1) rfl scDeck.nd (pi_list (pe_slice sl_list (pv 0) po_none (po_some pe_int))) (blkOk_by (own := [("cell", 1)]) (N := ["script", "cell", "cells", "stirred"]) (sc := defScope sDeck) (by decide +kernel))
            (fun _ _ _ _ _ => pg_name (i := 1) scDeck.nd rfl (.inl rfl)) (fun _ _ _ _ _ => pts_nil)
            (fun _ _ _ _ _ => pe_ifExp (pt_cmpR op_ge (pv 1) pe_int (nomark _)) (pe_op op_mul pe_int (pv 1)) (pe_op op_sub (pe_op op_mul (pe_un un_neg pe_int) (pv 1)) pe_int)))
          (pa_cons (pe_op op_add pe_int (pe_callB call_len_seq (by rfl) mL PySem.boot_len (pa_cons (pv 0) pa_nil))) pa_nil)) (by rfl))
      (pss_cons (ps_for PassesOwn.never rfl (pi_list (pv 2)) (pg_name (i := 1) scDeck.nd rfl (.inl rfl))
        (pss_one (ps_set (i := 3) scDeck.nd rfl (.inl rfl) (pe_op op_mod (pe_callTy call_int1 (by rfl) mI PyProof.Rows.boot_int (pa_cons (pe_op op_add (pe_op op_mul (pv 3) pe_int) (pv 1)) pa_nil)) pe_int))))
      (pss_one (ps_ret (pe_lst (pa_cons (pe_lc (own := [("cell", 1)]) (g := gName 1) rfl scDeck.nd (pi_list (pv 2)) (blkOk_by (own := [("cell", 1)]) (N := ["script", "cell", "cells", "stirred"]) (sc := defScope sDeck) (by decide +kernel))
            (fun _ _ _ _ _ => pg_name (i := 1) scDeck.nd rfl (.inl rfl)) (fun _ _ _ _ _ => pts_one (pt_cmpR op_ge (pv 1) (pe_op op_pow pe_int pe_int) (nomark _)))
            (fun _ _ _ _ _ => pv 1)) (pa_cons (pv 3) (pa_cons pe_int pa_nil))))))), ?_⟩
    obtain ⟨ms, ems, hms⟩ := cutV_ints ns none (some 63)
    refine ⟨.ref p, rfl, 63, rfl, p, _, rfl, hp, fun z hz => ?_⟩
    rw [ems]
    have kz : Kp [] H (upd H z (.lst (ms.map V.int))) := Kp.new hz
    have hz1 : (upd H z (.lst (ms.map V.int))) z = some (.lst (ms.map V.int)) := upd_same
    generalize upd H z (.lst (ms.map V.int)) = H0 at kz hz1
    refine ⟨z, rfl, ⟨_, SqL.of hz1⟩, fun D hD => ?_⟩
    have nzD : z ≠ D := ne_of_none hz1 hD
    have hDH : H D = none := by
      cases e : H D with
      | none => rfl
      | some o => exact absurd (kz _ _ (by simp) e) (by rw [hD]; simp)
    refine lc_list (K := K) (a := z) (xs := ms.map V.int) (fun i H' => ∃ ls : List Int, H' D = some (.lst (ls.map V.int)) ∧ ls.length ≤ i ∧ H' z = some (.lst (ms.map V.int)) ∧ Kp [] H H')
      ⟨[], upd_same, Nat.zero_le _, by rw [upd_ne nzD]; exact hz1, kz.trans (Kp.new hD)⟩ (fun i H' _ ⟨_, _, _, e, _⟩ => SqL.of e) ?_ ?_
    · rintro i x H' hx ⟨ls, e1, e2, e3, e4⟩
      obtain ⟨n, hn, rfl⟩ := map_ints_get hx
      have hi : i < ms.length := (List.getElem?_eq_some_iff.mp hn).1
      have fin : ∀ y : Int, ∃ acc, H' D = some (.lst acc) ∧ acc.length < sizeLine ∧ ∃ ls : List Int, (upd H' D (.lst (acc ++ [.int y]))) D = some (.lst (ls.map V.int)) ∧ ls.length ≤ i + 1 ∧ (upd H' D (.lst (acc ++ [.int y]))) z = some (.lst (ms.map V.int)) ∧ Kp [] H (upd H' D (.lst (acc ++ [.int y]))) := fun y => by
        refine ⟨_, e1, ?_, ls ++ [y], ?_, ?_, ?_, ?_⟩
        · rw [List.length_map]
          exact small1000 (by omega)
        · rw [upd_same, List.map_append]
          rfl
        · rw [List.length_append]
          simpa using e2
        · rw [upd_ne nzD]
          exact e3
        · exact (e4.mono (S' := [D]) (by simp)).trans (Kp.put (by simp)) |>.drop hDH
      refine ⟨rfl, yesGo ?_⟩
      refine ⟨_, rfl, _, _, rfl, rfl, _, rfl, ite2 (fun _ => ?_) (fun _ => ?_)⟩
      · exact ⟨_, rfl, _, _, rfl, rfl, .inl ⟨by decide, by decide⟩, fin _⟩
      · exact ⟨_, rfl, _, rfl, _, _, rfl, rfl, .inl ⟨by decide, by decide⟩, _, _, rfl, rfl, fin _⟩
    · rintro H' ⟨ls, e1, e2, e3, e4⟩
      rw [List.length_map] at e2
      -- 48009 + len(script); cells, stirred
      refine ⟨.ref p, rfl, p, _, rfl, .inl ((kz_seq e4).seq hp), _, _, rfl, rfl, _, _, rfl, ?_⟩
      -- for cell in cells
      refine ⟨_, rfl, D, rfl, ⟨_, SqL.of e1⟩, for_list (K := K) (a := D) (xs := ls.map V.int) (fun i σ H2 => H2 = H' ∧ ∃ (v : Option V) (st : Int), σ = [some (.ref p), v, some (.ref D), some (.int st)])
        ⟨rfl, _, _, rfl⟩ (fun i σ H2 _ ⟨e, _⟩ => by rw [e]; exact SqL.of e1) ?_ ?_⟩
      · rintro i y σ H2 hy ⟨rfl, v, st, rfl⟩
        obtain ⟨n, hn, rfl⟩ := map_ints_get hy
        refine ⟨_, rfl, _, _, rfl, rfl, .inr ⟨by decide, by decide⟩, _, rfl, _, _, rfl, rfl, .inl ⟨_, rfl, _, _, rfl, rfl, (by show (0 : Int) < 4294967291; decide), ?_⟩⟩
        exact ⟨rfl, _, _, rfl⟩
      · rintro σ H2 ⟨rfl, v, st, rfl⟩
        -- return [[..], stirred, 0]
        refine ⟨_, rfl, D, rfl, ⟨_, SqL.of e1⟩, fun C hC => ?_⟩
        have nDC : D ≠ C := ne_of_none e1 hC
        have hCH : H C = none := by
          cases e : H C with
          | none => rfl
          | some o => exact absurd (e4 _ _ (by simp) e) (by rw [hC]; simp)
        refine lc_list (K := K) (a := D) (xs := ls.map V.int) (fun i H3 => ∃ cs : List Int, H3 C = some (.lst (cs.map V.int)) ∧ cs.length ≤ i ∧ H3 D = some (.lst (ls.map V.int)) ∧ Kp [] H H3)
          ⟨[], upd_same, Nat.zero_le _, by rw [upd_ne nDC]; exact e1, e4.trans (Kp.new hC)⟩ (fun i H3 _ ⟨_, _, _, e, _⟩ => SqL.of e) ?_ ?_
        · rintro i x H3 hx ⟨cs, f1, f2, f3, f4⟩
          obtain ⟨n, hn, rfl⟩ := map_ints_get hx
          have hi : i < ls.length := (List.getElem?_eq_some_iff.mp hn).1
          refine ⟨rfl, _, rfl, _, _, rfl, rfl, ⟨by decide, by decide, by decide⟩, _, _, rfl, rfl, _, rfl, ite2 (fun _ => ?_) (fun _ => ?_)⟩
          · refine ⟨_, rfl, _, f1, ?_, cs ++ [n], ?_, ?_, ?_, ?_⟩
            · rw [List.length_map]
              exact small1000 (by omega)
            · rw [upd_same, List.map_append]
              rfl
            · rw [List.length_append]
              simpa using f2
            · rw [upd_ne nDC]
              exact f3
            · exact (f4.mono (S' := [C]) (by simp)).trans (Kp.put (by simp)) |>.drop hCH
          · exact ⟨cs, f1, Nat.le_succ_of_le f2, f3, f4⟩
        · rintro H3 ⟨cs, f1, f2, f3, f4⟩
          refine ⟨_, rfl, by show 3 ≤ sizeLine; decide, fun a ha => ?_⟩
          have nCa : C ≠ a := ne_of_none f1 ha
          have haH : H a = none := by
            cases e : H a with
            | none => rfl
            | some o => exact absurd (f4 _ _ (by simp) e) (by rw [ha]; simp)
          exact k _ a C ⟨cs, st, 0, upd_same, by rw [upd_ne nCa]; exact f1, nCa.symm⟩ (f4.trans (Kp.new ha)) haH hCH
end
end Kt


set_option Elab.async false
set_option linter.all false
set_option maxRecDepth 100000
set_option maxHeartbeats 4000000
namespace Kt
open PySem PySem.Spec PyProof.Rows L2
abbrev sMixed : Stmt := Dl.topS 18
theorem erase_perm {α : Type} : ∀ (l : List α) (i : Nat) (h : i < l.length), (l[i] :: l.eraseIdx i).Perm l
  | x :: l, 0, _ => List.Perm.refl _
  | x :: l, i + 1, h => (List.Perm.swap x _ _).trans (List.Perm.cons x (erase_perm l i (Nat.lt_of_succ_lt_succ h)))
/-- some data that may be compared -/
def Sh (K : PySem.W.Frag) (H : Hp) (x : V) : Prop := ∃ d, Dp K H x d ∧ d.canLay0 = true ∧ d.depth ≤ 60
theorem Sh.same {K : PySem.W.Frag} {H H' : Hp} {x : V} (h : Sh K H x) (e : Same H H') : Sh K H' x := let ⟨d, h1, h2, h3⟩ := h; ⟨d, Dp.same e d h1, h2, h3⟩
theorem sh_all {K : PySem.W.Frag} {H : Hp} : ∀ {xs : List V}, (∀ x ∈ xs, Sh K H x) → ∃ ds, DpAll K H xs ds ∧ PyData.canLayAll0 ds = true ∧ PyData.depthAll ds ≤ 60 ∧ ds.isEmpty = xs.isEmpty
  | [], _ => ⟨[], .nil, by simp [PyData.canLayAll0], by simp [PyData.depthAll], rfl⟩
  | x :: xs, h => by
    obtain ⟨d, h1, h2, h3⟩ := h x List.mem_cons_self
    obtain ⟨ds, g1, g2, g3, _⟩ := sh_all (xs := xs) fun y hy => h y (List.mem_cons_of_mem _ hy)
    exact ⟨d :: ds, .cons h1 g1, by simp [PyData.canLayAll0, h2, g2], by simp only [PyData.depthAll]; omega, rfl⟩
/-- xs != [] -/
theorem ne_nil {K : PySem.W.Frag} {H : Hp} {p q : Addr} {xs : List V} {Q : VK} (hp : SqL K H p xs) (hx : ∀ x ∈ xs, Sh K H x) (hq : H q = some (.lst [])) (k : Q (.bl (!xs.isEmpty)) H) : rNeD K (.ref p) (.ref q) H Q := by
  obtain ⟨ds, g1, g2, g3, g4⟩ := sh_all hx
  refine ⟨_, _, .lst hp g1, .lst (SqL.of hq) .nil, shaped_of (by simpa [PyData.canLay0] using g2) (by simp only [PyData.depth]; omega), shaped_of (by simp [PyData.canLay0, PyData.canLayAll0]) (by simp [PyData.depth, PyData.depthAll]), ?_⟩
  rw [eqv_nil, g4]
  exact k
def spMixed (K : PySem.W.Frag) : Sp := fun vs H Q _ => ∃ (a c l : Addr) (xs : List V), vs = [.ref a, .ref l] ∧ DeckAt H a c ∧ (SqL K H l xs ∨ SqT K H l xs) ∧ xs.length ≤ 100000 ∧ (∀ x ∈ xs, Sh K (Ob [a, c] H) x) ∧
  ∀ (H' : Hp) (p : Addr) (ys : List V), ys.Perm xs → H p = none → H' p = some (.lst ys) → DeckAt H' a c → Kp [a, c] H H' → Q (.ref p) H'
section
variable {P : Program} {w : World} {K : PySem.W.Frag} {mg : Str → Option Value} {base : Heap}
theorem scMixed : FnScope ["deck", "items", "rest", "got"] ["deck", "items"] (defScope sMixed) := ⟨rfl, rfl, rfl, by decide +kernel, rfl, by decide +kernel, by decide +kernel⟩
theorem ok_mixed {f fD : Addr} {fd fdD : FuncData} (F : Fun K "_law_mixed" "_law_mixed" sMixed f fd) (FD : Fun K "_law_draw" "_law_draw" sDraw fD fdD) (bD : Binds K fdD ["deck", "many"] []) (gD : mg "_law_draw" = some (.ref fD)) (mI : mg "int" = none) (mL : mg "len" = none) (mT : mg "list" = none) :
    FnOk P w K mg base CX0 2 f fd ["deck", "items"] (spMixed K) := by
  have GD : FnOk P w K mg base CX0 1 fD fdD ["deck", "many"] spDraw := ok_draw FD mI
  refine F.ok scMixed (fun vs H Q E h => ?_) (fun cdv A outer s H vs Q E hr h => ?_)
  · obtain ⟨a, c, l, xs, rfl, _⟩ := h
    rfl
  · obtain ⟨a, c, l, xs, rfl, hD, hl, hlen, hsh, k⟩ := h
    refine ⟨_, pss_cons (ps_par (i := 2) (j := 3) rfl scMixed.nd rfl rfl (by decide) rfl rfl (pa_cons (pe_callTy call_list_of (by rfl) mT PyProof.Rows.boot_list (pa_cons (pv 1) pa_nil)) (pa_cons (pe_lst pa_nil) pa_nil)) (by rfl))
      (pss_cons (ps_while PassesOwn.never (pt_cmpR (op_neD hr.units) (pv 2) (pe_lst pa_nil) (nomark _))
        (pss_one (ps_expr (pe_bm PySem.F.plainAttrs_list PySem.F.slot_list_append PySem.F.type_list_append mt_append (pv 3)
          (pa_cons (pe_bm PySem.F.plainAttrs_list PySem.F.slot_list_pop PySem.F.type_list_pop mt_popAt (pv 2) (pa_cons (pe_call GD hr (by rfl) gD FD.kp bD .nil pass0 (pa_cons (pv 0) (pa_cons (pe_callB call_len_seq (by rfl) mL PySem.boot_len (pa_cons (pv 2) pa_nil)) pa_nil))) pa_nil)) pa_nil)))))
      (pss_one (ps_ret (pv 3)))), ?_⟩
    have na := fun {p : Addr} (hp : H p = none) => hD.ne hp
    refine ⟨.ref l, rfl, l, xs, rfl, hl, fun r hr0 => ⟨Nat.zero_le _, fun g hg0 => ?_⟩⟩
    obtain ⟨ra, rc⟩ := na hr0
    have hg : H g = none := by
      by_cases e : g = r
      · rw [e]; exact hr0
      · rw [upd_ne e] at hg0; exact hg0
    have rg : r ≠ g := fun e => by rw [← e, upd_same] at hg0; cases hg0
    obtain ⟨ga, gc⟩ := na hg
    have back : ∀ H', Kp [r, g, a, c] H H' → Kp [a, c] H H' := fun H' z => Kp.drop (Kp.drop z hr0) hg
    refine ⟨_, _, rfl, fun m σ H' => ∃ rs gs, m = rs.length ∧ σ = [some (.ref a), some (.ref l), some (.ref r), some (.ref g)] ∧ (gs ++ rs).Perm xs ∧ H' r = some (.lst rs) ∧ H' g = some (.lst gs) ∧ DeckAt H' a c ∧ Kp [r, g, a, c] H H',
      ⟨_, xs, [], rfl, rfl, List.Perm.refl _, by rw [upd_ne rg, upd_same], upd_same, (hD.new hr0).new hg0, (Kp.new hr0).trans (Kp.new hg0)⟩, ?_⟩
    rintro m σ H' ⟨rs, gs, rfl, rfl, hp, h1, h2, hD', kk⟩
    refine ⟨.ref r, rfl, Nat.zero_le _, fun e he => ?_⟩
    have kE : Kp [r, g, a, c] H (upd H' e (.lst [])) := kk.trans (Kp.new he)
    have h1e : (upd H' e (.lst [])) r = some (.lst rs) := by rw [upd_ne (ne_of_none h1 he)]; exact h1
    have h2e : (upd H' e (.lst [])) g = some (.lst gs) := by rw [upd_ne (ne_of_none h2 he)]; exact h2
    have hDe : DeckAt (upd H' e (.lst [])) a c := hD'.new he
    refine ne_nil (SqL.of h1e) (fun x hx => ((hsh x (hp.mem_iff.mp (List.mem_append_right _ hx))).same (back _ kE).same).same (Ob.le _ _)) upd_same ⟨_, rfl, ?_⟩
    generalize upd H' e (.lst []) = H1 at kE h1e h2e hDe
    have hlen2 : gs.length + rs.length = xs.length := by rw [← List.length_append]; exact hp.length_eq
    cases rs with
    | nil =>
      refine iteF ⟨.ref g, rfl, ?_⟩
      rw [List.append_nil] at hp
      exact k H1 g gs hp hg h2e hDe (back _ kE)
    | cons x rs =>
      refine iteT ⟨fun σ' H2 => ∃ rs1 gs1, rs1.length = rs.length ∧ σ' = [some (.ref a), some (.ref l), some (.ref r), some (.ref g)] ∧ (gs1 ++ rs1).Perm xs ∧ H2 r = some (.lst rs1) ∧ H2 g = some (.lst gs1) ∧ DeckAt H2 a c ∧ Kp [r, g, a, c] H H2, ?_, ?_⟩
      · rintro σ' H2 ⟨rs1, gs1, e1, e2, e3⟩
        exact ⟨rs1.length, by rw [e1]; simp, rs1, gs1, rfl, e2, e3⟩
      · refine ⟨.ref g, rfl, .inl ⟨rfl, _, SqL.of h2e⟩, .ref r, rfl, .inl ⟨rfl, _, SqL.of h1e⟩, .ref a, rfl, .ref r, rfl, r, _, rfl, .inl (SqL.of h1e), a, c, _, rfl, hDe, by simp, by simp at hlen2 ⊢; omega, fun H2 i i0 i1 hD2 k2 => ?_⟩
        have hi : i.toNat < (x :: rs).length := by omega
        have h1n : H2 r = some (.lst (x :: rs)) := k2.get (by simp [ra, rc]) h1e
        have h2n : H2 g = some (.lst gs) := k2.get (by simp [ga, gc]) h2e
        have e := List.getElem?_eq_getElem hi
        refine ⟨r, _, i, i.toNat, _, rfl, rfl, h1n, by omega, by simp at i1 hlen2; omega, ?_, e, ?_⟩
        · have q := (ixN_seq (n := (x :: rs).length) (i := i) (j := i.toNat) (by unfold ixN; rw [if_pos i0, if_pos i1])).1
          exact q
        · refine ⟨g, _, _, rfl, rfl, by rw [upd_ne rg.symm]; exact h2n, Nat.lt_of_le_of_lt (show gs.length ≤ 100000 by omega) (by decide), ?_⟩
          refine ⟨(x :: rs).eraseIdx i.toNat, gs ++ [(x :: rs)[i.toNat]], by rw [List.length_eraseIdx_of_lt hi]; simp, rfl, ?_, by rw [upd_ne rg, upd_same], upd_same, (hD2.put ra rc).put ga gc, ((kE.trans (k2.mono (fun b h => List.mem_cons_of_mem _ (List.mem_cons_of_mem _ h)))).trans (Kp.put (by simp))).trans (Kp.put (by simp))⟩
          rw [List.append_assoc]
          exact (List.Perm.append_left gs (erase_perm _ _ hi)).trans hp
end
end Kt

namespace Dl
open PySem PySem.Spec PyProof.Rows L2 Kt
theorem mixed_imp {K : PySem.W.Frag} : ∀ vs H Q E, spK K g_law_mixed vs H Q E → spMixed K vs H Q E := by
  intro vs H Q E h
  obtain ⟨S, a, c, ws, ds, A, rfl, hd, ma, mc, al, sy, hx, hg, q⟩ := h
  unfold g_law_mixed at hg
  split at hg
  · rename_i xs
    obtain ⟨v, r, rfl, hv, hr⟩ := hx.inv_cons
    obtain rfl := hr.inv_nil
    obtain ⟨l, us, rfl, hl, g⟩ := hv.inv_list
    refine ⟨a, c, l, us, rfl, hd, .inl (SqL.of (Ob.of hl).2), by rw [g.1]; exact hg.1.1, fun x hx => ?_, fun H' p ys hp hn hp' hd' k => ?_⟩
    · obtain ⟨d, hd2, g2⟩ := mem_dq g hx
      obtain ⟨c1, c2⟩ := hg.1.2 d hd2
      exact ⟨d, Dp.same (fun b o e => Ob.mk (fun z => (Ob.of e).1 (by rcases List.mem_cons.mp z with z | z; exact z ▸ ma; rw [List.mem_singleton.mp z]; exact mc)) (Ob.of e).2) d (g2.dp c1), c1, c2⟩
    · obtain ⟨es, h1, h2⟩ := permDq hp g
      have k2 : Kp S H H' := k.mono fun b z => by rcases List.mem_cons.mp z with z | z; exact z ▸ ma; rw [List.mem_singleton.mp z]; exact mc
      exact q _ _ H' (hg.2 es h1) hd' k (.lstA (Ob.mk (fun z => al p z hn) hp') (h2.same k2.same))
  · exact hg.elim
end Dl

set_option Elab.async false
set_option linter.all false
set_option maxRecDepth 100000
set_option maxHeartbeats 4000000
namespace Dl
open PySem PySem.Spec PyProof.Rows L2 Kt
/-- a def of the text stands in the law's globals -/
def Dat (K : PySem.W.Frag) (mg : Str → Option Value) (x : Str) (st : Stmt) : Prop := ∃ f fd, Fun K x x st f fd ∧ mg x = some (.ref f)
theorem dat_mk {K : PySem.W.Frag} {h : Heap} {mg : Str → Option Value} {x : Str} {st : Stmt} {f : Addr} {od an : Option Addr} {sl : Array (Option Value)} {oc kV dc pm cd ct : Value} (X : K.In h) (G : h.Ns mainGlobals mg)
    (a : PySem.W.nsIn K mainGlobals x = some (some (.ref f))) (l : K.lookup f = some ⟨oc, od, .func (PySem.W.fnOf x x (defArgs st) (defBody st) (defScope st) .none kV dc pm an cd ct), sl⟩) (c : PySem.W.codeIn K cd x = true) (k : PySem.W.keepIn K (.ref f) = true) : Dat K mg x st :=
  ⟨f, _, fun_mk (st := st) l c k, PySem.W.mg_of X G a⟩
theorem kb_KW_board_error0 {K : PySem.W.Frag} {f : Addr} {fd : FuncData} (F : Fun K "board_error" "board_error" s_board_error f fd) : KBinds K fd ["value"] ["value"] (permL [0]) (permL [0]) := by
  refine ⟨fun s us ws _ hl => ?_, fun r1 r2 => permL_rel r1 r2⟩
  obtain ⟨oc, od, kV, doc, pm, an, cdv, ct, osl, rfl, lk, hcd⟩ := F.ex
  match us, ws, hl with
  | _ :: _, _, hl => simp [permL] at hl
  | [], [], hl => simp [permL] at hl
  | [], w0 :: _, _ => exact BindsTo.of_eq rfl
theorem all_mk {P : Program} {w : World} {K : PySem.W.Frag} {h : Heap} {mg : Str → Option Value} {fa : Addr} (X : K.In h) (G : h.Ns mainGlobals mg) (hfa : mg "law" = some (.ref fa))
    (d_mixed : Dat K mg "_law_mixed" Kt.sMixed)
    (d_draw : Dat K mg "_law_draw" Kt.sDraw) (d_deck : Dat K mg "_law_deck" Kt.sDeck)
    (d_is_integer : Dat K mg "is_integer" s_is_integer)
    (d_is_below : Dat K mg "is_below" s_is_below)
    (d_is_tuple_of : Dat K mg "is_tuple_of" s_is_tuple_of)
    (d_is_road : Dat K mg "_is_road" s_is_road)
    (d_first_wrong : Dat K mg "_first_wrong" s_first_wrong)
    (d_chart_error : Dat K mg "chart_error" s_chart_error)
    (d_is_piece : Dat K mg "_is_piece" s_is_piece)
    (d_board_error : Dat K mg "board_error" s_board_error)
    (d_law_pick : Dat K mg "_law_pick" s_law_pick)
    (d_law_chart : Dat K mg "_law_chart" s_law_chart)
    (d_law_pieces : Dat K mg "_law_pieces" s_law_pieces)
    (d_law_is_whole : Dat K mg "_law_is_whole" s_law_is_whole)
    (d_law_chart_slip : Dat K mg "_law_chart_slip" s_law_chart_slip)
    (d_law_board_slip : Dat K mg "_law_board_slip" s_law_board_slip)
    (d_law_odd : Dat K mg "_law_odd" s_law_odd)
    (d_law_bent_board : Dat K mg "_law_bent_board" s_law_bent_board)
    (d_law_due : Dat K mg "_law_due" s_law_due)
    (d_law_turned : Dat K mg "_law_turned" s_law_turned)
    {f2 : Addr} {od an : Option Addr} {sl : Array (Option Value)} {oc kV dc pm cd ct : Value}
    (a2 : PySem.W.nsIn K mainGlobals "law" = some (some (.ref f2))) (l2 : K.lookup f2 = some ⟨oc, od, .func (PySem.W.fnOf "law" "law" (defArgs s_law) (defBody s_law) (defScope s_law) .none kV dc pm an cd ct), sl⟩) (c2 : PySem.W.codeIn K cd "law" = true) (k2 : PySem.W.keepIn K (.ref f2) = true)
    (z_int : PySem.W.nsIn K mainGlobals "int" = some none)
    (z_len : PySem.W.nsIn K mainGlobals "len" = some none)
    (z_isinstance : PySem.W.nsIn K mainGlobals "isinstance" = some none)
    (z_bool : PySem.W.nsIn K mainGlobals "bool" = some none)
    (z_tuple : PySem.W.nsIn K mainGlobals "tuple" = some none)
    (z_enumerate : PySem.W.nsIn K mainGlobals "enumerate" = some none)
    (z_range : PySem.W.nsIn K mainGlobals "range" = some none)
    (z_max : PySem.W.nsIn K mainGlobals "max" = some none)
    (z_sorted : PySem.W.nsIn K mainGlobals "sorted" = some none)
    (z_list : PySem.W.nsIn K mainGlobals "list" = some none)
    (z_repr : PySem.W.nsIn K mainGlobals "repr" = some none)
    {k_MAX_FIELDS : Tok} (y_MAX_FIELDS : PySem.W.nsIn K mainGlobals "MAX_FIELDS" = some (some (.int 24 k_MAX_FIELDS)))
    {k_MAX_PLAYERS : Tok} (y_MAX_PLAYERS : PySem.W.nsIn K mainGlobals "MAX_PLAYERS" = some (some (.int 6 k_MAX_PLAYERS)))
    {k_MAX_PIECES : Tok} (y_MAX_PIECES : PySem.W.nsIn K mainGlobals "MAX_PIECES" = some (some (.int 16 k_MAX_PIECES))) :
    ∃ fd : FuncData, (∀ (s : Shared) (v : Value), BindsTo s fd ⟨[v], []⟩ [("script", v)]) ∧ ∀ base : Heap, K.In base → base.Ns mainGlobals mg → (∃ o, base.get? sysModules = some o) → FnG P w K mg base CX0 6 fa fd ["script"] (spLawD K) := by
  have e := hfa.symm.trans (PySem.W.mg_of X G a2)
  cases e
  have m_int := PySem.W.mg_none_of X G z_int
  have m_len := PySem.W.mg_none_of X G z_len
  have m_isinstance := PySem.W.mg_none_of X G z_isinstance
  have m_bool := PySem.W.mg_none_of X G z_bool
  have m_tuple := PySem.W.mg_none_of X G z_tuple
  have m_enumerate := PySem.W.mg_none_of X G z_enumerate
  have m_range := PySem.W.mg_none_of X G z_range
  have m_max := PySem.W.mg_none_of X G z_max
  have m_sorted := PySem.W.mg_none_of X G z_sorted
  have m_list := PySem.W.mg_none_of X G z_list
  have m_repr := PySem.W.mg_none_of X G z_repr
  have c_MAX_FIELDS := PySem.W.mg_of X G y_MAX_FIELDS
  have r_MAX_FIELDS : RelV (.int 24) (.int 24 k_MAX_FIELDS) := ⟨k_MAX_FIELDS, rfl⟩
  have c_MAX_PLAYERS := PySem.W.mg_of X G y_MAX_PLAYERS
  have r_MAX_PLAYERS : RelV (.int 6) (.int 6 k_MAX_PLAYERS) := ⟨k_MAX_PLAYERS, rfl⟩
  have c_MAX_PIECES := PySem.W.mg_of X G y_MAX_PIECES
  have r_MAX_PIECES : RelV (.int 16) (.int 16 k_MAX_PIECES) := ⟨k_MAX_PIECES, rfl⟩
  obtain ⟨f_draw, fd_draw, F_draw, q_draw⟩ := d_draw
  obtain ⟨f_deck, fd_deck, F_deck, q_deck⟩ := d_deck
  have b_draw := F_draw.binds (ps := ["deck", "many"]) fun _ _ _ _ _ _ us hl => match us, hl with | [_, _], _ => rfl
  have b_deck := F_deck.binds (ps := ["script"]) fun _ _ _ _ _ _ us hl => match us, hl with | [_], _ => rfl
  obtain ⟨f_is_integer, fd_is_integer, F_is_integer, q_is_integer⟩ := d_is_integer
  have b_is_integer := F_is_integer.binds (ps := ["value"]) fun _ _ _ _ _ _ us hl => match us, hl with | [_], _ => rfl
  obtain ⟨f_is_below, fd_is_below, F_is_below, q_is_below⟩ := d_is_below
  have b_is_below := F_is_below.binds (ps := ["value", "limit"]) fun _ _ _ _ _ _ us hl => match us, hl with | [_, _], _ => rfl
  obtain ⟨f_is_tuple_of, fd_is_tuple_of, F_is_tuple_of, q_is_tuple_of⟩ := d_is_tuple_of
  have b_is_tuple_of := F_is_tuple_of.binds (ps := ["value", "many"]) fun _ _ _ _ _ _ us hl => match us, hl with | [_, _], _ => rfl
  obtain ⟨f_is_road, fd_is_road, F_is_road, q_is_road⟩ := d_is_road
  have b_is_road := F_is_road.binds (ps := ["many", "value"]) fun _ _ _ _ _ _ us hl => match us, hl with | [_, _], _ => rfl
  obtain ⟨f_first_wrong, fd_first_wrong, F_first_wrong, q_first_wrong⟩ := d_first_wrong
  have b_first_wrong := F_first_wrong.binds (ps := ["items", "right"]) fun _ _ _ _ _ _ us hl => match us, hl with | [_, _], _ => rfl
  obtain ⟨f_chart_error, fd_chart_error, F_chart_error, q_chart_error⟩ := d_chart_error
  have b_chart_error := F_chart_error.binds (ps := ["value"]) fun _ _ _ _ _ _ us hl => match us, hl with | [_], _ => rfl
  obtain ⟨f_is_piece, fd_is_piece, F_is_piece, q_is_piece⟩ := d_is_piece
  have b_is_piece := F_is_piece.binds (ps := ["chart", "value"]) fun _ _ _ _ _ _ us hl => match us, hl with | [_, _], _ => rfl
  obtain ⟨f_board_error, fd_board_error, F_board_error, q_board_error⟩ := d_board_error
  have b_board_error := F_board_error.binds (ps := ["value"]) fun _ _ _ _ _ _ us hl => match us, hl with | [_], _ => rfl
  obtain ⟨f_law_pick, fd_law_pick, F_law_pick, q_law_pick⟩ := d_law_pick
  have b_law_pick := F_law_pick.binds (ps := ["deck", "items"]) fun _ _ _ _ _ _ us hl => match us, hl with | [_, _], _ => rfl
  obtain ⟨f_law_chart, fd_law_chart, F_law_chart, q_law_chart⟩ := d_law_chart
  have b_law_chart := F_law_chart.binds (ps := ["deck", "many", "more"]) fun _ _ _ _ _ _ us hl => match us, hl with | [_, _, _], _ => rfl
  obtain ⟨f_law_pieces, fd_law_pieces, F_law_pieces, q_law_pieces⟩ := d_law_pieces
  have b_law_pieces := F_law_pieces.binds (ps := ["deck", "chart", "many"]) fun _ _ _ _ _ _ us hl => match us, hl with | [_, _, _], _ => rfl
  obtain ⟨f_law_is_whole, fd_law_is_whole, F_law_is_whole, q_law_is_whole⟩ := d_law_is_whole
  have b_law_is_whole := F_law_is_whole.binds (ps := ["value", "low", "high"]) fun _ _ _ _ _ _ us hl => match us, hl with | [_, _, _], _ => rfl
  obtain ⟨f_law_chart_slip, fd_law_chart_slip, F_law_chart_slip, q_law_chart_slip⟩ := d_law_chart_slip
  have b_law_chart_slip := F_law_chart_slip.binds (ps := ["value"]) fun _ _ _ _ _ _ us hl => match us, hl with | [_], _ => rfl
  obtain ⟨f_law_board_slip, fd_law_board_slip, F_law_board_slip, q_law_board_slip⟩ := d_law_board_slip
  have b_law_board_slip := F_law_board_slip.binds (ps := ["chart", "pieces"]) fun _ _ _ _ _ _ us hl => match us, hl with | [_, _], _ => rfl
  obtain ⟨f_law_odd, fd_law_odd, F_law_odd, q_law_odd⟩ := d_law_odd
  have b_law_odd := F_law_odd.binds (ps := ["deck"]) fun _ _ _ _ _ _ us hl => match us, hl with | [_], _ => rfl
  obtain ⟨f_law_bent_board, fd_law_bent_board, F_law_bent_board, q_law_bent_board⟩ := d_law_bent_board
  have b_law_bent_board := F_law_bent_board.binds (ps := ["deck", "chart", "pieces"]) fun _ _ _ _ _ _ us hl => match us, hl with | [_, _, _], _ => rfl
  obtain ⟨f_law_due, fd_law_due, F_law_due, q_law_due⟩ := d_law_due
  have b_law_due := F_law_due.binds (ps := ["value"]) fun _ _ _ _ _ _ us hl => match us, hl with | [_], _ => rfl
  obtain ⟨f_law_turned, fd_law_turned, F_law_turned, q_law_turned⟩ := d_law_turned
  have b_law_turned := F_law_turned.binds (ps := ["deck", "board"]) fun _ _ _ _ _ _ us hl => match us, hl with | [_, _], _ => rfl
  refine ⟨PySem.W.fnOf "law" "law" (defArgs s_law) (defBody s_law) (defScope s_law) .none kV dc pm an cd ct, fun s v => .of_eq rfl, fun base _ _ hsys => ?_⟩
  have C_law_draw : Cal P w K mg base 1 "_law_draw" ["deck", "many"] (spK K g_law_draw) := ⟨_, _, (ok_draw F_draw m_int).imp draw_imp, F_draw.kp, b_draw, q_draw⟩
  obtain ⟨f_mixed, fd_mixed, F_mixed, q_mixed⟩ := d_mixed
  have b_mixed := F_mixed.binds (ps := ["deck", "items"]) fun _ _ _ _ _ _ us hl => match us, hl with | [_, _], _ => rfl
  have C_law_mixed : Cal P w K mg base 2 "_law_mixed" ["deck", "items"] (spK K g_law_mixed) := ⟨_, _, (ok_mixed F_mixed F_draw b_draw q_draw m_int m_len m_list).imp mixed_imp, F_mixed.kp, b_mixed, q_mixed⟩
  have G_deck : FnOk P w K mg base CX0 1 f_deck fd_deck ["script"] (spDeckD K) := ok_deck F_deck m_int m_len
  have G_is_integer : FnOk P w K mg base CX0 1 f_is_integer fd_is_integer ["value"] (spN K g_is_integer) := ok_dat F_is_integer sc_is_integer (fun cdv A outer s H E hr => tr_is_integer m_isinstance m_int m_bool cdv A outer s H E hr) rd_is_integer
  have C_is_integer : Cal P w K mg base 1 "is_integer" ["value"] (spN K g_is_integer) := ⟨_, _, G_is_integer, F_is_integer.kp, b_is_integer, q_is_integer⟩
  have G_is_tuple_of : FnOk P w K mg base CX0 1 f_is_tuple_of fd_is_tuple_of ["value", "many"] (spN K g_is_tuple_of) := ok_dat F_is_tuple_of sc_is_tuple_of (fun cdv A outer s H E hr => tr_is_tuple_of m_isinstance m_tuple m_len cdv A outer s H E hr) rd_is_tuple_of
  have C_is_tuple_of : Cal P w K mg base 1 "is_tuple_of" ["value", "many"] (spN K g_is_tuple_of) := ⟨_, _, G_is_tuple_of, F_is_tuple_of.kp, b_is_tuple_of, q_is_tuple_of⟩
  have G_first_wrong : FnOk P w K mg base CX0 1 f_first_wrong fd_first_wrong ["items", "right"] (spN K g_first_wrong) := ok_dat F_first_wrong sc_first_wrong (fun cdv A outer s H E hr => tr_first_wrong m_enumerate cdv A outer s H E hr) rd_first_wrong
  have C_first_wrong : Cal P w K mg base 1 "_first_wrong" ["items", "right"] (spN K g_first_wrong) := ⟨_, _, G_first_wrong, F_first_wrong.kp, b_first_wrong, q_first_wrong⟩
  have G_law_is_whole : FnOk P w K mg base CX0 1 f_law_is_whole fd_law_is_whole ["value", "low", "high"] (spN K g_law_is_whole) := ok_dat F_law_is_whole sc_law_is_whole (fun cdv A outer s H E hr => tr_law_is_whole m_isinstance m_int m_bool cdv A outer s H E hr) rd_law_is_whole
  have C_law_is_whole : Cal P w K mg base 1 "_law_is_whole" ["value", "low", "high"] (spN K g_law_is_whole) := ⟨_, _, G_law_is_whole, F_law_is_whole.kp, b_law_is_whole, q_law_is_whole⟩
  have G_is_below : FnOk P w K mg base CX0 2 f_is_below fd_is_below ["value", "limit"] (spN K g_is_below) := ok_dat F_is_below sc_is_below (fun cdv A outer s H E hr => tr_is_below C_is_integer cdv A outer s H E hr) rd_is_below
  have C_is_below : Cal P w K mg base 2 "is_below" ["value", "limit"] (spN K g_is_below) := ⟨_, _, G_is_below, F_is_below.kp, b_is_below, q_is_below⟩
  have G_law_pick : FnOk P w K mg base CX0 2 f_law_pick fd_law_pick ["deck", "items"] (spK K g_law_pick) := ok_deckD F_law_pick sc_law_pick (fun cdv A outer s H E hr => tr_law_pick C_law_draw m_len cdv A outer s H E hr) rd_law_pick
  have C_law_pick : Cal P w K mg base 2 "_law_pick" ["deck", "items"] (spK K g_law_pick) := ⟨_, _, G_law_pick, F_law_pick.kp, b_law_pick, q_law_pick⟩
  have G_law_chart : FnOk P w K mg base CX0 2 f_law_chart fd_law_chart ["deck", "many", "more"] (spK K g_law_chart) := ok_deckD F_law_chart sc_law_chart (fun cdv A outer s H E hr => tr_law_chart C_law_draw m_range m_max m_tuple m_sorted cdv A outer s H E hr) rd_law_chart
  have C_law_chart : Cal P w K mg base 2 "_law_chart" ["deck", "many", "more"] (spK K g_law_chart) := ⟨_, _, G_law_chart, F_law_chart.kp, b_law_chart, q_law_chart⟩
  have G_law_chart_slip : FnOk P w K mg base CX0 2 f_law_chart_slip fd_law_chart_slip ["value"] (spN K g_law_chart_slip) := ok_dat F_law_chart_slip sc_law_chart_slip (fun cdv A outer s H E hr => tr_law_chart_slip C_law_is_whole m_isinstance m_tuple m_len m_enumerate cdv A outer s H E hr) rd_law_chart_slip
  have C_law_chart_slip : Cal P w K mg base 2 "_law_chart_slip" ["value"] (spN K g_law_chart_slip) := ⟨_, _, G_law_chart_slip, F_law_chart_slip.kp, b_law_chart_slip, q_law_chart_slip⟩
  have G_is_road : FnOk P w K mg base CX0 3 f_is_road fd_is_road ["many", "value"] (spN K g_is_road) := ok_dat F_is_road sc_is_road (fun cdv A outer s H E hr => tr_is_road C_is_tuple_of C_is_below cdv A outer s H E hr) rd_is_road
  have C_is_road : Cal P w K mg base 3 "_is_road" ["many", "value"] (spN K g_is_road) := ⟨_, _, G_is_road, F_is_road.kp, b_is_road, q_is_road⟩
  have G_is_piece : FnOk P w K mg base CX0 3 f_is_piece fd_is_piece ["chart", "value"] (spN K g_is_piece) := ok_dat F_is_piece sc_is_piece (fun cdv A outer s H E hr => tr_is_piece C_is_tuple_of C_is_below c_MAX_PLAYERS r_MAX_PLAYERS cdv A outer s H E hr) rd_is_piece
  have C_is_piece : Cal P w K mg base 3 "_is_piece" ["chart", "value"] (spN K g_is_piece) := ⟨_, _, G_is_piece, F_is_piece.kp, b_is_piece, q_is_piece⟩
  have G_law_pieces : FnOk P w K mg base CX0 3 f_law_pieces fd_law_pieces ["deck", "chart", "many"] (spK K g_law_pieces) := ok_deckD F_law_pieces sc_law_pieces (fun cdv A outer s H E hr => tr_law_pieces C_law_mixed C_law_draw C_law_pick m_list m_range m_sorted m_tuple cdv A outer s H E hr) rd_law_pieces
  have C_law_pieces : Cal P w K mg base 3 "_law_pieces" ["deck", "chart", "many"] (spK K g_law_pieces) := ⟨_, _, G_law_pieces, F_law_pieces.kp, b_law_pieces, q_law_pieces⟩
  have G_law_board_slip : FnOk P w K mg base CX0 3 f_law_board_slip fd_law_board_slip ["chart", "pieces"] (spN K g_law_board_slip) := ok_dat F_law_board_slip sc_law_board_slip (fun cdv A outer s H E hr => tr_law_board_slip C_law_chart_slip C_law_is_whole m_isinstance m_tuple m_len m_enumerate cdv A outer s H E hr) rd_law_board_slip
  have C_law_board_slip : Cal P w K mg base 3 "_law_board_slip" ["chart", "pieces"] (spN K g_law_board_slip) := ⟨_, _, G_law_board_slip, F_law_board_slip.kp, b_law_board_slip, q_law_board_slip⟩
  have G_law_odd : FnOk P w K mg base CX0 3 f_law_odd fd_law_odd ["deck"] (spK K g_law_odd) := ok_deckD F_law_odd sc_law_odd (fun cdv A outer s H E hr => tr_law_odd C_law_pick cdv A outer s H E hr) rd_law_odd
  have C_law_odd : Cal P w K mg base 3 "_law_odd" ["deck"] (spK K g_law_odd) := ⟨_, _, G_law_odd, F_law_odd.kp, b_law_odd, q_law_odd⟩
  have G_chart_error : FnOk P w K mg base CX0 4 f_chart_error fd_chart_error ["value"] (spN K g_chart_error) := ok_dat F_chart_error sc_chart_error (fun cdv A outer s H E hr => tr_chart_error C_is_tuple_of C_is_integer C_first_wrong C_is_road C_is_below m_isinstance m_tuple c_MAX_FIELDS r_MAX_FIELDS cdv A outer s H E hr) rd_chart_error
  have C_chart_error : Cal P w K mg base 4 "chart_error" ["value"] (spN K g_chart_error) := ⟨_, _, G_chart_error, F_chart_error.kp, b_chart_error, q_chart_error⟩
  have G_law_bent_board : FnOk P w K mg base CX0 4 f_law_bent_board fd_law_bent_board ["deck", "chart", "pieces"] (spK K g_law_bent_board) := ok_deckD F_law_bent_board sc_law_bent_board (fun cdv A outer s H E hr => tr_law_bent_board C_law_draw C_law_odd C_law_pick m_list cdv A outer s H E hr) rd_law_bent_board
  have C_law_bent_board : Cal P w K mg base 4 "_law_bent_board" ["deck", "chart", "pieces"] (spK K g_law_bent_board) := ⟨_, _, G_law_bent_board, F_law_bent_board.kp, b_law_bent_board, q_law_bent_board⟩
  have G_law_due : FnOk P w K mg base CX0 4 f_law_due fd_law_due ["value"] (spN K g_law_due) := ok_dat F_law_due sc_law_due (fun cdv A outer s H E hr => tr_law_due C_law_board_slip m_isinstance m_tuple m_len cdv A outer s H E hr) rd_law_due
  have C_law_due : Cal P w K mg base 4 "_law_due" ["value"] (spN K g_law_due) := ⟨_, _, G_law_due, F_law_due.kp, b_law_due, q_law_due⟩
  have G_board_error : FnOk P w K mg base CX0 5 f_board_error fd_board_error ["value"] (spN K g_board_error) := ok_dat F_board_error sc_board_error (fun cdv A outer s H E hr => tr_board_error C_is_tuple_of C_chart_error C_is_piece m_isinstance m_tuple m_len m_enumerate c_MAX_PIECES r_MAX_PIECES cdv A outer s H E hr) rd_board_error
  have C_board_error : Cal P w K mg base 5 "board_error" ["value"] (spN K g_board_error) := ⟨_, _, G_board_error, F_board_error.kp, b_board_error, q_board_error⟩
  have KW_board_error0 : CalW P w K mg base 5 "board_error" ["value"] ["value"] [0] (spN K g_board_error) := ⟨_, _, G_board_error, F_board_error.kp, kb_KW_board_error0 F_board_error, q_board_error⟩
  have G_law_turned : FnOk P w K mg base CX0 5 f_law_turned fd_law_turned ["deck", "board"] (spK K g_law_turned) := ok_deckD F_law_turned sc_law_turned (fun cdv A outer s H E hr => tr_law_turned C_law_draw C_law_odd C_law_pick C_law_bent_board m_len m_list cdv A outer s H E hr) rd_law_turned
  have C_law_turned : Cal P w K mg base 5 "_law_turned" ["deck", "board"] (spK K g_law_turned) := ⟨_, _, G_law_turned, F_law_turned.kp, b_law_turned, q_law_turned⟩
  refine ok_lawD (fun_mk (st := s_law) l2 c2 k2) sc_law (s1 := (defBody s_law).head!) (rest := (defBody s_law).tail) rfl (fun cdv A outer s H E hr => ?_) (fun cdv A outer s H E hgd hr => tr_law C_law_chart C_law_pick C_law_draw C_law_pieces C_law_turned C_law_due C_law_odd C_board_error KW_board_error0 m_range m_enumerate m_repr m_tuple cdv A outer s H E hsys hgd hr) (by decide) rd_law
  exact ps_set (i := 1) sc_law.nd rfl (by first | exact .inl rfl | exact .inr rfl) (pe_call G_deck (hr.mono (by decide)) (by rfl) q_deck F_deck.kp b_deck .nil pass0 (pa_cons (pv 0) pa_nil))
end Dl

set_option Elab.async false
set_option linter.all false
set_option maxRecDepth 100000
set_option maxHeartbeats 4000000
open PySem PySem.W PyProof.Rows
set_option maxHeartbeats 0 in
theorem PySem.Challenge.cw_whateverothers_k03_what_boards_are_holds : PySem.Challenge.rw_whateverothers_k03_what_boards_are.Holds := by
  w_on; o_law; k_head; (case hw => w_witness2)
  k_fill
  refine Dl.walk_ofS (l := PySem.Challenge.rw_whateverothers_k03_what_boards_are) (n := 63) (k := 6) (x := "script") (sp := fun w => Dl.spLawD _) rfl (by decide) rfl ⟨rfl, by decide, by decide⟩ (by rfl) (fun w h Y => PySem.W.kIn_of Y) ?F (fun _ _ a ns hl _ hS => ⟨a, ns, rfl, hS, hl, fun _ => rfl⟩)
  case F =>
    intro w mg fa h KX G hmg
    refine' Dl.all_mk KX G hmg ?d_mixed ?d_draw ?d_deck ?d_is_integer ?d_is_below ?d_is_tuple_of ?d_is_road ?d_first_wrong ?d_chart_error ?d_is_piece ?d_board_error ?d_law_pick ?d_law_chart ?d_law_pieces ?d_law_is_whole ?d_law_chart_slip ?d_law_board_slip ?d_law_odd ?d_law_bent_board ?d_law_due ?d_law_turned ?a2 ?l2 ?c2 ?k2 ?z_int ?z_len ?z_isinstance ?z_bool ?z_tuple ?z_enumerate ?z_range ?z_max ?z_sorted ?z_list ?z_repr ?y_MAX_FIELDS ?y_MAX_PLAYERS ?y_MAX_PIECES
    (case d_mixed => refine' Dl.dat_mk KX G ?a ?l ?c ?k; (case a => k_is); (case l => k_is); (case c => k_is); (case k => k_is))
    (case d_draw => refine' Dl.dat_mk KX G ?a ?l ?c ?k; (case a => k_is); (case l => k_is); (case c => k_is); (case k => k_is))
    (case d_deck => refine' Dl.dat_mk KX G ?a ?l ?c ?k; (case a => k_is); (case l => k_is); (case c => k_is); (case k => k_is))
    (case d_is_integer => refine' Dl.dat_mk KX G ?a ?l ?c ?k; (case a => k_is); (case l => k_is); (case c => k_is); (case k => k_is))
    (case d_is_below => refine' Dl.dat_mk KX G ?a ?l ?c ?k; (case a => k_is); (case l => k_is); (case c => k_is); (case k => k_is))
    (case d_is_tuple_of => refine' Dl.dat_mk KX G ?a ?l ?c ?k; (case a => k_is); (case l => k_is); (case c => k_is); (case k => k_is))
    (case d_is_road => refine' Dl.dat_mk KX G ?a ?l ?c ?k; (case a => k_is); (case l => k_is); (case c => k_is); (case k => k_is))
    (case d_first_wrong => refine' Dl.dat_mk KX G ?a ?l ?c ?k; (case a => k_is); (case l => k_is); (case c => k_is); (case k => k_is))
    (case d_chart_error => refine' Dl.dat_mk KX G ?a ?l ?c ?k; (case a => k_is); (case l => k_is); (case c => k_is); (case k => k_is))
    (case d_is_piece => refine' Dl.dat_mk KX G ?a ?l ?c ?k; (case a => k_is); (case l => k_is); (case c => k_is); (case k => k_is))
    (case d_board_error => refine' Dl.dat_mk KX G ?a ?l ?c ?k; (case a => k_is); (case l => k_is); (case c => k_is); (case k => k_is))
    (case d_law_pick => refine' Dl.dat_mk KX G ?a ?l ?c ?k; (case a => k_is); (case l => k_is); (case c => k_is); (case k => k_is))
    (case d_law_chart => refine' Dl.dat_mk KX G ?a ?l ?c ?k; (case a => k_is); (case l => k_is); (case c => k_is); (case k => k_is))
    (case d_law_pieces => refine' Dl.dat_mk KX G ?a ?l ?c ?k; (case a => k_is); (case l => k_is); (case c => k_is); (case k => k_is))
    (case d_law_is_whole => refine' Dl.dat_mk KX G ?a ?l ?c ?k; (case a => k_is); (case l => k_is); (case c => k_is); (case k => k_is))
    (case d_law_chart_slip => refine' Dl.dat_mk KX G ?a ?l ?c ?k; (case a => k_is); (case l => k_is); (case c => k_is); (case k => k_is))
    (case d_law_board_slip => refine' Dl.dat_mk KX G ?a ?l ?c ?k; (case a => k_is); (case l => k_is); (case c => k_is); (case k => k_is))
    (case d_law_odd => refine' Dl.dat_mk KX G ?a ?l ?c ?k; (case a => k_is); (case l => k_is); (case c => k_is); (case k => k_is))
    (case d_law_bent_board => refine' Dl.dat_mk KX G ?a ?l ?c ?k; (case a => k_is); (case l => k_is); (case c => k_is); (case k => k_is))
    (case d_law_due => refine' Dl.dat_mk KX G ?a ?l ?c ?k; (case a => k_is); (case l => k_is); (case c => k_is); (case k => k_is))
    (case d_law_turned => refine' Dl.dat_mk KX G ?a ?l ?c ?k; (case a => k_is); (case l => k_is); (case c => k_is); (case k => k_is))
    (case a2 => k_is); (case l2 => k_is); (case c2 => k_is); (case k2 => k_is); (case z_int => k_is); (case z_len => k_is); (case z_isinstance => k_is); (case z_bool => k_is); (case z_tuple => k_is); (case z_enumerate => k_is); (case z_range => k_is); (case z_max => k_is); (case z_sorted => k_is); (case z_list => k_is); (case z_repr => k_is); (case y_MAX_FIELDS => k_is); (case y_MAX_PLAYERS => k_is); (case y_MAX_PIECES => k_is)
