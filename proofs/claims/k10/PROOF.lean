import PyProof.Rows.All
import Wide.All
import OpenK.AllK
import Wide.FinOn
import HandS.Base
import HandS.Call
import HandS.List
import HandS.Comp
import HandS.Ends
import HandS.Dict
import HandS.Iter
import HandS.Words
import HandS.WordsList
import HandS.Star
import HandS.Defaults
import HandS.SortRule
import HandS.Wide
import KE.GoesEnum
import HandS.Walk
import HandS.RaiseMore
import HandS.ForMost
import HandS.SortInts
import HandS.Evl
import HandS.TupAny
import HandS.TupLe
import HandS.IsInst
import HandS.Deep
import HandS.Zip
import HandS.Text
import HandS.Codes
import HandS.TupMul
import HandS.Style
import KE.KRevSl
import HandS.Conv
import HandS.SetFor
import HandS.Small
import HandS.DictComp
import HandS.SetKeys
import PySem.Challenge.RW_whateverothers_k10_whole_all_tuples_of_b
set_option Elab.async false
set_option linter.all false
set_option maxRecDepth 100000
set_option maxHeartbeats 2000000
namespace Kt
open PySem PySem.Spec PyProof.Rows L2

/-! ### what stays: all but the places of S -/
def Ob (S : List Addr) (H : Hp) : Hp := fun b => if b ∈ S then none else H b
theorem Ob.of {S : List Addr} {H : Hp} {b : Addr} {o : HO} (h : Ob S H b = some o) : b ∉ S ∧ H b = some o := by
  unfold Ob at h
  split at h
  · cases h
  · exact ⟨by assumption, h⟩
theorem Ob.mk {S : List Addr} {H : Hp} {b : Addr} {o : HO} (hn : b ∉ S) (h : H b = some o) : Ob S H b = some o := by
  unfold Ob
  rw [if_neg hn]
  exact h
theorem Ob.le (S : List Addr) (H : Hp) : Same (Ob S H) H := fun _ _ h => (Ob.of h).2
/-- all that stands outside of S is as it was -/
def Kp (S : List Addr) (H H' : Hp) : Prop := ∀ b o, b ∉ S → H b = some o → H' b = some o
theorem Kp.refl {S : List Addr} {H : Hp} : Kp S H H := fun _ _ _ h => h
theorem Kp.trans {S : List Addr} {H H1 H2 : Hp} (a : Kp S H H1) (b : Kp S H1 H2) : Kp S H H2 := fun x o n h => b x o n (a x o n h)
theorem Kp.new {S : List Addr} {H : Hp} {p : Addr} {o : HO} (hp : H p = none) : Kp S H (upd H p o) := fun b u _ h => by
  rw [upd_ne (ne_of_none h hp)]
  exact h
theorem Kp.put {S : List Addr} {H : Hp} {p : Addr} {o : HO} (hp : p ∈ S) : Kp S H (upd H p o) := fun b u n h => by
  rw [upd_ne (fun e => n (by rw [e]; exact hp))]
  exact h
theorem Kp.mono {S S' : List Addr} {H H' : Hp} (h : Kp S H H') (s : ∀ b ∈ S, b ∈ S') : Kp S' H H' := fun b o n e => h b o (fun z => n (s b z)) e
theorem Kp.drop {S : List Addr} {H H' : Hp} {l : Addr} (h : Kp (l :: S) H H') (hl : H l = none) : Kp S H H' := fun b o n e => h b o (fun z => by
  rcases List.mem_cons.mp z with z | z
  · rw [z, hl] at e
    cases e
  · exact n z) e
theorem Kp.same {S : List Addr} {H H' : Hp} (h : Kp S H H') : Same (Ob S H) (Ob S H') := fun b o e => Ob.mk (Ob.of e).1 (h b o (Ob.of e).1 (Ob.of e).2)
theorem Kp.of_same {S : List Addr} {H H' : Hp} (h : Same H H') : Kp S H H' := fun b o _ e => h b o e
theorem Kp.get {S : List Addr} {H H' : Hp} (h : Kp S H H') {b : Addr} {o : HO} (n : b ∉ S) (e : H b = some o) : H' b = some o := h b o n e

theorem sameT {K : PySem.W.Frag} {H H' : Hp} {a : Addr} {xs : List V} (e : Same H H') (h : SqT K H a xs) : SqT K H' a xs := by
  rcases h with (h | ⟨o, h⟩) | h
  · exact .inl (.inl (e _ _ h))
  · exact .inl (.inr ⟨o, e _ _ h⟩)
  · exact .inr h
mutual
theorem Dp.same {K : PySem.W.Frag} {H H' : Hp} (e : Same H H') : ∀ (d : PyData) {v : V}, Dp K H v d → Dp K H' v d
  | .none, _, h => by cases h; exact .non
  | .bool b, _, h => by cases h; exact .bl b
  | .int i, _, h => by cases h; exact .int i
  | .str x, _, h => by cases h; exact .str x
  | .list ds, _, h => by
    cases h with
    | lst hs ha => exact .lst (e.seq hs) (DpAll.same e ds ha)
  | .tuple ds, _, h => by
    cases h with
    | tup hs ha => exact .tup (sameT e hs) (DpAll.same e ds ha)
  | .dict _, _, h => by cases h
theorem DpAll.same {K : PySem.W.Frag} {H H' : Hp} (e : Same H H') : ∀ (ds : List PyData) {vs : List V}, DpAll K H vs ds → DpAll K H' vs ds
  | [], _, h => by cases h; exact .nil
  | d :: ds, _, h => by
    cases h with
    | cons h1 h2 => exact .cons (Dp.same e d h1) (DpAll.same e ds h2)
end
/-- data: read outside of S -/
def Da (K : PySem.W.Frag) (S : List Addr) (H : Hp) (v : V) (d : PyData) : Prop := Dp K (Ob S H) v d
def DaAll (K : PySem.W.Frag) (S : List Addr) (H : Hp) (vs : List V) (ds : List PyData) : Prop := DpAll K (Ob S H) vs ds
theorem Da.keep {K : PySem.W.Frag} {S : List Addr} {H H' : Hp} {v : V} {d : PyData} (h : Da K S H v d) (k : Kp S H H') : Da K S H' v d := Dp.same k.same d h
theorem DaAll.keep {K : PySem.W.Frag} {S : List Addr} {H H' : Hp} {vs : List V} {ds : List PyData} (h : DaAll K S H vs ds) (k : Kp S H H') : DaAll K S H' vs ds := DpAll.same k.same ds h
theorem Da.dp {K : PySem.W.Frag} {S : List Addr} {H : Hp} {v : V} {d : PyData} (h : Da K S H v d) : Dp K H v d := Dp.same (Ob.le S H) d h
theorem ob_sub {S S' : List Addr} {H : Hp} (h : ∀ b, b ∈ S → b ∈ S' ) : Same (Ob S' H) (Ob S H) := fun b o e => Ob.mk (fun z => (Ob.of e).1 (h b z)) (Ob.of e).2
theorem Da.less {K : PySem.W.Frag} {S S' : List Addr} {H : Hp} {v : V} {d : PyData} (h : Da K S' H v d) (s : ∀ b, b ∈ S → b ∈ S') : Da K S H v d := Dp.same (ob_sub s) d h
theorem DaAll.less {K : PySem.W.Frag} {S S' : List Addr} {H : Hp} {v : List V} {d : List PyData} (h : DaAll K S' H v d) (s : ∀ b, b ∈ S → b ∈ S') : DaAll K S H v d := DpAll.same (ob_sub s) d h
/-- an address that nothing stands at may be left out, too -/
theorem ob_free {S : List Addr} {H : Hp} {l : Addr} (hl : H l = none) : Same (Ob S H) (Ob (l :: S) H) := fun b o e => Ob.mk (fun z => by
  rcases List.mem_cons.mp z with z | z
  · have q := (Ob.of e).2
    rw [z, hl] at q
    cases q
  · exact (Ob.of e).1 z) (Ob.of e).2
theorem Da.free {K : PySem.W.Frag} {S : List Addr} {H : Hp} {l : Addr} {v : V} {d : PyData} (h : Da K S H v d) (hl : H l = none) : Da K (l :: S) H v d := Dp.same (ob_free hl) d h
theorem DaAll.free {K : PySem.W.Frag} {S : List Addr} {H : Hp} {l : Addr} {v : List V} {d : List PyData} (h : DaAll K S H v d) (hl : H l = none) : DaAll K (l :: S) H v d := DpAll.same (ob_free hl) d h
theorem Dp_all {K : PySem.W.Frag} {S : List Addr} {H : Hp} {vs : List V} {ds : List PyData} (h : DpAll K (Ob S H) vs ds) : DpAll K H vs ds := DpAll.same (Ob.le S H) ds h
end Kt

set_option Elab.async false
set_option linter.all false
set_option maxRecDepth 100000
set_option maxHeartbeats 4000000
/-! enumerate of a tuple -/
namespace Kt
section
open PySem
open Sem (wp)
open AutoSeq1 (wpAny_loadPart')
theorem meets_enumerate_newT (l : Addr) (items : Array Value) (n : Nat) (dct : Option Addr) (sl : Array (Option Value)) :
    Meets (Builtin.«enumerate.__new__» ⟨[.type "enumerate", .ref l], []⟩) (fun _ R s => s.heap.get? l = some { cls := .type "tuple", dict := dct, data := .seq items n, slots := sl } ∧
      R (.ok (.ret (.ref (s.heap.push { cls := .type "tuple_iterator", data := .fields #[.ref l, .int 0 0] }).objs.size)))
        { s with heap := (s.heap.push { cls := .type "tuple_iterator", data := .fields #[.ref l, .int 0 0] }).push { cls := .type "enumerate", data := .fields #[.none, .bool false, .ref s.heap.objs.size, rawInt 0, .none, .none] } }) :=
  .of_wp fun prog w A R s h => by
    obtain ⟨hp, g, d, tk, os⟩ := s; obtain ⟨hl, h⟩ := h
    have hsub := sub_enumerate
    have hL : Heap.IsTuple (Shared.heap ⟨hp, g, d, tk, os⟩) l items := ⟨_, hl, rfl, n, rfl⟩
    wp_walk using wpAny_loadPart' hl
    refine wpAny_stack_any fun st => wpAny_pure ?_
    split
    · rename_i c _ _ _ _ _
      cases (c == Value.type "enumerate")
      · wp_walk using wpAny_loadPart' hl, wpAny_pyIter_tuple hL
        exact ⟨_, rfl, h⟩
      · wp_walk using wpAny_loadPart' hl, wpAny_pyIter_tuple hL
        exact ⟨_, rfl, h⟩
    · wp_walk using wpAny_loadPart' hl, wpAny_pyIter_tuple hL
      exact ⟨_, rfl, h⟩
theorem call_enumerate_tuple {prog : Program} {w : World} {A : Around} {E : Value → Shared → Prop} {s : Shared} {l : Addr} {items : Array Value} {Q : Value → Shared → Prop} (hL : s.heap.IsTuple l items)
    (h : ∀ h', IsEnum h' (s.heap.objs.size + 1) s.heap.objs.size 0 .none → h'.IsTupleIter s.heap.objs.size l 0 → h'.objs.size = s.heap.objs.size + 2 →
      (∀ b o, s.heap.get? b = some o → h'.get? b = some o) → Q (.ref (s.heap.objs.size + 1)) { s with heap := h' }) :
    wpAny (model prog w) A (call (.type "enumerate") [.ref l]) Q E s := by
  obtain ⟨⟨c, dct, dt, sl⟩, hl, hc, n, hd⟩ := hL
  replace hc : c = .type "tuple" := hc
  replace hd : dt = .seq items n := hd
  subst hc hd
  refine callType_new F.called_enumerate (by decide) (F.typeCall_enumerate_1 _) (F.newCall_enumerate_1 _) (fun obj => F.args_object_init_2 obj _) F.entry_enumerate_new
    (meets_enumerate_newT l items n dct sl) ⟨hl, ?_⟩
  have hz : (s.heap.push { cls := .type "tuple_iterator", data := .fields #[.ref l, .int 0 0] }).objs.size = s.heap.objs.size + 1 := Heap.size_push ..
  show _ ∧ _
  rw [hz]
  have he : IsEnum ((s.heap.push { cls := .type "tuple_iterator", data := .fields #[.ref l, .int 0 0] }).push
      { cls := .type "enumerate", data := .fields #[.none, .bool false, .ref s.heap.objs.size, rawInt 0, .none, .none] }) (s.heap.objs.size + 1) s.heap.objs.size 0 .none := by
    have := Heap.get?_push_size (s.heap.push { cls := .type "tuple_iterator", data := .fields #[.ref l, .int 0 0] })
      (o := { cls := .type "enumerate", data := .fields #[.none, .bool false, .ref s.heap.objs.size, rawInt 0, .none, .none] }) rfl
    rw [hz] at this; exact this
  refine ⟨⟨_, he, rfl⟩, h _ he ⟨_, Heap.get?_push_of_some _ (Heap.get?_push_size _ rfl), rfl, rfl⟩ (by rw [Heap.size_push, hz]) fun b o x => Heap.get?_push_of_some _ (Heap.get?_push_of_some _ x)⟩
end
open PySem PySem.Spec PyProof.Rows L2
/-- the tuple at a, each item in a new pair -/
def Iet (K : PySem.W.Frag) (a : Addr) : It :=
  ⟨fun i H => ∃ (xs : List V) (x : V), SqT K H a xs ∧ xs[i]? = some x, fun i H v H' => ∃ T x, v = .ref T ∧ H T = none ∧ H' = upd H T (.tup [.int (i : Nat), x]) ∧ ∀ xs, SqT K H a xs → xs[i]? = some x, fun i H => ∃ xs : List V, SqT K H a xs ∧ xs.length ≤ i⟩
theorem turn_enumT {P : Program} {w : World} {K : PySem.W.Frag} {elts : List Expr} {kk : Nat} {tpos : Pos} (a e it : Addr) :
    Turn P w K (.Tuple elts kk tpos) (Iet K a) [e, it] e (fun i h => (∃ old, IsEnum h e it ((i : Nat) : Int) old) ∧ h.IsTupleIter it a i ∧ e ≠ it ∧ a ≠ e ∧ a ≠ it) where
  mem := by simp
  obj := fun i h st b hb => by
    obtain ⟨⟨old, he⟩, ⟨o, ho, hc, hd⟩, _⟩ := st
    have e' : b = e ∨ b = it := by simpa using hb
    rcases e' with z | z
    · rw [z]; exact ⟨_, he, fun v q => nomatch q⟩
    · rw [z]; exact ⟨o, ho, fun v q => by rw [hd] at q; cases q⟩
  keep := fun i h h' st k => let ⟨⟨old, he⟩, hi, hne⟩ := st; ⟨⟨old, k e (by simp) _ he⟩, hi.at fun o q => k it (by simp) o q, hne⟩
  item := by
    intro X hP hw hK hc i pins s σ H E I hf st hg
    subst hP hw hK
    obtain ⟨⟨old, he⟩, hit, hne, hae, hai⟩ := st
    obtain ⟨xs, x, hq, hx⟩ := hg
    obtain ⟨its, rv, p, hz⟩ := I.tuple hq
    obtain ⟨u, hu, ru⟩ := rv.get hx
    have hel : e < s.heap.objs.size := Heap.lt_size he
    have hil : it < s.heap.objs.size := by obtain ⟨_, q, _⟩ := hit; exact Heap.lt_size q
    have hh : X.A.in1.handled = none := I.ok.hd hc
    have hlt : i < its.toArray.size := by
      have := (List.getElem?_eq_some_iff.mp hu).1
      simpa using this
    have pT : s.heap.IsTuple a its.toArray := p
    refine wpAny_pyNext_enum_itemD (Draws.tuple hh it a hai its.toArray) he ⟨hit, pT⟩ hlt hne (by simp [hne, Ne.symm hae]) fun x' h' tk hP ho hst' hT hsz hk => ?_
    have ex : x' = u := by
      rw [List.getElem?_toArray] at hP
      exact Option.some.inj (hP.symm.trans hu)
    subst ex
    refine ⟨_, rfl, wpAny_letOwnedTupleGo_enum (s := { s with heap := h', toks := tk + 1 }) ho fun h'' he' sb => ?_⟩
    have hT2 : h''.get? s.heap.objs.size = some { cls := .type "tuple", data := .seq #[.int i tk, x'] } := (sb.2 _ (Nat.ne_of_gt hel)).trans hT
    have new : ObjOk X.prog X.w (upd H s.heap.objs.size (.tup [.int (i : Nat), x])) h'' s.heap.objs.size (.tup [.int (i : Nat), x]) :=
      ⟨by show 2 ≤ sizeLine; decide, [.int i tk, x'], .cons ⟨_, rfl⟩ (.cons ru .nil), ⟨_, hT2, rfl, _, rfl⟩⟩
    have I1 : Inv X pins σ (upd H s.heap.objs.size (.tup [.int (i : Nat), x])) { s with heap := h'', toks := tk + 1 } :=
      I.turnedNew (ch := [e, it]) (fun b ob hb q => (sb.2 b (fun z => hb (by simp [z]))).trans (hk b ob (fun z => hb (by simp [z])) (fun z => hb (by simp [z])) q)) hf (Nat.le_refl _) new
    refine ⟨.ref s.heap.objs.size, _, I1, rfl, ⟨_, x, rfl, I.hok.fresh (Nat.le_refl _), rfl, fun ys hy => by rw [I.tuple_inj hy hq]; exact hx⟩, ⟨⟨x', ?_⟩, hst'.1.at fun o q => (sb.2 it (Ne.symm hne)).trans q, hne, hae, hai⟩, fun b hb => ?_⟩
    · have e1 : ((i + 1 : Nat) : Int) = (i : Int) + 1 := by omega
      rw [e1]; exact he'
    · have hb' : b < s.heap.objs.size := by
        have e' : b = e ∨ b = it := by simpa using hb
        rcases e' with z | z
        · rw [z]; exact hel
        · rw [z]; exact hil
      rw [upd_ne (Nat.ne_of_lt hb')]
      exact (hf b hb).1
  done := by
    intro X hP hw hK hc i pins s σ H E I hf st hg
    subst hP hw hK
    obtain ⟨⟨old, he⟩, hit, hne, hae, hai⟩ := st
    obtain ⟨xs, hq, hx⟩ := hg
    obtain ⟨its, rv, p, hz⟩ := I.tuple hq
    obtain ⟨f0, f1, f2, f3, f4, f5⟩ := hf it (by simp)
    have hl := rv.length
    have hh : X.A.in1.handled = none := I.ok.hd hc
    have pT : s.heap.IsTuple a its.toArray := p
    have T : s.TypeIs (.ref e) "enumerate" := ⟨_, he, rfl⟩
    unfold pyNext
    refine wpAny_bind (wpAny_attempt (wpAny_callSpecial?_slot (name := Str.ofString "__next__") T F.slot_enumerate_next
      (wpAny_call_entry F.slot_enumerate_next T F.entry_enumerate_next ?_ (F.args_enumerate_next_1 _))))
    show wpAny _ _ (field (.ref e) 2 >>= _) _ _ _
    refine wpAny_bind (wpAny_field he rfl (x := .ref it) rfl ?_)
    refine wpAny_bind (wpAny_nextOf_tuple_end (items := its.toArray) hh hit pT (by simp; omega) fun h' x he' hx' => ?_)
    obtain ⟨o, ho, hc'⟩ := hx'
    refine wpAny_bind (wpAny_isInstance (T := "StopIteration") (b := true) ⟨o, ho, hc'⟩ isSubtype_stop ?_)
    exact wpAny_pure ⟨rfl, I.turned (t' := s.toks) (fun b o hb q => he' b o hb q) f0 f1 f3 f4 f5⟩
  self := fun A i s Q E st h => let ⟨⟨_, he⟩, _⟩ := st; wpAny_pyIter_enum he h
def iEnumT (K : PySem.W.Frag) (ta : TA) : TI := fun σ H R => ta σ H fun vs H1 => ∃ a xs, vs = [.ref a] ∧ SqT K H1 a xs ∧ R (Iet K a) H1
theorem pi_enumT {X : Cx} {e : Expr} {ta : TA} {p pos tpos : Pos} {elts : List Expr} {kk : Nat} (hg : Gl X "enumerate") (hm : X.mg "enumerate" = none) (ha : PA X [e] ta) (hs : starEach [e] X.env = [(false, eval e X.env)] := by rfl) :
    PI X (.Tuple elts kk tpos) (.Call (.Name "enumerate" p) [e] [] pos) (iEnumT X.K ta) := by
  refine ⟨fun pins s σ H R I h => ?_⟩
  refine Call_ (ld_blt I hg hm boot_enumerate (PyProof.Rows.callWith_type1 (thn (ha.run pos pins s σ H _ I h) fun us s1 ⟨vs, H1, I1, r1, q1⟩ => ?_) hs rfl))
  obtain ⟨a, xs, ex, hq, q⟩ := q1
  subst ex
  cases r1 with
  | cons r rr =>
    cases rr
    cases r
    obtain ⟨its, rv, p', hz⟩ := I1.tuple hq
    have pT : s1.heap.IsTuple a its.toArray := p'
    have hal : a < s1.heap.objs.size := by obtain ⟨_, q, _⟩ := pT; exact Heap.lt_size q
    refine call_enumerate_tuple pT fun h' he hit hsz hk => wpAny_pyIter_enum he ?_
    have I2 : Inv X pins σ H1 { s1 with heap := h' } := I1.kept (t' := s1.toks) hk
    refine ⟨s1.heap.objs.size + 1, [s1.heap.objs.size + 1, s1.heap.objs.size], _, _, H1, rfl, I2, turn_enumT a (s1.heap.objs.size + 1) s1.heap.objs.size, ⟨⟨.none, he⟩, hit, Nat.succ_ne_self _, Nat.ne_of_lt (Nat.lt_succ_of_lt hal), Nat.ne_of_lt hal⟩, fun b hb => ?_, q⟩
    have e' : b = s1.heap.objs.size + 1 ∨ b = s1.heap.objs.size := by simpa using hb
    have hle : s1.heap.objs.size ≤ b := by
      rcases e' with z | z
      · rw [z]; exact Nat.le_add_right _ _
      · rw [z]; exact Nat.le_refl _
    exact I1.fpOk hle (I1.hok.fresh hle)
theorem walk_enumT {K : PySem.W.Frag} {a : Addr} {xs : List V} : Walk (Iet K a) xs.length (fun H => SqT K H a xs) (YPair (fun i => some (.int (i : Nat))) (fun i => xs[i]?)) := by
  refine ⟨fun i H hi h => ⟨xs, xs[i], h, by simp [hi]⟩, fun H h => ⟨xs, h, Nat.le_refl _⟩, fun i H x H' hi h y => ?_⟩
  obtain ⟨T, x, rfl, hn, e, hx⟩ := y
  exact ⟨T, _, x, rfl, hn, e, rfl, hx _ h⟩
end Kt

set_option Elab.async false
set_option linter.all false
set_option maxRecDepth 100000
set_option maxHeartbeats 4000000
/-! defs that run where no repr is under way; repr of data -/
namespace Kt
open PySem PySem.Spec PyProof.Rows L2
abbrev Sl := L2.St
/-- as FnOk, of calls that happen while nothing is being shown -/
structure FnG (P : Program) (w : World) (K : PySem.W.Frag) (mg : Str → Option Value) (base : Heap) (CX : CXT) (k : Nat) (f : Addr) (fd : FuncData) (ps : List Str) (sp : Sp) : Prop where
  ar : ∀ vs H Q E, sp vs H Q E → vs.length = ps.length
  go : ∀ (A : Around), A.guards = some [] → Room k A → ∀ (fr : List Env) (s : Shared) (H : Hp), Env0 P w K mg base A fr s H → ∀ (args : Args) (us : List Value) (vs : List V), BindsTo s fd args (ps.zip us) → Vals vs us →
    ∀ (Q : VK) (E : XK), sp vs H Q E → codeAny (model P w) A (.call (.ref f) args) (CR CX fr P w H s Q E) s
section
variable {P : Program} {w : World} {K : PySem.W.Frag} {mg : Str → Option Value} {base : Heap} {CX : CXT} {k : Nat} {f : Addr} {fd : FuncData} {ps : List Str} {sp : Sp}
theorem FnG.mono {j : Nat} (F : FnG P w K mg base CX j f fd ps sp) (h : j ≤ k) : FnG P w K mg base CX k f fd ps sp :=
  ⟨F.ar, fun A g r => F.go A g (r.mono h)⟩
theorem FnG.of (F : FnOk P w K mg base CX k f fd ps sp) : FnG P w K mg base CX k f fd ps sp :=
  ⟨F.len, fun A _ r fr s H e args us vs b v Q E q => F.run A fr s H args us vs Q E r e b v q⟩
/-- what lies behind the body lies behind the call -/
theorem behind_body {N : List Str} {qual : Str} {sc : Scope} {cd : Value} {A : Around} {fr : List Env} {s s' : Shared} {H : Hp} {Q : VK} {E : XK} {fl : Flow}
    (h : SP (cxOf CX P w K mg base N qual sc f cd A fr s H E) [] { nx := fun _ H' => Q .non H', rt := Q } fl s') : CR CX fr P w H s Q E (.ok (match fl with | .next => .ret .none | o => o)) s' := by
  cases fl with
  | ret u => exact let ⟨v, _, H', J, rv, q⟩ := h; ⟨v, H', J.os, J.bare, J.base, J.hok, rv, q⟩
  | next => exact let ⟨_, H', J, q⟩ := h; ⟨.non, H', J.os, J.bare, J.base, J.hok, rfl, q⟩
  | brk => exact (let ⟨_, _, _, q⟩ := h; q : False).elim
  | cont => exact (let ⟨_, _, _, q⟩ := h; q : False).elim
end
/-- a def of the text, by its body, at such calls -/
theorem okG {P : Program} {w : World} {K : PySem.W.Frag} {mg : Str → Option Value} {base : Heap} {x qual : Str} {st : Stmt} {f : Addr} {fd : FuncData} {N ps : List Str} {k : Nat} {sp : Sp} (F : Fun K x qual st f fd) (S : FnScope N ps (defScope st))
    (ar : ∀ vs H Q E, sp vs H Q E → vs.length = ps.length)
    (body : ∀ (cdv : Value) (A : Around) (fr : List Env) (s : Shared) (H : Hp) (vs : List V) (Q : VK) (E : XK), (A.deeper (envOfC qual (defScope st) s.heap.objs.size f cdv)).guards = some [] → Room k (A.deeper (envOfC qual (defScope st) s.heap.objs.size f cdv)) → sp vs H Q E →
      ∃ t, PSs (cxOf CX0 P w K mg base N qual (defScope st) f cdv A fr s H E).nox (defBody st) t ∧ t { nx := fun _ H' => Q .non H', rt := Q } (start N vs) H) : FnG P w K mg base CX0 (k + 1) f fd ps sp := by
  obtain ⟨_, _, _, _, _, _, cdv, _, _, rfl, hl, hc⟩ := F.ex
  refine ⟨ar, fun A hg hr fr s H e args us vs hb hv Q E hsp => ?_⟩
  have old : ∀ b o, base.get? b = some o → s.heap.get? b = some o := fun b o q => (e.bs b o q).1
  have kin := e.mod.kin.keeps old
  refine codeAny_call_function (hr.depth) (kin _ _ hl) rfl (S.co) (S.gen) rfl (PySem.W.codeRec_of kin hc) (hb _ _ _ _ (wpAny_newFunctionEnv_cells S.kind ?_ ?_))
  · rintro ⟨n, v⟩ hy
    refine (S.par n (List.of_mem_zip hy).1).imp id fun q => ⟨q, PySem.W.cellsFrom_some _ _ _ (.inl q)⟩
  · rintro env rfl s1 x1
    refine ⟨(e.mod.nolimit.keeps old).keeps x1.toInCall.keep, codeAny_func ?_⟩
    obtain ⟨t, ht, hq⟩ := body cdv A fr s H vs Q E hg (hr.deeper _) hsp
    refine wpAny_mono (ht.nox.run [] s1 _ H _ (inv_start S hr.hd e (ar _ _ _ _ hsp) hv x1) hq) (fun fl s' hs => ?_) fun _ _ hs => hs
    have z := behind_body hs
    cases fl with
    | ret u => exact z
    | next => exact z
    | brk => exact False.elim z
    | cont => exact False.elim z
section
variable {X : Cx} {CX : CXT} {k : Nat} {f : Addr} {fd : FuncData} {ps ks : List Str} {sp : Sp} {E : XK} {x : Str} {p pos : Pos} {e : Expr} {es : List Expr} {t tk : TA} {kws : List Keyword}
/-- the callee runs, its arguments bound in any way -/
theorem run_G {pins : List (Addr × Obj)} {σ : Sl} {H : Hp} {s : Shared} {Q : VK} {args : Args} {us : List Value} {vs : List V} (F : FnG X.prog X.w X.K X.mg X.base CX k f fd ps sp) (hgd : X.A.guards = some []) (hr : Room k X.A) (hx : Passes CX X E)
    (I : Inv X pins σ H s) (hb : BindsTo s fd args (ps.zip us)) (r : Vals vs us) (h : sp vs H Q E) : codeAny (model X.prog X.w) X.A (.call (.ref f) args) (fun r s' => match r with
      | .ok (.ret u) => EP X pins σ Q u s'
      | .ok _ => False
      | .error e => X.xe e s') s :=
  codeAny_mono (F.go X.A hgd hr X.stack s H I.env0 args us vs hb r Q E h) fun r s' hq => match r, hq with
    | .error e, hq => hx pins σ H s e s' I hq
    | .ok (.ret _), hq => I.after hq
/-- f(a, ..), f a def of the module, no defaults -/
theorem pe_callG (F : FnG X.prog X.w X.K X.mg X.base CX k f fd ps sp) (hgd : X.A.guards = some []) (hr : Room k X.A) (hg : Gl X x) (hm : X.mg x = some (.ref f)) (hk : PySem.W.keepIn X.K (.ref f) = true) (hb : Binds X.K fd ps []) (hx : Passes CX X E)
    (ha : PA X (e :: es) t) (hdb : (x == ("__debug__" : Str)) = false := by decide) (he : starEach (e :: es) X.env = (false, eval e X.env) :: starEach es X.env := by rfl) (hpl : (backTo pos (starEach es X.env)).any (·.1) = false := by rfl) :
    PE X (.Call (.Name x p) (e :: es) [] pos) (fun σ H Q => t σ H fun vs H1 => sp vs H1 Q E) :=
  ⟨fun pins s σ H Q I h => wpAny_Call_Name_kw (ld_glob I hg hm (PySem.W.callWith_K (h₀ := X.base) I.mod.kin hk (thn (ha.run pos pins s σ H _ I h) fun us s1 ⟨vs, H1, I1, r, q⟩ => ⟨I1.kIn, by
    have hl : (us ++ []).length = ps.length := by
      rw [List.append_nil, ← r.length]
      exact F.ar _ _ _ _ q
    have hbd := hb s1 us I1.kIn hl
    rw [List.append_nil] at hbd
    refine wpAny_call (codeAny_mono (run_G F hgd hr hx I1 hbd r q) fun r' s' hq => ?_)
    cases r' with
    | error e => exact hq
    | ok fl => cases fl <;> exact hq⟩) he hpl) hdb)⟩
/-- a list's or tuple's repr, and any data's -/
def rRepr (K : PySem.W.Frag) : List V → Hp → VK → Prop := fun vs H Q => ∃ v d, vs = [v] ∧ Dp K H v d ∧ d.showable = true ∧ d.hasDict = false ∧ d.shown.length ≤ sizeLine ∧ d.depth ≤ 60 ∧ Q (.str d.shown) H
theorem cr_repr (hgd : X.A.guards = some []) (hu : X.A.units + 64 < cLine) : CallR X (.builtin "repr") (rRepr X.K) := by
  intro pins s σ H xs us Q I r h
  obtain ⟨v, d, rfl, hd, hs, hnd, hsz, hdp, q⟩ := h
  obtain ⟨u, rfl, ru⟩ := vals1 r
  obtain ⟨as, rd⟩ := Dp.reads I d v u hd ru
  have big : ∀ a, u = .ref a → wpAny (model X.prog X.w) X.A (call (.builtin "repr") [u]) (EP X pins σ Q) X.xe s := fun a e => by
    subst e
    exact repr_of_reads' rd hs (PyData.noDict_hsm hnd) hgd (by omega) (fun _ _ e => e) (fun h' t tk hk => ⟨.str d.shown, H, I.kept hk, ⟨t, rfl⟩, q⟩) hsz
  cases hd with
  | non =>
    obtain rfl : u = Value.none := ru
    rw [PyData.shown_none] at q
    exact PySem.P.repr_of_none ⟨.str _, H, I.tok _, ⟨_, rfl⟩, q⟩
  | bl b =>
    obtain rfl : u = Value.bool b := ru
    rw [PyData.shown_bool] at q
    exact PySem.P.repr_of_bool ⟨.str _, H, I.tok _, ⟨_, rfl⟩, q⟩
  | int i =>
    obtain ⟨t, rfl⟩ := ru
    rw [PyData.shown_int] at q
    exact PySem.P.repr_of_int (by simpa [PyData.showable] using hs) ⟨.str _, H, I.tok _, ⟨_, rfl⟩, q⟩
  | str x =>
    obtain ⟨t, rfl⟩ := ru
    rw [PyData.shown_str] at q hsz
    exact PySem.P.repr_of_str ⟨.str _, H, I.tok _, ⟨_, rfl⟩, q⟩ hsz
  | lst _ _ => exact big _ ru
  | tup _ _ => exact big _ ru
end
/-! ### the end: the script's place, and nothing else, is tracked -/
section
variable {K : PySem.W.Frag} {h : Heap} {a b : Addr} {vs : List Value} {ns : List Int}
abbrev scriptObj (vs : List Value) : Obj := { cls := .type "list", data := .seq vs.toArray }
open Classical in
noncomputable def only1 (K : PySem.W.Frag) (a : Addr) (vs : List Value) (ns : List Int) : Hp := fun b => if b = a ∧ K.lookup a = none then some (.frz (scriptObj vs) (.lst (ns.map V.int))) else none
theorem only1_some {u : HO} (q : only1 K a vs ns b = some u) : b = a ∧ K.lookup a = none ∧ u = .frz (scriptObj vs) (.lst (ns.map V.int)) := by
  unfold only1 at q
  split at q
  · rename_i z
    exact ⟨z.1, z.2, (Option.some.inj q).symm⟩
  · cases q
theorem only1_other (q : ¬ (b = a ∧ K.lookup a = none)) : only1 K a vs ns b = none := by
  unfold only1
  rw [if_neg q]
theorem only1_at (q : K.lookup a = none) : only1 K a vs ns a = some (.frz (scriptObj vs) (.lst (ns.map V.int))) := by
  unfold only1
  rw [if_pos ⟨rfl, q⟩]
theorem only1_only : Only (only1 K a vs ns) := fun b => by
  cases q : only1 K a vs ns b with
  | none => exact .inl rfl
  | some u => exact .inr ⟨_, _, by rw [(only1_some q).2.2]⟩
theorem only1_list (KX : K.In h) (ha : h.get? a = some (scriptObj vs)) (hi : IntsAre vs ns) (hl : ns.length ≤ sizeLine) : SqL K (only1 K a vs ns) a (ns.map V.int) := by
  cases q : K.lookup a with
  | none => exact .inl (.inr ⟨_, only1_at q⟩)
  | some o =>
    obtain rfl : scriptObj vs = o := Option.some.inj (ha.symm.trans (KX a o q))
    exact .inr ⟨_, vs.toArray, _, q, rfl, rfl, rfl, by rw [List.size_toArray, hi.length]; exact hl, by simpa using vals_ints hi⟩
theorem only1_held {P : Program} {w : World} (ha : h.get? a = some (scriptObj vs)) (hi : IntsAre vs ns) (hl : ns.length ≤ sizeLine) : HOk P w (only1 K a vs ns) h := fun b u q => by
  obtain ⟨rfl, _, rfl⟩ := only1_some q
  exact ⟨ha, by rw [List.length_map]; exact hl, vs, _, vals_ints hi, ha⟩
/-- the heap without the script, where it is tracked: what is no list stays -/
theorem only1_rest {o : Obj} (q : h.get? b = some o) (ha : h.get? a = some (scriptObj vs)) (n : o ≠ scriptObj vs) : (hidT h (only1 K a vs ns)).get? b = some o :=
  hidT_get q (only1_other fun z => n (by rw [z.1, ha] at q; exact (Option.some.inj q).symm))
theorem only1_ns {m : Str → Option Value} (q : h.Ns b m) (ha : h.get? a = some (scriptObj vs)) : (hidT h (only1 K a vs ns)).Ns b m := by
  obtain ⟨o, es, ep, e, d, r⟩ := q
  exact ⟨o, es, ep, only1_rest e ha (fun z => by rw [z] at d; exact nomatch (d : Data.seq vs.toArray _ = Data.dict es ep)), d, r⟩
theorem only1_kin (KX : K.In h) : K.In (hidT h (only1 K a vs ns)) := fun b o e => hidT_get (KX b o e) (only1_other fun z => by rw [z.1, z.2] at e; cases e)
end
theorem walk_ofG {l : PySem.W.OpenLaw} {n k : Nat} {q : Program} {loose : List Str} {XP : (Str → Option Value) → Heap → Prop} {YP : World → Heap → Prop} {d : DefRec} {K : Params → PySem.W.Frag} {sp : World → Sp} {x : Str}
    (hn : l.most = some n) (hn2 : n ≤ sizeLine) (hdf : d.params.defaults = []) (hr : Room k callerA)
    (hY : ∀ (w : World) (h : Heap), YP w h → (K w.params).In h)
    (F : ∀ (w : World) (mg : Str → Option Value) (fa : Addr) (h : Heap), (K w.params).In h → h.Ns mainGlobals mg → mg d.name = some (.ref fa) →
      ∃ fd : FuncData, (∀ (s : Shared) (u : Value), BindsTo s fd ⟨[u], []⟩ [(x, u)]) ∧
        ∀ base : Heap, (K w.params).In base → base.Ns mainGlobals mg → FnG l.prog w (K w.params) mg base CX0 k fa fd [x] (sp w))
    (hsp : ∀ (w : World) (H : Hp) (a : Addr) (ns : List Int), ns.length ≤ n → Only H → SqL (K w.params) H a (ns.map V.int) → sp w [.ref a] H (fun v _ => v = .bl true) fun _ _ _ => False) :
    PySem.W.WalkO q loose XP YP l.row.toRowW d [] (fun f vs => PySem.call f vs) := by
  refine Att.attach_call hn hdf fun w s₀ s mg mb fa o pm cd doc a vs ns G Y ho hd hcd hmg ha hi hlen hg => ?_
  have KX := hY w _ Y
  have hz : ns.length ≤ sizeLine := Nat.le_trans hlen hn2
  obtain ⟨fd, hb, hF⟩ := F w mg fa _ KX G.T.g hmg
  obtain ⟨mc, hc1, hc2⟩ := G.T.nolimit
  have hM : Mod (K w.params) mg (hidT s.heap (only1 (K w.params) a vs ns)) := ⟨only1_kin KX, only1_ns G.T.g ha, ⟨mb, only1_ns G.T.b ha, G.T.builtins⟩, ⟨mc, only1_ns hc1 ha, hc2⟩⟩
  have e0 : Env0 l.prog w (K w.params) mg (hidT s.heap (only1 (K w.params) a vs ns)) callerA [] s (only1 (K w.params) a vs ns) :=
    ⟨rfl, hM, fun _ _ => of_hidT, Nat.le_of_eq (hidT_size _ _), trivial, fun _ z => (List.not_mem_nil z).elim, only1_held ha hi hz, .of_eq hg⟩
  have R := (hF _ hM.kin hM.glob).go callerA rfl hr [] s _ e0 ⟨[.ref a], []⟩ [.ref a] [.ref a] (hb s (.ref a)) (.cons rfl .nil) _ _ (hsp w _ a ns hlen only1_only (only1_list KX ha hi hz))
  refine codeAny_mono R fun r s' z => ?_
  cases r with
  | error e => exact False.elim z
  | ok fl =>
    cases fl with
    | next => exact False.elim z
    | brk => exact False.elim z
    | cont => exact False.elim z
    | ret u =>
      obtain ⟨v, H', os, bare, un, hok, rv, rfl⟩ := z
      obtain rfl : u = Value.bool true := rv
      refine ⟨rfl, OldK.of_keep fun b o e => ?_, os, bare⟩
      cases q : only1 (K w.params) a vs ns b with
      | none => exact un.keep b o e q (List.not_mem_nil) (List.not_mem_nil)
      | some u =>
        obtain ⟨rfl, _, rfl⟩ := only1_some q
        rw [ha] at e
        cases e
        exact (hok _ _ (un.frzs _ _ _ q)).1
end Kt

set_option Elab.async false
set_option linter.all false
set_option maxRecDepth 100000
set_option maxHeartbeats 4000000
/-! the deck of draws -/
namespace Kt
open PySem PySem.Spec PyProof.Rows L2
/-- the deck at a, its great numbers' list at c -/
def DeckAt (H : Hp) (a c : Addr) : Prop := ∃ (cells : List Int) (s n : Int), H a = some (.lst [.ref c, .int s, .int n]) ∧ H c = some (.lst (cells.map V.int)) ∧ a ≠ c
theorem DeckAt.new {H : Hp} {a c p : Addr} {o : HO} (h : DeckAt H a c) (hp : H p = none) : DeckAt (upd H p o) a c := by
  obtain ⟨cs, s, n, h1, h2, h3⟩ := h
  exact ⟨cs, s, n, by rw [upd_ne (ne_of_none h1 hp)]; exact h1, by rw [upd_ne (ne_of_none h2 hp)]; exact h2, h3⟩
theorem DeckAt.put {H : Hp} {a c p : Addr} {o : HO} (h : DeckAt H a c) (h1 : p ≠ a) (h2 : p ≠ c) : DeckAt (upd H p o) a c := by
  obtain ⟨cs, s, n, e1, e2, e3⟩ := h
  exact ⟨cs, s, n, by rw [upd_ne h1.symm]; exact e1, by rw [upd_ne h2.symm]; exact e2, e3⟩
theorem DeckAt.keep {H H' : Hp} {a c : Addr} {S : List Addr} (h : DeckAt H a c) (k : Kp S H H') (na : a ∉ S) (nc : c ∉ S) : DeckAt H' a c := by
  obtain ⟨cs, s, n, e1, e2, e3⟩ := h
  exact ⟨cs, s, n, k.get na e1, k.get nc e2, e3⟩
theorem DeckAt.some {H : Hp} {a c : Addr} (h : DeckAt H a c) : ∃ o u, H a = some o ∧ H c = some u ∧ a ≠ c := let ⟨_, _, _, e1, e2, e3⟩ := h; ⟨_, _, e1, e2, e3⟩
theorem DeckAt.ne {H : Hp} {a c p : Addr} (h : DeckAt H a c) (hp : H p = none) : p ≠ a ∧ p ≠ c := by
  obtain ⟨cs, s, n, e1, e2, e3⟩ := h
  exact ⟨(ne_of_none e1 hp).symm, (ne_of_none e2 hp).symm⟩
def spDraw : Sp := fun vs H Q _ => ∃ (a c : Addr) (many : Int), vs = [.ref a, .int many] ∧ DeckAt H a c ∧ 0 < many ∧ many < 1073741824 ∧ ∀ (H' : Hp) (r : Int), 0 ≤ r → r < many → DeckAt H' a c → Kp [a, c] H H' → Q (.int r) H'

theorem at0 {α : Type} {x : α} {r : List α} : atI (x :: r) 0 = some x := atI_nat (j := 0) rfl
theorem at1 {α : Type} {x y : α} {r : List α} : atI (x :: y :: r) 1 = some y := atI_nat (j := 1) rfl
theorem at2 {α : Type} {x y z : α} {r : List α} : atI (x :: y :: z :: r) 2 = some z := atI_nat (j := 2) rfl
theorem ix0 {n : Nat} (h : 0 < n) : ixN n 0 = some 0 := by
  unfold ixN
  rw [if_pos (Int.le_refl 0), if_pos (by omega)]
  rfl
theorem ix2 : ixN 3 2 = some 2 := by decide
theorem seq0 {n : Nat} (h : 0 < n) : seqIndex? 0 n = some 0 := (ixN_seq (ix0 h)).1
theorem small {n : Nat} (h : n ≤ 1000) : n ≤ sizeLine := Nat.le_trans h (by decide)
section
variable {X : Cx}
/-- xs[i] of a list; of a tuple -/
theorem kl {a b : Expr} {ta tb : TE} {pos : Pos} (ha : PE X a ta) (hb : PE X b tb) (hs : PlainIx b := by exact fun _ _ => rfl) : PE X (.Subscript a b pos) (tOp (rIxL X.K) ta tb) := pe_ix ix_list ha hb hs
theorem kt {a b : Expr} {ta tb : TE} {pos : Pos} (ha : PE X a ta) (hb : PE X b tb) (hs : PlainIx b := by exact fun _ _ => rfl) : PE X (.Subscript a b pos) (tOp (rIxT X.K) ta tb) := pe_ix ix_tup ha hb hs
end
theorem dp_ints {K : PySem.W.Frag} {H : Hp} : ∀ (ns : List Int), DpAll K H (ns.map V.int) (ns.map PyData.int)
  | [] => .nil
  | n :: ns => .cons (.int n) (dp_ints ns)
theorem canLay_ints : ∀ ns : List Int, PyData.canLayAll0 (ns.map PyData.int) = true
  | [] => by simp [PyData.canLayAll0]
  | n :: ns => by simp [PyData.canLayAll0, PyData.canLay0, canLay_ints ns]
theorem depth_ints : ∀ ns : List Int, PyData.depthAll (ns.map PyData.int) ≤ 1
  | [] => by simp [PyData.depthAll]
  | n :: ns => by
    have := depth_ints ns
    simp only [List.map_cons, PyData.depthAll, PyData.depth]
    omega
theorem shaped_of {d : PyData} (h1 : d.canLay0 = true) (h2 : d.depth ≤ 64) : SeqAt.shaped d = true := by
  unfold SeqAt.shaped
  rw [h1, decide_eq_true h2]
  rfl
theorem shaped_ints (ns : List Int) : SeqAt.shaped (.list (ns.map PyData.int)) = true := by
  refine shaped_of (by simp [PyData.canLay0, canLay_ints]) ?_
  have := depth_ints ns
  simp only [PyData.depth]
  omega
theorem eqv_nil (ns : List PyData) : PyData.eqv (.list ns) (.list []) = ns.isEmpty := by
  cases ns <;> simp [PyData.eqv, PyData.eqvAll]
/-- a comprehension without an if -/
theorem yesGo {σ : Sl} {H : Hp} {X Y : Hp → Prop} (h : X H) : tYes σ H (fun b H3 => if b = true then X H3 else Y H3) := by
  show (if true = true then X H else Y H)
  rw [if_pos rfl]
  exact h
/-! the same where one stands within a comprehension: the written part is told -/
section
variable {X : Cx} {a b : Expr} {ta tb : TE} {pos : Pos}
theorem klK (K : PySem.W.Frag) (ha : PE X a ta) (hb : PE X b tb) (hK : X.K = K := by rfl) (hs : PlainIx b := by exact fun _ _ => rfl) : PE X (.Subscript a b pos) (tOp (rIxL K) ta tb) := by
  subst hK
  exact pe_ix ix_list ha hb hs
theorem ktK (K : PySem.W.Frag) (ha : PE X a ta) (hb : PE X b tb) (hK : X.K = K := by rfl) (hs : PlainIx b := by exact fun _ _ => rfl) : PE X (.Subscript a b pos) (tOp (rIxT K) ta tb) := by
  subst hK
  exact pe_ix ix_tup ha hb hs
theorem op_inK (K : PySem.W.Frag) (hK : X.K = K := by rfl) : OpR X (compareOp .In) (rIn K false) := by
  subst hK
  exact op_in_seq
theorem op_notInK (K : PySem.W.Frag) (hK : X.K = K := by rfl) : OpR X (compareOp .NotIn) (rIn K true) := by
  subst hK
  exact op_notIn_seq
theorem op_eqK (K : PySem.W.Frag) (hu : X.A.units + 64 < cLine) (hK : X.K = K := by rfl) : OpR X (compareOp .Eq) (rEqD K) := by
  subst hK
  exact op_eqD hu
theorem op_neK (K : PySem.W.Frag) (hu : X.A.units + 64 < cLine) (hK : X.K = K := by rfl) : OpR X (compareOp .NotEq) (rNeD K) := by
  subst hK
  exact op_neD hu
end
end Kt

set_option Elab.async false
set_option linter.all false
set_option maxRecDepth 100000
set_option maxHeartbeats 4000000
/-! Data with dicts; slots by data: what a frame knows without its heap. -/
namespace Dl
open PySem PySem.Spec PyProof.Rows L2 Kt

def kD : Key → PyData
  | .inl i => .int i
  | .inr x => .str x
/-- a value that is data, and what it is -/
inductive Dq (K : PySem.W.Frag) (H : Hp) : V → PyData → Prop
  | non : Dq K H .non .none
  | bl (b : Bool) : Dq K H (.bl b) (.bool b)
  | int (i : Int) : Dq K H (.int i) (.int i)
  | str (x : Str) : Dq K H (.str x) (.str x)
  | lst {a : Addr} {xs : List V} {ds : List PyData} (h : H a = some (.lst xs)) (hl : xs.length = ds.length) (hi : ∀ (i : Nat) (x : V) (d : PyData), xs[i]? = some x → ds[i]? = some d → Dq K H x d) : Dq K H (.ref a) (.list ds)
  | tup {a : Addr} {xs : List V} {ds : List PyData} (h : H a = some (.tup xs)) (hl : xs.length = ds.length) (hi : ∀ (i : Nat) (x : V) (d : PyData), xs[i]? = some x → ds[i]? = some d → Dq K H x d) : Dq K H (.ref a) (.tuple ds)
  | dct {a : Addr} {kvs : List (Key × V)} {ds : List (PyData × PyData)} (h : H a = some (.dK kvs)) (hk : kvs.map (fun p => kD p.1) = ds.map (·.1)) (hi : ∀ (i : Nat) (p : Key × V) (q : PyData × PyData), kvs[i]? = some p → ds[i]? = some q → Dq K H p.2 q.2) : Dq K H (.ref a) (.dict ds)
def DqAll (K : PySem.W.Frag) (H : Hp) (xs : List V) (ds : List PyData) : Prop := xs.length = ds.length ∧ ∀ (i : Nat) (x : V) (d : PyData), xs[i]? = some x → ds[i]? = some d → Dq K H x d
section
variable {K : PySem.W.Frag} {H H' : Hp} {v : V} {d : PyData} {xs : List V} {ds : List PyData}
theorem Dq.same (e : Same H H') (h : Dq K H v d) : Dq K H' v d := by
  induction h with
  | non => exact .non
  | bl b => exact .bl b
  | int i => exact .int i
  | str x => exact .str x
  | lst h hl hi ih => exact .lst (e _ _ h) hl ih
  | tup h hl hi ih => exact .tup (e _ _ h) hl ih
  | dct h hk hi ih => exact .dct (e _ _ h) hk ih
theorem DqAll.same (e : Same H H') (h : DqAll K H xs ds) : DqAll K H' xs ds := ⟨h.1, fun i x d hx hd => (h.2 i x d hx hd).same e⟩
theorem DqAll.nil : DqAll K H [] [] := ⟨rfl, fun i x d h => by simp at h⟩
theorem DqAll.cons (h : Dq K H v d) (t : DqAll K H xs ds) : DqAll K H (v :: xs) (d :: ds) := ⟨by simp [t.1], fun i x e hx he => by
  cases i with
  | zero => simp at hx he; subst hx; subst he; exact h
  | succ i => exact t.2 i x e (by simpa using hx) (by simpa using he)⟩
theorem DqAll.head (h : DqAll K H (v :: xs) (d :: ds)) : Dq K H v d := h.2 0 v d rfl rfl
theorem DqAll.tail (h : DqAll K H (v :: xs) (d :: ds)) : DqAll K H xs ds := ⟨by simpa using h.1, fun i x e hx he => h.2 (i + 1) x e (by simpa using hx) (by simpa using he)⟩
theorem DqAll.inv_nil (h : DqAll K H xs []) : xs = [] := List.eq_nil_of_length_eq_zero h.1
theorem DqAll.inv_cons (h : DqAll K H xs (d :: ds)) : ∃ v r, xs = v :: r ∧ Dq K H v d ∧ DqAll K H r ds := by
  cases xs with
  | nil => exact absurd h.1 (by simp)
  | cons v r => exact ⟨v, r, rfl, h.head, h.tail⟩
theorem DqAll.at {i : Nat} (h : DqAll K H xs ds) (hd : ds[i]? = some d) : ∃ x, xs[i]? = some x ∧ Dq K H x d := by
  have hi := (List.getElem?_eq_some_iff.mp hd).1
  have hx : i < xs.length := by rw [h.1]; exact hi
  exact ⟨xs[i], List.getElem?_eq_getElem hx, h.2 i _ d (List.getElem?_eq_getElem hx) hd⟩
theorem DqAll.app {ys : List V} {es : List PyData} (h : DqAll K H xs ds) (g : DqAll K H ys es) : DqAll K H (xs ++ ys) (ds ++ es) := by
  refine ⟨by simp [h.1, g.1], fun i x d hx hd => ?_⟩
  by_cases e : i < xs.length
  · rw [List.getElem?_append_left e] at hx
    rw [List.getElem?_append_left (by rw [← h.1]; exact e)] at hd
    exact h.2 i x d hx hd
  · rw [List.getElem?_append_right (by omega)] at hx
    rw [List.getElem?_append_right (by rw [← h.1]; omega), ← h.1] at hd
    exact g.2 _ x d hx hd
theorem DqAll.take (n : Nat) (h : DqAll K H xs ds) : DqAll K H (xs.take n) (ds.take n) := by
  refine ⟨by simp [h.1], fun i x d hx hd => ?_⟩
  rw [List.getElem?_take] at hx hd
  split at hx
  · rename_i z
    rw [if_pos z] at hd
    exact h.2 i x d hx hd
  · cases hx
theorem DqAll.drop (n : Nat) (h : DqAll K H xs ds) : DqAll K H (xs.drop n) (ds.drop n) := by
  refine ⟨by simp [h.1], fun i x d hx hd => ?_⟩
  rw [List.getElem?_drop] at hx hd
  exact h.2 _ x d hx hd
theorem DqAll.rev (h : DqAll K H xs ds) : DqAll K H xs.reverse ds.reverse := by
  refine ⟨by simp [h.1], fun i x d hx hd => ?_⟩
  have hi : i < xs.length := by
    have := (List.getElem?_eq_some_iff.mp hx).1
    simpa using this
  rw [List.getElem?_reverse hi] at hx
  rw [List.getElem?_reverse (by rw [← h.1]; exact hi), ← h.1] at hd
  exact h.2 _ x d hx hd
theorem Dq.lstA {a : Addr} (h : H a = some (.lst xs)) (g : DqAll K H xs ds) : Dq K H (.ref a) (.list ds) := .lst h g.1 g.2
theorem Dq.tupA {a : Addr} (h : H a = some (.tup xs)) (g : DqAll K H xs ds) : Dq K H (.ref a) (.tuple ds) := .tup h g.1 g.2
theorem Dq.inv_int {i : Int} (h : Dq K H v (.int i)) : v = .int i := by cases h; rfl
theorem Dq.inv_bool {b : Bool} (h : Dq K H v (.bool b)) : v = .bl b := by cases h; rfl
theorem Dq.inv_str {x : Str} (h : Dq K H v (.str x)) : v = .str x := by cases h; rfl
theorem Dq.inv_none (h : Dq K H v .none) : v = .non := by cases h; rfl
theorem Dq.inv_list (h : Dq K H v (.list ds)) : ∃ a xs, v = .ref a ∧ H a = some (.lst xs) ∧ DqAll K H xs ds := by
  cases h with
  | lst h hl hi => exact ⟨_, _, rfl, h, hl, hi⟩
theorem Dq.inv_tup (h : Dq K H v (.tuple ds)) : ∃ a xs, v = .ref a ∧ H a = some (.tup xs) ∧ DqAll K H xs ds := by
  cases h with
  | tup h hl hi => exact ⟨_, _, rfl, h, hl, hi⟩
theorem dp_all_of : ∀ {xs : List V} {ds : List PyData}, xs.length = ds.length → (∀ (i : Nat) (x : V) (d : PyData), xs[i]? = some x → ds[i]? = some d → Dp K H x d) → DpAll K H xs ds
  | [], [], _, _ => .nil
  | [], _ :: _, h, _ => absurd h (by simp)
  | _ :: _, [], h, _ => absurd h (by simp)
  | x :: xs, d :: ds, h, q => .cons (q 0 x d rfl rfl) (dp_all_of (by simpa using h) fun i y e hy he => q (i + 1) y e (by simpa using hy) (by simpa using he))
theorem canLay_at : ∀ {ds : List PyData}, PyData.canLayAll0 ds = true → ∀ {i : Nat} {d : PyData}, ds[i]? = some d → d.canLay0 = true
  | [], _, i, d, h => by simp at h
  | e :: ds, q, i, d, h => by
    simp only [PyData.canLayAll0, Bool.and_eq_true] at q
    cases i with
    | zero => simp at h; subst h; exact q.1
    | succ i => exact canLay_at q.2 (i := i) (by simpa using h)
/-- data without dicts, in the library's relation -/
theorem Dq.dp (h : Dq K H v d) : d.canLay0 = true → Dp K H v d := by
  induction h with
  | non => exact fun _ => .non
  | bl b => exact fun _ => .bl b
  | int i => exact fun _ => .int i
  | str x => exact fun _ => .str x
  | lst h hl hi ih => exact fun q => .lst (SqL.of h) (dp_all_of hl fun i x d hx hd => ih i x d hx hd (canLay_at (by simpa [PyData.canLay0] using q) hd))
  | tup h hl hi ih => exact fun q => .tup (SqT.of h) (dp_all_of hl fun i x d hx hd => ih i x d hx hd (canLay_at (by simpa [PyData.canLay0] using q) hd))
  | dct h hk hi ih => exact fun q => by simp [PyData.canLay0] at q
end
end Dl

set_option Elab.async false
set_option linter.all false
set_option maxRecDepth 100000
set_option maxHeartbeats 4000000
namespace Dl
open PySem PySem.Spec PyProof.Rows L2 Kt

/-- what stands at a place left out: no tuple -/
def Mu : HO → Prop
  | .tup _ => False
  | _ => True
def AtMu (H : Hp) (b : Addr) : Prop := ∃ o, H b = some o ∧ Mu o
theorem AtMu.ne {H : Hp} {b : Addr} (h : AtMu H b) : H b ≠ none := by
  obtain ⟨o, e, _⟩ := h
  rw [e]; simp
theorem AtMu.lst {H : Hp} {b : Addr} {xs : List V} (h : H b = some (.lst xs)) : AtMu H b := ⟨_, h, trivial⟩
theorem AtMu.no {H : Hp} {b : Addr} {xs : List V} (h : AtMu H b) : H b ≠ some (.tup xs) := by
  obtain ⟨o, e, m⟩ := h
  rw [e]
  intro z
  cases z
  exact m
theorem AtMu.keep {H H' : Hp} {b : Addr} {S : List Addr} (h : AtMu H b) (k : Kp S H H') (hb : b ∉ S) : AtMu H' b := by
  obtain ⟨o, e, m⟩ := h
  exact ⟨o, k b o hb e, m⟩
def Al (S : List Addr) (H : Hp) : Prop := ∀ b ∈ S, AtMu H b
theorem Al.ne {S : List Addr} {H : Hp} (h : Al S H) {b : Addr} (hb : b ∈ S) : H b ≠ none := (h b hb).ne
/-- what is fixed through a def's body: the heap at its entry, the places that no data reads, those that may change, too, the deck's two lists -/
structure Fr where
  H0 : Hp
  G : List Addr
  D : List Addr
  dk : Option (Addr × Addr)
/-- what a slot holds: data; the deck; a list of the body's own, which it changes -/
inductive Dv where
  | dat (d : PyData)
  | deck
  | own (a : Addr) (ds : List PyData)
abbrev Rho := List (Option Dv)
def ownA : Option Dv → Option Addr
  | some (.own a _) => some a
  | _ => none
def owns (ρ : Rho) : List Addr := ρ.filterMap ownA
def Sx (f : Fr) (ρ : Rho) : List Addr := f.G ++ (f.D ++ owns ρ)
inductive Slot (K : PySem.W.Frag) (f : Fr) (S : List Addr) (H : Hp) : V → Dv → Prop
  | dat {v : V} {d : PyData} (h : Dq K (Ob S H) v d) : Slot K f S H v (.dat d)
  | deck {a c : Addr} (h : f.dk = some (a, c)) : Slot K f S H (.ref a) .deck
  | own {a : Addr} {xs : List V} {ds : List PyData} (h : H a = some (.lst xs)) (h0 : f.H0 a = none ∨ a ∈ f.D) (hd : DqAll K (Ob S H) xs ds) : Slot K f S H (.ref a) (.own a ds)
/-- the slots and the pending values, by data -/
structure Rel (K : PySem.W.Frag) (f : Fr) (σ : Sl) (H : Hp) (ρ : Rho) (pd : List (V × PyData)) : Prop where
  kp : Kp f.D f.H0 H
  dk : ∀ a c, f.dk = some (a, c) → DeckAt H a c
  dkD : ∀ a c, f.dk = some (a, c) → a ∈ f.D ∧ c ∈ f.D ∧ a ∉ owns ρ ∧ c ∉ owns ρ
  dk0 : Al f.D H
  hid : ∀ b ∈ f.G, AtMu f.H0 b ∧ b ∉ f.D
  sys : True
  nod : (owns ρ).Nodup
  len : σ.length = ρ.length
  sl : ∀ (i : Nat) (p : Dv), ρ[i]? = some (some p) → ∃ v, σ[i]? = some (some v) ∧ Slot K f (Sx f ρ) H v p
  pend : ∀ p ∈ pd, Dq K (Ob (Sx f ρ) H) p.1 p.2

section
variable {K : PySem.W.Frag} {f : Fr} {σ : Sl} {H H' : Hp} {ρ ρ' : Rho} {pd : List (V × PyData)} {v : V} {d : PyData}
theorem mem_owns {a : Addr} : a ∈ owns ρ ↔ ∃ (i : Nat) (ds : List PyData), ρ[i]? = some (some (.own a ds)) := by
  unfold owns
  rw [List.mem_filterMap]
  constructor
  · rintro ⟨o, ho, e⟩
    obtain ⟨i, hi⟩ := List.mem_iff_getElem?.mp ho
    cases o with
    | none => cases e
    | some p =>
      cases p with
      | dat d => cases e
      | deck => cases e
      | own b ds => cases e; exact ⟨i, ds, hi⟩
  · rintro ⟨i, ds, hi⟩
    exact ⟨_, List.mem_of_getElem? hi, rfl⟩
/-- every place left out is taken -/
theorem Rel.alloc (R : Rel K f σ H ρ pd) : Al (Sx f ρ) H := by
  intro b hb
  unfold Sx at hb
  rcases List.mem_append.mp hb with h | h
  · obtain ⟨h0, nd⟩ := R.hid b h
    exact h0.keep R.kp nd
  · rcases List.mem_append.mp h with h | h
    · exact R.dk0 b h
    · obtain ⟨i, ds, hi⟩ := mem_owns.mp h
      obtain ⟨v, _, s⟩ := R.sl i _ hi
      cases s with
      | own h h0 hd => exact .lst h
theorem Rel.fresh (R : Rel K f σ H ρ pd) {p : Addr} (hp : H p = none) : p ∉ Sx f ρ := fun h => (R.alloc p h).ne hp
theorem kp_ne {b : Addr} (k : Kp [] H H') (h : H b ≠ none) : H' b ≠ none := by
  cases e : H b with
  | none => exact absurd e h
  | some o => rw [k b o (by simp) e]; simp
theorem ob_kp {S : List Addr} (k : Kp [] H H') : Same (Ob S H) (Ob S H') := fun b o e => Ob.mk (Ob.of e).1 (k b o (by simp) (Ob.of e).2)
theorem ob_kpD {S T : List Addr} (k : Kp T H H') (s : ∀ b ∈ T, b ∈ S) : Same (Ob S H) (Ob S H') := fun b o e => Ob.mk (Ob.of e).1 (k b o (fun z => (Ob.of e).1 (s b z)) (Ob.of e).2)
theorem Slot.keep {S : List Addr} {p : Dv} (h : Slot K f S H v p) (k : Same (Ob S H) (Ob S H')) (ko : ∀ a ds, p = .own a ds → H' a = H a) : Slot K f S H' v p := by
  cases h with
  | dat h => exact .dat (h.same k)
  | deck h => exact .deck h
  | own h h0 hd => exact .own (by rw [ko _ _ rfl]; exact h) h0 (hd.same k)
/-- the heap grows -/
theorem Rel.keep (R : Rel K f σ H ρ pd) (k : Kp [] H H') : Rel K f σ H' ρ pd := by
  refine ⟨R.kp.trans (k.mono (by simp)), fun a c e => (R.dk a c e).keep k (by simp) (by simp), R.dkD, fun b hb => ((R.dk0 b hb).keep k (by simp)), R.hid, R.sys, R.nod, R.len, fun i p hi => ?_, fun p hp => (R.pend p hp).same (ob_kp k)⟩
  obtain ⟨v, hv, s⟩ := R.sl i p hi
  refine ⟨v, hv, s.keep (ob_kp k) fun a ds e => ?_⟩
  subst e
  cases s with
  | own h h0 hd => rw [h]; exact k a _ (by simp) h
theorem deck_mu {a c : Addr} (h : DeckAt H a c) : AtMu H a ∧ AtMu H c := by
  obtain ⟨cs, s, n, e1, e2, _⟩ := h
  exact ⟨.lst e1, .lst e2⟩
/-- the deck is turned -/
theorem Rel.keepD (R : Rel K f σ H ρ pd) {a c : Addr} (e : f.dk = some (a, c)) (k : Kp [a, c] H H') (h : DeckAt H' a c) : Rel K f σ H' ρ pd := by
  obtain ⟨ha, hc, na, nc⟩ := R.dkD a c e
  have hs : ∀ b ∈ [a, c], b ∈ Sx f ρ := fun b hb => by
    unfold Sx
    refine List.mem_append_right _ (List.mem_append_left _ ?_)
    simp at hb
    rcases hb with z | z
    · rw [z]; exact ha
    · rw [z]; exact hc
  have hD : ∀ b ∈ [a, c], b ∈ f.D := fun b hb => by
    simp at hb
    rcases hb with z | z
    · rw [z]; exact ha
    · rw [z]; exact hc
  refine ⟨R.kp.trans (k.mono hD), fun a' c' e' => ?_, R.dkD, fun b hb => ?_, R.hid, R.sys, R.nod, R.len, fun i p hi => ?_, fun p hp => (R.pend p hp).same (ob_kpD k hs)⟩
  · rw [e] at e'; cases e'; exact h
  · by_cases z : b ∈ [a, c]
    · obtain ⟨z1, z2⟩ := deck_mu h
      simp at z
      rcases z with z | z
      · rw [z]; exact z1
      · rw [z]; exact z2
    · exact (R.dk0 b hb).keep k z
  · obtain ⟨v, hv, s⟩ := R.sl i p hi
    refine ⟨v, hv, s.keep (ob_kpD k hs) fun x ds ee => ?_⟩
    subst ee
    cases s with
    | own h' h0 hd =>
      rw [h']
      refine k x _ (fun z => ?_) h'
      have hx : x ∈ owns ρ := mem_owns.mpr ⟨i, ds, hi⟩
      simp at z
      rcases z with z | z
      · exact na (by rw [← z]; exact hx)
      · exact nc (by rw [← z]; exact hx)
theorem Rel.push (R : Rel K f σ H ρ pd) (h : Dq K (Ob (Sx f ρ) H) v d) : Rel K f σ H ρ ((v, d) :: pd) := ⟨R.kp, R.dk, R.dkD, R.dk0, R.hid, R.sys, R.nod, R.len, R.sl, fun p hp => by
  rcases List.mem_cons.mp hp with e | e
  · subst e; exact h
  · exact R.pend p e⟩
theorem Rel.top (R : Rel K f σ H ρ ((v, d) :: pd)) : Dq K (Ob (Sx f ρ) H) v d := R.pend (v, d) List.mem_cons_self
theorem Rel.pop {p : V × PyData} (R : Rel K f σ H ρ (p :: pd)) : Rel K f σ H ρ pd := ⟨R.kp, R.dk, R.dkD, R.dk0, R.hid, R.sys, R.nod, R.len, R.sl, fun q hq => R.pend q (List.mem_cons_of_mem _ hq)⟩
theorem Rel.inS (R : Rel K f σ H ρ pd) : True := trivial
theorem Rel.sub {pe : List (V × PyData)} (R : Rel K f σ H ρ pd) (h : ∀ p ∈ pe, p ∈ pd) : Rel K f σ H ρ pe := ⟨R.kp, R.dk, R.dkD, R.dk0, R.hid, R.sys, R.nod, R.len, R.sl, fun p hp => R.pend p (h p hp)⟩
end
end Dl

set_option Elab.async false
set_option linter.all false
set_option maxRecDepth 100000
set_option maxHeartbeats 4000000
namespace Dl
open PySem PySem.Spec PyProof.Rows L2 Kt

abbrev TD := Rho → (PyData → Rho → Prop) → Prop
abbrev TDT := Rho → (Bool → Rho → Prop) → Prop
abbrev TDA := Rho → (List PyData → Rho → Prop) → Prop
structure EnD where
  nx : Rho → Prop
  rt : PyData → Prop
  bk : Rho → Prop := fun _ => False
  ct : Rho → Prop := fun _ => False
abbrev TSD := EnD → Rho → Prop

/-! ### lifting -/
section
variable (K : PySem.W.Frag)
def lE (t : TD) : TE := fun σ H Q => ∃ f ρ pd A, Rel K f σ H ρ pd ∧ t ρ A ∧ ∀ d ρ' v H', A d ρ' → Rel K f σ H' ρ' ((v, d) :: pd) → Q v H'
def lT (t : TDT) : TT := fun σ H Q => ∃ f ρ pd A, Rel K f σ H ρ pd ∧ t ρ A ∧ ∀ b ρ' H', A b ρ' → Rel K f σ H' ρ' pd → Q b H'
def lA (t : TDA) : TA := fun σ H Q => ∃ f ρ pd A, Rel K f σ H ρ pd ∧ t ρ A ∧ ∀ es ρ' us H', A es ρ' → us.length = es.length → Rel K f σ H' ρ' (us.zip es ++ pd) → Q us H'
/-- a def's own frame: what may change is the deck -/
def Main (f : Fr) : Prop := ∀ b ∈ f.D, ∃ a c, f.dk = some (a, c) ∧ (b = a ∨ b = c)
structure LE (f : Fr) (pd : List (V × PyData)) (E : EnD) (D : Ends) : Prop where
  nx : ∀ σ H ρ, E.nx ρ → Rel K f σ H ρ pd → D.nx σ H
  rt : ∀ σ H ρ v d, E.rt d → Rel K f σ H ρ ((v, d) :: pd) → D.rt v H
  bk : ∀ σ H ρ, E.bk ρ → Rel K f σ H ρ pd → D.bk σ H
  ct : ∀ σ H ρ, E.ct ρ → Rel K f σ H ρ pd → D.ct σ H
  mn : Main f
def lS (t : TSD) : TS := fun D σ H => ∃ f ρ pd E, Rel K f σ H ρ pd ∧ t E ρ ∧ LE K f pd E D
/-- slots but those of ts stay -/
def Tch (ts : List Nat) (σ σ' : Sl) : Prop := σ'.length = σ.length ∧ ∀ j : Nat, j ∉ ts → σ'[j]? = σ[j]?
def lG (ts : List Nat) (g : PyData → Rho → (Rho → Prop) → Prop) : TG := fun v σ H Q => ∃ f d ρ pd A, Rel K f σ H ρ ((v, d) :: pd) ∧ g d ρ A ∧ ∀ σ' H' ρ', A ρ' → Rel K f σ' H' ρ' pd → Tch ts σ σ' → Q σ' H'
def lGs (ts : List Nat) (g : List PyData → Rho → (Rho → Prop) → Prop) : TGs := fun vs σ H Q => ∃ f ds ρ pd A, vs.length = ds.length ∧ Rel K f σ H ρ (vs.zip ds ++ pd) ∧ g ds ρ A ∧ ∀ σ' H' ρ', A ρ' → Rel K f σ' H' ρ' pd → Tch ts σ σ' → Q σ' H'
end
abbrev DE (K : PySem.W.Frag) (X : Cx) (e : Expr) (t : TD) : Prop := PE X e (lE K t)
abbrev DT (K : PySem.W.Frag) (X : Cx) (e : Expr) (t : TDT) : Prop := PT X e (lT K t)
abbrev DW (K : PySem.W.Frag) (X : Cx) (e : Expr) (t : TDT) : Prop := PW X e (lT K t)
abbrev DA (K : PySem.W.Frag) (X : Cx) (es : List Expr) (t : TDA) : Prop := PA X es (lA K t)
abbrev DS (K : PySem.W.Frag) (X : Cx) (s : Stmt) (t : TSD) : Prop := PS X s (lS K t)
abbrev DSs (K : PySem.W.Frag) (X : Cx) (s : List Stmt) (t : TSD) : Prop := PSs X s (lS K t)

section
variable {K : PySem.W.Frag} {f : Fr} {X : Cx} {e a b c : Expr} {es : List Expr} {pos : Pos}
theorem wkE {t t' : TE} (h : PE X e t') (w : ∀ σ H Q, t σ H Q → t' σ H Q) : PE X e t := ⟨fun pins s σ H Q I q => h.run pins s σ H Q I (w _ _ _ q)⟩
theorem wkT {t t' : TT} (h : PT X e t') (w : ∀ σ H Q, t σ H Q → t' σ H Q) : PT X e t := ⟨fun pins s σ H Q I q => h.run pins s σ H Q I (w _ _ _ q)⟩
theorem wkW {t t' : TT} (h : PW X e t') (w : ∀ σ H Q, t σ H Q → t' σ H Q) : PW X e t := ⟨fun wh pins s σ H Q I q => h.run wh pins s σ H Q I (w _ _ _ q)⟩
theorem wkA {t t' : TA} (h : PA X es t') (w : ∀ σ H Q, t σ H Q → t' σ H Q) : PA X es t := ⟨fun p pins s σ H Q I q => h.run p pins s σ H Q I (w _ _ _ q)⟩
theorem wkS {st : Stmt} {t t' : TS} (h : PS X st t') (w : ∀ D σ H, t D σ H → t' D σ H) : PS X st t := ⟨fun pins s σ H D I q => h.run pins s σ H D I (w _ _ _ q)⟩
theorem wkSs {st : List Stmt} {t t' : TS} (h : PSs X st t') (w : ∀ D σ H, t D σ H → t' D σ H) : PSs X st t := ⟨fun pins s σ H D I q => h.run pins s σ H D I (w _ _ _ q)⟩
theorem wkG {g g' : TG} (h : PG X e g') (w : ∀ v σ H Q, g v σ H Q → g' v σ H Q) : PG X e g := ⟨fun pins s σ H v u Q I r q => h.run pins s σ H v u Q I r (w _ _ _ _ q)⟩
theorem wkGs {g g' : TGs} (h : PGs X es g') (w : ∀ v σ H Q, g v σ H Q → g' v σ H Q) : PGs X es g := ⟨fun pins s σ H v u Q I r q => h.run pins s σ H v u Q I r (w _ _ _ _ q)⟩

/-! ### names, constants -/
def dv (i : Nat) : TD := fun ρ Q => match ρ[i]? with
  | some (some (.dat d)) => Q d ρ
  | _ => False
theorem de_var {i : Nat} {x : Str} (hN : X.N[i]? = some x) (hv : Vis X.env.scope x) (hd : (x == ("__debug__" : Str)) = false := by decide) (hcd : (x == ("__classdict__" : Str)) = false := by decide) : DE K X (.Name x pos) (dv i) := by
  refine wkE (pe_var hN hv hd hcd) fun σ H Q h => ?_
  obtain ⟨f, ρ, pd, A, R, t, k⟩ := h
  unfold dv at t
  split at t
  · rename_i d hd
    obtain ⟨v, hv, s⟩ := R.sl i _ hd
    cases s with
    | dat h => exact ⟨v, hv, k d ρ v H t (R.push h)⟩
  · exact t.elim
def dc (d : PyData) : TD := fun ρ Q => Q d ρ
theorem de_int {i : Int} {j} : DE K X (.Constant (.int i) j pos) (dc (.int i)) := wkE pe_int fun σ H Q ⟨f, ρ, pd, A, R, t, k⟩ => k _ ρ _ H t (R.push (.int i))
theorem de_bl {i : Bool} {j} : DE K X (.Constant (.bool i) j pos) (dc (.bool i)) := wkE pe_bl fun σ H Q ⟨f, ρ, pd, A, R, t, k⟩ => k _ ρ _ H t (R.push (.bl i))
theorem de_non {j} : DE K X (.Constant .none j pos) (dc .none) := wkE pe_non fun σ H Q ⟨f, ρ, pd, A, R, t, k⟩ => k _ ρ _ H t (R.push .non)
theorem de_str {x : Str} {j} : DE K X (.Constant (.str x) j pos) (dc (.str x)) := wkE pe_str fun σ H Q ⟨f, ρ, pd, A, R, t, k⟩ => k _ ρ _ H t (R.push (.str x))
/-- a module's constant -/
theorem de_glob {x : Str} {v : V} {u : Value} {d : PyData} (hg : Gl X x) (hm : X.mg x = some u) (r : RelV v u) (hv : ∀ H, Dq K H v d) (hd : (x == ("__debug__" : Str)) = false := by decide) : DE K X (.Name x pos) (dc d) :=
  wkE (pe_glob hg hm r hd) fun σ H Q ⟨f, ρ, pd, A, R, t, k⟩ => k _ ρ _ H t (R.push (hv _))

/-! ### operations -/
/-- a two-place operation, by data -/
abbrev RD2 := PyData → PyData → (PyData → Prop) → Prop
abbrev RB2 := PyData → PyData → (Bool → Prop) → Prop
abbrev RDn := List PyData → (PyData → Prop) → Prop
def OpD2 (K : PySem.W.Frag) (rh : R2) (r : RD2) : Prop := ∀ S H x y d e A Q, Al S H → True → Dq K (Ob S H) x d → Dq K (Ob S H) y e → r d e A → (∀ z v H', A z → Kp [] H H' → Dq K (Ob S H') v z → Q v H') → rh x y H Q
def OpB2 (K : PySem.W.Frag) (rh : R2) (r : RB2) : Prop := ∀ S H x y d e A Q, Al S H → True → Dq K (Ob S H) x d → Dq K (Ob S H) y e → r d e A → (∀ b, A b → Q (.bl b) H) → rh x y H Q
def OpDn (K : PySem.W.Frag) (rh : List V → Hp → VK → Prop) (r : RDn) : Prop := ∀ S H xs ds A Q, Al S H → True → DqAll K (Ob S H) xs ds → r ds A → (∀ z v H', A z → Kp [] H H' → Dq K (Ob S H') v z → Q v H') → rh xs H Q
def dOp (r : RD2) (ta tb : TD) : TD := fun ρ Q => ta ρ fun d ρ1 => tb ρ1 fun e ρ2 => r d e fun z => Q z ρ2
theorem lift2 {rh : R2} {r : RD2} (hr : OpD2 K rh r) {ta tb : TD} {σ : Sl} {H : Hp} {Q : VK} (h : lE K (dOp r ta tb) σ H Q) : lE K ta σ H fun x H1 => lE K tb σ H1 fun y H2 => rh x y H2 Q := by
  obtain ⟨f, ρ, pd, A, R, t, k⟩ := h
  refine ⟨f, ρ, pd, fun d ρ1 => tb ρ1 fun e ρ2 => r d e fun z => A z ρ2, R, t, fun d ρ1 x H1 q R1 => ⟨f, ρ1, (x, d) :: pd, fun e ρ2 => r d e fun z => A z ρ2, R1, q, fun e ρ2 y H2 q2 R2 => ?_⟩⟩
  exact hr (Sx f ρ2) H2 x y d e _ Q R2.alloc R2.inS R2.pop.top R2.top q2 fun z v H' az k' dz => k z ρ2 v H' az ((R2.pop.pop.keep k').push dz)
theorem de_op {op : Operator} {rh : R2} {r : RD2} {ta tb : TD} (ho : OpR X (binaryOp op) rh) (hr : OpD2 K rh r) (ha : DE K X a ta) (hb : DE K X b tb) : DE K X (.BinOp a op b pos) (dOp r ta tb) :=
  wkE (pe_op ho ha hb) fun σ H Q h => lift2 hr h
theorem de_ix {rh : R2} {r : RD2} {ta tb : TD} (ho : IxR X rh) (hr : OpD2 K rh r) (ha : DE K X a ta) (hb : DE K X b tb) (hs : PlainIx b := by exact fun _ _ => rfl) : DE K X (.Subscript a b pos) (dOp r ta tb) :=
  wkE (pe_ix ho ha hb hs) fun σ H Q h => lift2 hr h
def dCmp (r : RB2) (ta tb : TD) : TD := fun ρ Q => ta ρ fun d ρ1 => tb ρ1 fun e ρ2 => r d e fun z => Q (.bool z) ρ2
def dCmpT (r : RB2) (ta tb : TD) : TDT := fun ρ Q => ta ρ fun d ρ1 => tb ρ1 fun e ρ2 => r d e fun z => Q z ρ2
theorem de_cmp {op : CmpOp} {rh : R2} {r : RB2} {ta tb : TD} (ho : OpR X (compareOp op) rh) (hr : OpB2 K rh r) (ha : DE K X a ta) (hb : DE K X b tb) (hm : behindInMarks op b = false) : DE K X (.Compare a [op] [b] pos) (dCmp r ta tb) := by
  refine wkE (pe_cmpR ho ha hb hm) fun σ H Q h => ?_
  obtain ⟨f, ρ, pd, A, R, t, k⟩ := h
  refine ⟨f, ρ, pd, fun d ρ1 => tb ρ1 fun e ρ2 => r d e fun z => A (.bool z) ρ2, R, t, fun d ρ1 x H1 q R1 => ⟨f, ρ1, (x, d) :: pd, fun e ρ2 => r d e fun z => A (.bool z) ρ2, R1, q, fun e ρ2 y H2 q2 R2 => ?_⟩⟩
  exact hr (Sx f ρ2) H2 x y d e _ Q R2.alloc R2.inS R2.pop.top R2.top q2 fun z az => k _ ρ2 _ H2 az (R2.pop.pop.push (.bl z))
theorem dt_cmp {op : CmpOp} {rh : R2} {r : RB2} {ta tb : TD} (ho : OpR X (compareOp op) rh) (hr : OpB2 K rh r) (ha : DE K X a ta) (hb : DE K X b tb) (hm : behindInMarks op b = false) : DT K X (.Compare a [op] [b] pos) (dCmpT r ta tb) := by
  refine wkT (pt_cmpR ho ha hb hm) fun σ H Q h => ?_
  obtain ⟨f, ρ, pd, A, R, t, k⟩ := h
  refine ⟨f, ρ, pd, fun d ρ1 => tb ρ1 fun e ρ2 => r d e fun z => A z ρ2, R, t, fun d ρ1 x H1 q R1 => ⟨f, ρ1, (x, d) :: pd, fun e ρ2 => r d e fun z => A z ρ2, R1, q, fun e ρ2 y H2 q2 R2 => ?_⟩⟩
  exact hr (Sx f ρ2) H2 x y d e _ _ R2.alloc R2.inS R2.pop.top R2.top q2 fun z az => ⟨z, rfl, k _ ρ2 H2 az R2.pop.pop⟩

/-! ### tests -/
def dB (t : TD) : TDT := fun ρ Q => t ρ fun d ρ1 => match d with
  | .bool b => Q b ρ1
  | _ => False
theorem dt_val {t : TD} (h : DE K X e t) (he : ∀ whole, isTrue e X.env whole = (do let v ← whole; standAt e.pos; holding [v] (truthy v)) := by intro _; rfl) : DT K X e (dB t) := by
  refine wkT (pt_val h he) fun σ H Q h => ?_
  obtain ⟨f, ρ, pd, A, R, t, k⟩ := h
  refine ⟨f, ρ, pd, _, R, t, fun d ρ1 x H1 q R1 => ?_⟩
  cases d with
  | bool b =>
    have := R1.top.inv_bool
    exact ⟨b, this, k b ρ1 H1 q R1.pop⟩
  | _ => exact q.elim
def dAnd (t u : TDT) : TDT := fun ρ Q => t ρ fun b ρ1 => match b with
  | true => u ρ1 Q
  | false => Q false ρ1
def dOr (t u : TDT) : TDT := fun ρ Q => t ρ fun b ρ1 => match b with
  | true => Q true ρ1
  | false => u ρ1 Q
def dNot (t : TDT) : TDT := fun ρ Q => t ρ fun b ρ1 => Q (!b) ρ1
variable {tA tB : TDT} {ta tb : TD} {rest : List Expr}
theorem dw_and1 (ha : DT K X a tA) : DW K X (.BoolOp .And [a] pos) tA := pw_and1 ha
theorem dw_or1 (ha : DT K X a tA) : DW K X (.BoolOp .Or [a] pos) tA := pw_or1 ha
theorem dw_and (ha : DT K X a tA) (hb : DW K X (.BoolOp .And (b :: rest) pos) tB) : DW K X (.BoolOp .And (a :: b :: rest) pos) (dAnd tA tB) := by
  refine wkW (pw_and ha hb) fun σ H Q h => ?_
  obtain ⟨f, ρ, pd, A, R, t, k⟩ := h
  refine ⟨f, ρ, pd, _, R, t, fun d ρ1 H1 q R1 => ?_⟩
  cases d with
  | true => exact ⟨f, ρ1, pd, A, R1, q, k⟩
  | false => exact k false ρ1 H1 q R1
theorem dw_or (ha : DT K X a tA) (hb : DW K X (.BoolOp .Or (b :: rest) pos) tB) : DW K X (.BoolOp .Or (a :: b :: rest) pos) (dOr tA tB) := by
  refine wkW (pw_or ha hb) fun σ H Q h => ?_
  obtain ⟨f, ρ, pd, A, R, t, k⟩ := h
  refine ⟨f, ρ, pd, _, R, t, fun d ρ1 H1 q R1 => ?_⟩
  cases d with
  | true => exact k true ρ1 H1 q R1
  | false => exact ⟨f, ρ1, pd, A, R1, q, k⟩
theorem dt_not (ha : DT K X a tA) : DT K X (.UnaryOp .Not a pos) (dNot tA) := by
  refine wkT (pt_not ha) fun σ H Q h => ?_
  obtain ⟨f, ρ, pd, A, R, t, k⟩ := h
  exact ⟨f, ρ, pd, _, R, t, fun b ρ1 H1 q R1 => k _ ρ1 H1 q R1⟩
/-- .. as values -/
def dAndV (t u : TD) : TD := fun ρ Q => t ρ fun d ρ1 => match d with
  | .bool true => u ρ1 Q
  | .bool false => Q (.bool false) ρ1
  | _ => False
def dOrV (t u : TD) : TD := fun ρ Q => t ρ fun d ρ1 => match d with
  | .bool false => u ρ1 Q
  | .bool true => Q (.bool true) ρ1
  | _ => False
def dNotV (t : TD) : TD := fun ρ Q => t ρ fun d ρ1 => match d with
  | .bool b => Q (.bool (!b)) ρ1
  | _ => False
theorem de_one {op} (ha : DE K X a ta) : DE K X (.BoolOp op [a] pos) ta := pe_one ha
theorem de_and (ha : DE K X a ta) (hb : DE K X (.BoolOp .And (b :: rest) pos) tb) : DE K X (.BoolOp .And (a :: b :: rest) pos) (dAndV ta tb) := by
  refine wkE (pe_and ha hb) fun σ H Q h => ?_
  obtain ⟨f, ρ, pd, A, R, t, k⟩ := h
  refine ⟨f, ρ, pd, _, R, t, fun d ρ1 x H1 q R1 => ?_⟩
  cases d with
  | bool b =>
    refine ⟨b, R1.top.inv_bool, ?_⟩
    cases b with
    | true => exact ⟨f, ρ1, pd, A, R1.pop, q, k⟩
    | false => exact k _ ρ1 _ H1 q (R1.pop.push (.bl false))
  | _ => exact q.elim
theorem de_or (ha : DE K X a ta) (hb : DE K X (.BoolOp .Or (b :: rest) pos) tb) : DE K X (.BoolOp .Or (a :: b :: rest) pos) (dOrV ta tb) := by
  refine wkE (pe_or ha hb) fun σ H Q h => ?_
  obtain ⟨f, ρ, pd, A, R, t, k⟩ := h
  refine ⟨f, ρ, pd, _, R, t, fun d ρ1 x H1 q R1 => ?_⟩
  cases d with
  | bool b =>
    refine ⟨b, R1.top.inv_bool, ?_⟩
    cases b with
    | false => exact ⟨f, ρ1, pd, A, R1.pop, q, k⟩
    | true => exact k _ ρ1 _ H1 q (R1.pop.push (.bl true))
  | _ => exact q.elim
theorem de_not (ha : DE K X a ta) : DE K X (.UnaryOp .Not a pos) (dNotV ta) := by
  refine wkE (pe_not ha) fun σ H Q h => ?_
  obtain ⟨f, ρ, pd, A, R, t, k⟩ := h
  refine ⟨f, ρ, pd, _, R, t, fun d ρ1 x H1 q R1 => ?_⟩
  cases d with
  | bool b => exact ⟨b, R1.top.inv_bool, k _ ρ1 _ H1 q (R1.pop.push (.bl _))⟩
  | _ => exact q.elim
def dIf (t : TDT) (ta tb : TD) : TD := fun ρ Q => t ρ fun b ρ1 => match b with
  | true => ta ρ1 Q
  | false => tb ρ1 Q
theorem de_ifExp (hc : DT K X c tA) (ha : DE K X a ta) (hb : DE K X b tb) : DE K X (.IfExp c a b pos) (dIf tA ta tb) := by
  refine wkE (pe_ifExp hc ha hb) fun σ H Q h => ?_
  obtain ⟨f, ρ, pd, A, R, t, k⟩ := h
  refine ⟨f, ρ, pd, _, R, t, fun d ρ1 H1 q R1 => ?_⟩
  cases d with
  | true => exact ⟨f, ρ1, pd, A, R1, q, k⟩
  | false => exact ⟨f, ρ1, pd, A, R1, q, k⟩

/-! ### argument lists, displays -/
def aNil : TDA := fun ρ Q => Q [] ρ
def aCons (t : TD) (u : TDA) : TDA := fun ρ Q => t ρ fun d ρ1 => u ρ1 fun ds ρ2 => Q (d :: ds) ρ2
def aStar (t : TD) (u : TDA) : TDA := fun ρ Q => t ρ fun d ρ1 => match d with
  | .list ds => u ρ1 fun es ρ2 => Q (ds ++ es) ρ2
  | .tuple ds => u ρ1 fun es ρ2 => Q (ds ++ es) ρ2
  | _ => False
theorem da_nil : DA K X [] aNil := wkA pa_nil fun σ H Q ⟨f, ρ, pd, A, R, t, k⟩ => k [] ρ [] H t rfl R
theorem da_cons {u : TDA} (ha : DE K X e ta) (hr : DA K X es u) (hs : starEach (e :: es) X.env = (false, eval e X.env) :: starEach es X.env := by rfl) : DA K X (e :: es) (aCons ta u) := by
  refine wkA (pa_cons ha hr hs) fun σ H Q h => ?_
  obtain ⟨f, ρ, pd, A, R, t, k⟩ := h
  refine ⟨f, ρ, pd, fun d ρ1 => u ρ1 fun ds ρ2 => A (d :: ds) ρ2, R, t, fun d ρ1 x H1 q R1 => ⟨f, ρ1, (x, d) :: pd, _, R1, q, fun ds ρ2 us H2 q2 hl R2 => ?_⟩⟩
  refine k (d :: ds) ρ2 (x :: us) H2 q2 (by simp [hl]) (R2.sub fun p hp => ?_)
  simp at hp ⊢
  rcases hp with h | h | h
  · exact .inr (.inl h)
  · exact .inl h
  · exact .inr (.inr h)
theorem Rel.all {σ : Sl} {H : Hp} {ρ : Rho} {pd : List (V × PyData)} {us : List V} {es : List PyData} (R : Rel K f σ H ρ (us.zip es ++ pd)) (hl : us.length = es.length) : DqAll K (Ob (Sx f ρ) H) us es := ⟨hl, fun i x d hx hd => R.pend (x, d) (List.mem_append_left _ (by
  refine List.mem_iff_getElem?.mpr ⟨i, ?_⟩
  rw [List.getElem?_zip_eq_some]
  exact ⟨hx, hd⟩))⟩
theorem Rel.popAll {σ : Sl} {H : Hp} {ρ : Rho} {pd pe : List (V × PyData)} (R : Rel K f σ H ρ (pe ++ pd)) : Rel K f σ H ρ pd := R.sub fun p hp => List.mem_append_right _ hp
theorem Rel.pushAll {σ : Sl} {H : Hp} {ρ : Rho} {pd : List (V × PyData)} {us : List V} {es : List PyData} (R : Rel K f σ H ρ pd) (h : DqAll K (Ob (Sx f ρ) H) us es) : Rel K f σ H ρ (us.zip es ++ pd) :=
  ⟨R.kp, R.dk, R.dkD, R.dk0, R.hid, R.sys, R.nod, R.len, R.sl, fun p hp => by
    rcases List.mem_append.mp hp with hp | hp
    · obtain ⟨i, hi⟩ := List.mem_iff_getElem?.mp hp
      obtain ⟨x, d⟩ := p
      rw [List.getElem?_zip_eq_some] at hi
      exact h.2 i x d hi.1 hi.2
    · exact R.pend p hp⟩
theorem da_star {u : TDA} {p : Pos} (hK : X.K = K) (ha : DE K X e ta) (hr : DA K X es u) (hs : starEach (.Starred e p :: es) X.env = (true, eval e X.env) :: starEach es X.env := by rfl) : DA K X (.Starred e p :: es) (aStar ta u) := by
  subst hK
  refine wkA (StX.pa_star ha hr hs) fun σ H Q h => ?_
  obtain ⟨f, ρ, pd, A, R, t, k⟩ := h
  refine ⟨f, ρ, pd, _, R, t, fun d ρ1 x H1 q R1 => ?_⟩
  cases d with
  | list ds =>
    obtain ⟨a, xs, rfl, h, g⟩ := R1.top.inv_list
    refine ⟨a, xs, rfl, .inr (SqL.of (Ob.of h).2), f, ρ1, xs.zip ds ++ pd, _, R1.pop.pushAll g, q, fun es ρ2 us H2 q2 hl R2 => k (ds ++ es) ρ2 (xs ++ us) H2 q2 (by simp [hl, g.1]) ?_⟩
    refine R2.sub fun p hp => ?_
    rw [List.zip_append g.1] at hp
    simp at hp ⊢
    rcases hp with h | h | h
    · exact .inr (.inl h)
    · exact .inl h
    · exact .inr (.inr h)
  | tuple ds =>
    obtain ⟨a, xs, rfl, h, g⟩ := R1.top.inv_tup
    refine ⟨a, xs, rfl, .inl (SqT.of (Ob.of h).2), f, ρ1, xs.zip ds ++ pd, _, R1.pop.pushAll g, q, fun es ρ2 us H2 q2 hl R2 => k (ds ++ es) ρ2 (xs ++ us) H2 q2 (by simp [hl, g.1]) ?_⟩
    refine R2.sub fun p hp => ?_
    rw [List.zip_append g.1] at hp
    simp at hp ⊢
    rcases hp with h | h | h
    · exact .inr (.inl h)
    · exact .inl h
    · exact .inr (.inr h)
  | _ => exact q.elim
/-- what is new stands at a place that data may read -/
theorem ob_new {S : List Addr} {H : Hp} {p : Addr} {o : HO} (hp : H p = none) (hS : Al S H) : Ob S (upd H p o) p = some o := Ob.mk (fun z => hS.ne z hp) upd_same
theorem DqAll.new {S : List Addr} {H : Hp} {p : Addr} {o : HO} {xs : List V} {ds : List PyData} (h : DqAll K (Ob S H) xs ds) (hp : H p = none) : DqAll K (Ob S (upd H p o)) xs ds := h.same (ob_kp (Kp.new hp))
abbrev SZ : Nat := 100000
theorem szl {n : Nat} (h : n ≤ SZ) : n ≤ sizeLine := Nat.le_trans h (by decide)
def dLst (t : TDA) : TD := fun ρ Q => t ρ fun ds ρ1 => ds.length ≤ SZ ∧ Q (.list ds) ρ1
def dTup (t : TDA) : TD := fun ρ Q => t ρ fun ds ρ1 => ds.length ≤ SZ ∧ Q (.tuple ds) ρ1
theorem de_lst {u : TDA} (h : DA K X es u) : DE K X (.List es pos) (dLst u) := by
  refine wkE (pe_lst h) fun σ H Q h => ?_
  obtain ⟨f, ρ, pd, A, R, t, k⟩ := h
  refine ⟨f, ρ, pd, _, R, t, fun ds ρ1 us H1 q hl R1 => ⟨szl (by rw [hl]; exact q.1), fun p hp => k _ ρ1 _ _ q.2 ?_⟩⟩
  exact (R1.popAll.keep (Kp.new hp)).push (.lstA (ob_new hp R1.alloc) ((R1.all hl).new hp))
theorem de_tup {u : TDA} {x1} (h : DA K X es u) : DE K X (.Tuple es x1 pos) (dTup u) := by
  refine wkE (pe_tup h) fun σ H Q h => ?_
  obtain ⟨f, ρ, pd, A, R, t, k⟩ := h
  refine ⟨f, ρ, pd, _, R, t, fun ds ρ1 us H1 q hl R1 => ⟨szl (by rw [hl]; exact q.1), fun p hp => k _ ρ1 _ _ q.2 ?_⟩⟩
  exact (R1.popAll.keep (Kp.new hp)).push (.tupA (ob_new hp R1.alloc) ((R1.all hl).new hp))
end
end Dl

set_option Elab.async false
set_option linter.all false
set_option maxRecDepth 100000
set_option maxHeartbeats 4000000
namespace Dl
open PySem PySem.Spec PyProof.Rows L2 Kt

/-! ### statements -/
section
variable {K : PySem.W.Frag} {f : Fr} {X : Cx} {e a b c : Expr} {es : List Expr} {pos : Pos} {st : Stmt} {rest : List Stmt} {t u : TSD} {te : TD} {tc : TDT} {σ : Sl} {H H' : Hp} {ρ : Rho} {pd : List (V × PyData)} {v : V} {d : PyData}
def sNext : TSD := fun E ρ => E.nx ρ
def sSeq (t u : TSD) : TSD := fun E ρ => t { E with nx := u E } ρ
/-- what is so behind the first one is told -/
def sCut (t u : TSD) : TSD := fun E ρ => ∃ P : Rho → Prop, t { E with nx := P } ρ ∧ ∀ ρ', P ρ' → u E ρ'
theorem dss_nil : DSs K X [] sNext := wkSs pss_nil fun D σ H ⟨f, ρ, pd, E, R, t, L⟩ => L.nx _ _ _ t R
theorem dss_one (h1 : DS K X st t) : DSs K X [st] t := pss_one h1
theorem dss_cons (h1 : DS K X st t) (h2 : DSs K X rest u) : DSs K X (st :: rest) (sSeq t u) := by
  refine wkSs (pss_cons h1 h2) fun D σ H h => ?_
  obtain ⟨f, ρ, pd, E, R, t, L⟩ := h
  exact ⟨f, ρ, pd, _, R, t, ⟨fun σ H ρ q R => ⟨f, ρ, pd, E, R, q, L⟩, L.rt, L.bk, L.ct, L.mn⟩⟩
theorem dss_cut (h1 : DS K X st t) (h2 : DSs K X rest u) : DSs K X (st :: rest) (sCut t u) := by
  refine wkSs (pss_cons h1 h2) fun D σ H h => ?_
  obtain ⟨f, ρ, pd, E, R, ⟨P, t, q⟩, L⟩ := h
  exact ⟨f, ρ, pd, { E with nx := P }, R, t, ⟨fun σ H ρ p R => ⟨f, ρ, pd, E, R, q ρ p, L⟩, L.rt, L.bk, L.ct, L.mn⟩⟩
def sBreak : TSD := fun E ρ => E.bk ρ
def sCont : TSD := fun E ρ => E.ct ρ
theorem ds_pass : DS K X (.Pass pos) sNext := wkS ps_pass fun D σ H ⟨f, ρ, pd, E, R, t, L⟩ => L.nx _ _ _ t R
theorem ds_break : DS K X (.Break pos) sBreak := wkS ps_break fun D σ H ⟨f, ρ, pd, E, R, t, L⟩ => L.bk _ _ _ t R
theorem ds_cont : DS K X (.Continue pos) sCont := wkS ps_continue fun D σ H ⟨f, ρ, pd, E, R, t, L⟩ => L.ct _ _ _ t R
def sRet (te : TD) : TSD := fun E ρ => te ρ fun d _ => E.rt d
theorem ds_ret (he : DE K X e te) : DS K X (.Return (some e) pos) (sRet te) := by
  refine wkS (ps_ret he) fun D σ H h => ?_
  obtain ⟨f, ρ, pd, E, R, t, L⟩ := h
  exact ⟨f, ρ, pd, _, R, t, fun d ρ' v H' q R' => L.rt _ _ _ _ _ q R'⟩
def sIf (c : TDT) (t u : TSD) : TSD := fun E ρ => c ρ fun b ρ1 => match b with
  | true => t E ρ1
  | false => u E ρ1
theorem ds_if {a b : List Stmt} (hc : DT K X c tc) (ha : DSs K X a t) (hb : DSs K X b u) : DS K X (.If c a b pos) (sIf tc t u) := by
  refine wkS (ps_if hc ha hb) fun D σ H h => ?_
  obtain ⟨f, ρ, pd, E, R, t, L⟩ := h
  refine ⟨f, ρ, pd, _, R, t, fun b ρ1 H1 q R1 => ?_⟩
  cases b with
  | true => exact ⟨f, ρ1, pd, E, R1, q, L⟩
  | false => exact ⟨f, ρ1, pd, E, R1, q, L⟩
def sDrop (te : TD) : TSD := fun E ρ => te ρ fun _ ρ1 => E.nx ρ1
theorem ds_expr (he : DE K X e te) (hs : swapsWith e none pos.line X.env = pure false := by rfl) : DS K X (.Expr e pos) (sDrop te) := by
  refine wkS (ps_expr he hs) fun D σ H h => ?_
  obtain ⟨f, ρ, pd, E, R, t, L⟩ := h
  exact ⟨f, ρ, pd, _, R, t, fun d ρ' v H' q R' => L.nx _ _ _ q R'.pop⟩

/-! ### targets -/
/-- a slot that takes data -/
def freeSlot : Option (Option Dv) → Bool
  | some none => true
  | some (some (.dat _)) => true
  | _ => false
theorem owns_set {ρ : Rho} {i : Nat} {d : PyData} (h : freeSlot ρ[i]? = true) : owns (ρ.set i (some (.dat d))) = owns ρ := by
  unfold owns
  induction ρ generalizing i with
  | nil => rfl
  | cons p ρ ih =>
    cases i with
    | zero =>
      cases p with
      | none => rfl
      | some q =>
        cases q with
        | dat _ => rfl
        | deck => simp [freeSlot] at h
        | own _ _ => simp [freeSlot] at h
    | succ i =>
      have := ih (i := i) (by simpa using h)
      simp only [List.set_cons_succ, List.filterMap_cons]
      rw [this]
theorem Rel.set {i : Nat} (R : Rel K f σ H ρ ((v, d) :: pd)) (h : freeSlot ρ[i]? = true) : Rel K f (σ.set i (some v)) H (ρ.set i (some (.dat d))) pd := by
  have e := owns_set (d := d) h
  have eS : Sx f (ρ.set i (some (.dat d))) = Sx f ρ := by unfold Sx; rw [e]
  refine ⟨R.kp, R.dk, fun a c q => by rw [e]; exact R.dkD a c q, R.dk0, R.hid, R.sys, by rw [e]; exact R.nod, by rw [List.length_set, List.length_set]; exact R.len, fun j p hp => ?_, fun p hp => by rw [eS]; exact R.pop.pend p hp⟩
  have hi : i < ρ.length := by
    cases q : ρ[i]? with
    | none => rw [q] at h; cases h
    | some _ => exact (List.getElem?_eq_some_iff.mp q).1
  by_cases z : i = j
  · subst z
    rw [List.getElem?_set_self hi] at hp
    cases hp
    exact ⟨v, by rw [List.getElem?_set_self (by rw [R.len]; exact hi)], .dat (by rw [eS]; exact R.top)⟩
  · rw [List.getElem?_set_ne z] at hp
    obtain ⟨w, hw, s⟩ := R.sl j p hp
    exact ⟨w, by rw [List.getElem?_set_ne z]; exact hw, by rw [eS]; exact s⟩
abbrev TGD := PyData → Rho → (Rho → Prop) → Prop
abbrev TGsD := List PyData → Rho → (Rho → Prop) → Prop
abbrev DG (K : PySem.W.Frag) (X : Cx) (e : Expr) (ts : List Nat) (g : TGD) : Prop := PG X e (lG K ts g)
abbrev DGs (K : PySem.W.Frag) (X : Cx) (es : List Expr) (ts : List Nat) (g : TGsD) : Prop := PGs X es (lGs K ts g)
theorem Tch.refl {ts : List Nat} : Tch ts σ σ := ⟨rfl, fun _ _ => rfl⟩
theorem Tch.trans {ts us : List Nat} {σ1 σ2 : Sl} (h : Tch ts σ σ1) (g : Tch us σ1 σ2) : Tch (ts ++ us) σ σ2 := ⟨g.1.trans h.1, fun j hj => by
  rw [List.mem_append] at hj
  rw [g.2 j (fun z => hj (.inr z)), h.2 j (fun z => hj (.inl z))]⟩
theorem Tch.set {i : Nat} {o : Option V} : Tch [i] σ (σ.set i o) := ⟨List.length_set, fun j hj => by
  rw [List.getElem?_set_ne]
  intro z
  exact hj (by simp [z])⟩
def tn (i : Nat) : TGD := fun d ρ Q => match freeSlot ρ[i]? with
  | true => Q (ρ.set i (some (.dat d)))
  | false => False
theorem dg_name {i : Nat} {x : Str} (hN : X.N.Nodup) (hi : X.N[i]? = some x) (hx : Loc X.env.scope x) (hf : X.fn x = true ∨ X.env.scope.names.lookup x = some .local := by first | exact .inl rfl | exact .inr rfl | assumption) : DG K X (.Name x pos) [i] (tn i) := by
  refine wkG (pg_name hN hi hx hf) fun v σ H Q h => ?_
  obtain ⟨f, d, ρ, pd, A, R, g, k⟩ := h
  unfold tn at g
  split at g
  · rename_i q
    exact k _ _ _ g (R.set q) Tch.set
  · exact g.elim
def tsNil : TGsD := fun ds ρ Q => match ds with
  | [] => Q ρ
  | _ => False
def tsCons (g : TGD) (u : TGsD) : TGsD := fun ds ρ Q => match ds with
  | d :: ds => g d ρ fun ρ1 => u ds ρ1 Q
  | [] => False
theorem dgs_nil : DGs K X [] [] tsNil := by
  refine wkGs pgs_nil fun vs σ H Q h => ?_
  obtain ⟨f, ds, ρ, pd, A, hl, R, g, k⟩ := h
  cases ds with
  | nil => exact ⟨List.eq_nil_of_length_eq_zero hl, k _ _ _ g R.popAll Tch.refl⟩
  | cons _ _ => exact g.elim
theorem dgs_cons {g : TGD} {u : TGsD} {t1 t2 : List Nat} (h1 : DG K X e t1 g) (h2 : DGs K X es t2 u) (hs : (assignEach (e :: es) X.env).map (·.2) = assign e X.env :: (assignEach es X.env).map (·.2) := by rfl) : DGs K X (e :: es) (t1 ++ t2) (tsCons g u) := by
  refine wkGs (pgs_cons h1 h2 hs) fun vs σ H Q h => ?_
  obtain ⟨f, ds, ρ, pd, A, hl, R, q, k⟩ := h
  cases ds with
  | nil => exact q.elim
  | cons d ds =>
    cases vs with
    | nil => simp at hl
    | cons v vs =>
      refine ⟨v, vs, rfl, f, d, ρ, vs.zip ds ++ pd, _, R, q, fun σ1 H1 ρ1 q1 R1 c1 => ?_⟩
      exact ⟨f, ds, ρ1, pd, A, by simpa using hl, R1, q1, fun σ2 H2 ρ2 q2 R2 c2 => k σ2 H2 ρ2 q2 R2 (c1.trans c2)⟩
def tTupD (n : Nat) (g : TGsD) : TGD := fun d ρ Q => match d with
  | .tuple ds => ds.length = n ∧ g ds ρ Q
  | _ => False
theorem dg_tup {k : Nat} {g : TGsD} {n : Nat} {ts : List Nat} (hK : X.K = K) (hc : X.calm = true) (h : DGs K X es ts g) (hn : (assignEach es X.env).length = n := by rfl) (hst : (assignEach es X.env).findIdx? (·.1) = none := by rfl) : DG K X (.Tuple es k pos) ts (tTupD n g) := by
  subst hK
  refine wkG (pg_tup hc h hn hst) fun v σ H Q h => ?_
  obtain ⟨f, d, ρ, pd, A, R, q, k⟩ := h
  cases d with
  | tuple ds =>
    obtain ⟨a, xs, rfl, h, g⟩ := R.top.inv_tup
    exact ⟨a, xs, rfl, SqT.of (Ob.of h).2, g.1.trans q.1, f, ds, ρ, pd, A, g.1, R.pop.pushAll g, q.2, k⟩
  | _ => exact q.elim
def sAsg (te : TD) (g : TGD) : TSD := fun E ρ => te ρ fun d ρ1 => g d ρ1 E.nx
theorem lift_asg {te : TD} {g : TGD} {D : Ends} {ts : List Nat} (h : lS K (sAsg te g) D σ H) : lE K te σ H fun x H1 => lG K ts g x σ H1 D.nx := by
  obtain ⟨f, ρ, pd, E, R, t, L⟩ := h
  exact ⟨f, ρ, pd, _, R, t, fun d ρ1 v H1 q R1 => ⟨f, d, ρ1, pd, E.nx, R1, q, fun σ' H' ρ' q' R' _ => L.nx _ _ _ q' R'⟩⟩
theorem ds_asg {tg : Expr} {g : TGD} {ts : List Nat} (he : DE K X e te) (hg : DG K X tg ts g) (hs : swapsWithSole [tg] e pos.line X.env = pure false := by rfl) (hw : swappedStores [tg] e X.env = pure none := by rfl)
    (h1 : (assignEach [tg] X.env).map (·.2) = [assign tg X.env] := by rfl) : DS K X (.Assign [tg] e pos) (sAsg te g) :=
  wkS (ps_asg he hg hs hw h1) fun D σ H h => lift_asg h
theorem tn_lift {i : Nat} {x : V} {Q : Sl → Hp → Prop} (h : lG K [i] (tn i) x σ H Q) : gName i x σ H Q := by
  obtain ⟨f, d, ρ, pd, A, R, g, k⟩ := h
  unfold tn at g
  split at g
  · rename_i q
    exact k _ _ _ g (R.set q) Tch.set
  · exact g.elim
theorem lE_mono {t : TD} {Q Q' : VK} (h : lE K t σ H Q) (w : ∀ v H, Q v H → Q' v H) : lE K t σ H Q' := by
  obtain ⟨f, ρ, pd, A, R, t, k⟩ := h
  exact ⟨f, ρ, pd, A, R, t, fun d ρ' v H' q R' => w _ _ (k d ρ' v H' q R')⟩
theorem ds_set {i : Nat} {x : Str} {pos' : Pos} (hN : X.N.Nodup) (hi : X.N[i]? = some x) (hx : Loc X.env.scope x) (he : DE K X e te) (hs : swapsWith e (some (.Name x pos')) pos.line X.env = pure false := by rfl) (hf : X.fn x = true ∨ X.env.scope.names.lookup x = some .local := by first | exact .inl rfl | exact .inr rfl | assumption) :
    DS K X (.Assign [.Name x pos'] e pos) (sAsg te (tn i)) :=
  wkS (ps_set hN hi hx he hs hf) fun D σ H h => lE_mono (lift_asg h) fun v H1 q => tn_lift q
/-- a, b = x, y -/
def sPar (i j : Nat) (ta : TDA) : TSD := fun E ρ => ta ρ fun ds ρ1 => match ds with
  | [d, e] => match freeSlot ρ1[i]? && freeSlot ρ1[j]? && !(i == j) with
    | true => E.nx ((ρ1.set i (some (.dat d))).set j (some (.dat e)))
    | false => False
  | _ => False
theorem free_set {i j : Nat} {d : PyData} (h : freeSlot ρ[j]? = true) (hij : i ≠ j) : freeSlot (ρ.set i (some (.dat d)))[j]? = true := by
  rw [List.getElem?_set_ne hij]; exact h
theorem ds_par {i j : Nat} {x y : Str} {ta : TDA} {px py pt : Pos} {kt k2 pt2} (hc : X.calm = true) (hN : X.N.Nodup) (hi : X.N[i]? = some x) (hj : X.N[j]? = some y) (hij : i ≠ j)
    (hx : X.env.scope.names.lookup x = some .local) (hy : X.env.scope.names.lookup y = some .local) (ha : DA K X [a, b] ta)
    (hw : swappedStores [.Tuple [.Name x px, .Name y py] kt pt] (.Tuple [a, b] k2 pt2) X.env = pure (some [x, y]))
    (hs : swapsWithSole [.Tuple [.Name x px, .Name y py] kt pt] (.Tuple [a, b] k2 pt2) pos.line X.env = pure false := by rfl) :
    DS K X (.Assign [.Tuple [.Name x px, .Name y py] kt pt] (.Tuple [a, b] k2 pt2) pos) (sPar i j ta) := by
  refine wkS (ps_par hc hN hi hj hij hx hy ha hw hs) fun D σ H h => ?_
  obtain ⟨f, ρ, pd, E, R, t, L⟩ := h
  refine ⟨f, ρ, pd, _, R, t, fun ds ρ1 vs H1 q hl R1 => ?_⟩
  match ds, vs, hl, q, R1 with
  | [d, e], [v, w], _, q, R1 =>
    refine ⟨v, w, rfl, ?_⟩
    simp only [] at q
    split at q
    · rename_i z
      simp only [Bool.and_eq_true, Bool.not_eq_true'] at z
      have hne : i ≠ j := by simpa using z.2
      have Ra : Rel K f σ H1 ρ1 ((v, d) :: (w, e) :: pd) := R1
      exact L.nx _ _ _ q ((Ra.set z.1.1).set (free_set z.1.2 hne))
    · exact q.elim
  | [], _, _, q, _ => exact q.elim
  | [_], _, _, q, _ => exact q.elim
  | _ :: _ :: _ :: _, _, _, q, _ => exact q.elim

/-! ### what is walked -/
/-- J walks ds, as long as pe stands -/
structure WalkD (K : PySem.W.Frag) (f : Fr) (J : It) (ds : List PyData) (pe : List (V × PyData)) : Prop where
  go : ∀ (f' : Fr) (σ : Sl) (H : Hp) (ρ : Rho) (pd : List (V × PyData)) (i : Nat) (d : PyData), ds[i]? = some d → Rel K f' σ H ρ (pe ++ pd) → J.go i H ∧ ∀ x H', J.yld i H x H' → Rel K f' σ H' ρ ((x, d) :: (pe ++ pd)) ∧ Kp [] H H'
  stop : ∀ (f' : Fr) (σ : Sl) (H : Hp) (ρ : Rho) (pd : List (V × PyData)), Rel K f' σ H ρ (pe ++ pd) → J.stop ds.length H
abbrev TID := Rho → (List PyData → Rho → Prop) → Prop
def lI (K : PySem.W.Frag) (t : TID) : TI := fun σ H R => ∃ f ρ pd A, Rel K f σ H ρ pd ∧ t ρ A ∧ ∀ ds ρ' H' J pe, A ds ρ' → Rel K f σ H' ρ' (pe ++ pd) → WalkD K f J ds pe → R J H'
abbrev DI (K : PySem.W.Frag) (X : Cx) (tg e : Expr) (t : TID) : Prop := PI X tg e (lI K t)
theorem wkI {tg : Expr} {t t' : TI} (h : PI X tg e t') (w : ∀ σ H R, t σ H R → t' σ H R) : PI X tg e t := ⟨fun pins s σ H R I q => h.run pins s σ H R I (w _ _ _ q)⟩
theorem walk_list {a : Addr} {ds : List PyData} : WalkD K f (Itl K a) ds [(.ref a, .list ds)] := by
  refine ⟨fun f' σ H ρ pd i d hd R => ?_, fun f' σ H ρ pd R => ?_⟩
  · obtain ⟨a', xs, e, h, g⟩ := (Rel.top (pd := pd) R).inv_list
    cases e
    obtain ⟨x, hx, q⟩ := g.at hd
    refine ⟨⟨xs, x, SqL.of (Ob.of h).2, hx⟩, fun y H' z => ?_⟩
    obtain ⟨rfl, z⟩ := z
    have := z xs (SqL.of (Ob.of h).2)
    rw [hx] at this
    cases this
    exact ⟨R.push q, Kp.refl⟩
  · obtain ⟨a', xs, e, h, g⟩ := (Rel.top (pd := pd) R).inv_list
    cases e
    exact ⟨xs, SqL.of (Ob.of h).2, Nat.le_of_eq g.1⟩
theorem walk_tup {a : Addr} {ds : List PyData} : WalkD K f (Itt K a) ds [(.ref a, .tuple ds)] := by
  refine ⟨fun f' σ H ρ pd i d hd R => ?_, fun f' σ H ρ pd R => ?_⟩
  · obtain ⟨a', xs, e, h, g⟩ := (Rel.top (pd := pd) R).inv_tup
    cases e
    obtain ⟨x, hx, q⟩ := g.at hd
    refine ⟨⟨xs, x, SqT.of (Ob.of h).2, hx⟩, fun y H' z => ?_⟩
    obtain ⟨rfl, z⟩ := z
    have := z xs (SqT.of (Ob.of h).2)
    rw [hx] at this
    cases this
    exact ⟨R.push q, Kp.refl⟩
  · obtain ⟨a', xs, e, h, g⟩ := (Rel.top (pd := pd) R).inv_tup
    cases e
    exact ⟨xs, SqT.of (Ob.of h).2, Nat.le_of_eq g.1⟩
def rngD (lo : Int) (n : Nat) : List PyData := (List.range n).map fun (i : Nat) => PyData.int (lo + (i : Int))
theorem rngD_at {lo : Int} {n i : Nat} {d : PyData} (h : (rngD lo n)[i]? = some d) : i < n ∧ d = .int (lo + i) := by
  unfold rngD at h
  rw [List.getElem?_map] at h
  cases e : (List.range n)[i]? with
  | none => rw [e] at h; cases h
  | some j =>
    have := List.getElem?_eq_some_iff.mp e
    obtain ⟨h1, h2⟩ := this
    rw [e] at h
    simp at h1 h2 h
    subst h2
    exact ⟨h1, h.symm⟩
theorem walk_range {lo : Int} {n : Nat} : WalkD K f (Itr lo n) (rngD lo n) [] := by
  refine ⟨fun f' σ H ρ pd i d hd R => ?_, fun f' σ H ρ pd R => ?_⟩
  · obtain ⟨hi, rfl⟩ := rngD_at hd
    refine ⟨hi, fun y H' z => ?_⟩
    obtain ⟨rfl, rfl⟩ := z
    exact ⟨R.push (.int _), Kp.refl⟩
  · show n ≤ (rngD lo n).length
    unfold rngD
    simp
/-- each item with its place -/
def enumD (ds : List PyData) : List PyData := (List.range ds.length).zip ds |>.map fun p => PyData.tuple [.int (p.1 : Nat), p.2]
theorem enumD_at {ds : List PyData} {i : Nat} {d : PyData} (h : (enumD ds)[i]? = some d) : ∃ e, ds[i]? = some e ∧ d = .tuple [.int (i : Nat), e] := by
  unfold enumD at h
  rw [List.getElem?_map] at h
  cases q : ((List.range ds.length).zip ds)[i]? with
  | none => rw [q] at h; cases h
  | some p =>
    obtain ⟨j, e⟩ := p
    rw [List.getElem?_zip_eq_some] at q
    obtain ⟨q1, q2⟩ := q
    rw [show ((List.range ds.length).zip ds)[i]? = some (j, e) from by rw [List.getElem?_zip_eq_some]; exact ⟨q1, q2⟩] at h
    have := (List.getElem?_eq_some_iff.mp q1).2
    simp at this h
    subst this
    exact ⟨e, q2, h.symm⟩
theorem enumD_len {ds : List PyData} : (enumD ds).length = ds.length := by unfold enumD; simp
theorem pair_new {S : List Addr} {H : Hp} {T : Addr} {x y : V} {d e : PyData} (hT : H T = none) (hS : Al S H) (h1 : Dq K (Ob S H) x d) (h2 : Dq K (Ob S H) y e) : Dq K (Ob S (upd H T (.tup [x, y]))) (.ref T) (.tuple [d, e]) :=
  .tupA (ob_new hT hS) ((DqAll.cons h1 (DqAll.cons h2 DqAll.nil)).new hT)
theorem walk_enumL {a : Addr} {ds : List PyData} : WalkD K f (Ite K a) (enumD ds) [(.ref a, .list ds)] := by
  refine ⟨fun f' σ H ρ pd i d hd R => ?_, fun f' σ H ρ pd R => ?_⟩
  · obtain ⟨e, he, rfl⟩ := enumD_at hd
    obtain ⟨a', xs, ee, h, g⟩ := (Rel.top (pd := pd) R).inv_list
    cases ee
    obtain ⟨x, hx, q⟩ := g.at he
    refine ⟨⟨xs, x, SqL.of (Ob.of h).2, hx⟩, fun y H' z => ?_⟩
    obtain ⟨T, x', rfl, hT, rfl, z⟩ := z
    have := z xs (SqL.of (Ob.of h).2)
    rw [hx] at this
    cases this
    exact ⟨(R.keep (Kp.new hT)).push (pair_new hT R.alloc (.int _) q), Kp.new hT⟩
  · obtain ⟨a', xs, e, h, g⟩ := (Rel.top (pd := pd) R).inv_list
    cases e
    exact ⟨xs, SqL.of (Ob.of h).2, by rw [enumD_len]; exact Nat.le_of_eq g.1⟩
theorem walk_enumTu {a : Addr} {ds : List PyData} : WalkD K f (Iet K a) (enumD ds) [(.ref a, .tuple ds)] := by
  refine ⟨fun f' σ H ρ pd i d hd R => ?_, fun f' σ H ρ pd R => ?_⟩
  · obtain ⟨e, he, rfl⟩ := enumD_at hd
    obtain ⟨a', xs, ee, h, g⟩ := (Rel.top (pd := pd) R).inv_tup
    cases ee
    obtain ⟨x, hx, q⟩ := g.at he
    refine ⟨⟨xs, x, SqT.of (Ob.of h).2, hx⟩, fun y H' z => ?_⟩
    obtain ⟨T, x', rfl, hT, rfl, z⟩ := z
    have := z xs (SqT.of (Ob.of h).2)
    rw [hx] at this
    cases this
    exact ⟨(R.keep (Kp.new hT)).push (pair_new hT R.alloc (.int _) q), Kp.new hT⟩
  · obtain ⟨a', xs, e, h, g⟩ := (Rel.top (pd := pd) R).inv_tup
    cases e
    exact ⟨xs, SqT.of (Ob.of h).2, by rw [enumD_len]; exact Nat.le_of_eq g.1⟩
end
end Dl

set_option Elab.async false
set_option linter.all false
set_option maxRecDepth 100000
set_option maxHeartbeats 4000000
namespace Dl
open PySem PySem.Spec PyProof.Rows L2 Kt

/-! ### walks, lists and tuples alike -/
section
variable {X : Cx} {tg : Expr}
theorem pi_seqH {l : Expr} {tl : TE} (hl : PE X l tl) : PI X tg l (fun σ H R => tl σ H fun x H1 => (∃ a, x = .ref a ∧ (∃ xs, SqL X.K H1 a xs) ∧ R (Itl X.K a) H1) ∨ (∃ a, x = .ref a ∧ (∃ xs, SqT X.K H1 a xs) ∧ R (Itt X.K a) H1)) := by
  refine ⟨fun pins s σ H R I h => ?_⟩
  refine thn (hl.run pins s σ H _ I h) fun v s1 ⟨x, H1, I1, r1, q1⟩ => ?_
  rcases q1 with q1 | q1
  · obtain ⟨a, e, ⟨xs, hq⟩, q⟩ := q1
    subst e
    cases r1
    obtain ⟨its, rv, p, hz⟩ := I1.list hq
    refine wpAny_pyIter_list p.isList ?_
    refine ⟨s1.heap.objs.size, [s1.heap.objs.size], _, _, H1, rfl, I1.kept (t' := s1.toks) fun b o e => Heap.get?_push_of_some _ e, turn_list a _, ⟨_, Heap.get?_push_size _ rfl, rfl, rfl⟩, fun b hb => ?_, q⟩
    have e : b = s1.heap.objs.size := by simpa using hb
    subst e
    exact I1.fpOk (Nat.le_refl _) (I1.hok.fresh (Nat.le_refl _))
  · obtain ⟨a, e, ⟨xs, hq⟩, q⟩ := q1
    subst e
    cases r1
    obtain ⟨its, rv, p, hz⟩ := I1.tuple hq
    refine wpAny_pyIter_tuple (show s1.heap.IsTuple a its.toArray from p) ?_
    refine ⟨s1.heap.objs.size, [s1.heap.objs.size], _, _, H1, rfl, I1.kept (t' := s1.toks) fun b o e => Heap.get?_push_of_some _ e, turn_tuple a _, ⟨_, Heap.get?_push_size _ rfl, rfl, rfl⟩, fun b hb => ?_, q⟩
    have e : b = s1.heap.objs.size := by simpa using hb
    subst e
    exact I1.fpOk (Nat.le_refl _) (I1.hok.fresh (Nat.le_refl _))
theorem pi_enumH {e : Expr} {ta : TA} {p pos tpos : Pos} {elts : List Expr} {kk : Nat} (hg : Gl X "enumerate") (hm : X.mg "enumerate" = none) (ha : PA X [e] ta) (hs : starEach [e] X.env = [(false, eval e X.env)] := by rfl) :
    PI X (.Tuple elts kk tpos) (.Call (.Name "enumerate" p) [e] [] pos) (fun σ H R => ta σ H fun vs H1 => (∃ a xs, vs = [.ref a] ∧ SqL X.K H1 a xs ∧ R (Ite X.K a) H1) ∨ (∃ a xs, vs = [.ref a] ∧ SqT X.K H1 a xs ∧ R (Iet X.K a) H1)) := by
  refine ⟨fun pins s σ H R I h => ?_⟩
  refine Call_ (ld_blt I hg hm boot_enumerate (PyProof.Rows.callWith_type1 (thn (ha.run pos pins s σ H _ I h) fun us s1 ⟨vs, H1, I1, r1, q1⟩ => ?_) hs rfl))
  rcases q1 with q1 | q1
  · obtain ⟨a, xs, ex, hq, q⟩ := q1
    subst ex
    cases r1 with
    | cons r rr =>
      cases rr
      cases r
      obtain ⟨its, rv, p', hz⟩ := I1.list hq
      refine call_enumerate_list p'.isList fun h' he hit hsz hk => wpAny_pyIter_enum he ?_
      have I2 : Inv X pins σ H1 { s1 with heap := h' } := I1.kept (t' := s1.toks) hk
      refine ⟨s1.heap.objs.size + 1, [s1.heap.objs.size + 1, s1.heap.objs.size], _, _, H1, rfl, I2, turn_enum a (s1.heap.objs.size + 1) s1.heap.objs.size, ⟨⟨.none, he⟩, hit, Nat.succ_ne_self _⟩, fun b hb => ?_, q⟩
      have e' : b = s1.heap.objs.size + 1 ∨ b = s1.heap.objs.size := by simpa using hb
      have hle : s1.heap.objs.size ≤ b := by
        rcases e' with z | z
        · rw [z]; exact Nat.le_add_right _ _
        · rw [z]; exact Nat.le_refl _
      exact I1.fpOk hle (I1.hok.fresh hle)
  · obtain ⟨a, xs, ex, hq, q⟩ := q1
    subst ex
    cases r1 with
    | cons r rr =>
      cases rr
      cases r
      obtain ⟨its, rv, p', hz⟩ := I1.tuple hq
      have pT : s1.heap.IsTuple a its.toArray := p'
      have hal : a < s1.heap.objs.size := by obtain ⟨_, q, _⟩ := pT; exact Heap.lt_size q
      refine call_enumerate_tuple pT fun h' he hit hsz hk => wpAny_pyIter_enum he ?_
      have I2 : Inv X pins σ H1 { s1 with heap := h' } := I1.kept (t' := s1.toks) hk
      refine ⟨s1.heap.objs.size + 1, [s1.heap.objs.size + 1, s1.heap.objs.size], _, _, H1, rfl, I2, turn_enumT a (s1.heap.objs.size + 1) s1.heap.objs.size, ⟨⟨.none, he⟩, hit, Nat.succ_ne_self _, Nat.ne_of_lt (Nat.lt_succ_of_lt hal), Nat.ne_of_lt hal⟩, fun b hb => ?_, q⟩
      have e' : b = s1.heap.objs.size + 1 ∨ b = s1.heap.objs.size := by simpa using hb
      have hle : s1.heap.objs.size ≤ b := by
        rcases e' with z | z
        · rw [z]; exact Nat.le_add_right _ _
        · rw [z]; exact Nat.le_refl _
      exact I1.fpOk hle (I1.hok.fresh hle)
end
section
variable {K : PySem.W.Frag} {f : Fr} {X : Cx} {e a b c tg : Expr} {es : List Expr} {pos : Pos} {te : TD} {ta : TDA} {σ : Sl} {H H' : Hp} {ρ : Rho} {pd : List (V × PyData)} {v : V} {d : PyData}
def iSeq (t : TD) : TID := fun ρ Q => t ρ fun d ρ1 => match d with
  | .list ds => Q ds ρ1
  | .tuple ds => Q ds ρ1
  | _ => False
theorem di_seq (hK : X.K = K) (h : DE K X e te) : DI K X tg e (iSeq te) := by
  subst hK
  refine wkI (pi_seqH h) fun σ H R h => ?_
  obtain ⟨f, ρ, pd, A, Rl, t, k⟩ := h
  refine ⟨f, ρ, pd, _, Rl, t, fun d ρ1 x H1 q R1 => ?_⟩
  cases d with
  | list ds =>
    obtain ⟨a, xs, rfl, h, g⟩ := R1.top.inv_list
    exact .inl ⟨a, rfl, ⟨xs, SqL.of (Ob.of h).2⟩, k ds ρ1 H1 _ _ q R1 walk_list⟩
  | tuple ds =>
    obtain ⟨a, xs, rfl, h, g⟩ := R1.top.inv_tup
    exact .inr ⟨a, rfl, ⟨xs, SqT.of (Ob.of h).2⟩, k ds ρ1 H1 _ _ q R1 walk_tup⟩
  | _ => exact q.elim
def iEnumD (t : TD) : TID := fun ρ Q => t ρ fun d ρ1 => match d with
  | .list ds => Q (enumD ds) ρ1
  | .tuple ds => Q (enumD ds) ρ1
  | _ => False
theorem di_enum {p tpos : Pos} {elts : List Expr} {kk : Nat} (hK : X.K = K) (hg : Gl X "enumerate") (hm : X.mg "enumerate" = none) (h : DE K X e te) (hs : starEach [e] X.env = [(false, eval e X.env)] := by rfl) : DI K X (.Tuple elts kk tpos) (.Call (.Name "enumerate" p) [e] [] pos) (iEnumD te) := by
  subst hK
  refine wkI (pi_enumH hg hm (pa_cons h pa_nil hs) hs) fun σ H R h => ?_
  obtain ⟨f, ρ, pd, A, Rl, t, k⟩ := h
  refine ⟨f, ρ, pd, _, Rl, t, fun d ρ1 x H1 q R1 => ?_⟩
  cases d with
  | list ds =>
    obtain ⟨a, xs, rfl, h, g⟩ := R1.top.inv_list
    exact .inl ⟨a, xs, rfl, SqL.of (Ob.of h).2, k _ ρ1 H1 _ _ q R1 walk_enumL⟩
  | tuple ds =>
    obtain ⟨a, xs, rfl, h, g⟩ := R1.top.inv_tup
    exact .inr ⟨a, xs, rfl, SqT.of (Ob.of h).2, k _ ρ1 H1 _ _ q R1 walk_enumTu⟩
  | _ => exact q.elim
def iRng1D (t : TD) : TID := fun ρ Q => t ρ fun d ρ1 => match d with
  | .int j => (-(2 ^ 62) ≤ j ∧ j < 2 ^ 62) ∧ Q (rngD 0 j.toNat) ρ1
  | _ => False
def iRng2D (t u : TD) : TID := fun ρ Q => t ρ fun d ρ1 => u ρ1 fun e ρ2 => match d, e with
  | .int i, .int j => (-(2 ^ 62) ≤ i ∧ i < 2 ^ 62 ∧ -(2 ^ 62) ≤ j ∧ j < 2 ^ 62) ∧ Q (rngD i (j - i).toNat) ρ2
  | _, _ => False
theorem di_range1 {p : Pos} (hg : Gl X "range") (hm : X.mg "range" = none) (h : DE K X a te) (hs : starEach [a] X.env = [(false, eval a X.env)] := by rfl) : DI K X tg (.Call (.Name "range" p) [a] [] pos) (iRng1D te) := by
  refine wkI (pi_range1 hg hm (pa_cons h pa_nil hs) hs) fun σ H R h => ?_
  obtain ⟨f, ρ, pd, A, Rl, t, k⟩ := h
  refine ⟨f, ρ, pd, _, Rl, t, fun d ρ1 x H1 q R1 => ?_⟩
  cases d with
  | int j => exact ⟨j, by rw [R1.top.inv_int], q.1.1, q.1.2, k _ ρ1 H1 _ [] q.2 R1.pop walk_range⟩
  | _ => exact q.elim
theorem di_range2 {p : Pos} {tb : TD} (hg : Gl X "range") (hm : X.mg "range" = none) (h : DE K X a te) (h2 : DE K X b tb) (hs : starEach [a, b] X.env = [(false, eval a X.env), (false, eval b X.env)] := by rfl) (hs2 : starEach [b] X.env = [(false, eval b X.env)] := by rfl) :
    DI K X tg (.Call (.Name "range" p) [a, b] [] pos) (iRng2D te tb) := by
  refine wkI (pi_range2 hg hm (pa_cons h (pa_cons h2 pa_nil hs2) (by rw [hs, hs2])) hs hs2) fun σ H R h => ?_
  obtain ⟨f, ρ, pd, A, Rl, t, k⟩ := h
  refine ⟨f, ρ, pd, _, Rl, t, fun d ρ1 x H1 q R1 => ⟨f, ρ1, _, _, R1, q, fun e ρ2 y H2 q2 R2 => ?_⟩⟩
  cases d with
  | int i =>
    cases e with
    | int j => exact ⟨i, j, by rw [R2.pop.top.inv_int, R2.top.inv_int], q2.1, k _ ρ2 H2 _ [] q2.2 R2.pop.pop walk_range⟩
    | _ => exact q2.elim
  | _ => cases e <;> exact q2.elim

/-! ### for -/
def loopD (g : TGD) (tb : TSD) (E : EnD) : List PyData → Rho → Prop
  | [], ρ => E.nx ρ
  | d :: ds, ρ => g d ρ fun ρ2 => tb { nx := loopD g tb E ds, rt := E.rt, bk := E.nx, ct := loopD g tb E ds } ρ2
def sFor (ti : TID) (g : TGD) (tb : TSD) : TSD := fun E ρ => ti ρ fun ds ρ1 => loopD g tb E ds ρ1
theorem ds_for {iter : Expr} {body : List Stmt} {ti : TID} {g : TGD} {tb : TSD} {ts : List Nat} (hp : PassesOwn (model X.prog X.w) X.A X.env X.xe) (hc : X.calm = true) (hi : DI K X tg iter ti) (hg : DG K X tg ts g) (hb : DSs K X body tb)
    (hs : ∀ x, foldedSetIterable iter X.env x = pure x := by intro _; rfl) : DS K X (.For tg iter body [] pos) (sFor ti g tb) := by
  refine wkS (ps_for hp hc hi hg hb hs) fun D σ H h => ?_
  obtain ⟨f, ρ, pd, E, R, t, L⟩ := h
  refine ⟨f, ρ, pd, _, R, t, fun ds ρ1 H1 J pe q R1 Wd => ?_⟩
  refine ⟨fun i m σ H => m = ds.length - i ∧ i ≤ ds.length ∧ ∃ ρ, Rel K f σ H ρ (pe ++ pd) ∧ loopD g tb E (ds.drop i) ρ, ⟨ds.length, by simp, Nat.zero_le _, ρ1, R1, q⟩, ?_⟩
  rintro i m σ2 H2 ⟨rfl, hi, ρ2, R2, q2⟩
  by_cases hlt : i < ds.length
  · rw [List.drop_eq_getElem_cons hlt] at q2
    obtain ⟨h1, h2⟩ := Wd.go f σ2 H2 ρ2 pd i ds[i] (List.getElem?_eq_getElem hlt) R2
    refine .inr ⟨h1, fun σ' H' => ∃ ρ, Rel K f σ' H' ρ (pe ++ pd) ∧ loopD g tb E (ds.drop (i + 1)) ρ, fun σ' H' p' => ⟨ds.length - (i + 1), by omega, rfl, hlt, p'⟩, fun x H' y => ?_⟩
    obtain ⟨R3, _⟩ := h2 x H' y
    refine ⟨f, ds[i], ρ2, pe ++ pd, _, R3, q2, fun σ4 H4 ρ4 q4 R4 _ => ⟨f, ρ4, pe ++ pd, _, R4, q4, ?_⟩⟩
    refine ⟨fun σ H ρ q R => ⟨ρ, R, q⟩, fun σ H ρ v d q R => L.rt σ H ρ v d q (R.sub fun p hp => ?_), fun σ H ρ q R => L.nx σ H ρ q R.popAll, fun σ H ρ q R => ⟨ρ, R, q⟩, L.mn⟩
    rcases List.mem_cons.mp hp with z | z
    · rw [z]; exact List.mem_cons_self
    · exact List.mem_cons_of_mem _ (List.mem_append_right _ z)
  · have e : i = ds.length := by omega
    subst e
    rw [List.drop_length] at q2
    exact .inl ⟨Wd.stop f σ2 H2 ρ2 pd R2, L.nx _ _ _ q2 R2.popAll⟩
/-- by an invariant over the turns -/
def sForI (ti : TID) (g : TGD) (tb : TSD) : TSD := fun E ρ => ti ρ fun ds ρ1 => ∃ P : Nat → Rho → Prop, P 0 ρ1 ∧ (∀ i d ρ, ds[i]? = some d → P i ρ → g d ρ fun ρ2 => tb { nx := P (i + 1), rt := E.rt, bk := E.nx, ct := P (i + 1) } ρ2) ∧ ∀ ρ, P ds.length ρ → E.nx ρ
theorem ds_forI {iter : Expr} {body : List Stmt} {ti : TID} {g : TGD} {tb : TSD} {ts : List Nat} (hp : PassesOwn (model X.prog X.w) X.A X.env X.xe) (hc : X.calm = true) (hi : DI K X tg iter ti) (hg : DG K X tg ts g) (hb : DSs K X body tb)
    (hs : ∀ x, foldedSetIterable iter X.env x = pure x := by intro _; rfl) : DS K X (.For tg iter body [] pos) (sForI ti g tb) := by
  refine wkS (ps_for hp hc hi hg hb hs) fun D σ H h => ?_
  obtain ⟨f, ρ, pd, E, R, t, L⟩ := h
  refine ⟨f, ρ, pd, _, R, t, fun ds ρ1 H1 J pe q R1 Wd => ?_⟩
  obtain ⟨P, p0, ps, pe'⟩ := q
  refine ⟨fun i m σ H => m = ds.length - i ∧ i ≤ ds.length ∧ ∃ ρ, Rel K f σ H ρ (pe ++ pd) ∧ P i ρ, ⟨ds.length, by simp, Nat.zero_le _, ρ1, R1, p0⟩, ?_⟩
  rintro i m σ2 H2 ⟨rfl, hi, ρ2, R2, q2⟩
  by_cases hlt : i < ds.length
  · obtain ⟨h1, h2⟩ := Wd.go f σ2 H2 ρ2 pd i ds[i] (List.getElem?_eq_getElem hlt) R2
    refine .inr ⟨h1, fun σ' H' => ∃ ρ, Rel K f σ' H' ρ (pe ++ pd) ∧ P (i + 1) ρ, fun σ' H' p' => ⟨ds.length - (i + 1), by omega, rfl, hlt, p'⟩, fun x H' y => ?_⟩
    obtain ⟨R3, _⟩ := h2 x H' y
    refine ⟨f, ds[i], ρ2, pe ++ pd, _, R3, ps i ds[i] ρ2 (List.getElem?_eq_getElem hlt) q2, fun σ4 H4 ρ4 q4 R4 _ => ⟨f, ρ4, pe ++ pd, _, R4, q4, ?_⟩⟩
    refine ⟨fun σ H ρ q R => ⟨ρ, R, q⟩, fun σ H ρ v d q R => L.rt σ H ρ v d q (R.sub fun p hp => ?_), fun σ H ρ q R => L.nx σ H ρ q R.popAll, fun σ H ρ q R => ⟨ρ, R, q⟩, L.mn⟩
    rcases List.mem_cons.mp hp with z | z
    · rw [z]; exact List.mem_cons_self
    · exact List.mem_cons_of_mem _ (List.mem_append_right _ z)
  · have e : i = ds.length := by omega
    subst e
    exact .inl ⟨Wd.stop f σ2 H2 ρ2 pd R2, L.nx _ _ _ (pe' ρ2 q2) R2.popAll⟩

/-! ### while -/
def sWhile (tc : TDT) (tb : TSD) : TSD := fun E ρ => ∃ P : Nat → Rho → Prop, (∃ m, P m ρ) ∧ ∀ m ρ, P m ρ → tc ρ fun b ρ1 => match b with
  | true => tb { nx := fun ρ' => ∃ m', m' < m ∧ P m' ρ', rt := E.rt, bk := E.nx, ct := fun ρ' => ∃ m', m' < m ∧ P m' ρ' } ρ1
  | false => E.nx ρ1
theorem ds_while {body : List Stmt} {tc : TDT} {tb : TSD} (hp : PassesOwn (model X.prog X.w) X.A X.env X.xe) (hc : DT K X c tc) (hb : DSs K X body tb) : DS K X (.While c body [] pos) (sWhile tc tb) := by
  refine wkS (ps_while hp hc hb) fun D σ H h => ?_
  obtain ⟨f, ρ, pd, E, R, ⟨P, ⟨m0, p0⟩, ps⟩, L⟩ := h
  refine ⟨fun m σ H => ∃ ρ, Rel K f σ H ρ pd ∧ P m ρ, ⟨m0, ρ, R, p0⟩, ?_⟩
  rintro m σ1 H1 ⟨ρ1, R1, p1⟩
  refine ⟨f, ρ1, pd, _, R1, ps m ρ1 p1, fun b ρ2 H2 q R2 => ?_⟩
  cases b with
  | false => exact L.nx _ _ _ q R2
  | true =>
    refine ⟨fun σ' H' => ∃ ρ', Rel K f σ' H' ρ' pd ∧ ∃ m', m' < m ∧ P m' ρ', fun σ' H' ⟨ρ', R', m', hm, p'⟩ => ⟨m', hm, ρ', R', p'⟩, f, ρ2, pd, _, R2, q, ?_⟩
    exact ⟨fun σ H ρ q R => ⟨ρ, R, q⟩, L.rt, fun σ H ρ q R => L.nx σ H ρ q R, fun σ H ρ q R => ⟨ρ, R, q⟩, L.mn⟩

/-! ### comprehensions -/
def wipeD (ρ : Rho) : List Nat → Rho
  | [] => ρ
  | v :: vs => (wipeD ρ vs).set v none
def freeAll (ρ : Rho) (vs : List Nat) : Bool := vs.all fun i => match ρ[i]? with
  | some o => freeSlot (some o)
  | none => true
theorem owns_none {i : Nat} {ρ : Rho} (h : ∀ o, ρ[i]? = some o → freeSlot (some o) = true) : owns (ρ.set i none) = owns ρ := by
  unfold owns
  induction ρ generalizing i with
  | nil => rfl
  | cons p ρ ih =>
    cases i with
    | zero =>
      have := h p rfl
      cases p with
      | none => rfl
      | some q =>
        cases q with
        | dat _ => rfl
        | deck => simp [freeSlot] at this
        | own _ _ => simp [freeSlot] at this
    | succ i =>
      have := ih (i := i) (by simpa using h)
      simp only [List.set_cons_succ, List.filterMap_cons]
      rw [this]
theorem wipeD_len : ∀ {vs : List Nat}, (wipeD ρ vs).length = ρ.length
  | [] => rfl
  | v :: vs => by unfold wipeD; rw [List.length_set]; exact wipeD_len
theorem wipeD_get {i : Nat} : ∀ {vs : List Nat}, (wipeD ρ vs)[i]? = if i ∈ vs ∧ i < ρ.length then some none else ρ[i]?
  | [] => by simp [wipeD]
  | v :: vs => by
    unfold wipeD
    rw [List.getElem?_set, wipeD_get, wipeD_len]
    by_cases e : v = i
    · subst e
      by_cases h : v < ρ.length <;> simp [h]
    · rw [if_neg e]
      simp [Ne.symm e]
theorem wipe_get {i : Nat} : ∀ {vs : List Nat}, (wipe σ vs)[i]? = if i ∈ vs ∧ i < σ.length then some none else σ[i]?
  | [] => by simp [wipe]
  | v :: vs => by
    unfold wipe
    rw [List.getElem?_set, wipe_get, wipe_length]
    by_cases e : v = i
    · subst e
      by_cases h : v < σ.length <;> simp [h]
    · rw [if_neg e]
      simp [Ne.symm e]
theorem free_wipe {vs : List Nat} : ∀ {us : List Nat}, freeAll ρ us = true → owns (wipeD ρ us) = owns ρ
  | [], _ => rfl
  | u :: us, h => by
    unfold freeAll at h
    rw [List.all_cons, Bool.and_eq_true] at h
    unfold wipeD
    rw [owns_none, free_wipe (vs := vs) (us := us) h.2]
    intro o ho
    rw [wipeD_get] at ho
    split at ho
    · cases ho; rfl
    · rw [ho] at h; exact h.1
theorem wipe_eq {ts vs : List Nat} {σ σ' : Sl} (h : Tch ts σ σ') (hs : ∀ i ∈ ts, i ∈ vs) : wipe σ' vs = wipe σ vs := by
  refine List.ext_getElem? fun i => ?_
  rw [wipe_get, wipe_get, h.1]
  by_cases e : i ∈ vs
  · by_cases z : i < σ.length
    · rw [if_pos ⟨e, z⟩, if_pos ⟨e, z⟩]
    · rw [if_neg (fun q => z q.2), if_neg (fun q => z q.2), List.getElem?_eq_none (by rw [h.1]; omega), List.getElem?_eq_none (by omega)]
  · rw [if_neg (fun q => e q.1), if_neg (fun q => e q.1)]
    exact h.2 i fun z => e (hs i z)
/-- the block's own slots forgotten -/
theorem Rel.wipe {vs : List Nat} (R : Rel K f σ H ρ pd) (h : freeAll ρ vs = true) : Rel K f (L2.wipe σ vs) H (wipeD ρ vs) pd := by
  have e : owns (wipeD ρ vs) = owns ρ := free_wipe (vs := vs) h
  have eS : Sx f (wipeD ρ vs) = Sx f ρ := by unfold Sx; rw [e]
  refine ⟨R.kp, R.dk, fun a c q => by rw [e]; exact R.dkD a c q, R.dk0, R.hid, R.sys, by rw [e]; exact R.nod, by rw [wipe_length, wipeD_len]; exact R.len, fun i p hp => ?_, fun p hp => by rw [eS]; exact R.pend p hp⟩
  rw [wipeD_get] at hp
  split at hp
  · cases hp
  · rename_i z
    obtain ⟨v, hv, s⟩ := R.sl i p hp
    refine ⟨v, ?_, by rw [eS]; exact s⟩
    rw [wipe_get, if_neg (by rw [R.len]; exact z)]
    exact hv
end
end Dl

set_option Elab.async false
set_option linter.all false
set_option maxRecDepth 100000
set_option maxHeartbeats 4000000
namespace Dl
open PySem PySem.Spec PyProof.Rows L2 Kt
section
variable {K : PySem.W.Frag} {f : Fr} {X : Cx} {e a b c tg : Expr} {es : List Expr} {pos : Pos} {te : TD} {ta : TDA} {σ : Sl} {H H' : Hp} {ρ : Rho} {pd pe : List (V × PyData)} {v : V} {d : PyData}
def slotP : Option V × Option Dv → Option (V × PyData)
  | (some v, some (.dat d)) => some (v, d)
  | _ => none
def slotsP (σ : Sl) (ρ : Rho) : List (V × PyData) := (σ.zip ρ).filterMap slotP
theorem slotsP_at {i : Nat} (h1 : σ[i]? = some (some v)) (h2 : ρ[i]? = some (some (.dat d))) : (v, d) ∈ slotsP σ ρ := by
  unfold slotsP
  refine List.mem_filterMap.mpr ⟨(some v, some (.dat d)), List.mem_iff_getElem?.mpr ⟨i, ?_⟩, rfl⟩
  rw [List.getElem?_zip_eq_some]
  exact ⟨h1, h2⟩
theorem Rel.withSlots (R : Rel K f σ H ρ pd) : Rel K f σ H ρ (slotsP σ ρ ++ pd) := ⟨R.kp, R.dk, R.dkD, R.dk0, R.hid, R.sys, R.nod, R.len, R.sl, fun p hp => by
  rcases List.mem_append.mp hp with hp | hp
  · unfold slotsP at hp
    obtain ⟨⟨o, q⟩, hm, hq⟩ := List.mem_filterMap.mp hp
    obtain ⟨i, hi⟩ := List.mem_iff_getElem?.mp hm
    rw [List.getElem?_zip_eq_some] at hi
    unfold slotP at hq
    split at hq
    · rename_i v d ev
      cases ev
      cases hq
      obtain ⟨w, hw, s⟩ := R.sl i _ hi.2
      rw [hi.1] at hw
      cases hw
      cases s with
      | dat h => exact h
    · cases hq
  · exact R.pend p hp⟩
/-- within a block: all that the frame may change may change, the block's own list is hidden -/
def Fr.in (f : Fr) (ρ : Rho) (D : Addr) (H : Hp) : Fr := { H0 := H, G := D :: f.G, D := f.D ++ owns ρ, dk := f.dk }
theorem Sx_in {D : Addr} {ρ' : Rho} {b : Addr} : b ∈ Sx (f.in ρ D H) ρ' ↔ b = D ∨ b ∈ f.G ∨ b ∈ f.D ∨ b ∈ owns ρ ∨ b ∈ owns ρ' := by
  unfold Sx Fr.in
  simp only [List.mem_append, List.mem_cons, or_assoc]
theorem own_off (R : Rel K f σ H ρ pd) {b : Addr} (hb : b ∈ owns ρ) : f.H0 b = none ∨ b ∈ f.D := by
  obtain ⟨i, ds, hi⟩ := mem_owns.mp hb
  obtain ⟨v, _, s⟩ := R.sl i _ hi
  cases s with
  | own h h0 hd => exact h0
theorem Rel.enter (R : Rel K f σ H ρ pd) {D : Addr} (hD : H D = none) : Rel K (f.in ρ D (upd H D (.lst []))) σ (upd H D (.lst [])) ρ pd := by
  have k : Kp [] H (upd H D (.lst [])) := Kp.new hD
  have al := R.alloc
  have sm : Same (Ob (Sx f ρ) H) (Ob (Sx (f.in ρ D (upd H D (.lst []))) ρ) (upd H D (.lst []))) := fun b o e => by
    obtain ⟨h1, h2⟩ := Ob.of e
    refine Ob.mk (fun z => ?_) (k b o (by simp) h2)
    rw [Sx_in] at z
    unfold Sx at h1
    simp only [List.mem_append] at h1
    rcases z with z | z | z | z | z
    · rw [z, hD] at h2; cases h2
    · exact h1 (.inl z)
    · exact h1 (.inr (.inl z))
    · exact h1 (.inr (.inr z))
    · exact h1 (.inr (.inr z))
  have inS : ∀ b, b ∈ f.G ∨ b ∈ f.D ∨ b ∈ owns ρ → AtMu H b := fun b z => al b (by unfold Sx; simp only [List.mem_append]; exact z)
  refine ⟨Kp.refl, fun a c q => (R.dk a c q).new hD, fun a c q => ?_, fun b hb => ?_, fun b hb => ?_, trivial, R.nod, R.len, fun i p hp => ?_, fun p hp => (R.pend p hp).same sm⟩
  · obtain ⟨h1, h2, h3, h4⟩ := R.dkD a c q
    exact ⟨List.mem_append_left _ h1, List.mem_append_left _ h2, h3, h4⟩
  · exact (inS b (.inr (List.mem_append.mp hb))).keep k (by simp)
  · rcases List.mem_cons.mp hb with z | z
    · refine ⟨by show AtMu (upd H D _) b; rw [z]; exact .lst upd_same, fun w => ?_⟩
      exact (inS b (.inr (List.mem_append.mp w))).ne (by rw [z]; exact hD)
    · refine ⟨(inS b (.inl z)).keep k (by simp), fun w => ?_⟩
      obtain ⟨g1, g2⟩ := R.hid b z
      rcases List.mem_append.mp w with w | w
      · exact g2 w
      · rcases own_off R w with q | q
        · exact g1.ne q
        · exact g2 q
  · obtain ⟨v, hv, s⟩ := R.sl i p hp
    refine ⟨v, hv, ?_⟩
    cases s with
    | dat h => exact .dat (h.same sm)
    | deck h => exact .deck h
    | own h h0 hd => exact .own (k _ _ (by simp) h) (.inr (List.mem_append_right _ (mem_owns.mpr ⟨i, _, hp⟩))) (hd.same sm)
/-- the entry is now -/
theorem Rel.rebase {ρ0 : Rho} {D : Addr} {H0 : Hp} (R : Rel K (f.in ρ0 D H0) σ H ρ pd) (ho : ∀ a ∈ owns ρ, a ∈ owns ρ0) : Rel K (f.in ρ0 D H) σ H ρ pd := by
  refine ⟨Kp.refl, R.dk, R.dkD, R.dk0, fun b hb => ⟨?_, (R.hid b hb).2⟩, R.sys, R.nod, R.len, fun i p hp => ?_, R.pend⟩
  · exact R.alloc b (List.mem_append_left _ hb)
  · obtain ⟨v, hv, s⟩ := R.sl i p hp
    refine ⟨v, hv, ?_⟩
    cases s with
    | dat h => exact .dat h
    | deck h => exact .deck h
    | own h h0 hd => exact .own h (.inr (List.mem_append_right _ (ho _ (mem_owns.mpr ⟨i, _, hp⟩)))) hd
/-- the block's own list is changed -/
theorem Rel.putD {ρ0 : Rho} {D : Addr} {o : HO} (R : Rel K (f.in ρ0 D H) σ H ρ pd) (ho : ∀ a ∈ owns ρ, a ∈ owns ρ0) (hm : Mu o := by trivial) : Rel K (f.in ρ0 D (upd H D o)) σ (upd H D o) ρ pd := by
  have sm : Same (Ob (Sx (f.in ρ0 D H) ρ) H) (Ob (Sx (f.in ρ0 D (upd H D o)) ρ) (upd H D o)) := fun b u e => by
    obtain ⟨h1, h2⟩ := Ob.of e
    rw [Sx_in] at h1
    refine Ob.mk (fun z => h1 (by rw [Sx_in] at z; exact z)) ?_
    rw [upd_ne (fun z => h1 (.inl z))]
    exact h2
  have hD : D ∉ f.D ++ owns ρ0 := (R.hid D List.mem_cons_self).2
  have ne : ∀ b, AtMu H b → AtMu (upd H D o) b := fun b h => by
    by_cases z : b = D
    · rw [z]; exact ⟨o, upd_same, hm⟩
    · obtain ⟨u, e, m⟩ := h
      exact ⟨u, by rw [upd_ne z]; exact e, m⟩
  refine ⟨Kp.refl, fun a c q => ?_, R.dkD, fun b hb => ne b (R.dk0 b hb), fun b hb => ⟨ne b (R.alloc b (List.mem_append_left _ hb)), (R.hid b hb).2⟩, R.sys, R.nod, R.len, fun i p hp => ?_, fun p hp => (R.pend p hp).same sm⟩
  · obtain ⟨h1, h2, _, _⟩ := R.dkD a c q
    exact (R.dk a c q).put (fun z => hD (by rw [z]; exact h1)) (fun z => hD (by rw [z]; exact h2))
  · obtain ⟨v, hv, s⟩ := R.sl i p hp
    refine ⟨v, hv, ?_⟩
    cases s with
    | dat h => exact .dat (h.same sm)
    | deck h => exact .deck h
    | own h h0 hd =>
      have ha := ho _ (mem_owns.mpr ⟨i, _, hp⟩)
      refine .own ?_ (.inr (List.mem_append_right _ ha)) (hd.same sm)
      rw [upd_ne (fun z => hD (List.mem_append_right _ (by rw [← z]; exact ha)))]
      exact h
/-- behind the block -/
theorem Rel.leave {vs : List Nat} {D : Addr} {acc : List V} {accd : List PyData} {H1 : Hp} (R : Rel K f σ H1 ρ pd) (hf : freeAll ρ vs = true) (hD : H1 D = none) (kp : Kp f.D f.H0 H) (R2 : Rel K (f.in ρ D H) (L2.wipe σ vs) H (wipeD ρ vs) (slotsP σ ρ ++ pd))
    (hd : H D = some (.lst acc)) (ha : DqAll K (Ob (Sx (f.in ρ D H) (wipeD ρ vs)) H) acc accd) : Rel K f σ H ρ ((.ref D, .list accd) :: pd) := by
  have sub : ∀ b ∈ Sx f ρ, b ∈ Sx (f.in ρ D H) (wipeD ρ vs) := fun b hb => by
    rw [Sx_in]
    unfold Sx at hb
    simp only [List.mem_append] at hb
    rcases hb with h | h | h
    · exact .inr (.inl h)
    · exact .inr (.inr (.inl h))
    · exact .inr (.inr (.inr (.inl h)))
  have sm : Same (Ob (Sx (f.in ρ D H) (wipeD ρ vs)) H) (Ob (Sx f ρ) H) := ob_sub sub
  have hDS : D ∉ Sx f ρ := fun z => (R.alloc D z).ne hD
  refine ⟨kp, R2.dk, R.dkD, fun b hb => R2.dk0 b (List.mem_append_left _ hb), R.hid, R.sys, R.nod, R.len, fun i p hp => ?_, fun p hp => ?_⟩
  · obtain ⟨v, hv, s⟩ := R.sl i p hp
    refine ⟨v, hv, ?_⟩
    cases p with
    | dat d => exact .dat ((R2.pend (v, d) (List.mem_append_left _ (slotsP_at hv hp))).same sm)
    | deck =>
      cases s with
      | deck h => exact .deck h
    | own a ds =>
      have hi : i ∉ vs := fun z => by
        unfold freeAll at hf
        have := List.all_eq_true.mp hf i z
        rw [hp] at this
        cases this
      have hp2 : (wipeD ρ vs)[i]? = some (some (.own a ds)) := by rw [wipeD_get, if_neg (fun q => hi q.1)]; exact hp
      obtain ⟨w, hw, s2⟩ := R2.sl i _ hp2
      cases s with
      | own h h0 hd =>
        cases s2 with
        | own h' h0' hd' => exact .own h' h0 (hd'.same sm)
  · rcases List.mem_cons.mp hp with z | z
    · rw [z]
      exact .lstA (Ob.mk hDS hd) (ha.same sm)
    · exact (R2.pend p (List.mem_append_right _ z)).same sm
/-- one turn -/
def turnD (g : TGD) (tt : TDT) (te : TD) (vs : List Nat) (ρw : Rho) (d : PyData) (B : Option PyData → Prop) : Prop := g d ρw fun ρ2 => tt ρ2 fun b ρ3 => match b with
  | true => te ρ3 fun y ρ4 => (wipeD ρ4 vs = ρw ∧ freeAll ρ4 vs = true) ∧ B (some y)
  | false => (wipeD ρ3 vs = ρw ∧ freeAll ρ3 vs = true) ∧ B none
def lcGo (tn : PyData → (Option PyData → Prop) → Prop) : List PyData → List PyData → (List PyData → Prop) → Prop
  | [], acc, A => A acc
  | d :: ds, acc, A => tn d fun o => match o with
    | some y => acc.length < SZ ∧ lcGo tn ds (acc ++ [y]) A
    | none => lcGo tn ds acc A
def dLc (ti : TID) (g : TGD) (tt : TDT) (te : TD) (vs : List Nat) : TD := fun ρ Q => ti ρ fun ds ρ1 => freeAll ρ1 vs = true ∧ lcGo (turnD g tt te vs (wipeD ρ1 vs)) ds [] fun acc => Q (.list acc) ρ1
abbrev DTs (K : PySem.W.Frag) (X : Cx) (ifs : List Expr) (t : TDT) : Prop := PTs X ifs (lT K t)
def dYes : TDT := fun ρ Q => Q true ρ
theorem dts_nil : DTs K X [] dYes := ⟨fun pins s σ H Q I h => pts_nil.run pins s σ H Q I (by obtain ⟨f, ρ, pd, A, R, t, k⟩ := h; exact k true ρ H t R)⟩
theorem dts_one {tt : TDT} (h : DT K X c tt) : DTs K X [c] tt := pts_one h
theorem wipe_wipe {σ σ4 : Sl} {vs ts : List Nat} (c : Tch ts (L2.wipe σ vs) σ4) (h : ∀ i ∈ ts, i ∈ vs) : L2.wipe σ4 vs = L2.wipe σ vs := by
  rw [wipe_eq c h]
  refine List.ext_getElem? fun i => ?_
  rw [wipe_get, wipe_get, wipe_length]
  by_cases e : i ∈ vs ∧ i < σ.length
  · rw [if_pos e]; simp [e]
  · rw [if_neg e]
theorem lc_lift {ti : TID} {g : TGD} {tt : TDT} {te : TD} {vs ts : List Nat} {Q : VK} (hts : ∀ i ∈ ts, i ∈ vs) (h : lE K (dLc ti g tt te vs) σ H Q) : tLc (lI K ti) (lG K ts g) (lT K tt) (lE K te) vs σ H Q := by
  obtain ⟨f, ρ, pd, A, R, t, k⟩ := h
  refine ⟨f, ρ, pd, _, R, t, fun ds ρ1 H1 J pe q R1 Wd D hD => ?_⟩
  obtain ⟨hf, go⟩ := q
  have hw : owns (wipeD ρ1 vs) = owns ρ1 := free_wipe (vs := vs) hf
  have R0 : Rel K f σ H1 ρ1 (slotsP σ ρ1 ++ (pe ++ pd)) := R1.withSlots
  refine ⟨fun i m H => m = ds.length - i ∧ i ≤ ds.length ∧ ∃ (acc : List V) (accd : List PyData), H D = some (.lst acc) ∧ acc.length = accd.length ∧ accd.length ≤ SZ ∧ Kp f.D f.H0 H ∧
      Rel K (f.in ρ1 D H) (L2.wipe σ vs) H (wipeD ρ1 vs) (acc.zip accd ++ (slotsP σ ρ1 ++ (pe ++ pd))) ∧ lcGo (turnD g tt te vs (wipeD ρ1 vs)) (ds.drop i) accd fun acc => A (.list acc) ρ1,
    ⟨ds.length, (Nat.sub_zero _).symm, Nat.zero_le _, [], [], upd_same, rfl, Nat.zero_le _, R1.kp.trans (Kp.new hD), (R0.enter hD).wipe hf, go⟩, ?_⟩
  rintro i m H2 ⟨rfl, hi, acc, accd, hd, hl, hsz, kp, R2, q2⟩
  by_cases hlt : i < ds.length
  · rw [List.drop_eq_getElem_cons hlt] at q2
    have Rw : Rel K (f.in ρ1 D H2) (L2.wipe σ vs) H2 (wipeD ρ1 vs) (pe ++ (acc.zip accd ++ (slotsP σ ρ1 ++ (pe ++ pd)))) := R2.sub fun p hp => by
      rcases List.mem_append.mp hp with z | z
      · exact List.mem_append_right _ (List.mem_append_right _ (List.mem_append_left _ z))
      · exact z
    obtain ⟨h1, h2⟩ := Wd.go _ _ H2 _ _ i ds[i] (List.getElem?_eq_getElem hlt) Rw
    -- the next turn's state
    refine .inr ⟨h1, fun H' => ∃ (acc : List V) (accd : List PyData), H' D = some (.lst acc) ∧ acc.length = accd.length ∧ accd.length ≤ SZ ∧ Kp f.D f.H0 H' ∧
      Rel K (f.in ρ1 D H') (L2.wipe σ vs) H' (wipeD ρ1 vs) (acc.zip accd ++ (slotsP σ ρ1 ++ (pe ++ pd))) ∧ lcGo (turnD g tt te vs (wipeD ρ1 vs)) (ds.drop (i + 1)) accd fun acc => A (.list acc) ρ1,
      fun H' w => ⟨ds.length - (i + 1), by omega, rfl, hlt, w⟩, fun x H3 y => ?_⟩
    obtain ⟨R3, k3⟩ := h2 x H3 y
    -- what stays through the turn
    have stay : ∀ {σ' : Sl} {ρ' : Rho} {H' : Hp} {pl : List (V × PyData)}, Rel K (f.in ρ1 D H2) σ' H' ρ' pl → Kp f.D f.H0 H' ∧ H' D = some (.lst acc) := fun {σ' ρ' H' pl} R' => by
      refine ⟨fun b o nb e => ?_, R'.kp D _ (R'.hid D List.mem_cons_self).2 hd⟩
      have e2 := kp b o nb e
      refine R'.kp b o (fun z => ?_) e2
      rcases List.mem_append.mp z with z | z
      · exact nb z
      · rcases own_off R1 z with q | q
        · rw [q] at e; cases e
        · exact nb q
    refine ⟨_, ds[i], wipeD ρ1 vs, _, _, R3, q2, fun σ4 H4 ρ4 q4 R4 c4 => ⟨wipe_wipe c4 hts, ?_⟩⟩
    refine ⟨_, ρ4, _, _, R4, q4, fun bb ρ5 H5 q5 R5 => ?_⟩
    cases bb with
    | false =>
      show ∃ acc accd, _
      obtain ⟨⟨w1, w2⟩, q5⟩ := q5
      obtain ⟨s1, s2⟩ := stay R5
      have R6 := R5.wipe w2
      rw [w1, wipe_wipe c4 hts] at R6
      exact ⟨acc, accd, s2, hl, hsz, s1, R6.popAll.rebase (fun a ha => by rw [hw] at ha; exact ha), q5⟩
    | true =>
      refine ⟨_, ρ5, _, _, R5, q5, fun yd ρ6 yv H6 q6 R6 => ?_⟩
      obtain ⟨⟨w1, w2⟩, q6a, q6⟩ := q6
      obtain ⟨s1, s2⟩ := stay R6
      have R7 := R6.wipe w2
      rw [w1, wipe_wipe c4 hts] at R7
      refine ⟨acc, s2, ?_, acc ++ [yv], accd ++ [yd], upd_same, by simp [hl], by rw [List.length_append]; exact q6a, ?_, ?_, q6⟩
      · have : acc.length < SZ := by rw [hl]; exact q6a
        exact Nat.lt_of_lt_of_le this (by decide)
      · intro b o nb e
        have e2 := s1 b o nb e
        rw [upd_ne]
        · exact e2
        · intro z
          have := R1.kp b o nb e
          rw [z, hD] at this
          cases this
      · refine ((R7.rebase (fun a ha => by rw [hw] at ha; exact ha)).putD (fun a ha => by rw [hw] at ha; exact ha)).sub fun p hp => ?_
        rw [List.zip_append hl] at hp
        rcases List.mem_append.mp hp with z | z
        · rcases List.mem_append.mp z with z | z
          · exact List.mem_cons_of_mem _ (List.mem_append_right _ (List.mem_append_left _ z))
          · have : p = (yv, yd) := by simpa using z
            rw [this]
            exact List.mem_cons_self
        · exact List.mem_cons_of_mem _ (List.mem_append_right _ (List.mem_append_right _ z))
  · have e : i = ds.length := by omega
    subst e
    rw [List.drop_length] at q2
    have Rw : Rel K (f.in ρ1 D H2) (L2.wipe σ vs) H2 (wipeD ρ1 vs) (pe ++ pd) := R2.sub fun p hp => List.mem_append_right _ (List.mem_append_right _ hp)
    refine .inl ⟨Wd.stop _ _ H2 _ pd Rw, k _ ρ1 _ H2 q2 ?_⟩
    exact Rel.leave (R1.popAll) hf hD kp (R2.sub fun p hp => by
      rcases List.mem_append.mp hp with z | z
      · exact List.mem_append_right _ (List.mem_append_left _ z)
      · exact List.mem_append_right _ (List.mem_append_right _ (List.mem_append_right _ z))) hd (Rel.all R2 hl)
theorem de_lc {elt iter : Expr} {ifs : List Expr} {scope : Scope} {own : List (Str × Nat)} {ti : TID} {g : TGD} {tt : TDT} {te : TD} {ts : List Nat} (hc : X.calm = true) (hN : X.N.Nodup) (hi : DI K X tg iter ti) (ok : BlkOk X.N X.env.scope scope own)
    (hg : ∀ (s : Shared) (H : Hp) (C : Addr) (cl : List (Str × Addr)) (fp : List Addr), DG K (X.blk s H scope (compEnvC scope cl C X.env) fp) tg ts g) (ht : ∀ (s : Shared) (H : Hp) (C : Addr) (cl : List (Str × Addr)) (fp : List Addr), DTs K (X.blk s H scope (compEnvC scope cl C X.env) fp) ifs tt)
    (he : ∀ (s : Shared) (H : Hp) (C : Addr) (cl : List (Str × Addr)) (fp : List Addr), DE K (X.blk s H scope (compEnvC scope cl C X.env) fp) elt te) (hts : ∀ i ∈ ts, i ∈ own.map (·.2)) (hs : ∀ x, foldedSetIterable iter X.env x = pure x := by intro _; rfl) :
    DE K X (.ListComp elt [⟨tg, iter, ifs, 0⟩] scope pos) (dLc ti g tt te (own.map (·.2))) := wkE (pe_lc hc hN hi ok hg ht he hs) fun σ H Q h => lc_lift hts h
end
end Dl

set_option Elab.async false
set_option linter.all false
set_option maxRecDepth 100000
set_option maxHeartbeats 4000000
namespace Dl
open PySem PySem.Spec PyProof.Rows L2 Kt
section
variable {K : PySem.W.Frag} {f : Fr} {X : Cx} {e a b c tg : Expr} {es : List Expr} {pos : Pos} {te : TD} {ta : TDA} {σ : Sl} {H H' : Hp} {ρ : Rho} {pd pe : List (V × PyData)} {v : V} {d : PyData}

/-! ### name = [..] on one line -/
theorem ds_setLc {i : Nat} {y : Str} {py : Pos} {elt iter : Expr} {ifs : List Expr} {scope : Scope} {own : List (Str × Nat)} {spos : Pos} {ti : TID} {g : TGD} {tt : TDT} {te : TD} {ts : List Nat} (hc : X.calm = true) (hN : X.N.Nodup) (hy : X.N[i]? = some y) (hyl : X.env.scope.names.lookup y = some .local)
    (hsw : swapsWith (.ListComp elt [⟨tg, iter, ifs, 0⟩] scope pos) (some (.Name y py)) spos.line X.env = pure true) (hi : DI K X tg iter ti) (ok : BlkOk X.N X.env.scope scope own)
    (hg : ∀ (s : Shared) (H : Hp) (C : Addr) (cl : List (Str × Addr)) (fp : List Addr), DG K (X.blk s H scope (compEnvC scope cl C X.env) fp) tg ts g) (ht : ∀ (s : Shared) (H : Hp) (C : Addr) (cl : List (Str × Addr)) (fp : List Addr), DTs K (X.blk s H scope (compEnvC scope cl C X.env) fp) ifs tt)
    (he : ∀ (s : Shared) (H : Hp) (C : Addr) (cl : List (Str × Addr)) (fp : List Addr), DE K (X.blk s H scope (compEnvC scope cl C X.env) fp) elt te) (hts : ∀ i ∈ ts, i ∈ own.map (·.2)) (hs : ∀ x, foldedSetIterable iter X.env x = pure x := by intro _; rfl) :
    DS K X (.Assign [.Name y py] (.ListComp elt [⟨tg, iter, ifs, 0⟩] scope pos) spos) (sAsg (dLc ti g tt te (own.map (·.2))) (tn i)) :=
  wkS (ps_setLc hc hN hy hyl hsw hi ok hg ht he hs) fun D σ H h => lc_lift hts (lE_mono (lift_asg h) fun v H1 q => tn_lift q)

/-! ### calls -/
def dCall (r : RDn) (ta : TDA) : TD := fun ρ Q => ta ρ fun ds ρ1 => r ds fun z => Q z ρ1
theorem lift_call {rh : List V → Hp → VK → Prop} {r : RDn} (hr : OpDn K rh r) {Q : VK} (h : lE K (dCall r ta) σ H Q) : lA K ta σ H fun vs H1 => rh vs H1 Q := by
  obtain ⟨f, ρ, pd, A, R, t, k⟩ := h
  exact ⟨f, ρ, pd, _, R, t, fun ds ρ1 us H1 q hl R1 => hr (Sx f ρ1) H1 us ds _ Q R1.alloc R1.inS (R1.all hl) q fun z v H' az k' dz => k z ρ1 v H' az ((R1.popAll.keep k').push dz)⟩
theorem de_callB {id : String} {x : Str} {p : Pos} {rh : List V → Hp → VK → Prop} {r : RDn} (hc : CallR X (.builtin id) rh) (hr : OpDn K rh r) (hg : Gl X x) (hm : X.mg x = none) (hv : bootBuiltins x = some (.builtin id)) (ha : DA K X (e :: es) ta) (hn : x ≠ "__name__" := by decide) (hdb : (x == ("__debug__" : Str)) = false := by decide)
    (he : starEach (e :: es) X.env = (false, eval e X.env) :: starEach es X.env := by rfl) (hpl : (backTo pos (starEach es X.env)).any (·.1) = false := by rfl) : DE K X (.Call (.Name x p) (e :: es) [] pos) (dCall r ta) :=
  wkE (pe_callB hc hg hm hv ha hn hdb he hpl) fun σ H Q h => lift_call hr h
theorem de_callTy {T : String} {x : Str} {p : Pos} {rh : List V → Hp → VK → Prop} {r : RDn} (hc : CallR X (.type T) rh) (hr : OpDn K rh r) (hg : Gl X x) (hm : X.mg x = none) (hv : bootBuiltins x = some (.type T)) (ha : DA K X (e :: es) ta) (hn : x ≠ "__name__" := by decide) (hdb : (x == ("__debug__" : Str)) = false := by decide)
    (he : starEach (e :: es) X.env = (false, eval e X.env) :: starEach es X.env := by rfl) (hpl : (backTo pos (starEach es X.env)).any (·.1) = false := by rfl) : DE K X (.Call (.Name x p) (e :: es) [] pos) (dCall r ta) :=
  wkE (pe_callTy hc hg hm hv ha hn hdb he hpl) fun σ H Q h => lift_call hr h

/-! ### what a def promises, by data -/
def spN (K : PySem.W.Frag) (g : RDn) : Sp := fun vs H Q _ => ∃ S ds A, Al S H ∧ True ∧ DqAll K (Ob S H) vs ds ∧ g ds A ∧ ∀ d v H', A d → Kp [] H H' → Dq K (Ob S H') v d → Q v H'
/-- with the deck ahead -/
def spK (K : PySem.W.Frag) (g : RDn) : Sp := fun vs H Q _ => ∃ S a c ws ds A, vs = .ref a :: ws ∧ DeckAt H a c ∧ a ∈ S ∧ c ∈ S ∧ Al S H ∧ True ∧ DqAll K (Ob S H) ws ds ∧ g ds A ∧
  ∀ d v H', A d → DeckAt H' a c → Kp [a, c] H H' → Dq K (Ob S H') v d → Q v H'
theorem opd_spN {g : RDn} {E : XK} : OpDn K (fun vs H Q => spN K g vs H Q E) g := fun S H xs ds A Q al sy hx hg k => ⟨S, ds, A, al, sy, hx, hg, k⟩
variable {CX : CXT} {k : Nat} {fa : Addr} {fd : FuncData} {ps ks : List Str} {g : RDn} {E : XK} {x : Str} {p : Pos} {kws : List Keyword}
theorem de_call (F : FnOk X.prog X.w X.K X.mg X.base CX k fa fd ps (spN K g)) (hr : Room k X.A) (hg : Gl X x) (hm : X.mg x = some (.ref fa)) (hk : PySem.W.keepIn X.K (.ref fa) = true) (hb : Binds X.K fd ps []) (hx : Passes CX X E)
    (ha : DA K X (e :: es) ta) (hdb : (x == ("__debug__" : Str)) = false := by decide) (he : starEach (e :: es) X.env = (false, eval e X.env) :: starEach es X.env := by rfl) (hpl : (backTo pos (starEach es X.env)).any (·.1) = false := by rfl) :
    DE K X (.Call (.Name x p) (e :: es) [] pos) (dCall g ta) :=
  wkE (pe_call F hr hg hm hk hb .nil hx ha hdb he hpl) fun σ H Q h => lift_call (rh := fun vs H Q => spN K g (vs ++ []) H Q E) (fun S H xs ds A Q al sy hx hg k => ⟨S, ds, A, al, sy, by rw [List.append_nil]; exact hx, hg, k⟩) h
theorem de_callG (F : FnG X.prog X.w X.K X.mg X.base CX k fa fd ps (spN K g)) (hgd : X.A.guards = some []) (hr : Room k X.A) (hg : Gl X x) (hm : X.mg x = some (.ref fa)) (hk : PySem.W.keepIn X.K (.ref fa) = true) (hb : Binds X.K fd ps []) (hx : Passes CX X E)
    (ha : DA K X (e :: es) ta) (hdb : (x == ("__debug__" : Str)) = false := by decide) (he : starEach (e :: es) X.env = (false, eval e X.env) :: starEach es X.env := by rfl) (hpl : (backTo pos (starEach es X.env)).any (·.1) = false := by rfl) :
    DE K X (.Call (.Name x p) (e :: es) [] pos) (dCall g ta) :=
  wkE (pe_callG F hgd hr hg hm hk hb hx ha hdb he hpl) fun σ H Q h => lift_call (rh := fun vs H Q => spN K g vs H Q E) opd_spN h
def isDeck : Option (Option Dv) → Bool
  | some (some .deck) => true
  | _ => false
def dCallK (i : Nat) (g : RDn) (ta : TDA) : TD := fun ρ Q => match isDeck ρ[i]? with
  | true => ta ρ fun ds ρ1 => g ds fun z => Q z ρ1
  | false => False
theorem lift_callK {i : Nat} {Q : VK} (h : lE K (dCallK i g ta) σ H Q) : tCons (tVar i) (lA K ta) σ H fun vs H1 => spK K g vs H1 Q E := by
  obtain ⟨f, ρ, pd, A, R, t, k⟩ := h
  unfold dCallK at t
  split at t
  · rename_i z
    have z2 : ρ[i]? = some (some .deck) := by
      unfold isDeck at z
      split at z
      · assumption
      · cases z
    obtain ⟨v, hv, s⟩ := R.sl i _ z2
    cases s with
    | @deck a c hdk =>
      refine ⟨.ref a, hv, f, ρ, pd, _, R, t, fun ds ρ1 us H1 q hl R1 => ?_⟩
      obtain ⟨m1, m2, _, _⟩ := R1.dkD a c hdk
      exact ⟨Sx f ρ1, a, c, us, ds, _, rfl, R1.dk a c hdk, List.mem_append_right _ (List.mem_append_left _ m1), List.mem_append_right _ (List.mem_append_left _ m2), R1.alloc, R1.inS, R1.all hl, q,
        fun d v H' q' dk' kp' dq' => k d ρ1 v H' q' ((R1.popAll.keepD hdk kp' dk').push dq')⟩
  · exact t.elim
theorem de_callK {i : Nat} {n : Str} {pn : Pos} (F : FnOk X.prog X.w X.K X.mg X.base CX k fa fd ps (spK K g)) (hr : Room k X.A) (hg : Gl X x) (hm : X.mg x = some (.ref fa)) (hk : PySem.W.keepIn X.K (.ref fa) = true) (hb : Binds X.K fd ps []) (hx : Passes CX X E)
    (hN : X.N[i]? = some n) (hv : Vis X.env.scope n) (ha : DA K X es ta) (hdb : (x == ("__debug__" : Str)) = false := by decide) (hd : (n == ("__debug__" : Str)) = false := by decide) (hcd : (n == ("__classdict__" : Str)) = false := by decide) (he : starEach (.Name n pn :: es) X.env = (false, eval (.Name n pn) X.env) :: starEach es X.env := by rfl) (hpl : (backTo pos (starEach es X.env)).any (·.1) = false := by rfl) :
    DE K X (.Call (.Name x p) (.Name n pn :: es) [] pos) (dCallK i g ta) :=
  wkE (pe_call F hr hg hm hk hb .nil hx (pa_cons (pe_var hN hv hd hcd) ha he) hdb he hpl) fun σ H Q h => by
    have := lift_callK (E := E) h
    obtain ⟨v, hv, q⟩ := this
    refine ⟨v, hv, ?_⟩
    show lA K ta σ H fun vs H1 => spK K g ((v :: vs) ++ []) H1 Q E
    simpa only [List.append_nil] using q
theorem de_callKG {i : Nat} {n : Str} {pn : Pos} (F : FnG X.prog X.w X.K X.mg X.base CX k fa fd ps (spK K g)) (hgd : X.A.guards = some []) (hr : Room k X.A) (hg : Gl X x) (hm : X.mg x = some (.ref fa)) (hk : PySem.W.keepIn X.K (.ref fa) = true) (hb : Binds X.K fd ps []) (hx : Passes CX X E)
    (hN : X.N[i]? = some n) (hv : Vis X.env.scope n) (ha : DA K X es ta) (hdb : (x == ("__debug__" : Str)) = false := by decide) (hd : (n == ("__debug__" : Str)) = false := by decide) (hcd : (n == ("__classdict__" : Str)) = false := by decide) (he : starEach (.Name n pn :: es) X.env = (false, eval (.Name n pn) X.env) :: starEach es X.env := by rfl) (hpl : (backTo pos (starEach es X.env)).any (·.1) = false := by rfl) :
    DE K X (.Call (.Name x p) (.Name n pn :: es) [] pos) (dCallK i g ta) :=
  wkE (pe_callG F hgd hr hg hm hk hb hx (pa_cons (pe_var hN hv hd hcd) ha he) hdb he hpl) fun σ H Q h => lift_callK h

/-! ### a def of the text -/
def startD (N : List Str) (ds : List PyData) : Rho := ds.map (fun d => some (.dat d)) ++ List.replicate (N.length - ds.length) none
def startK (N : List Str) (ds : List PyData) : Rho := some .deck :: (ds.map (fun d => some (.dat d)) ++ List.replicate (N.length - (ds.length + 1)) none)
theorem startD_at {N : List Str} {ds : List PyData} {i : Nat} {p : Dv} (h : (startD N ds)[i]? = some (some p)) : ∃ d, ds[i]? = some d ∧ p = .dat d := by
  unfold startD at h
  by_cases z : i < ds.length
  · rw [List.getElem?_append_left (by simpa using z), List.getElem?_map, List.getElem?_eq_getElem z] at h
    simp at h
    exact ⟨ds[i], List.getElem?_eq_getElem z, h.symm⟩
  · rw [List.getElem?_append_right (by simpa using z), List.getElem?_replicate] at h
    split at h <;> cases h
theorem owns_startD {N : List Str} {ds : List PyData} : owns (startD N ds) = [] := by
  cases h : owns (startD N ds) with
  | nil => rfl
  | cons a r =>
    have : a ∈ owns (startD N ds) := by rw [h]; exact List.mem_cons_self
    obtain ⟨i, es, hi⟩ := mem_owns.mp this
    obtain ⟨d, _, e⟩ := startD_at hi
    cases e
theorem rel_start {N : List Str} {ds : List PyData} {vs : List V} {S : List Addr} (al : Al S H) (sy : True) (h : DqAll K (Ob S H) vs ds) : Rel K { H0 := H, G := S, D := [], dk := none } (start N vs) H (startD N ds) [] := by
  have eS : Sx { H0 := H, G := S, D := [], dk := none } (startD N ds) = S := by unfold Sx; rw [owns_startD]; simp
  refine ⟨Kp.refl, fun a c q => (nomatch q), fun a c q => (nomatch q), fun b hb => absurd hb (by simp), fun b hb => ⟨al b hb, by simp⟩, sy, by rw [owns_startD]; exact List.nodup_nil, ?_, fun i p hp => ?_, fun p hp => absurd hp (by simp)⟩
  · unfold L2.start startD
    simp [h.1]
  · obtain ⟨d, hd, rfl⟩ := startD_at hp
    obtain ⟨x, hx, q⟩ := h.at hd
    refine ⟨x, ?_, .dat (by rw [eS]; exact q)⟩
    unfold L2.start
    rw [List.getElem?_append_left (by simpa using (List.getElem?_eq_some_iff.mp hx).1), List.getElem?_map, hx]
    rfl
theorem startK_at {N : List Str} {ds : List PyData} {i : Nat} {p : Dv} (h : (startK N ds)[i]? = some (some p)) : (i = 0 ∧ p = .deck) ∨ ∃ j d, i = j + 1 ∧ ds[j]? = some d ∧ p = .dat d := by
  unfold startK at h
  cases i with
  | zero => simp at h; exact .inl ⟨rfl, h.symm⟩
  | succ j =>
    rw [List.getElem?_cons_succ] at h
    have : (startD ([] : List Str) ds ++ List.replicate (N.length - (ds.length + 1)) none)[j]? = some (some p) := by
      unfold startD
      simpa using h
    by_cases z : j < ds.length
    · rw [List.getElem?_append_left (by simpa using z), List.getElem?_map, List.getElem?_eq_getElem z] at h
      simp at h
      exact .inr ⟨j, ds[j], rfl, List.getElem?_eq_getElem z, h.symm⟩
    · rw [List.getElem?_append_right (by simpa using z), List.getElem?_replicate] at h
      split at h <;> cases h
theorem owns_startK {N : List Str} {ds : List PyData} : owns (startK N ds) = [] := by
  cases h : owns (startK N ds) with
  | nil => rfl
  | cons a r =>
    have : a ∈ owns (startK N ds) := by rw [h]; exact List.mem_cons_self
    obtain ⟨i, es, hi⟩ := mem_owns.mp this
    rcases startK_at hi with ⟨_, e⟩ | ⟨_, _, _, _, e⟩ <;> cases e
def frK (H : Hp) (S : List Addr) (a c : Addr) : Fr := { H0 := H, G := S.filter fun b => decide (b ≠ a ∧ b ≠ c), D := [a, c], dk := some (a, c) }
theorem rel_startK {N : List Str} {ds : List PyData} {ws : List V} {S : List Addr} {a c : Addr} (hd : DeckAt H a c) (ma : a ∈ S) (mc : c ∈ S) (al : Al S H) (sy : True) (h : DqAll K (Ob S H) ws ds) :
    Rel K (frK H S a c) (start N (.ref a :: ws)) H (startK N ds) [] := by
  have eS : ∀ b, b ∈ Sx (frK H S a c) (startK N ds) → b ∈ S := fun b hb => by
    unfold Sx frK at hb
    rw [owns_startK] at hb
    simp only [List.mem_append, List.mem_filter, List.append_nil] at hb
    rcases hb with z | z
    · exact z.1
    · simp at z
      rcases z with z | z
      · rw [z]; exact ma
      · rw [z]; exact mc
  have sm : Same (Ob S H) (Ob (Sx (frK H S a c) (startK N ds)) H) := ob_sub eS
  refine ⟨Kp.refl, fun a' c' q => ?_, fun a' c' q => ?_, fun b hb => ?_, fun b hb => ?_, ?_, by rw [owns_startK]; exact List.nodup_nil, ?_, fun i p hp => ?_, fun p hp => absurd hp (by simp)⟩
  · cases q; exact hd
  · cases q; rw [owns_startK]; simp [frK]
  · simp [frK] at hb
    rcases hb with z | z
    · rw [z]; exact al a ma
    · rw [z]; exact al c mc
  · simp [frK] at hb
    refine ⟨al b hb.1, ?_⟩
    simp [frK]
    exact hb.2
  · trivial
  · unfold L2.start startK
    simp [h.1]
  · rcases startK_at hp with ⟨rfl, rfl⟩ | ⟨j, d, rfl, hd', rfl⟩
    · exact ⟨.ref a, rfl, .deck rfl⟩
    · obtain ⟨x, hx, q⟩ := h.at hd'
      refine ⟨x, ?_, .dat (q.same sm)⟩
      unfold L2.start
      rw [List.getElem?_append_left (by have := (List.getElem?_eq_some_iff.mp hx).1; simp; omega), List.getElem?_map, List.getElem?_cons_succ, hx]
      rfl
end
section
variable {P : Program} {w : World} {K : PySem.W.Frag} {mg : Str → Option Value} {base : Heap} {x qual : Str} {st : Stmt} {fa : Addr} {fd : FuncData} {N ps : List Str} {k : Nat} {g : RDn} {t : TSD}
def endD (A : PyData → Prop) : EnD := { nx := fun _ => A .none, rt := A }
theorem end_N {H : Hp} {S : List Addr} {A : PyData → Prop} {Q : VK} (q : ∀ d v H', A d → Kp [] H H' → Dq K (Ob S H') v d → Q v H') : LE K { H0 := H, G := S, D := [], dk := none } [] (endD A) { nx := fun _ H' => Q .non H', rt := Q } := by
  refine ⟨fun σ H' ρ h R => q .none .non H' h R.kp .non, fun σ H' ρ v d h R => q d v H' h R.kp (R.top.same (ob_sub fun b hb => ?_)), fun _ _ _ h => h.elim, fun _ _ _ h => h.elim, fun b hb => absurd hb (by simp)⟩
  exact List.mem_append_left _ hb
theorem end_K {H : Hp} {S : List Addr} {a c : Addr} {A : PyData → Prop} {Q : VK} (q : ∀ d v H', A d → DeckAt H' a c → Kp [a, c] H H' → Dq K (Ob S H') v d → Q v H') : LE K (frK H S a c) [] (endD A) { nx := fun _ H' => Q .non H', rt := Q } := by
  refine ⟨fun σ H' ρ h R => q .none .non H' h (R.dk a c rfl) R.kp .non, fun σ H' ρ v d h R => q d v H' h (R.dk a c rfl) R.kp (R.top.same (ob_sub fun b hb => ?_)), fun _ _ _ h => h.elim, fun _ _ _ h => h.elim, fun b hb => ⟨a, c, rfl, by simpa [frK] using hb⟩⟩
  unfold Sx frK
  simp only [List.mem_append, List.mem_filter]
  by_cases z : b = a
  · exact .inr (.inl (by simp [z]))
  · by_cases z2 : b = c
    · exact .inr (.inl (by simp [z2]))
    · exact .inl ⟨hb, decide_eq_true ⟨z, z2⟩⟩
/-- a def without the deck -/
theorem ok_dat (F : Fun K x qual st fa fd) (S : FnScope N ps (defScope st))
    (body : ∀ (cdv : Value) (A : Around) (outer : List Env) (s : Shared) (H : Hp) (E : XK), Room k (A.deeper (envOfC qual (defScope st) s.heap.objs.size fa cdv)) → DSs K (cxOf CX0 P w K mg base N qual (defScope st) fa cdv A outer s H E).nox (defBody st) t)
    (rd : ∀ ds A, g ds A → ds.length = ps.length ∧ t (endD A) (startD N ds)) : FnOk P w K mg base CX0 (k + 1) fa fd ps (spN K g) := by
  refine F.ok S (fun vs H Q E h => ?_) (fun cdv A outer s H vs Q E hr h => ?_)
  · obtain ⟨S, ds, A, _, _, hx, hg, _⟩ := h
    exact hx.1.trans (rd ds A hg).1
  · obtain ⟨S, ds, B, al, sy, hx, hg, q⟩ := h
    exact ⟨_, body cdv A outer s H E hr, _, startD N ds, [], _, rel_start al sy hx, (rd ds B hg).2, end_N q⟩
theorem ok_deckD (F : Fun K x qual st fa fd) (S : FnScope N ps (defScope st))
    (body : ∀ (cdv : Value) (A : Around) (outer : List Env) (s : Shared) (H : Hp) (E : XK), Room k (A.deeper (envOfC qual (defScope st) s.heap.objs.size fa cdv)) → DSs K (cxOf CX0 P w K mg base N qual (defScope st) fa cdv A outer s H E).nox (defBody st) t)
    (rd : ∀ ds A, g ds A → ds.length + 1 = ps.length ∧ t (endD A) (startK N ds)) : FnOk P w K mg base CX0 (k + 1) fa fd ps (spK K g) := by
  refine F.ok S (fun vs H Q E h => ?_) (fun cdv A outer s H vs Q E hr h => ?_)
  · obtain ⟨S, a, c, ws, ds, A, rfl, _, _, _, _, _, hx, hg, _⟩ := h
    rw [← (rd ds A hg).1, ← hx.1]
    rfl
  · obtain ⟨S, a, c, ws, ds, B, rfl, hd, ma, mc, al, sy, hx, hg, q⟩ := h
    exact ⟨_, body cdv A outer s H E hr, _, startK N ds, [], _, rel_startK hd ma mc al sy hx, (rd ds B hg).2, end_K q⟩
/-- .. that call repr, where nothing is being shown -/
theorem ok_datG (F : Fun K x qual st fa fd) (S : FnScope N ps (defScope st))
    (body : ∀ (cdv : Value) (A : Around) (outer : List Env) (s : Shared) (H : Hp) (E : XK), (A.deeper (envOfC qual (defScope st) s.heap.objs.size fa cdv)).guards = some [] → Room k (A.deeper (envOfC qual (defScope st) s.heap.objs.size fa cdv)) → DSs K (cxOf CX0 P w K mg base N qual (defScope st) fa cdv A outer s H E).nox (defBody st) t)
    (rd : ∀ ds A, g ds A → ds.length = ps.length ∧ t (endD A) (startD N ds)) : FnG P w K mg base CX0 (k + 1) fa fd ps (spN K g) := by
  refine okG F S (fun vs H Q E h => ?_) (fun cdv A outer s H vs Q E hgd hr h => ?_)
  · obtain ⟨S, ds, A, _, _, hx, hg, _⟩ := h
    exact hx.1.trans (rd ds A hg).1
  · obtain ⟨S, ds, B, al, sy, hx, hg, q⟩ := h
    exact ⟨_, body cdv A outer s H E hgd hr, _, startD N ds, [], _, rel_start al sy hx, (rd ds B hg).2, end_N q⟩
end
end Dl

set_option Elab.async false
set_option linter.all false
set_option maxRecDepth 100000
set_option maxHeartbeats 4000000
/-! the operations, by data -/
namespace Dl
open PySem PySem.Spec PyProof.Rows L2 Kt
section
variable {K : PySem.W.Frag} {X : Cx} {e a b c tg : Expr} {es : List Expr} {pos : Pos} {te ta tb : TD} {S : List Addr} {H : Hp}
theorem obT {p : Addr} {xs : List V} (h : Ob S H p = some (.tup xs)) : SqT K H p xs := SqT.of (Ob.of h).2
theorem obDp {v : V} {d : PyData} (h : Dq K (Ob S H) v d) (c : d.canLay0 = true) : Dp K H v d := Dp.same (Ob.le _ _) d (h.dp c)
theorem shp_lay {d : PyData} (h : SeqAt.shaped d = true) : d.canLay0 = true := by
  unfold SeqAt.shaped at h
  simp only [Bool.and_eq_true] at h
  exact h.1
/-- a new tuple, a new list -/
theorem new_tup {p : Addr} {xs : List V} {ds : List PyData} {A : PyData → Prop} {Q : VK} (al : Al S H) (g : DqAll K (Ob S H) xs ds) (q : A (.tuple ds)) (k : ∀ z v H', A z → Kp [] H H' → Dq K (Ob S H') v z → Q v H') (hp : H p = none) : Q (.ref p) (upd H p (.tup xs)) :=
  k _ _ _ q (Kp.new hp) (.tupA (ob_new hp al) (g.new hp))
theorem new_lst {p : Addr} {xs : List V} {ds : List PyData} {A : PyData → Prop} {Q : VK} (al : Al S H) (g : DqAll K (Ob S H) xs ds) (q : A (.list ds)) (k : ∀ z v H', A z → Kp [] H H' → Dq K (Ob S H') v z → Q v H') (hp : H p = none) : Q (.ref p) (upd H p (.lst xs)) :=
  k _ _ _ q (Kp.new hp) (.lstA (ob_new hp al) (g.new hp))
/-! ### + -/
def rAddH (K : PySem.W.Frag) : R2 := fun x y H Q => (((∃ i j, x = .int i ∧ y = .int j ∧ Q (.int (i + j)) H) ∨ rCat x y H Q) ∨ rCatA K x y H Q) ∨ (∃ i j, x = .str i ∧ y = .str j ∧ i.length + j.length ≤ sizeLine ∧ Q (.str (i ++ j)) H)
theorem op_addD : OpR X (binaryOp .Add) (rAddH X.K) := ((op_add.or op_cat).or op_catA).or op_add_str
def dAdd : RD2 := fun d e A => match d, e with
  | .int i, .int j => A (.int (i + j))
  | .list xs, .list ys => xs.length + ys.length ≤ SZ ∧ A (.list (xs ++ ys))
  | .tuple xs, .tuple ys => xs.length + ys.length ≤ SZ ∧ A (.tuple (xs ++ ys))
  | .str x, .str y => x.length + y.length ≤ SZ ∧ A (.str (x ++ y))
  | _, _ => False
theorem od_add : OpD2 K (rAddH K) dAdd := by
  intro S H x y d e A Q al sy hx hy h k
  unfold dAdd at h
  split at h
  · obtain rfl := hx.inv_int
    obtain rfl := hy.inv_int
    exact .inl (.inl (.inl ⟨_, _, rfl, rfl, k _ _ _ h Kp.refl (.int _)⟩))
  · obtain ⟨p, us, rfl, hp, gp⟩ := hx.inv_list
    obtain ⟨q, ws, rfl, hq, gq⟩ := hy.inv_list
    exact .inl (.inl (.inr ⟨p, q, us, ws, rfl, rfl, (Ob.of hp).2, (Ob.of hq).2, szl (by rw [gp.1, gq.1]; exact h.1), fun r hr => new_lst al (gp.app gq) h.2 k hr⟩))
  · obtain ⟨p, us, rfl, hp, gp⟩ := hx.inv_tup
    obtain ⟨q, ws, rfl, hq, gq⟩ := hy.inv_tup
    refine .inl (.inr ⟨p, q, us, ws, rfl, rfl, obT hp, obT hq, szl (by rw [gp.1, gq.1]; exact h.1), fun z => ?_, fun z1 z2 => ?_, fun _ _ r hr => new_tup al (gp.app gq) h.2 k hr⟩)
    · subst z
      have := List.eq_nil_of_length_eq_zero gp.1.symm
      subst this
      exact k _ _ _ (by simpa using h.2) Kp.refl (.tupA hq gq)
    · subst z2
      have := List.eq_nil_of_length_eq_zero gq.1.symm
      subst this
      exact k _ _ _ (by simpa using h.2) Kp.refl (.tupA hp gp)
  · obtain rfl := hx.inv_str
    obtain rfl := hy.inv_str
    exact .inr ⟨_, _, rfl, rfl, szl h.1, k _ _ _ h.2 Kp.refl (.str _)⟩
  · exact h.elim
theorem de_add (hK : X.K = K) (ha : DE K X a ta) (hb : DE K X b tb) : DE K X (.BinOp a .Add b pos) (dOp dAdd ta tb) := by
  subst hK
  exact de_op op_addD od_add ha hb
/-! ### ints -/
def dI2 (C : Int → Int → Prop) (g : Int → Int → Int) : RD2 := fun d e A => match d, e with
  | .int i, .int j => C i j ∧ A (.int (g i j))
  | _, _ => False
theorem od_I2 {C : Int → Int → Prop} {g : Int → Int → Int} : OpD2 K (rI C fun i j => .int (g i j)) (dI2 C g) := by
  intro S H x y d e A Q al sy hx hy h k
  unfold dI2 at h
  split at h
  · obtain rfl := hx.inv_int
    obtain rfl := hy.inv_int
    exact ⟨_, _, rfl, rfl, h.1, k _ _ _ h.2 Kp.refl (.int _)⟩
  · exact h.elim
def dI20 (g : Int → Int → Int) : RD2 := fun d e A => match d, e with
  | .int i, .int j => A (.int (g i j))
  | _, _ => False
theorem od_I20 {g : Int → Int → Int} : OpD2 K (rI0 fun i j => .int (g i j)) (dI20 g) := by
  intro S H x y d e A Q al sy hx hy h k
  unfold dI20 at h
  split at h
  · obtain rfl := hx.inv_int
    obtain rfl := hy.inv_int
    exact ⟨_, _, rfl, rfl, k _ _ _ h Kp.refl (.int _)⟩
  · exact h.elim
theorem de_sub (ha : DE K X a ta) (hb : DE K X b tb) : DE K X (.BinOp a .Sub b pos) (dOp (dI20 fun i j => i - j) ta tb) := de_op op_sub od_I20 ha hb
theorem de_mul (ha : DE K X a ta) (hb : DE K X b tb) : DE K X (.BinOp a .Mult b pos) (dOp (dI2 CMul fun i j => i * j) ta tb) := de_op op_mul od_I2 ha hb
theorem de_fdiv (ha : DE K X a ta) (hb : DE K X b tb) : DE K X (.BinOp a .FloorDiv b pos) (dOp (dI2 CDiv fun i j => i / j) ta tb) := de_op op_fdiv od_I2 ha hb
theorem de_mod (ha : DE K X a ta) (hb : DE K X b tb) : DE K X (.BinOp a .Mod b pos) (dOp (dI2 (fun _ j => 0 < j) fun i j => i % j) ta tb) := de_op op_mod od_I2 ha hb
theorem de_pow (ha : DE K X a ta) (hb : DE K X b tb) : DE K X (.BinOp a .Pow b pos) (dOp (dI2 CPow fun i j => i ^ j.toNat) ta tb) := de_op op_pow od_I2 ha hb
def dUn (r : PyData → (PyData → Prop) → Prop) (ta : TD) : TD := fun ρ Q => ta ρ fun d ρ1 => r d fun z => Q z ρ1
def dNeg : PyData → (PyData → Prop) → Prop := fun d A => match d with
  | .int i => A (.int (-i))
  | _ => False
theorem de_neg (ha : DE K X a ta) : DE K X (.UnaryOp .USub a pos) (dUn dNeg ta) := by
  refine wkE (pe_un un_neg ha) fun σ H Q h => ?_
  obtain ⟨f, ρ, pd, A, R, t, k⟩ := h
  refine ⟨f, ρ, pd, _, R, t, fun d ρ1 x H1 q R1 => ?_⟩
  cases d with
  | int i => exact ⟨i, R1.top.inv_int, k _ ρ1 _ H1 q (R1.pop.push (.int _))⟩
  | _ => exact q.elim
/-! ### subscripts -/
def dGet : RD2 := fun d e A => match d, e with
  | .list xs, .int i => match atI xs i with
    | some x => A x
    | none => False
  | .tuple xs, .int i => match atI xs i with
    | some x => A x
    | none => False
  | .str z, .int i => z.length ≤ SZ ∧ match atI z.cps.toList i with
    | some c => A (.str ⟨#[c]⟩)
    | none => False
  | _, _ => False
theorem atI_dq {xs : List V} {ds : List PyData} {i : Int} {d : PyData} (g : DqAll K (Ob S H) xs ds) (h : atI ds i = some d) : ∃ x, atI xs i = some x ∧ Dq K (Ob S H) x d := by
  unfold atI at h ⊢
  rw [g.1]
  cases e : ixN ds.length i with
  | none => rw [e] at h; cases h
  | some j =>
    rw [e] at h
    exact g.at h
theorem od_get : OpD2 K (rIx K) dGet := by
  intro S H x y d e A Q al sy hx hy h k
  unfold dGet at h
  split at h
  · obtain rfl := hy.inv_int
    obtain ⟨p, us, rfl, hp, gp⟩ := hx.inv_list
    split at h
    · rename_i z e
      obtain ⟨w, hw, q⟩ := atI_dq gp e
      exact .inl ⟨p, us, _, w, rfl, rfl, SqL.of (Ob.of hp).2, hw, k _ _ _ h Kp.refl q⟩
    · exact h.elim
  · obtain rfl := hy.inv_int
    obtain ⟨p, us, rfl, hp, gp⟩ := hx.inv_tup
    split at h
    · rename_i z e
      obtain ⟨w, hw, q⟩ := atI_dq gp e
      exact .inr (.inl ⟨p, us, _, w, rfl, rfl, obT hp, hw, k _ _ _ h Kp.refl q⟩)
    · exact h.elim
  · obtain rfl := hy.inv_int
    obtain rfl := hx.inv_str
    obtain ⟨hz, h⟩ := h
    split at h
    · rename_i z e
      exact .inr (.inr ⟨_, _, z, rfl, rfl, szl hz, e, k _ _ _ h Kp.refl (.str _)⟩)
    · exact h.elim
  · exact h.elim
theorem de_get (hK : X.K = K) (ha : DE K X a ta) (hb : DE K X b tb) (hs : PlainIx b := by exact fun _ _ => rfl) : DE K X (.Subscript a b pos) (dOp dGet ta tb) := by
  subst hK
  exact de_ix ix_seq od_get ha hb hs
/-! ### slices -/
abbrev TOD := Rho → (Option Int → Rho → Prop) → Prop
def lO (K : PySem.W.Frag) (t : TOD) : TO := fun σ H Q => ∃ f ρ pd A, Rel K f σ H ρ pd ∧ t ρ A ∧ ∀ o ρ' H', A o ρ' → Rel K f σ H' ρ' pd → Q o H'
def oNo : TOD := fun ρ Q => Q none ρ
def oIs (t : TD) : TOD := fun ρ Q => t ρ fun d ρ1 => match d with
  | .int i => Q (some i) ρ1
  | _ => False
theorem wkO {o : Option Expr} {t t' : TO} (h : PO X o t') (w : ∀ σ H Q, t σ H Q → t' σ H Q) : PO X o t := ⟨fun pins s σ H Q I q => h.run pins s σ H Q I (w _ _ _ q)⟩
theorem do_none : PO X none (lO K oNo) := wkO po_none fun σ H Q ⟨f, ρ, pd, A, R, t, k⟩ => k none ρ H t R
theorem do_some (h : DE K X e te) : PO X (some e) (lO K (oIs te)) := by
  refine wkO (po_some h) fun σ H Q h => ?_
  obtain ⟨f, ρ, pd, A, R, t, k⟩ := h
  refine ⟨f, ρ, pd, _, R, t, fun d ρ1 x H1 q R1 => ?_⟩
  cases d with
  | int i => exact ⟨i, R1.top.inv_int, k _ ρ1 H1 q R1.pop⟩
  | _ => exact q.elim
def cutD {α : Type} (xs : List α) (lo hi : Option Int) : List α := (xs.drop (HT.sIx xs.length 0 lo)).take (HT.sIx xs.length xs.length hi - HT.sIx xs.length 0 lo)
def dSlice (te : TD) (tl th : TOD) : TD := fun ρ Q => te ρ fun d ρ1 => tl ρ1 fun lo ρ2 => th ρ2 fun hi ρ3 => match d with
  | .list xs => Q (.list (cutD xs lo hi)) ρ3
  | .tuple xs => Q (.tuple (cutD xs lo hi)) ρ3
  | .str z => z.length ≤ SZ ∧ Q (.str (Txt.slice z lo hi)) ρ3
  | _ => False
theorem cut_dq {xs : List V} {ds : List PyData} {lo hi : Option Int} (g : DqAll K (Ob S H) xs ds) : DqAll K (Ob S H) (cutV xs lo hi) (cutD ds lo hi) := by
  unfold cutV cutD
  rw [g.1]
  exact (g.drop _).take _
theorem cut_whole {α : Type} {xs : List α} {lo hi : Option Int} (h : HT.sIx xs.length 0 lo = 0 ∧ HT.sIx xs.length xs.length hi = xs.length) : cutD xs lo hi = xs := by
  unfold cutD
  rw [h.1, h.2]
  simp
theorem de_slice {lo hi : Option Expr} {tl th : TOD} {p2 : Pos} (hK : X.K = K) (he : DE K X e te) (hl : PO X lo (lO K tl)) (hu : PO X hi (lO K th)) : DE K X (.Subscript e (.Slice lo hi none p2) pos) (dSlice te tl th) := by
  subst hK
  refine wkE (pe_slice (((sl_list (X := X)).or sl_tupA).or C8.sl_txt) he hl hu) fun σ H Q h => ?_
  obtain ⟨f, ρ, pd, A, R, t, k⟩ := h
  refine ⟨f, ρ, pd, _, R, t, fun d ρ1 x H1 q R1 => ⟨f, ρ1, _, _, R1, q, fun l ρ2 H2 q2 R2 => ⟨f, ρ2, _, _, R2, q2, fun u ρ3 H3 q3 R3 => ?_⟩⟩⟩
  cases d with
  | list ds =>
    obtain ⟨p, us, rfl, hp, gp⟩ := R3.top.inv_list
    refine .inl (.inl ⟨p, us, rfl, SqL.of (Ob.of hp).2, fun r hr => ?_⟩)
    exact k _ ρ3 _ _ q3 ((R3.pop.keep (Kp.new hr)).push (.lstA (ob_new hr R3.alloc) ((cut_dq gp).new hr)))
  | tuple ds =>
    obtain ⟨p, us, rfl, hp, gp⟩ := R3.top.inv_tup
    refine .inl (.inr ⟨p, us, rfl, obT hp, fun z => ?_, fun _ r hr => ?_⟩)
    · rw [gp.1] at z
      have := cut_whole z
      simp only [this] at q3
      exact k _ ρ3 _ _ q3 R3
    · exact k _ ρ3 _ _ q3 ((R3.pop.keep (Kp.new hr)).push (.tupA (ob_new hr R3.alloc) ((cut_dq gp).new hr)))
  | str z =>
    obtain rfl := R3.top.inv_str
    exact .inr ⟨z, rfl, szl q3.1, k _ ρ3 _ _ q3.2 (R3.pop.push (.str _))⟩
  | _ => exact q3.elim
/-! ### comparisons -/
def bI (p : Int → Int → Bool) : RB2 := fun d e A => match d, e with
  | .int i, .int j => A (p i j)
  | _, _ => False
theorem ob_bI {p : Int → Int → Bool} : OpB2 K (rI0 fun i j => .bl (p i j)) (bI p) := by
  intro S H x y d e A Q al sy hx hy h k
  unfold bI at h
  split at h
  · obtain rfl := hx.inv_int
    obtain rfl := hy.inv_int
    exact ⟨_, _, rfl, rfl, k _ h⟩
  · exact h.elim
def eqD : PyData → PyData → Bool
  | .str x, .str y => decide (x = y)
  | d, e => PyData.eqv d e
def eqOk : PyData → PyData → Prop
  | .str _, .str _ => True
  | d, e => SeqAt.shaped d = true ∧ SeqAt.shaped e = true
def bEq : RB2 := fun d e A => eqOk d e ∧ A (eqD d e)
def bNe : RB2 := fun d e A => eqOk d e ∧ A (!eqD d e)
theorem eq_cases {d e : PyData} (h : eqOk d e) : (∃ x y, d = .str x ∧ e = .str y ∧ eqD d e = decide (x = y)) ∨ ((SeqAt.shaped d = true ∧ SeqAt.shaped e = true) ∧ eqD d e = PyData.eqv d e) := by
  cases d <;> cases e <;> first | exact .inl ⟨_, _, rfl, rfl, rfl⟩ | exact .inr ⟨h, rfl⟩
theorem ob_eq : OpB2 K (fun x y H Q => rEq x y H Q ∨ rEqD K x y H Q) bEq := fun S H x y d e A Q al sy hx hy h k => by
  rcases eq_cases h.1 with ⟨u, v, rfl, rfl, q⟩ | ⟨q1, q⟩
  · obtain rfl := hx.inv_str
    obtain rfl := hy.inv_str
    refine .inl ⟨rfl, ?_⟩
    have e : decide (V.str u = V.str v) = decide (u = v) := decide_eq_decide.mpr ⟨fun z => V.str.inj z, fun z => by rw [z]⟩
    rw [e, ← q]
    exact k _ h.2
  · exact .inr ⟨d, e, obDp hx (shp_lay q1.1), obDp hy (shp_lay q1.2), q1.1, q1.2, by rw [← q]; exact k _ h.2⟩
theorem ob_ne : OpB2 K (fun x y H Q => rNe x y H Q ∨ rNeD K x y H Q) bNe := fun S H x y d e A Q al sy hx hy h k => by
  rcases eq_cases h.1 with ⟨u, v, rfl, rfl, q⟩ | ⟨q1, q⟩
  · obtain rfl := hx.inv_str
    obtain rfl := hy.inv_str
    refine .inl ⟨rfl, ?_⟩
    have e : decide (V.str u = V.str v) = decide (u = v) := decide_eq_decide.mpr ⟨fun z => V.str.inj z, fun z => by rw [z]⟩
    rw [e, ← q]
    exact k _ h.2
  · exact .inr ⟨d, e, obDp hx (shp_lay q1.1), obDp hy (shp_lay q1.2), q1.1, q1.2, by rw [← q]; exact k _ h.2⟩
def isNoneD : PyData → Bool
  | .none => true
  | _ => false
def bIsN : RB2 := fun d e A => match e with
  | .none => A (isNoneD d)
  | _ => False
def bNotN : RB2 := fun d e A => match e with
  | .none => A (!isNoneD d)
  | _ => False
theorem none_iff {v : V} {d : PyData} (h : Dq K (Ob S H) v d) : decide (v = .non) = isNoneD d := by
  cases h <;> rfl
theorem ob_isN : OpB2 K (fun x y H Q => y = .non ∧ Q (.bl (decide (x = .non))) H) bIsN := by
  intro S H x y d e A Q al sy hx hy h k
  unfold bIsN at h
  split at h
  · exact ⟨hy.inv_none, by rw [none_iff hx]; exact k _ h⟩
  · exact h.elim
theorem ob_notN : OpB2 K (fun x y H Q => y = .non ∧ Q (.bl (!decide (x = .non))) H) bNotN := by
  intro S H x y d e A Q al sy hx hy h k
  unfold bNotN at h
  split at h
  · exact ⟨hy.inv_none, by rw [none_iff hx]; exact k _ h⟩
  · exact h.elim
/-- d in a list or a tuple -/
def bIn (neg : Bool) : RB2 := fun d e A => match e with
  | .list ds => (SeqAt.shaped d = true ∧ SeqAt.shaped (.list ds) = true) ∧ A (if neg then !ds.any (fun z => PyData.eqv z d) else ds.any fun z => PyData.eqv z d)
  | _ => False
/-- the ints of a tuple -/
def asInts : List PyData → Option (List Int)
  | [] => some []
  | .int i :: ds => (asInts ds).map (i :: ·)
  | _ => none
theorem asInts_some : ∀ {ds : List PyData} {ns : List Int}, asInts ds = some ns → ds = ns.map PyData.int
  | [], ns, h => by cases h; rfl
  | .int i :: ds, ns, h => by
    unfold asInts at h
    cases e : asInts ds with
    | none => rw [e] at h; cases h
    | some ms =>
      rw [e] at h
      cases h
      rw [asInts_some e]
      rfl
  | .none :: _, _, h => by cases h
  | .bool _ :: _, _, h => by cases h
  | .str _ :: _, _, h => by cases h
  | .list _ :: _, _, h => by cases h
  | .tuple _ :: _, _, h => by cases h
  | .dict _ :: _, _, h => by cases h
theorem ints_dq {xs : List V} {ns : List Int} (g : DqAll K (Ob S H) xs (ns.map PyData.int)) : xs = ns.map V.int := by
  refine List.ext_getElem? fun i => ?_
  cases e : ns[i]? with
  | none =>
    have : ns.length ≤ i := List.getElem?_eq_none_iff.mp e
    rw [List.getElem?_eq_none (by rw [g.1]; simpa using this), List.getElem?_eq_none (by simpa using this)]
  | some n =>
    obtain ⟨x, hx, q⟩ := g.at (d := .int n) (i := i) (by rw [List.getElem?_map, e]; rfl)
    rw [hx, q.inv_int, List.getElem?_map, e]
    rfl
def leL : List Int → List Int → Bool
  | [], _ => true
  | _ :: _, [] => false
  | a :: r, b :: t => if a = b then leL r t else decide (a ≤ b)
theorem leL_at : ∀ (ns ms : List Int) (i k : Nat), i ≤ ns.length → i ≤ ms.length → k = min ns.length ms.length - i → Ob.lexAt (fun j => decide (ns.getD j 0 = ms.getD j 0)) (fun j => decide (ns.getD j 0 ≤ ms.getD j 0)) (decide (ns.length ≤ ms.length)) i k = leL (ns.drop i) (ms.drop i) := by
  intro ns ms i k
  induction k generalizing i with
  | zero =>
    intro h1 h2 h3
    show decide (ns.length ≤ ms.length) = _
    by_cases z : ns.length ≤ ms.length
    · have : i = ns.length := by omega
      subst this
      rw [List.drop_length]
      simp [leL, z]
    · have : i = ms.length := by omega
      subst this
      rw [List.drop_length, List.drop_eq_getElem_cons (by omega)]
      simp [leL, z]
  | succ k ih =>
    intro h1 h2 h3
    have l1 : i < ns.length := by omega
    have l2 : i < ms.length := by omega
    rw [Ob.lexAt_succ, List.drop_eq_getElem_cons l1, List.drop_eq_getElem_cons l2]
    have g1 : ns.getD i 0 = ns[i] := by simp [List.getD, l1]
    have g2 : ms.getD i 0 = ms[i] := by simp [List.getD, l2]
    rw [ih (i + 1) l1 l2 (by omega)]
    simp only [g1, g2, leL, decide_eq_true_eq]
def leD : PyData → PyData → Option Bool
  | .int i, .int j => some (decide (i ≤ j))
  | .tuple xs, .tuple ys => match asInts xs, asInts ys with
    | some ns, some ms => some (leL ns ms)
    | _, _ => none
  | _, _ => none
def bLe : RB2 := fun d e A => match leD d e with
  | some b => A b
  | none => False
theorem ob_le : OpB2 K (fun x y H Q => (∃ i j, x = .int i ∧ y = .int j ∧ Q (.bl (decide (i ≤ j))) H) ∨ rLeT K x y H Q) bLe := by
  intro S H x y d e A Q al sy hx hy h k
  unfold bLe leD at h
  split at h
  · rename_i b e
    split at e
    · cases e
      obtain rfl := hx.inv_int
      obtain rfl := hy.inv_int
      exact .inl ⟨_, _, rfl, rfl, k _ h⟩
    · split at e
      · rename_i ns ms e1 e2
        cases e
        have e1 := asInts_some e1
        have e2 := asInts_some e2
        subst e1
        subst e2
        obtain ⟨p, us, rfl, hp, gp⟩ := hx.inv_tup
        obtain ⟨q, ws, rfl, hq, gq⟩ := hy.inv_tup
        rw [ints_dq gp] at hp
        rw [ints_dq gq] at hq
        refine .inr ⟨p, q, ns, ms, rfl, rfl, obT hp, obT hq, ?_⟩
        rw [leL_at ns ms 0 _ (Nat.zero_le _) (Nat.zero_le _) (Nat.sub_zero _).symm]
        exact k _ h
      · cases e
    · cases e
  · exact h.elim
end
end Dl

set_option Elab.async false
set_option linter.all false
set_option maxRecDepth 100000
set_option maxHeartbeats 4000000
namespace Dl
open PySem PySem.Spec PyProof.Rows L2 Kt
/-! ### repr of data, dicts too -/
section
variable {X : Cx} {pins : List (Addr × Obj)} {σ : Sl} {H : Hp} {s : Shared} {S : List Addr}
theorem reads_all {h : Heap} {S : List Addr} {H : Hp} : ∀ {xs : List V} {ds : List PyData} {us : List Value}, xs.length = ds.length → Vals xs us → (∀ (i : Nat) (x : V) (d : PyData), xs[i]? = some x → ds[i]? = some d → ∀ u, RelV x u → ∃ as, Reads h u d as ∧ ∀ b ∈ as, ∃ o, Ob S H b = some o) → ∃ as, ReadsAll h us ds as ∧ ∀ b ∈ as, ∃ o, Ob S H b = some o
  | [], [], _, _, r, _ => by cases r; exact ⟨[], .nil, fun b hb => absurd hb (by simp)⟩
  | [], _ :: _, _, hl, _, _ => absurd hl (by simp)
  | _ :: _, [], _, hl, _, _ => absurd hl (by simp)
  | x :: xs, d :: ds, us, hl, r, q => by
    cases r with
    | cons r rr =>
      obtain ⟨as, h1, n1⟩ := q 0 x d rfl rfl _ r
      obtain ⟨bs, h2, n2⟩ := reads_all (xs := xs) (ds := ds) (by simpa using hl) rr fun i y e hy he => q (i + 1) y e (by simpa using hy) (by simpa using he)
      refine ⟨as ++ bs, .cons h1 h2, fun b hb => ?_⟩
      rcases List.mem_append.mp hb with z | z
      · exact n1 b z
      · exact n2 b z
theorem key_reads {h : Heap} {P : Program} {w : World} : ∀ {es : List DictEntry} {vs : List (Key × Value)}, PySem.Pairs (mixKind P w) es vs → ReadsAll h (es.map (·.key)) (vs.map fun p => kD p.1) [] ∧ es.map (·.val) = vs.map (·.2)
  | _, _, .nil => ⟨.nil, rfl⟩
  | _, _, .cons (e := e) (kv := kv) hk hv t => by
    obtain ⟨h1, h2⟩ := key_reads t
    refine ⟨?_, by simp [hv, h2]⟩
    have : Reads h e.key (kD kv.1) [] := by
      rcases keyIs_shape hk with ⟨i, t, e1, e2⟩ | ⟨x, t, e1, e2⟩
      · rw [e1, e2]; exact .int i t
      · rw [e1, e2]; exact .str x t
    exact ReadsAll.cons this h1
theorem kv_map : ∀ {kvs : List (Key × V)} {vs : List (Key × Value)}, KV kvs vs → Vals (kvs.map (·.2)) (vs.map (·.2)) ∧ kvs.map (·.1) = vs.map (·.1)
  | _, _, .nil => ⟨.nil, rfl⟩
  | _, _, .cons h t => by
    obtain ⟨h1, h2⟩ := kv_map t
    exact ⟨.cons h.2 h1, by simp [h.1, h2]⟩
theorem Dq.reads (I : Inv X pins σ H s) {v : V} {d : PyData} (h : Dq X.K (Ob S H) v d) : ∀ u, RelV v u → ∃ as, Reads s.heap u d as ∧ ∀ b ∈ as, ∃ o, Ob S H b = some o := by
  generalize hH : Ob S H = H0 at h
  induction h with
  | non => intro u r; cases r; exact ⟨_, .none, fun b hb => absurd hb (by simp)⟩
  | bl b => intro u r; cases r; exact ⟨_, .bool b, fun b hb => absurd hb (by simp)⟩
  | int i => intro u r; obtain ⟨t, rfl⟩ := r; exact ⟨_, .int i t, fun b hb => absurd hb (by simp)⟩
  | str x => intro u r; obtain ⟨t, rfl⟩ := r; exact ⟨_, .str x t, fun b hb => absurd hb (by simp)⟩
  | lst h hl hi ih =>
    intro u r
    subst hH
    cases r
    obtain ⟨its, rv, ⟨o, n, ho, hc, _, hd⟩, _⟩ := I.list (SqL.of (Ob.of h).2)
    obtain ⟨as, hr, hn⟩ := reads_all hl rv fun i x d hx hd => ih i x d hx hd
    refine ⟨_, Reads.list ho hc hd hr, fun b hb => ?_⟩
    rcases List.mem_cons.mp hb with z | z
    · rw [z]; exact ⟨_, h⟩
    · exact hn b z
  | tup h hl hi ih =>
    intro u r
    subst hH
    cases r
    obtain ⟨its, rv, ⟨o, ho, hc, n, hd⟩, _⟩ := I.tuple (SqT.of (Ob.of h).2)
    obtain ⟨as, hr, hn⟩ := reads_all hl rv fun i x d hx hd => ih i x d hx hd
    exact ⟨_, Reads.tuple ho hc hd hr, hn⟩
  | @dct a kvs ds h hk hi ih =>
    intro u r
    subst hH
    cases r
    obtain ⟨hz, hS, vs, rel, o, es, ep, ho, hx, hd, hko, hp, _⟩ : kvs.length ≤ sizeLine ∧ (a == sysModules) = false ∧ ∃ vs, KV kvs vs ∧ s.heap.DictOf (mixKind X.prog X.w) a vs := I.hok a _ (Ob.of h).2
    obtain ⟨k1, k2⟩ := key_reads (h := s.heap) hp
    obtain ⟨v1, v2⟩ := kv_map rel
    have hlen : kvs.length = ds.length := by have := congrArg List.length hk; simpa using this
    obtain ⟨as, hr, hn⟩ := reads_all (xs := kvs.map (·.2)) (ds := ds.map (·.2)) (us := vs.map (·.2)) (S := S) (H := H) (by simp [hlen]) v1 fun i x d hx hd u ru => by
      rw [List.getElem?_map] at hx hd
      obtain ⟨p, hp, rfl⟩ := Option.map_eq_some_iff.mp hx
      obtain ⟨q, hq, rfl⟩ := Option.map_eq_some_iff.mp hd
      exact ih i p q hp hq u ru
    have e1 : vs.map (fun p => kD p.1) = ds.map (·.1) := by
      rw [← hk]
      have : (vs.map (·.1)).map kD = (kvs.map (·.1)).map kD := by rw [v2]
      rw [List.map_map, List.map_map] at this
      exact this
    rw [e1] at k1
    rw [← k2] at hr
    refine ⟨_, Reads.dict ho hx.1 hd k1 hr, fun b hb => ?_⟩
    rcases List.mem_append.mp hb with z | z
    · have : b = a := by simpa using z
      rw [this]; exact ⟨_, h⟩
    · exact hn b z
def rReprQ (K : PySem.W.Frag) : List V → Hp → VK → Prop := fun vs H Q => ∃ S v d, vs = [v] ∧ Dq K (Ob S H) v d ∧ (d.showable = true ∧ d.shown.length ≤ 8000000 ∧ d.depth ≤ 60) ∧ Q (.str d.shown) H
theorem cr_reprQ (hsys : ∃ o, X.base.get? sysModules = some o) (hgd : X.A.guards = some []) (hu : X.A.units + 64 < cLine) : CallR X (.builtin "repr") (rReprQ X.K) := by
  intro pins s σ H xs us Q I r h
  obtain ⟨S, v, d, rfl, hd, ⟨hs, hsz, hdp⟩, q⟩ := h
  obtain ⟨oy, hoy⟩ := hsys
  have nsys := (I.bs sysModules oy hoy).2
  obtain ⟨u, rfl, ru⟩ := vals1 r
  obtain ⟨as, rd, hn⟩ := hd.reads I u ru
  have hsz : d.shown.length ≤ sizeLine := Nat.le_trans hsz (by decide)
  have big : ∀ a, u = .ref a → wpAny (model X.prog X.w) X.A (call (.builtin "repr") [u]) (EP X pins σ Q) X.xe s := fun a e => by
    subst e
    exact repr_of_reads' rd hs (fun _ z => by obtain ⟨o, e⟩ := hn _ z; rw [(Ob.of e).2] at nsys; cases nsys) hgd (by omega) (fun _ _ e => e) (fun h' t tk hk => ⟨.str d.shown, H, I.kept hk, ⟨t, rfl⟩, q⟩) hsz
  cases hd with
  | non =>
    obtain rfl : u = Value.none := ru
    rw [PyData.shown_none] at q
    exact PySem.P.repr_of_none ⟨.str _, H, I.tok _, ⟨_, rfl⟩, q⟩
  | bl b =>
    obtain rfl : u = Value.bool b := ru
    rw [PyData.shown_bool] at q
    exact PySem.P.repr_of_bool ⟨.str _, H, I.tok _, ⟨_, rfl⟩, q⟩
  | int i =>
    obtain ⟨t, rfl⟩ := ru
    rw [PyData.shown_int] at q
    exact PySem.P.repr_of_int (by simpa [PyData.showable] using hs) ⟨.str _, H, I.tok _, ⟨_, rfl⟩, q⟩
  | str x =>
    obtain ⟨t, rfl⟩ := ru
    rw [PyData.shown_str] at q hsz
    exact PySem.P.repr_of_str ⟨.str _, H, I.tok _, ⟨_, rfl⟩, q⟩ hsz
  | lst _ _ _ => exact big _ ru
  | tup _ _ _ => exact big _ ru
  | dct _ _ _ => exact big _ ru
/-- what can be shown -/
def Shw (d : PyData) : Prop := d.showable = true ∧ d.shown.length ≤ 8000000 ∧ d.depth ≤ 60
def dRepr : RDn := fun ds A => match ds with
  | [d] => Shw d ∧ A (.str d.shown)
  | _ => False
theorem od_repr {K : PySem.W.Frag} : OpDn K (rReprQ K) dRepr := by
  intro S H xs ds A Q al sy hx h k
  unfold dRepr at h
  split at h
  · obtain ⟨v, r, rfl, hv, hr⟩ := hx.inv_cons
    obtain rfl := hr.inv_nil
    exact ⟨S, v, _, rfl, hv, h.1, k _ _ _ h.2 Kp.refl (.str _)⟩
  · exact h.elim
end
section
variable {K : PySem.W.Frag} {X : Cx} {e a b c tg : Expr} {es : List Expr} {pos p : Pos} {te ta tb tc : TD} {tA : TDA} {S : List Addr} {H : Hp} {x : Str} {kk : Nat}
theorem de_repr (hK : X.K = K) (hsys : ∃ o, X.base.get? sysModules = some o) (hgd : X.A.guards = some []) (hu : X.A.units + 64 < cLine) (hg : Gl X "repr") (hm : X.mg "repr" = none) (h : DE K X e te) (he : starEach (e :: []) X.env = (false, eval e X.env) :: starEach [] X.env := by rfl) : DE K X (.Call (.Name "repr" p) [e] [] pos) (dCall dRepr (aCons te aNil)) := by
  subst hK
  exact de_callB (cr_reprQ hsys hgd hu) od_repr hg hm PyProof.Rows.boot_repr (da_cons h da_nil he) (he := he)
/-! ### comparisons -/
section
variable (ha : DE K X a ta) (hb : DE K X b tb)
include ha hb
theorem de_lt : DE K X (.Compare a [.Lt] [b] pos) (dCmp (bI fun i j => decide (i < j)) ta tb) := de_cmp op_lt ob_bI ha hb (nomark _)
theorem dt_lt : DT K X (.Compare a [.Lt] [b] pos) (dCmpT (bI fun i j => decide (i < j)) ta tb) := dt_cmp op_lt ob_bI ha hb (nomark _)
theorem de_gt : DE K X (.Compare a [.Gt] [b] pos) (dCmp (bI fun i j => decide (j < i)) ta tb) := de_cmp op_gt ob_bI ha hb (nomark _)
theorem dt_gt : DT K X (.Compare a [.Gt] [b] pos) (dCmpT (bI fun i j => decide (j < i)) ta tb) := dt_cmp op_gt ob_bI ha hb (nomark _)
theorem de_ge : DE K X (.Compare a [.GtE] [b] pos) (dCmp (bI fun i j => decide (j ≤ i)) ta tb) := de_cmp op_ge ob_bI ha hb (nomark _)
theorem dt_ge : DT K X (.Compare a [.GtE] [b] pos) (dCmpT (bI fun i j => decide (j ≤ i)) ta tb) := dt_cmp op_ge ob_bI ha hb (nomark _)
theorem de_le (hK : X.K = K) (hr : Room kk X.A) : DE K X (.Compare a [.LtE] [b] pos) (dCmp bLe ta tb) := by subst hK; exact de_cmp (op_le.or (op_leT hr.units0)) ob_le ha hb (nomark _)
theorem dt_le (hK : X.K = K) (hr : Room kk X.A) : DT K X (.Compare a [.LtE] [b] pos) (dCmpT bLe ta tb) := by subst hK; exact dt_cmp (op_le.or (op_leT hr.units0)) ob_le ha hb (nomark _)
theorem de_eq (hK : X.K = K) (hr : Room kk X.A) : DE K X (.Compare a [.Eq] [b] pos) (dCmp bEq ta tb) := by subst hK; exact de_cmp (op_eq.or (op_eqD hr.units)) ob_eq ha hb (nomark _)
theorem dt_eq (hK : X.K = K) (hr : Room kk X.A) : DT K X (.Compare a [.Eq] [b] pos) (dCmpT bEq ta tb) := by subst hK; exact dt_cmp (op_eq.or (op_eqD hr.units)) ob_eq ha hb (nomark _)
theorem de_ne (hK : X.K = K) (hr : Room kk X.A) : DE K X (.Compare a [.NotEq] [b] pos) (dCmp bNe ta tb) := by subst hK; exact de_cmp (op_ne.or (op_neD hr.units)) ob_ne ha hb (nomark _)
theorem dt_ne (hK : X.K = K) (hr : Room kk X.A) : DT K X (.Compare a [.NotEq] [b] pos) (dCmpT bNe ta tb) := by subst hK; exact dt_cmp (op_ne.or (op_neD hr.units)) ob_ne ha hb (nomark _)
theorem de_isN : DE K X (.Compare a [.Is] [b] pos) (dCmp bIsN ta tb) := de_cmp op_isN ob_isN ha hb (nomark _)
theorem dt_isN : DT K X (.Compare a [.Is] [b] pos) (dCmpT bIsN ta tb) := dt_cmp op_isN ob_isN ha hb (nomark _)
theorem de_notN : DE K X (.Compare a [.IsNot] [b] pos) (dCmp bNotN ta tb) := de_cmp op_notN ob_notN ha hb (nomark _)
theorem dt_notN : DT K X (.Compare a [.IsNot] [b] pos) (dCmpT bNotN ta tb) := dt_cmp op_notN ob_notN ha hb (nomark _)
end
/-! x in a tuple of data -/
def rInDT (K : PySem.W.Frag) : R2 := fun x y H Q => ∃ d ds, Dp K H x d ∧ Dp K H y (.tuple ds) ∧ SeqAt.shaped d = true ∧ SeqAt.shaped (.tuple ds) = true ∧ Q (.bl (ds.any fun z => PyData.eqv z d)) H
theorem op_inDT (hu : X.A.units + 65 < cLine) : OpR X (compareOp .In) (rInDT X.K) := by
  intro pins s σ H x y v u Q I rx ry h
  obtain ⟨d, ds, hd, he, sd, se, q⟩ := h
  obtain ⟨as, r1⟩ := Dp.reads I d x v hd rx
  obtain ⟨bs, r2⟩ := Dp.reads I (.tuple ds) y u he ry
  exact SeqAt.in_tuple_reads r2 r1 (SeqAt.canLay_of_shaped se) (SeqAt.canLay_of_shaped sd) (room_in_shaped sd hu) ⟨.bl _, H, I, rfl, q⟩
def inD (d : PyData) (ds : List PyData) : Bool := ds.any fun z => PyData.eqv z d
def bInD : RB2 := fun d e A => match e with
  | .list ds => (SeqAt.shaped d = true ∧ SeqAt.shaped (.list ds) = true) ∧ A (inD d ds)
  | .tuple ds => (SeqAt.shaped d = true ∧ SeqAt.shaped (.tuple ds) = true) ∧ A (inD d ds)
  | _ => False
def bNotInD : RB2 := fun d e A => match e with
  | .list ds => (SeqAt.shaped d = true ∧ SeqAt.shaped (.list ds) = true) ∧ A (!inD d ds)
  | _ => False
theorem ob_in : OpB2 K (fun x y H Q => rInD K x y H Q ∨ rInDT K x y H Q) bInD := by
  intro S H x y d e A Q al sy hx hy h k
  unfold bInD at h
  split at h
  · exact .inl ⟨d, _, obDp hx (shp_lay h.1.1), obDp hy (shp_lay h.1.2), h.1.1, h.1.2, k _ h.2⟩
  · exact .inr ⟨d, _, obDp hx (shp_lay h.1.1), obDp hy (shp_lay h.1.2), h.1.1, h.1.2, k _ h.2⟩
  · exact h.elim
theorem ob_notIn : OpB2 K (rNotInD K) bNotInD := by
  intro S H x y d e A Q al sy hx hy h k
  unfold bNotInD at h
  split at h
  · exact ⟨d, _, obDp hx (shp_lay h.1.1), obDp hy (shp_lay h.1.2), h.1.1, h.1.2, k _ h.2⟩
  · exact h.elim
theorem units65 (hr : Room kk X.A) : X.A.units + 65 < cLine := by have := hr.un; omega
theorem de_in (ha : DE K X a ta) (hb : DE K X b tb) (hK : X.K = K) (hr : Room kk X.A) (hm : behindInMarks .In b = false) : DE K X (.Compare a [.In] [b] pos) (dCmp bInD ta tb) := by subst hK; exact de_cmp ((op_inD (units65 hr)).or (op_inDT (units65 hr))) ob_in ha hb hm
theorem dt_in (ha : DE K X a ta) (hb : DE K X b tb) (hK : X.K = K) (hr : Room kk X.A) (hm : behindInMarks .In b = false) : DT K X (.Compare a [.In] [b] pos) (dCmpT bInD ta tb) := by subst hK; exact dt_cmp ((op_inD (units65 hr)).or (op_inDT (units65 hr))) ob_in ha hb hm
theorem de_notIn (ha : DE K X a ta) (hb : DE K X b tb) (hK : X.K = K) (hr : Room kk X.A) (hm : behindInMarks .NotIn b = false) : DE K X (.Compare a [.NotIn] [b] pos) (dCmp bNotInD ta tb) := by subst hK; exact de_cmp (op_notInD (units65 hr)) ob_notIn ha hb hm
theorem dt_notIn (ha : DE K X a ta) (hb : DE K X b tb) (hK : X.K = K) (hr : Room kk X.A) (hm : behindInMarks .NotIn b = false) : DT K X (.Compare a [.NotIn] [b] pos) (dCmpT bNotInD ta tb) := by subst hK; exact dt_cmp (op_notInD (units65 hr)) ob_notIn ha hb hm
/-- a op b op' c -/
def dChain (r r' : RB2) (ta tb tc : TD) : TD := fun ρ Q => ta ρ fun d ρ1 => tb ρ1 fun e ρ2 => r d e fun z => match z with
  | true => tc ρ2 fun w ρ3 => r' e w fun z' => Q (.bool z') ρ3
  | false => Q (.bool false) ρ2
def dChainT (r r' : RB2) (ta tb tc : TD) : TDT := fun ρ Q => ta ρ fun d ρ1 => tb ρ1 fun e ρ2 => r d e fun z => match z with
  | true => tc ρ2 fun w ρ3 => r' e w fun z' => Q z' ρ3
  | false => Q false ρ2
theorem lift_chain {rh rh' : R2} {r r' : RB2} {σ : Sl} {H : Hp} {Q : VK} (hr : OpB2 K rh r) (hr' : OpB2 K rh' r') (h : lE K (dChain r r' ta tb tc) σ H Q) : tChain rh rh' (lE K ta) (lE K tb) (lE K tc) σ H Q := by
  obtain ⟨f, ρ, pd, A, R, t, k⟩ := h
  refine ⟨f, ρ, pd, _, R, t, fun d ρ1 x H1 q R1 => ⟨f, ρ1, _, _, R1, q, fun e ρ2 y H2 q2 R2 => ?_⟩⟩
  refine hr (Sx f ρ2) H2 x y d e _ _ R2.alloc R2.inS R2.pop.top R2.top q2 fun z az => ⟨z, rfl, ?_⟩
  cases z with
  | false =>
    rw [if_neg Bool.false_ne_true]
    exact k _ ρ2 _ H2 az (R2.pop.pop.push (.bl _))
  | true =>
    rw [if_pos rfl]
    refine ⟨f, ρ2, _, _, R2, az, fun w ρ3 u H3 q3 R3 => ?_⟩
    exact hr' (Sx f ρ3) H3 y u e w _ _ R3.alloc R3.inS R3.pop.top R3.top q3 fun z' az' => k _ ρ3 _ H3 az' (R3.pop.pop.pop.push (.bl _))
theorem de_chain {op op' : CmpOp} {rh rh' : R2} {r r' : RB2} (ho : OpR X (compareOp op) rh) (ho' : OpR X (compareOp op') rh') (hr : OpB2 K rh r) (hr' : OpB2 K rh' r') (ha : DE K X a ta) (hb : DE K X b tb) (hc : DE K X c tc) (hm : lastMarks [op, op'] [b, c] = false := by with_unfolding_all rfl) :
    DE K X (.Compare a [op, op'] [b, c] pos) (dChain r r' ta tb tc) := wkE (pe_chain ho ho' ha hb hc hm) fun σ H Q h => lift_chain hr hr' h
theorem dt_chain {op op' : CmpOp} {rh rh' : R2} {r r' : RB2} (ho : OpR X (compareOp op) rh) (ho' : OpR X (compareOp op') rh') (hr : OpB2 K rh r) (hr' : OpB2 K rh' r') (ha : DE K X a ta) (hb : DE K X b tb) (hc : DE K X c tc) (hm : lastMarks [op, op'] [b, c] = false := by with_unfolding_all rfl) :
    DT K X (.Compare a [op, op'] [b, c] pos) (dChainT r r' ta tb tc) := wkT (pt_chain ho ho' ha hb hc hm) fun σ H Q h => by
  obtain ⟨f, ρ, pd, A, R, t, k⟩ := h
  exact lift_chain hr hr' ⟨f, ρ, pd, fun z ρ' => match z with
    | .bool z => A z ρ'
    | _ => False, R, t, fun d ρ' v H' q R' => by
      cases d with
      | bool z => exact ⟨z, R'.top.inv_bool, k z ρ' H' q R'.pop⟩
      | _ => exact q.elim⟩
/-! ### built-ins -/
def dLen : RDn := fun ds A => match ds with
  | [.list xs] => A (.int xs.length)
  | [.tuple xs] => A (.int xs.length)
  | [.str z] => z.length ≤ SZ ∧ A (.int z.length)
  | _ => False
theorem od_len : OpDn K (fun xs H Q => ∃ x n, xs = [x] ∧ LenV K x H n ∧ Q (.int n) H) dLen := by
  intro S H xs ds A Q al sy hx h k
  unfold dLen at h
  split at h
  · obtain ⟨v, r, rfl, hv, hr⟩ := hx.inv_cons
    obtain rfl := hr.inv_nil
    obtain ⟨p, us, rfl, hp, gp⟩ := hv.inv_list
    exact ⟨.ref p, _, rfl, .inl ⟨us, SqL.of (Ob.of hp).2, rfl⟩, by rw [gp.1]; exact k _ _ _ h Kp.refl (.int _)⟩
  · obtain ⟨v, r, rfl, hv, hr⟩ := hx.inv_cons
    obtain rfl := hr.inv_nil
    obtain ⟨p, us, rfl, hp, gp⟩ := hv.inv_tup
    exact ⟨.ref p, _, rfl, .inr ⟨us, obT hp, rfl⟩, by rw [gp.1]; exact k _ _ _ h Kp.refl (.int _)⟩
  · obtain ⟨v, r, rfl, hv, hr⟩ := hx.inv_cons
    obtain rfl := hr.inv_nil
    obtain rfl := hv.inv_str
    exact ⟨_, _, rfl, ⟨szl h.1, rfl⟩, k _ _ _ h.2 Kp.refl (.int _)⟩
  · exact h.elim
def dTupF : RDn := fun ds A => match ds with
  | [.list xs] => A (.tuple xs)
  | [.tuple xs] => A (.tuple xs)
  | _ => False
theorem od_tup : OpDn K (fun xs H Q => ∃ p ys, xs = [.ref p] ∧ ((SqL K H p ys ∧ ∀ l, H l = none → Q (.ref l) (upd H l (.tup ys))) ∨ (SqT K H p ys ∧ Q (.ref p) H))) dTupF := by
  intro S H xs ds A Q al sy hx h k
  unfold dTupF at h
  split at h
  · obtain ⟨v, r, rfl, hv, hr⟩ := hx.inv_cons
    obtain rfl := hr.inv_nil
    obtain ⟨p, us, rfl, hp, gp⟩ := hv.inv_list
    exact ⟨p, us, rfl, .inl ⟨SqL.of (Ob.of hp).2, fun l hl => new_tup al gp h k hl⟩⟩
  · obtain ⟨v, r, rfl, hv, hr⟩ := hx.inv_cons
    obtain rfl := hr.inv_nil
    obtain ⟨p, us, rfl, hp, gp⟩ := hv.inv_tup
    exact ⟨p, us, rfl, .inr ⟨obT hp, k _ _ _ h Kp.refl hv⟩⟩
  · exact h.elim
def dListF : RDn := fun ds A => match ds with
  | [.list xs] => A (.list xs)
  | [.tuple xs] => A (.list xs)
  | _ => False
theorem od_list : OpDn K (fun xs H Q => ∃ p ys, xs = [.ref p] ∧ (SqL K H p ys ∨ SqT K H p ys) ∧ ∀ l, H l = none → Q (.ref l) (upd H l (.lst ys))) dListF := by
  intro S H xs ds A Q al sy hx h k
  unfold dListF at h
  split at h
  · obtain ⟨v, r, rfl, hv, hr⟩ := hx.inv_cons
    obtain rfl := hr.inv_nil
    obtain ⟨p, us, rfl, hp, gp⟩ := hv.inv_list
    exact ⟨p, us, rfl, .inl (SqL.of (Ob.of hp).2), fun l hl => new_lst al gp h k hl⟩
  · obtain ⟨v, r, rfl, hv, hr⟩ := hx.inv_cons
    obtain rfl := hr.inv_nil
    obtain ⟨p, us, rfl, hp, gp⟩ := hv.inv_tup
    exact ⟨p, us, rfl, .inr (obT hp), fun l hl => new_lst al gp h k hl⟩
  · exact h.elim
def dInt1 : RDn := fun ds A => match ds with
  | [.int i] => A (.int i)
  | [.bool b] => A (.int (if b then 1 else 0))
  | _ => False
theorem od_int1 : OpDn K (fun xs H Q => (∃ i, xs = [.int i] ∧ Q (.int i) H) ∨ ∃ k, xs = [.bl k] ∧ Q (.int (if k then 1 else 0)) H) dInt1 := by
  intro S H xs ds A Q al sy hx h k
  unfold dInt1 at h
  split at h
  · obtain ⟨v, r, rfl, hv, hr⟩ := hx.inv_cons
    obtain rfl := hr.inv_nil
    obtain rfl := hv.inv_int
    exact .inl ⟨_, rfl, k _ _ _ h Kp.refl (.int _)⟩
  · obtain ⟨v, r, rfl, hv, hr⟩ := hx.inv_cons
    obtain rfl := hr.inv_nil
    obtain rfl := hv.inv_bool
    exact .inr ⟨_, rfl, k _ _ _ h Kp.refl (.int _)⟩
  · exact h.elim
def dII (g : Int → Int → Int) : RDn := fun ds A => match ds with
  | [.int i, .int j] => A (.int (g i j))
  | _ => False
theorem od_II {g : Int → Int → Int} : OpDn K (fun xs H Q => ∃ i j, xs = [.int i, .int j] ∧ Q (.int (g i j)) H) (dII g) := by
  intro S H xs ds A Q al sy hx h k
  unfold dII at h
  split at h
  · obtain ⟨v, r, rfl, hv, hr⟩ := hx.inv_cons
    obtain ⟨v2, r2, rfl, hv2, hr2⟩ := hr.inv_cons
    obtain rfl := hr2.inv_nil
    obtain rfl := hv.inv_int
    obtain rfl := hv2.inv_int
    exact ⟨_, _, rfl, k _ _ _ h Kp.refl (.int _)⟩
  · exact h.elim
/-! isinstance of one built-in type -/
def tyD : PyData → String
  | .none => "NoneType"
  | .bool _ => "bool"
  | .int _ => "int"
  | .str _ => "str"
  | .list _ => "list"
  | .tuple _ => "tuple"
  | .dict _ => "dict"
theorem ty_dq {v : V} {d : PyData} (h : Dq K (Ob S H) v d) : TyX K H v (.type (tyD d)) := by
  cases h with
  | non => exact .base .non
  | bl b => exact .base (.bl b)
  | int i => exact .base (.int i)
  | str x => exact .base (.str x)
  | lst h _ _ => exact .base (.lst (Ob.of h).2)
  | tup h _ _ => exact .base (.tup (Ob.of h).2)
  | dct h _ _ => exact .base (.dK (Ob.of h).2)
def dIsi (q : PyData → Bool) (te : TD) : TD := fun ρ Q => te ρ fun d ρ1 => Q (.bool (q d)) ρ1
theorem de_isi {T : Str} {T' : String} {q : PyData → Bool} {pT : Pos} (hK : X.K = K) (hq : ∀ d, kitB (tyD d) T' = some (q d)) (hg : Gl X "isinstance") (hm : X.mg "isinstance" = none) (hgT : Gl X T) (hmT : X.mg T = none) (hv : bootBuiltins T = some (.type T')) (he : DE K X e te)
    (hn : T ≠ "__name__" := by decide) (hd : (T == ("__debug__" : Str)) = false := by decide)
    (hs : starEach (e :: [.Name T pT]) X.env = (false, eval e X.env) :: starEach [.Name T pT] X.env := by rfl) (hs2 : starEach (.Name T pT :: []) X.env = (false, eval (.Name T pT) X.env) :: starEach [] X.env := by rfl) (hpl : (backTo pos (starEach [.Name T pT] X.env)).any (·.1) = false := by rfl) :
    DE K X (.Call (.Name "isinstance" p) [e, .Name T pT] [] pos) (dIsi q te) := by
  subst hK
  refine wkE (pe_callB call_isi hg hm PyProof.Rows.boot_isinstance (pa_cons he (pa_cons (pe_bltn (v := .ty T') hgT hmT hv rfl hn hd) pa_nil hs2) hs) (he := hs) (hpl := hpl)) fun σ H Q h => ?_
  obtain ⟨f, ρ, pd, A, R, t, k⟩ := h
  refine ⟨f, ρ, pd, _, R, t, fun d ρ1 x H1 q1 R1 => ?_⟩
  exact ⟨x, .ty T', _, _, _, rfl, .ty T', ty_dq R1.top, kit_ty (hq d), k _ ρ1 _ H1 q1 (R1.pop.push (.bl _))⟩
def isIntD : PyData → Bool
  | .int _ => true
  | .bool _ => true
  | _ => false
def isBoolD : PyData → Bool
  | .bool _ => true
  | _ => false
def isTupD : PyData → Bool
  | .tuple _ => true
  | _ => false
def isStrD : PyData → Bool
  | .str _ => true
  | _ => false
def isListD : PyData → Bool
  | .list _ => true
  | _ => false
theorem kit_int : ∀ d, kitB (tyD d) "int" = some (isIntD d)
  | .none => (by decide +kernel : kitB "NoneType" "int" = some false)
  | .bool _ => (by decide +kernel : kitB "bool" "int" = some true)
  | .int _ => (by decide +kernel : kitB "int" "int" = some true)
  | .str _ => (by decide +kernel : kitB "str" "int" = some false)
  | .list _ => (by decide +kernel : kitB "list" "int" = some false)
  | .tuple _ => (by decide +kernel : kitB "tuple" "int" = some false)
  | .dict _ => (by decide +kernel : kitB "dict" "int" = some false)
theorem kit_bool : ∀ d, kitB (tyD d) "bool" = some (isBoolD d)
  | .none => (by decide +kernel : kitB "NoneType" "bool" = some false)
  | .bool _ => (by decide +kernel : kitB "bool" "bool" = some true)
  | .int _ => (by decide +kernel : kitB "int" "bool" = some false)
  | .str _ => (by decide +kernel : kitB "str" "bool" = some false)
  | .list _ => (by decide +kernel : kitB "list" "bool" = some false)
  | .tuple _ => (by decide +kernel : kitB "tuple" "bool" = some false)
  | .dict _ => (by decide +kernel : kitB "dict" "bool" = some false)
theorem kit_tup : ∀ d, kitB (tyD d) "tuple" = some (isTupD d)
  | .none => (by decide +kernel : kitB "NoneType" "tuple" = some false)
  | .bool _ => (by decide +kernel : kitB "bool" "tuple" = some false)
  | .int _ => (by decide +kernel : kitB "int" "tuple" = some false)
  | .str _ => (by decide +kernel : kitB "str" "tuple" = some false)
  | .list _ => (by decide +kernel : kitB "list" "tuple" = some false)
  | .tuple _ => (by decide +kernel : kitB "tuple" "tuple" = some true)
  | .dict _ => (by decide +kernel : kitB "dict" "tuple" = some false)
theorem kit_str : ∀ d, kitB (tyD d) "str" = some (isStrD d)
  | .none => (by decide +kernel : kitB "NoneType" "str" = some false)
  | .bool _ => (by decide +kernel : kitB "bool" "str" = some false)
  | .int _ => (by decide +kernel : kitB "int" "str" = some false)
  | .str _ => (by decide +kernel : kitB "str" "str" = some true)
  | .list _ => (by decide +kernel : kitB "list" "str" = some false)
  | .tuple _ => (by decide +kernel : kitB "tuple" "str" = some false)
  | .dict _ => (by decide +kernel : kitB "dict" "str" = some false)
theorem kit_list : ∀ d, kitB (tyD d) "list" = some (isListD d)
  | .none => (by decide +kernel : kitB "NoneType" "list" = some false)
  | .bool _ => (by decide +kernel : kitB "bool" "list" = some false)
  | .int _ => (by decide +kernel : kitB "int" "list" = some false)
  | .str _ => (by decide +kernel : kitB "str" "list" = some false)
  | .list _ => (by decide +kernel : kitB "list" "list" = some true)
  | .tuple _ => (by decide +kernel : kitB "tuple" "list" = some false)
  | .dict _ => (by decide +kernel : kitB "dict" "list" = some false)
end
end Dl

set_option Elab.async false
set_option linter.all false
set_option maxRecDepth 100000
set_option maxHeartbeats 4000000
/-! a tuple from behind -/
namespace HT
open PySem PySem.Spec PyProof.Rows
section
variable {prog : Program} {w : World} {A : Around} {E : Value → Shared → Prop} {s : Shared}
theorem places_rev (n : Nat) : Builtin.Slice.slicePlaces ((n : Int) - 1) (-1) (-1) = n := by
  unfold Builtin.Slice.slicePlaces
  have h1 : ¬ ((-1 : Int) > 0) := by decide
  simp only [h1, if_false]
  by_cases h : (n : Int) - 1 > -1
  · rw [if_pos h, show (- -1 : Int) = 1 by decide, Int.ediv_one]
    omega
  · rw [if_neg h]
    omega
theorem sliceApplied_rev {sl : Addr} {vs : Value} {n : Nat} {Q : Int × Int × Nat → Shared → Prop} (hs : s.heap.IsSliceOf sl .none .none vs) (ps : IsPart vs (some (-1)))
    (h : Q ((n : Int) - 1, -1, n) s) : wpAny (model prog w) A (Builtin.Slice.sliceApplied (.ref sl) (pure (n : Int))) Q E s := by
  obtain ⟨os, hos, hcs, hds⟩ := id hs
  unfold Builtin.Slice.sliceApplied Builtin.Slice.sliceFields
  refine wpAny_bind (wpAny_bind (wpAny_field hos hds (x := .none) rfl (wpAny_bind (wpAny_field hos hds (x := .none) rfl (wpAny_bind (wpAny_field hos hds (x := vs) rfl (wpAny_pure ?_)))))))
  refine wpAny_bind (slicePart_ ps ?_)
  show wpAny _ _ (if ((-1 : Int) == 0) = true then _ else _) _ _ s
  rw [if_neg (by decide)]
  refine wpAny_bind (slicePart_none (wpAny_bind (slicePart_none (wpAny_bind (wpAny_pure ?_)))))
  show wpAny _ _ (match Builtin.Slice.sliceAdjust none none (-1) (n : Int) with | (lo, hi) => pure (lo, (-1 : Int), Builtin.Slice.slicePlaces lo hi (-1))) _ _ s
  have e : Builtin.Slice.sliceAdjust none none (-1) (n : Int) = ((n : Int) - 1, -1) := rfl
  rw [e]
  show wpAny _ _ (pure ((n : Int) - 1, (-1 : Int), Builtin.Slice.slicePlaces ((n : Int) - 1) (-1) (-1))) _ _ s
  rw [places_rev]
  exact wpAny_pure h
theorem pick_rev (xs : Array Value) : ((List.range xs.size).filterMap fun (m : Nat) => xs[(((xs.size : Int) - 1) + (m : Int) * -1).toNat]?).toArray = xs.toList.reverse.toArray := by
  have e : (List.range xs.size).filterMap (fun (m : Nat) => xs[(((xs.size : Int) - 1) + (m : Int) * -1).toNat]?) = ((List.range xs.size).map fun k => xs.size - 1 - k).filterMap (xs[·]?) := by
    rw [List.filterMap_map]
    have key : ∀ l : List Nat, (∀ m ∈ l, m < xs.size) → l.filterMap (fun (m : Nat) => xs[(((xs.size : Int) - 1) + (m : Int) * -1).toNat]?) = l.filterMap ((xs[·]?) ∘ fun k => xs.size - 1 - k) := by
      intro l
      induction l with
      | nil => intro _; rfl
      | cons m l ih =>
        intro h
        have h1 := h m List.mem_cons_self
        have e2 : (((xs.size : Int) - 1) + (m : Int) * -1).toNat = xs.size - 1 - m := by omega
        rw [List.filterMap_cons, List.filterMap_cons, ih fun k hk => h k (List.mem_cons_of_mem _ hk), e2]
        rfl
    exact key _ fun m hm => List.mem_range.mp hm
  rw [e, PySem.W.krv_range, List.filterMap_reverse, PySem.W.krv_all]
theorem getItem_tuple_rev {t sl : Addr} {items : Array Value} {vs : Value} {Q : Value → Shared → Prop} (ht : IsTup s.heap t items) (hs : s.heap.IsSliceOf sl .none .none vs) (ps : IsPart vs (some (-1)))
    (h : Q (.ref s.heap.objs.size) { s with heap := s.heap.push { cls := .type "tuple", data := .seq items.toList.reverse.toArray } })
    (hsz : items.size ≤ sizeLine) : wpAny (model prog w) A (getItem (.ref t) (.ref sl)) Q E s := by
  have htake : sizeOk (.seq items.toList.reverse.toArray) := by
    show items.toList.reverse.toArray.size ≤ sizeLine
    rw [List.size_toArray, List.length_reverse, Array.length_toList]
    exact hsz
  obtain ⟨os, hos, hcs, hds⟩ := id hs
  have hTs : s.TypeIs (.ref sl) "slice" := ⟨os, hos, hcs⟩
  unfold getItem
  try with_reducible refine wpAny_holding ?_
  first | refine wpAny_bind (wpAny_pure ?_) | skip
  refine wpAny_bind (wpAny_sequenceKey ht.typeIs (by decide) ?_)
  refine wpAny_bind (wpAny_callSpecial?_slot (name := Str.ofString "__getitem__") ht.typeIs PyProof.Rows.slot_tuple_getitem
    (wpAny_call_entry PyProof.Rows.slot_tuple_getitem ht.typeIs entry_tuple_getitem ?_ (args_tuple_getitem _ _)))
  show wpAny _ _ (Builtin.Tuple.tupleItemsOf (.ref t) >>= _) _ _ s
  refine wpAny_bind (tupleItemsOf_ ht ?_)
  refine wpAny_bind (wpAny_typeOf hTs ?_)
  rw [if_pos (by decide)]
  refine wpAny_bind (sliceApplied_rev hs ps ?_)
  have hno : ¬ ((((items.size : Int) - 1) == 0 && (-1 : Int) == 1 && items.size == items.size) = true) := by
    intro q
    rw [Bool.and_eq_true, Bool.and_eq_true] at q
    exact absurd q.1.2 (by decide)
  show wpAny _ _ (if ((((items.size : Int) - 1) == 0 && (-1 : Int) == 1 && items.size == items.size) = true) then _ else _) _ _ s
  rw [if_neg hno, pick_rev]
  first
    | exact wpAny_bind (m := Builtin.Tuple.tupleExact _) (wpAny_newObj_type (wpAny_pure ⟨_, rfl, wpAny_pure h⟩) htake)
    | exact wpAny_bind (m := Builtin.Tuple.tupleExact _) (wpAny_newObj_type (wpAny_bind (wpAny_pure (wpAny_pure ⟨_, rfl, wpAny_pure h⟩))) htake)
    | exact wpAny_bind (wpAny_bind (m := Builtin.Tuple.tupleExact _) (wpAny_newObj_type (wpAny_pure (wpAny_pure ⟨_, rfl, wpAny_pure h⟩)) htake))
    | exact wpAny_bind (wpAny_bind (m := Builtin.Tuple.tupleExact _) (wpAny_newObj_type (wpAny_pure ⟨_, rfl, wpAny_pure h⟩) htake))
end
end HT
namespace Dl
open PySem PySem.Spec PyProof.Rows L2 Kt
section
variable {X : Cx}
theorem pe_revA {e : Expr} {te : TE} {k : Nat} {p1 p2 p3 pos : Pos} (he : PE X e te) : PE X (.Subscript e (.Slice none none (some (.UnaryOp .USub (.Constant (.int 1) k p1) p2)) p3) pos)
    (fun σ H Q => te σ H fun x H1 => (∃ a xs, x = .ref a ∧ SqL X.K H1 a xs ∧ ∀ p, H1 p = none → Q (.ref p) (upd H1 p (.lst xs.reverse))) ∨ (∃ a xs, x = .ref a ∧ SqT X.K H1 a xs ∧ ∀ p, H1 p = none → Q (.ref p) (upd H1 p (.tup xs.reverse)))) := by
  refine ⟨fun pins s σ H Q I h => ?_⟩
  refine Subscript_ (thn (he.run pins s σ H _ I h) fun v s1 ⟨x, H1, I1, r1, q1⟩ => ?_)
  have go : ∀ {a : Addr}, x = .ref a → v = .ref a := fun e => by subst e; cases r1; rfl
  have hst : PO X (some (.UnaryOp .USub (.Constant (.int 1) k p1) p2)) (tPart (tUn (rU fun i => .int (-i)) (tC (.int 1)))) := po_some (pe_un un_neg pe_int)
  refine wpAny_Slice (thn (po_none.run pins s1 σ H1 (fun o H2 => o = none ∧ H2 = H1) I1 ⟨rfl, rfl⟩) fun vl s2 ⟨l, H2, I2, pl, el, e2⟩ => ?_)
  subst el e2
  refine thn (po_none.run pins s2 σ H2 (fun o H3 => o = none ∧ H3 = H2) I2 ⟨rfl, rfl⟩) fun vu s3 ⟨u, H3, I3, pu, eu, e3⟩ => ?_
  subst eu e3
  refine thn (hst.run pins s3 σ H3 (fun o H4 => o = some (-1) ∧ H4 = H3) I3 ⟨1, rfl, -1, rfl, rfl, rfl⟩) fun vs s4 ⟨o, H4, I4, ps, eo, e4⟩ => ?_
  subst eo e4
  have I5 : Inv X pins σ H4 { s4 with heap := s4.heap.push { cls := .type "slice", data := .fields #[vl, vu, vs] } } := I4.kept (t' := s4.toks) fun b ob q => Heap.get?_push_of_some _ q
  rcases q1 with ⟨a, xs, ex, hx, q⟩ | ⟨a, xs, ex, hx, q⟩
  · obtain rfl := go ex
    obtain ⟨its, r, ht, hz⟩ := I5.list hx
    have hlen := r.length
    show wpAny (model X.prog X.w) X.A (subscriptTail e (.Slice none none (some (.UnaryOp .USub (.Constant (.int 1) k p1) p2)) p3) (.ref a) (.ref s4.heap.objs.size)) (EP X pins σ Q) X.xe { s4 with heap := s4.heap.push { cls := .type "slice", data := .fields #[vl, vu, vs] } }
    refine tail_any (ops := [.ref a, .ref s4.heap.objs.size]) ht.isList.typeIs (PySem.slot_list_getitem.lookup) ?_ (by with_unfolding_all rfl)
    refine wpAny_getItem_list_slice ht.isList (Heap.IsSliceOf.new _ vl vu vs) pl pu ps (by decide) ?_ (by rw [List.size_toArray]; omega)
    rw [PySem.W.krv_pick]
    refine ⟨.ref _, _, I5.laid (t' := s4.toks) (o := .lst xs.reverse) (fun b ob q => Heap.get?_push_of_some _ q) (Nat.le_refl _) ?_, rfl, q _ (I5.hok.fresh (Nat.le_refl _))⟩
    exact ⟨by rw [List.length_reverse]; exact hz, _, 0, r.reverse, Heap.get?_push_size _ rfl⟩
  · obtain rfl := go ex
    obtain ⟨its, r, ht, hz⟩ := I5.tuple hx
    have hlen := r.length
    have el : vl = Value.none := by cases pl; rfl
    have eu : vu = Value.none := by cases pu; rfl
    subst el eu
    show wpAny (model X.prog X.w) X.A (subscriptTail e (.Slice none none (some (.UnaryOp .USub (.Constant (.int 1) k p1) p2)) p3) (.ref a) (.ref s4.heap.objs.size)) (EP X pins σ Q) X.xe { s4 with heap := s4.heap.push { cls := .type "slice", data := .fields #[.none, .none, vs] } }
    refine tail_any (ops := [.ref a, .ref s4.heap.objs.size]) ht.typeIs PyProof.Rows.slot_tuple_getitem.lookup ?_ (by with_unfolding_all rfl)
    refine HT.getItem_tuple_rev ht (Heap.IsSliceOf.new _ .none .none vs) ps ?_ (by rw [List.size_toArray]; omega)
    refine ⟨.ref _, _, I5.laid (t' := s4.toks) (o := .tup xs.reverse) (fun b ob q => Heap.get?_push_of_some _ q) (Nat.le_refl _) ?_, rfl, q _ (I5.hok.fresh (Nat.le_refl _))⟩
    exact ⟨by rw [List.length_reverse]; exact hz, its.reverse, r.reverse, ⟨_, Heap.get?_push_size _ rfl, rfl, 0, rfl⟩⟩
end
section
variable {K : PySem.W.Frag} {X : Cx} {e a b c tg : Expr} {es : List Expr} {pos p : Pos} {te ta tb tc : TD} {tA : TDA} {S : List Addr} {H : Hp} {x : Str} {kk : Nat} {f : Fr} {σ : Sl} {ρ : Rho} {pd : List (V × PyData)} {d : PyData}
def dRev (te : TD) : TD := fun ρ Q => te ρ fun d ρ1 => match d with
  | .list xs => Q (.list xs.reverse) ρ1
  | .tuple xs => Q (.tuple xs.reverse) ρ1
  | _ => False
theorem de_rev {k : Nat} {p1 p2 p3 : Pos} (hK : X.K = K) (he : DE K X e te) : DE K X (.Subscript e (.Slice none none (some (.UnaryOp .USub (.Constant (.int 1) k p1) p2)) p3) pos) (dRev te) := by
  subst hK
  refine wkE (pe_revA he) fun σ H Q h => ?_
  obtain ⟨f, ρ, pd, A, R, t, k⟩ := h
  refine ⟨f, ρ, pd, _, R, t, fun d ρ1 x H1 q R1 => ?_⟩
  cases d with
  | list ds =>
    obtain ⟨p, us, rfl, hp, gp⟩ := R1.top.inv_list
    exact .inl ⟨p, us, rfl, SqL.of (Ob.of hp).2, fun r hr => k _ ρ1 _ _ q ((R1.pop.keep (Kp.new hr)).push (.lstA (ob_new hr R1.alloc) (gp.rev.new hr)))⟩
  | tuple ds =>
    obtain ⟨p, us, rfl, hp, gp⟩ := R1.top.inv_tup
    exact .inr ⟨p, us, rfl, obT hp, fun r hr => k _ ρ1 _ _ q ((R1.pop.keep (Kp.new hr)).push (.tupA (ob_new hr R1.alloc) (gp.rev.new hr)))⟩
  | _ => exact q.elim
theorem dpv (i : Nat) {x : Str} {pos : Pos} (hN : X.N[i]? = some x := by rfl) (hv : Vis X.env.scope x := by first | exact Or.inl rfl | exact Or.inr (Or.inl rfl) | exact Or.inr (Or.inr rfl)) (hd : (x == ("__debug__" : Str)) = false := by decide)
    (hcd : (x == ("__classdict__" : Str)) = false := by decide) : DE K X (.Name x pos) (dv i) := de_var hN hv hd hcd

/-! ### a list of the body's own -/
theorem Rel.own_new {i : Nat} (R : Rel K f σ H ρ pd) (h : freeSlot ρ[i]? = true) {a : Addr} (ha : H a = none) : Rel K f (σ.set i (some (.ref a))) (upd H a (.lst [])) (ρ.set i (some (.own a []))) pd := by
  have hi : i < ρ.length := by
    cases q : ρ[i]? with
    | none => rw [q] at h; cases h
    | some _ => exact (List.getElem?_eq_some_iff.mp q).1
  have aS : a ∉ Sx f ρ := fun z => (R.alloc a z).ne ha
  -- who is own behind it
  have ho : ∀ b, b ∈ owns (ρ.set i (some (.own a []))) ↔ b = a ∨ b ∈ owns ρ := by
    intro b
    rw [mem_owns, mem_owns]
    constructor
    · rintro ⟨j, ds, hj⟩
      by_cases e : i = j
      · subst e
        rw [List.getElem?_set_self hi] at hj
        cases hj
        exact .inl rfl
      · rw [List.getElem?_set_ne e] at hj
        exact .inr ⟨j, ds, hj⟩
    · rintro (z | ⟨j, ds, hj⟩)
      · subst z
        exact ⟨i, [], by rw [List.getElem?_set_self hi]⟩
      · refine ⟨j, ds, ?_⟩
        by_cases e : i = j
        · subst e
          rw [hj] at h
          cases h
        · rw [List.getElem?_set_ne e]; exact hj
  have hS : ∀ b, b ∈ Sx f (ρ.set i (some (.own a []))) ↔ b = a ∨ b ∈ Sx f ρ := by
    intro b
    unfold Sx
    simp only [List.mem_append, ho]
    constructor
    · rintro (z | z | z | z)
      · exact .inr (.inl z)
      · exact .inr (.inr (.inl z))
      · exact .inl z
      · exact .inr (.inr (.inr z))
    · rintro (z | z | z | z)
      · exact .inr (.inr (.inl z))
      · exact .inl z
      · exact .inr (.inl z)
      · exact .inr (.inr (.inr z))
  have sm : Same (Ob (Sx f ρ) H) (Ob (Sx f (ρ.set i (some (.own a [])))) (upd H a (.lst []))) := fun b o e => by
    obtain ⟨h1, h2⟩ := Ob.of e
    have ne : b ≠ a := fun z => by rw [z, ha] at h2; cases h2
    exact Ob.mk (fun z => by rcases (hS b).mp z with w | w; exact ne w; exact h1 w) (by rw [upd_ne ne]; exact h2)
  have k : Kp [] H (upd H a (.lst [])) := Kp.new ha
  have nod : (owns (ρ.set i (some (.own a [])))).Nodup := by
    have n0 := R.nod
    have na : a ∉ owns ρ := fun z => aS (List.mem_append_right _ (List.mem_append_right _ z))
    have key : ∀ (ρ : Rho) (i : Nat), freeSlot ρ[i]? = true → (owns ρ).Nodup → a ∉ owns ρ → (owns (ρ.set i (some (.own a [])))).Nodup ∧ ∀ b, b ∈ owns (ρ.set i (some (.own a []))) → b = a ∨ b ∈ owns ρ := by
      intro ρ
      induction ρ with
      | nil => intro i h; simp [freeSlot] at h
      | cons p ρ ih =>
        intro i h hn ha
        cases i with
        | zero =>
          have e : owns (p :: ρ) = owns ρ := by
            unfold owns
            cases p with
            | none => rfl
            | some q =>
              cases q with
              | dat _ => rfl
              | deck => simp [freeSlot] at h
              | own _ _ => simp [freeSlot] at h
          have e2 : owns ((p :: ρ).set 0 (some (.own a []))) = a :: owns ρ := rfl
          rw [e2, e]
          rw [e] at hn ha
          exact ⟨List.nodup_cons.mpr ⟨ha, hn⟩, fun b hb => List.mem_cons.mp hb⟩
        | succ i =>
          have hh : freeSlot ρ[i]? = true := by simpa using h
          have e2 : owns ((p :: ρ).set (i + 1) (some (.own a []))) = (match ownA p with | some b => b :: owns (ρ.set i (some (.own a []))) | none => owns (ρ.set i (some (.own a [])))) := by
            unfold owns
            rw [List.set_cons_succ, List.filterMap_cons]
            cases ownA p <;> rfl
          have e1 : owns (p :: ρ) = (match ownA p with | some b => b :: owns ρ | none => owns ρ) := by
            unfold owns
            rw [List.filterMap_cons]
            cases ownA p <;> rfl
          rw [e2]
          rw [e1] at hn ha ⊢
          cases q : ownA p with
          | none =>
            rw [q] at hn ha
            exact ih i hh hn ha
          | some b =>
            rw [q] at hn ha
            obtain ⟨n1, n2⟩ := List.nodup_cons.mp hn
            obtain ⟨i1, i2⟩ := ih i hh n2 (fun z => ha (List.mem_cons_of_mem _ z))
            refine ⟨List.nodup_cons.mpr ⟨fun z => ?_, i1⟩, fun c hc => ?_⟩
            · rcases i2 b z with w | w
              · exact ha (by rw [w]; exact List.mem_cons_self)
              · exact n1 w
            · rcases List.mem_cons.mp hc with w | w
              · exact .inr (by rw [w]; exact List.mem_cons_self)
              · rcases i2 c w with w | w
                · exact .inl w
                · exact .inr (List.mem_cons_of_mem _ w)
    exact (key ρ i h n0 na).1
  refine ⟨R.kp.trans (k.mono (by simp)), fun a' c' q => (R.dk a' c' q).new ha, fun a' c' q => ?_, fun b hb => (R.dk0 b hb).keep k (by simp), R.hid, R.sys, nod, by rw [List.length_set, List.length_set]; exact R.len, fun j p hp => ?_, fun p hp => (R.pend p hp).same sm⟩
  · obtain ⟨h1, h2, h3, h4⟩ := R.dkD a' c' q
    refine ⟨h1, h2, fun z => ?_, fun z => ?_⟩
    · rcases (ho a').mp z with w | w
      · exact (R.dk0 a' h1).ne (by rw [w]; exact ha)
      · exact h3 w
    · rcases (ho c').mp z with w | w
      · exact (R.dk0 c' h2).ne (by rw [w]; exact ha)
      · exact h4 w
  · by_cases e : i = j
    · subst e
      rw [List.getElem?_set_self hi] at hp
      cases hp
      refine ⟨.ref a, by rw [List.getElem?_set_self (by rw [R.len]; exact hi)], .own upd_same ?_ .nil⟩
      refine .inl ?_
      cases q : f.H0 a with
      | none => rfl
      | some o =>
        by_cases hD : a ∈ f.D
        · exact absurd ha (R.dk0 a hD).ne
        · have := R.kp a o hD q
          rw [ha] at this
          cases this
    · rw [List.getElem?_set_ne e] at hp
      obtain ⟨v, hv, s⟩ := R.sl j p hp
      refine ⟨v, by rw [List.getElem?_set_ne e]; exact hv, ?_⟩
      cases s with
      | dat h => exact .dat (h.same sm)
      | deck h => exact .deck h
      | own h h0 hd => exact .own (k _ _ (by simp) h) h0 (hd.same sm)
/-- the own list in the slot i is changed -/
theorem Rel.own_put {i : Nat} {a : Addr} {ds es : List PyData} {ys : List V} (R : Rel K f σ H ρ pd) (h : ρ[i]? = some (some (.own a ds))) (hy : DqAll K (Ob (Sx f ρ) H) ys es) : Rel K f σ (upd H a (.lst ys)) (ρ.set i (some (.own a es))) pd := by
  have hi : i < ρ.length := (List.getElem?_eq_some_iff.mp h).1
  have e : owns (ρ.set i (some (.own a es))) = owns ρ := by
    have key : ∀ (ρ : Rho) (i : Nat), ρ[i]? = some (some (.own a ds)) → owns (ρ.set i (some (.own a es))) = owns ρ := by
      intro ρ
      induction ρ with
      | nil => intro i h; simp at h
      | cons p ρ ih =>
        intro i h
        cases i with
        | zero => simp at h; subst h; rfl
        | succ i =>
          have := ih i (by simpa using h)
          unfold owns at this ⊢
          rw [List.set_cons_succ, List.filterMap_cons, List.filterMap_cons, this]
    exact key ρ i h
  have eS : Sx f (ρ.set i (some (.own a es))) = Sx f ρ := by unfold Sx; rw [e]
  have ma : a ∈ owns ρ := mem_owns.mpr ⟨i, ds, h⟩
  have aS : a ∈ Sx f ρ := List.mem_append_right _ (List.mem_append_right _ ma)
  have sm : Same (Ob (Sx f ρ) H) (Ob (Sx f ρ) (upd H a (.lst ys))) := fun b o q => by
    obtain ⟨h1, h2⟩ := Ob.of q
    exact Ob.mk h1 (by rw [upd_ne (fun z => h1 (by rw [z]; exact aS))]; exact h2)
  have ne : ∀ b, AtMu H b → AtMu (upd H a (.lst ys)) b := fun b hb => by
    by_cases z : b = a
    · rw [z]; exact .lst upd_same
    · obtain ⟨u, e, m⟩ := hb
      exact ⟨u, by rw [upd_ne z]; exact e, m⟩
  obtain ⟨va, hva, sa⟩ := R.sl i _ h
  refine ⟨?_, fun a' c' q => ?_, fun a' c' q => by rw [e]; exact R.dkD a' c' q, fun b hb => ne b (R.dk0 b hb), R.hid, R.sys, by rw [e]; exact R.nod, by rw [List.length_set]; exact R.len, fun j p hp => ?_, fun p hp => by rw [eS]; exact (R.pend p hp).same sm⟩
  · intro b o nb q
    have q2 := R.kp b o nb q
    rw [upd_ne]
    · exact q2
    · intro z
      subst z
      cases sa with
      | own _ h0 _ =>
        rcases h0 with h0 | h0
        · rw [h0] at q; cases q
        · exact nb h0
  · obtain ⟨_, _, h3, h4⟩ := R.dkD a' c' q
    exact (R.dk a' c' q).put (fun z => h3 (by rw [← z]; exact ma)) (fun z => h4 (by rw [← z]; exact ma))
  · by_cases z : i = j
    · subst z
      rw [List.getElem?_set_self hi] at hp
      cases hp
      refine ⟨va, hva, ?_⟩
      cases sa with
      | own h' h0 hd => exact .own upd_same h0 (by rw [eS]; exact hy.same sm)
    · rw [List.getElem?_set_ne z] at hp
      obtain ⟨v, hv, s⟩ := R.sl j p hp
      refine ⟨v, hv, ?_⟩
      rw [eS]
      cases s with
      | dat h => exact .dat (h.same sm)
      | deck h => exact .deck h
      | @own b xs es' h' h0 hd =>
        refine .own ?_ h0 (hd.same sm)
        rw [upd_ne]
        · exact h'
        · intro w
          subst w
          -- two slots with one list
          have nd := R.nod
          have key : ∀ (ρ : Rho) (i j : Nat) (b : Addr) (ds es : List PyData), (owns ρ).Nodup → ρ[i]? = some (some (.own b ds)) → ρ[j]? = some (some (.own b es)) → i = j := by
            intro ρ
            induction ρ with
            | nil => intro i j b ds es _ h; simp at h
            | cons p ρ ih =>
              intro i j b ds es hn h1 h2
              have e1 : owns (p :: ρ) = (match ownA p with | some b => b :: owns ρ | none => owns ρ) := by
                unfold owns
                rw [List.filterMap_cons]
                cases ownA p <;> rfl
              rw [e1] at hn
              cases i with
              | zero =>
                simp at h1
                subst h1
                simp only [ownA] at hn
                cases j with
                | zero => rfl
                | succ j => exact absurd (mem_owns.mpr ⟨j, es, by simpa using h2⟩) (List.nodup_cons.mp hn).1
              | succ i =>
                cases j with
                | zero =>
                  simp at h2
                  subst h2
                  simp only [ownA] at hn
                  exact absurd (mem_owns.mpr ⟨i, ds, by simpa using h1⟩) (List.nodup_cons.mp hn).1
                | succ j =>
                  have hn' : (owns ρ).Nodup := by
                    cases q : ownA p with
                    | none => rw [q] at hn; exact hn
                    | some _ => rw [q] at hn; exact (List.nodup_cons.mp hn).2
                  rw [ih i j b ds es hn' (by simpa using h1) (by simpa using h2)]
          exact z (key ρ i j b ds es' nd h hp)
/-- x = [] -/
def sOwn (i : Nat) : TSD := fun E ρ => freeSlot ρ[i]? = true ∧ ∀ a, E.nx (ρ.set i (some (.own a [])))
theorem ds_own {i : Nat} {x : Str} {pos' p2 : Pos} (hN : X.N.Nodup) (hi : X.N[i]? = some x) (hx : Loc X.env.scope x) (hs : swapsWith (.List [] p2) (some (.Name x pos')) pos.line X.env = pure false := by rfl) (hf : X.fn x = true ∨ X.env.scope.names.lookup x = some .local := by first | exact .inl rfl | exact .inr rfl | assumption) :
    DS K X (.Assign [.Name x pos'] (.List [] p2) pos) (sOwn i) := by
  refine wkS (ps_set hN hi hx (pe_lst pa_nil) hs hf) fun D σ H h => ?_
  obtain ⟨f, ρ, pd, E, R, t, L⟩ := h
  exact ⟨Nat.zero_le _, fun p hp => L.nx _ _ _ (t.2 p) (R.own_new t.1 hp)⟩
def isOwn : Option (Option Dv) → Option (Addr × List PyData)
  | some (some (.own a ds)) => some (a, ds)
  | _ => none
theorem isOwn_some {o : Option (Option Dv)} {a : Addr} {ds : List PyData} (h : isOwn o = some (a, ds)) : o = some (some (.own a ds)) := by
  unfold isOwn at h
  split at h
  · cases h; rfl
  · cases h
/-- x.append(e) -/
def dApp (i : Nat) (te : TD) : TD := fun ρ Q => (isOwn ρ[i]?).isSome = true ∧ te ρ fun d ρ1 => match isOwn ρ1[i]? with
  | some (a, ds) => ds.length < SZ ∧ Q .none (ρ1.set i (some (.own a (ds ++ [d]))))
  | none => False
theorem own_slot {i : Nat} (R : Rel K f σ H ρ pd) (h : (isOwn ρ[i]?).isSome = true) : ∃ l xs, σ[i]? = some (some (.ref l)) ∧ H l = some (.lst xs) := by
  cases z : isOwn ρ[i]? with
  | none => rw [z] at h; cases h
  | some o =>
    obtain ⟨a, ds⟩ := o
    obtain ⟨w, hw, s⟩ := R.sl i _ (isOwn_some z)
    cases s with
    | own h h0 hd => exact ⟨a, _, hw, h⟩
theorem de_append {i : Nat} {x : Str} {px apos cpos : Pos} (hN : X.N[i]? = some x) (hv : Vis X.env.scope x) (he : DE K X e te) (hd : (x == ("__debug__" : Str)) = false := by decide) (hcd : (x == ("__classdict__" : Str)) = false := by decide)
    (hbase : attributeBase (.Name x px) "append" X.env (eval (.Name x px) X.env) = eval (.Name x px) X.env := by rfl)
    (hfew : ((backTo cpos (starEach (e :: []) X.env)).all (fun x => !x.1) && (backToKw cpos (keywordEach [] X.env)).all (fun x => x.1.isSome)
      && decide ((e :: []).length + ([] : List Keyword).length + (if ([] : List Keyword).isEmpty then 0 else 1) < 30)) = true := by rfl)
    (hline : (apos.endLine == cpos.line) = true := by rfl) (hs : starEach (e :: []) X.env = (false, eval e X.env) :: starEach [] X.env := by rfl) (hplain : (backTo cpos (starEach [] X.env)).any (·.1) = false := by rfl) :
    DE K X (.Call (.Attribute (.Name x px) "append" apos) [e] [] cpos) (dApp i te) := by
  refine wkE (pe_bm PySem.F.plainAttrs_list PySem.F.slot_list_append PySem.F.type_list_append mt_append (pe_var hN hv hd hcd) (pa_cons he pa_nil hs) hbase hfew hline hs hplain) fun σ H Q h => ?_
  obtain ⟨f, ρ, pd, A, R, ⟨hown, t⟩, k⟩ := h
  obtain ⟨l, xs, hl, hx⟩ := own_slot R hown
  refine ⟨.ref l, hl, .inl ⟨rfl, xs, SqL.of hx⟩, f, ρ, pd, _, R, t, fun d ρ1 y H1 q R1 => ?_⟩
  cases z : isOwn ρ1[i]? with
  | none => simp only [z] at q
  | some o =>
    obtain ⟨a, ds⟩ := o
    simp only [z] at q
    have z2 := isOwn_some z
    obtain ⟨w, hw, s⟩ := R1.sl i _ z2
    rw [hl] at hw
    cases hw
    cases s with
    | own h h0 hd =>
      refine ⟨l, _, y, rfl, rfl, h, ?_, k _ _ _ _ q.2 ?_⟩
      · rw [hd.1]; exact Nat.lt_of_lt_of_le q.1 (by decide)
      · exact (R1.pop.own_put z2 (hd.app (.cons R1.top .nil))).push .non
end
end Dl

set_option Elab.async false
set_option linter.all false
set_option maxRecDepth 100000
set_option maxHeartbeats 4000000
namespace Dl
open PySem PySem.Spec PyProof.Rows L2 Kt
/-! ### pairs of ints -/
def pD (r : Int × Int) : PyData := .tuple [.int r.1, .int r.2]
def PrAt (H : Hp) (x : V) (r : Int × Int) : Prop := ∃ t, x = .ref t ∧ H t = some (.tup [.int r.1, .int r.2])
abbrev Prs (H : Hp) : List V → List (Int × Int) → Prop := Paired (PrAt H)
def keyP (H : Hp) (x : V) : Int × Int := match x with
  | .ref t => match H t with
    | some (.tup [.int i, .int j]) => (i, j)
    | _ => (0, 0)
  | _ => (0, 0)
theorem keyP_at {H : Hp} {x : V} {r : Int × Int} (h : PrAt H x r) : keyP H x = r := by
  obtain ⟨t, rfl, e⟩ := h
  unfold keyP
  simp only [e]
theorem Prs.keys {H : Hp} : ∀ {xs : List V} {rs : List (Int × Int)}, Prs H xs rs → xs.map (keyP H) = rs ∧ ∀ x ∈ xs, PrAt H x (keyP H x)
  | _, _, .nil => ⟨rfl, fun _ h => absurd h (by simp)⟩
  | _, _, .cons h t => by
    obtain ⟨e1, e2⟩ := Prs.keys t
    refine ⟨by rw [List.map_cons, keyP_at h, e1], fun x hx => ?_⟩
    rcases List.mem_cons.mp hx with e | hx
    · rw [e, keyP_at h]
      exact h
    · exact e2 x hx
theorem prs_map {H : Hp} : ∀ {ys : List V}, (∀ x ∈ ys, PrAt H x (keyP H x)) → Prs H ys (ys.map (keyP H))
  | [], _ => .nil
  | y :: ys, h => .cons (h y List.mem_cons_self) (prs_map fun x hx => h x (List.mem_cons_of_mem _ hx))
theorem prs_sorted {H : Hp} {xs ys : List V} {rs : List (Int × Int)} (hp : Prs H xs rs) (h1 : SrtO.Srtd (ltP (keyP H)) ys) (h2 : SrtO.Stb (ltP (keyP H)) ys xs) :
    (ys.map (keyP H)).Perm rs ∧ (ys.map (keyP H)).Pairwise (fun u v => SrtO.lexB v u = false) ∧ Prs H ys (ys.map (keyP H)) := by
  obtain ⟨e1, e2⟩ := hp.keys
  refine ⟨?_, List.pairwise_map.mpr h1, prs_map fun x hx => e2 x (h2.perm.mem_iff.mp hx)⟩
  rw [← e1]
  exact h2.perm.map _
/-! (a, b) in pairs -/
theorem eqv_pair (r q : Int × Int) : PyData.eqv (pD r) (pD q) = decide (r = q) := by
  obtain ⟨a, b⟩ := r
  obtain ⟨c, d⟩ := q
  unfold pD
  simp only [PyData.eqv, PyData.eqvAll, Bool.and_true]
  by_cases h1 : a = c <;> by_cases h2 : b = d <;> simp [h1, h2]
theorem any_pair (rs : List (Int × Int)) (q : Int × Int) : ((rs.map pD).any fun z => PyData.eqv z (pD q)) = decide (q ∈ rs) := by
  induction rs with
  | nil => rfl
  | cons r rs ih =>
    rw [List.map_cons, List.any_cons, ih, eqv_pair]
    by_cases h : r = q
    · simp [h]
    · have h' : ¬ q = r := fun e => h e.symm
      simp [h, h']
theorem canLay_pairs : ∀ rs : List (Int × Int), PyData.canLayAll0 (rs.map pD) = true
  | [] => by simp [PyData.canLayAll0]
  | r :: rs => by simp [PyData.canLayAll0, PyData.canLay0, pD, canLay_pairs rs]
theorem depth_pairs : ∀ rs : List (Int × Int), PyData.depthAll (rs.map pD) ≤ 1
  | [] => by simp [PyData.depthAll]
  | r :: rs => by
    have := depth_pairs rs
    simp only [List.map_cons, PyData.depthAll, pD, PyData.depth]
    omega
theorem shp_pairs (rs : List (Int × Int)) : SeqAt.shaped (.list (rs.map pD)) = true := by
  refine shaped_of (by simp [PyData.canLay0, canLay_pairs]) ?_
  have := depth_pairs rs
  simp only [PyData.depth]
  omega
theorem shp_pair (r : Int × Int) : SeqAt.shaped (pD r) = true := shaped_of (by simp [pD, PyData.canLay0, PyData.canLayAll0]) (by simp [pD, PyData.depth, PyData.depthAll])
section
variable {K : PySem.W.Frag} {S : List Addr} {H : Hp} {X : Cx} {e a b c tg : Expr} {pos p : Pos} {ta te : TD} {f : Fr} {σ : Sl} {ρ : Rho} {pd : List (V × PyData)} {kk : Nat}
theorem prs_dq : ∀ {xs : List V} {rs : List (Int × Int)}, DqAll K (Ob S H) xs (rs.map pD) → Prs H xs rs
  | _, [], h => by rw [h.inv_nil]; exact .nil
  | _, r :: rs, h => by
    obtain ⟨v, t, rfl, hv, ht⟩ := h.inv_cons
    obtain ⟨a, us, rfl, ha, ga⟩ := hv.inv_tup
    obtain ⟨v1, t1, rfl, h1, g1⟩ := ga.inv_cons
    obtain ⟨v2, t2, rfl, h2, g2⟩ := g1.inv_cons
    obtain rfl := g2.inv_nil
    obtain rfl := h1.inv_int
    obtain rfl := h2.inv_int
    exact .cons ⟨a, rfl, (Ob.of ha).2⟩ (prs_dq ht)
theorem mem_dq {xs : List V} {ds : List PyData} {x : V} (g : DqAll K (Ob S H) xs ds) (h : x ∈ xs) : ∃ d ∈ ds, Dq K (Ob S H) x d := by
  obtain ⟨i, hi⟩ := List.mem_iff_getElem?.mp h
  have hl := (List.getElem?_eq_some_iff.mp hi).1
  have hl2 : i < ds.length := by rw [← g.1]; exact hl
  have hd : ds[i]? = some ds[i] := List.getElem?_eq_getElem hl2
  exact ⟨ds[i], List.mem_of_getElem? hd, g.2 i x _ hi hd⟩
theorem dq_pair {x : V} {r q : Int × Int} (h : Dq K (Ob S H) x (pD r)) (h2 : PrAt H x q) : r = q := by
  obtain ⟨t, rfl, e⟩ := h2
  obtain ⟨a, us, ea, ha, ga⟩ := h.inv_tup
  cases ea
  have := (Ob.of ha).2
  rw [e] at this
  cases this
  have e1 := (ga.2 0 _ _ rfl rfl).inv_int
  have e2 := (ga.2 1 _ _ rfl rfl).inv_int
  obtain ⟨r1, r2⟩ := r
  obtain ⟨q1, q2⟩ := q
  simp at e1 e2
  rw [e1, e2]
theorem dq_of_prs {xs ys : List V} {rs qs : List (Int × Int)} (g : DqAll K (Ob S H) xs (rs.map pD)) (h : Prs H ys qs) (hm : ∀ y ∈ ys, y ∈ xs) : DqAll K (Ob S H) ys (qs.map pD) := by
  induction h with
  | nil => exact .nil
  | cons hy ht ih =>
    rename_i y q ys qs
    refine .cons ?_ (ih fun z hz => hm z (List.mem_cons_of_mem _ hz))
    obtain ⟨d, hd, q1⟩ := mem_dq g (hm y List.mem_cons_self)
    obtain ⟨r, _, rfl⟩ := List.mem_map.mp hd
    rw [← dq_pair q1 hy]
    exact q1
def asPairs : List PyData → Option (List (Int × Int))
  | [] => some []
  | .tuple [.int i, .int j] :: ds => (asPairs ds).map ((i, j) :: ·)
  | _ => none
theorem asPairs_some : ∀ {ds : List PyData} {rs : List (Int × Int)}, asPairs ds = some rs → ds = rs.map pD := by
  intro ds
  induction ds with
  | nil => intro rs h; cases h; rfl
  | cons d ds ih =>
    intro rs h
    unfold asPairs at h
    split at h
    · rename_i e; cases e
    · rename_i i j ds' e
      cases e
      cases q : asPairs ds with
      | none => rw [q] at h; cases h
      | some ms =>
        rw [q] at h
        cases h
        rw [ih q]
        rfl
    · cases h
theorem asPairs_map : ∀ rs : List (Int × Int), asPairs (rs.map pD) = some rs
  | [] => rfl
  | r :: rs => by
    show (asPairs (rs.map pD)).map _ = _
    rw [asPairs_map rs]
    rfl
theorem asInts_map : ∀ ns : List Int, asInts (ns.map PyData.int) = some ns
  | [] => rfl
  | n :: ns => by
    show (asInts (ns.map PyData.int)).map _ = _
    rw [asInts_map ns]
    rfl
/-- sorted: of ints, of pairs of ints -/
def dSortE (ds : List PyData) (A : PyData → Prop) : Prop := (∃ ns : List Int, ds = ns.map PyData.int ∧ ∀ ms : List Int, ms.Perm ns → ms.Pairwise (· ≤ ·) → A (.list (ms.map PyData.int))) ∨
  ∃ rs : List (Int × Int), ds = rs.map pD ∧ ∀ ss : List (Int × Int), ss.Perm rs → ss.Pairwise (fun u v => SrtO.lexB v u = false) → A (.list (ss.map pD))
def dSorted : RDn := fun ds A => match ds with
  | [.list xs] => dSortE xs A
  | _ => False
theorem sort_el {q : Addr} {xs : List V} {ds : List PyData} {A : PyData → Prop} {Q : VK} (al : Al S H) (hq : H q = some (.lst xs)) (g : DqAll K (Ob S H) xs ds) (h : dSortE ds A) (k : ∀ z v H', A z → Kp [] H H' → Dq K (Ob S H') v z → Q v H') :
    rSortedI K [.ref q] H Q ∨ rSortedPO K [.ref q] H Q := by
  rcases h with ⟨ns, rfl, h⟩ | ⟨rs, rfl, h⟩
  · refine .inl ⟨q, ns, rfl, SqL.of (by rw [← ints_dq g]; exact hq), fun ms r hp hs hr => ?_⟩
    refine k _ _ _ (h ms hp hs) (Kp.new hr) (.lstA (ob_new hr al) (DqAll.new ?_ hr))
    have : ∀ ms : List Int, DqAll K (Ob S H) (ms.map V.int) (ms.map PyData.int) := fun ms => by
      induction ms with
      | nil => exact .nil
      | cons m ms ih => exact .cons (.int m) ih
    exact this ms
  · have pr := prs_dq g
    refine .inr ⟨q, xs, keyP H, rfl, SqL.of hq, fun x hx => ?_, fun ys r h1 h2 hr => ?_⟩
    · obtain ⟨t, e1, e2⟩ := pr.keys.2 x hx
      exact ⟨t, e1, e2⟩
    · obtain ⟨s1, s2, s3⟩ := prs_sorted pr h1 h2
      refine k _ _ _ (h _ s1 s2) (Kp.new hr) (.lstA (ob_new hr al) (DqAll.new (dq_of_prs g s3 fun y hy => h2.perm.mem_iff.mp hy) hr))
theorem od_sorted : OpDn K (fun vs H Q => rSortedI K vs H Q ∨ rSortedPO K vs H Q) dSorted := by
  intro S H xs ds A Q al sy hx h k
  unfold dSorted at h
  split at h
  · obtain ⟨v, r, rfl, hv, hr⟩ := hx.inv_cons
    obtain rfl := hr.inv_nil
    obtain ⟨q, us, rfl, hp, gp⟩ := hv.inv_list
    exact sort_el al (Ob.of hp).2 gp h k
  · exact h.elim
theorem op_sorted : CallR X (.builtin "sorted") (fun vs H Q => rSortedI X.K vs H Q ∨ rSortedPO X.K vs H Q) := cr_sortedI.or cr_sortedPO
/-! own lists, read -/
theorem own_data {i : Nat} {o : Addr} {ds : List PyData} (R : Rel K f σ H ρ pd) (h : ρ[i]? = some (some (.own o ds))) : ∃ xs, σ[i]? = some (some (.ref o)) ∧ H o = some (.lst xs) ∧ DqAll K (Ob (Sx f ρ) H) xs ds := by
  obtain ⟨w, hw, s⟩ := R.sl i _ h
  cases s with
  | own h h0 hd => exact ⟨_, hw, h, hd⟩
def dSortedO (i : Nat) : TD := fun ρ Q => match isOwn ρ[i]? with
  | some (_, ds) => dSortE ds fun z => Q z ρ
  | none => False
theorem de_sortedO {i : Nat} {x y : Str} {py : Pos} (hK : X.K = K) (hg : Gl X x) (hm : X.mg x = none) (hv : bootBuiltins x = some (.builtin "sorted")) (hN : X.N[i]? = some y) (hvy : Vis X.env.scope y) (hn : x ≠ "__name__" := by decide) (hdb : (x == ("__debug__" : Str)) = false := by decide)
    (hd : (y == ("__debug__" : Str)) = false := by decide) (hcd : (y == ("__classdict__" : Str)) = false := by decide)
    (he : starEach (.Name y py :: []) X.env = (false, eval (.Name y py) X.env) :: starEach [] X.env := by rfl) (hpl : (backTo pos (starEach [] X.env)).any (·.1) = false := by rfl) : DE K X (.Call (.Name x p) [.Name y py] [] pos) (dSortedO i) := by
  subst hK
  refine wkE (pe_callB op_sorted hg hm hv (pa_cons (pe_var hN hvy hd hcd) pa_nil he) hn hdb he hpl) fun σ H Q h => ?_
  obtain ⟨f, ρ, pd, A, R, t, k⟩ := h
  unfold dSortedO at t
  cases z : isOwn ρ[i]? with
  | none => simp only [z] at t
  | some o =>
    obtain ⟨o, ds⟩ := o
    simp only [z] at t
    obtain ⟨xs, hw, ho, g⟩ := own_data R (isOwn_some z)
    exact ⟨.ref o, hw, sort_el R.alloc ho g t fun z v H' az k' dz => k z ρ v H' az ((R.keep k').push dz)⟩
def dNotInO (i : Nat) (ta : TD) : TDT := fun ρ Q => ta ρ fun d ρ1 => match isOwn ρ1[i]? with
  | some (_, ds) => (SeqAt.shaped d = true ∧ SeqAt.shaped (.list ds) = true) ∧ Q (!inD d ds) ρ1
  | none => False
theorem dt_notInO {i : Nat} {y : Str} {py : Pos} (ha : DE K X a ta) (hK : X.K = K) (hr : Room kk X.A) (hN : X.N[i]? = some y) (hvy : Vis X.env.scope y) (hm : behindInMarks .NotIn (.Name y py) = false)
    (hd : (y == ("__debug__" : Str)) = false := by decide) (hcd : (y == ("__classdict__" : Str)) = false := by decide) : DT K X (.Compare a [.NotIn] [.Name y py] pos) (dNotInO i ta) := by
  subst hK
  refine wkT (pt_cmpR (op_notInD (units65 hr)) ha (pe_var hN hvy hd hcd) hm) fun σ H Q h => ?_
  obtain ⟨f, ρ, pd, A, R, t, k⟩ := h
  refine ⟨f, ρ, pd, _, R, t, fun d ρ1 v H1 q R1 => ?_⟩
  cases z : isOwn ρ1[i]? with
  | none => simp only [z] at q
  | some o =>
    obtain ⟨o, ds⟩ := o
    simp only [z] at q
    obtain ⟨xs, hw, ho, g⟩ := own_data R1 (isOwn_some z)
    refine ⟨.ref o, hw, d, ds, obDp R1.top (shp_lay q.1.1), .lst (SqL.of ho) ?_, q.1.1, q.1.2, _, rfl, k _ ρ1 H1 q.2 R1.pop⟩
    have lay := shp_lay q.1.2
    simp only [PyData.canLay0] at lay
    exact DpAll.same (Ob.le _ _) _ (dp_all_of g.1 fun i x d hx hd => (g.2 i x d hx hd).dp (canLay_at lay hd))
end
end Dl

set_option Elab.async false
set_option linter.all false
set_option maxRecDepth 100000
set_option maxHeartbeats 4000000
namespace Dl
open PySem PySem.Spec PyProof.Rows L2 Kt
/-- a def as callers have it -/
def Cal (P : Program) (w : World) (K : PySem.W.Frag) (mg : Str → Option Value) (base : Heap) (k : Nat) (x : Str) (ps : List Str) (sp : Sp) : Prop :=
  ∃ fa fd, FnOk P w K mg base CX0 k fa fd ps sp ∧ PySem.W.keepIn K (.ref fa) = true ∧ Binds K fd ps [] ∧ mg x = some (.ref fa)
/-- the parameters' values out of the keywords' ones -/
def permL {α : Type} (perm : List Nat) (us ws : List α) : List α := match us with
  | [] => perm.filterMap fun i => ws[i]?
  | _ :: _ => []
/-- .. called by names alone -/
def CalW (P : Program) (w : World) (K : PySem.W.Frag) (mg : Str → Option Value) (base : Heap) (k : Nat) (x : Str) (ps ks : List Str) (perm : List Nat) (sp : Sp) : Prop :=
  ∃ fa fd, FnOk P w K mg base CX0 k fa fd ps sp ∧ PySem.W.keepIn K (.ref fa) = true ∧ KBinds K fd ps ks (permL perm) (permL perm) ∧ mg x = some (.ref fa)
theorem permL_rel {perm : List Nat} : ∀ {vs : List V} {us : List Value} {zs : List V} {ws : List Value}, Vals vs us → Vals zs ws → Vals (permL perm vs zs) (permL perm us ws)
  | _, _, _, _, .cons _ _, _ => .nil
  | _, _, zs, ws, .nil, h => by
    show Vals (perm.filterMap fun i => zs[i]?) (perm.filterMap fun i => ws[i]?)
    induction perm with
    | nil => exact .nil
    | cons i perm ih =>
      rw [List.filterMap_cons, List.filterMap_cons]
      cases e : zs[i]? with
      | none =>
        have : ws[i]? = none := by
          rw [List.getElem?_eq_none_iff] at e ⊢
          rw [← h.length]; exact e
        rw [this]
        exact ih
      | some x =>
        obtain ⟨u, hu, r⟩ := h.get e
        rw [hu]
        exact .cons r ih
section
variable {K : PySem.W.Frag} {X : Cx} {e : Expr} {es : List Expr} {pos p kpos : Pos} {te : TD} {ta : TDA} {k : Nat} {x : Str} {ps ks : List Str} {g : RDn} {kws : List Keyword} {nm : Option Str} {perm : List Nat}
theorem de_callC (C : Cal X.prog X.w X.K X.mg X.base k x ps (spN K g)) (hr : Room k X.A) (hg : Gl X x) (ha : DA K X (e :: es) ta) (hdb : (x == ("__debug__" : Str)) = false := by decide) (he : starEach (e :: es) X.env = (false, eval e X.env) :: starEach es X.env := by rfl) (hpl : (backTo pos (starEach es X.env)).any (·.1) = false := by rfl) :
    DE K X (.Call (.Name x p) (e :: es) [] pos) (dCall g ta) := by
  obtain ⟨fa, fd, F, kp, b, m⟩ := C
  exact de_call F hr hg m kp b pass0 ha hdb he hpl
theorem de_callKC (C : Cal X.prog X.w X.K X.mg X.base k x ps (spK K g)) (hr : Room k X.A) (hg : Gl X x) {i : Nat} {n : Str} {pn : Pos} (hN : X.N[i]? = some n) (hv : Vis X.env.scope n) (ha : DA K X es ta) (hdb : (x == ("__debug__" : Str)) = false := by decide) (hd : (n == ("__debug__" : Str)) = false := by decide) (hcd : (n == ("__classdict__" : Str)) = false := by decide) (he : starEach (.Name n pn :: es) X.env = (false, eval (.Name n pn) X.env) :: starEach es X.env := by rfl) (hpl : (backTo pos (starEach es X.env)).any (·.1) = false := by rfl) :
    DE K X (.Call (.Name x p) (.Name n pn :: es) [] pos) (dCallK i g ta) := by
  obtain ⟨fa, fd, F, kp, b, m⟩ := C
  exact de_callK F hr hg m kp b pass0 hN hv ha hdb hd hcd he hpl
/-! ### all handed by name -/
abbrev DK (K : PySem.W.Frag) (X : Cx) (kws : List Keyword) (t : TDA) : Prop := PK X kws (lA K t)
theorem wkK {t t' : TA} (h : PK X kws t') (w : ∀ σ H Q, t σ H Q → t' σ H Q) : PK X kws t := ⟨fun p pins s σ H Q I q => h.run p pins s σ H Q I (w _ _ _ q)⟩
theorem dk_nil : DK K X [] aNil := wkK pk_nil fun σ H Q ⟨f, ρ, pd, A, R, t, k⟩ => k [] ρ [] H t rfl R
theorem dk_cons {u : TDA} (ha : DE K X e te) (hr : DK K X kws u) : DK K X (⟨nm, e, kpos⟩ :: kws) (aCons te u) := by
  refine wkK (pk_cons ha hr) fun σ H Q h => ?_
  obtain ⟨f, ρ, pd, A, R, t, k⟩ := h
  refine ⟨f, ρ, pd, fun d ρ1 => u ρ1 fun ds ρ2 => A (d :: ds) ρ2, R, t, fun d ρ1 x H1 q R1 => ⟨f, ρ1, (x, d) :: pd, _, R1, q, fun ds ρ2 us H2 q2 hl R2 => ?_⟩⟩
  refine k (d :: ds) ρ2 (x :: us) H2 q2 (by simp [hl]) (R2.sub fun p hp => ?_)
  simp at hp ⊢
  rcases hp with h | h | h
  · exact .inr (.inl h)
  · exact .inl h
  · exact .inr (.inr h)
def dCallP (g : RDn) (perm : List Nat) (ta : TDA) : TD := fun ρ Q => ta ρ fun ds ρ1 => g (permL perm [] ds) fun z => Q z ρ1
theorem perm_dq {S : List Addr} {H : Hp} {xs : List V} {ds : List PyData} (g : DqAll K (Ob S H) xs ds) : DqAll K (Ob S H) (permL perm [] xs) (permL perm [] ds) := by
  show DqAll K (Ob S H) (perm.filterMap fun i => xs[i]?) (perm.filterMap fun i => ds[i]?)
  induction perm with
  | nil => exact .nil
  | cons i perm ih =>
    rw [List.filterMap_cons, List.filterMap_cons]
    cases e : ds[i]? with
    | none =>
      have : xs[i]? = none := by
        rw [List.getElem?_eq_none_iff] at e ⊢
        rw [g.1]; exact e
      rw [this]
      exact ih
    | some d =>
      obtain ⟨x, hx, q⟩ := g.at e
      rw [hx]
      exact .cons q ih
theorem de_callKw (C : CalW X.prog X.w X.K X.mg X.base k x ps ks perm (spN K g)) (hr : Room k X.A) (hg : Gl X x) (hkw : DK K X kws ta) (hall : (backToKw pos (keywordEach kws X.env)).all (·.1.isSome) = true := by rfl) (hks : (backToKw pos (keywordEach kws X.env)).filterMap (·.1) = ks := by rfl)
    (hdb : (x == ("__debug__" : Str)) = false := by decide) (hpl : ((backTo pos (starEach [] X.env)).any (·.1) || (backToKw pos (keywordEach kws X.env)).any (·.1.isNone)) = false := by rfl) :
    DE K X (.Call (.Name x p) [] kws pos) (dCallP g perm ta) := by
  obtain ⟨fa, fd, F, kp, hb, m⟩ := C
  have key : PE X (.Call (.Name x p) [] kws pos) (fun σ H Q => lA K ta σ H fun zs H2 => spN K g (permL perm [] zs) H2 Q E0) := by
    refine ⟨fun pins s σ H Q I h => ?_⟩
    refine wpAny_Call_Name_kw (ld_glob I hg m ?_ hdb)
    refine PySem.W.callWith_KW0 (h₀ := X.base) I.ok.mod.kin kp hall (thn (hkw.run pos pins s σ H _ I h) fun ws s2 ⟨zs, H2, I2, rz, q2⟩ => ⟨I2.kIn, ?_⟩) hpl
    rw [hks]
    exact run_fnk F hr hb pass0 I2 (us := []) (vs := []) .nil rz q2
  refine wkE key fun σ H Q h => ?_
  obtain ⟨f, ρ, pd, A, R, t, k⟩ := h
  exact ⟨f, ρ, pd, _, R, t, fun ds ρ1 us H1 q hl R1 => ⟨Sx f ρ1, _, _, R1.alloc, R1.inS, perm_dq (R1.all hl), q, fun d v H' az k' dz => k d ρ1 v H' az ((R1.popAll.keep k').push dz)⟩⟩
end
end Dl

set_option Elab.async false
set_option linter.all false
set_option maxRecDepth 100000
set_option maxHeartbeats 4000000
namespace Dl
open PySem PySem.Spec PyProof.Rows L2 Kt
section
variable {K : PySem.W.Frag} {X : Cx} {pos : Pos}
/-! ### written dicts -/
theorem de_dict0 : DE K X (.Dict [] [] pos) (dc (.dict [])) := by
  refine wkE pe_dnewK fun σ H Q h => ?_
  obtain ⟨f, ρ, pd, A, R, t, k⟩ := h
  refine fun p hp => k _ ρ _ _ t ((R.keep (Kp.new hp)).push ?_)
  exact .dct (kvs := []) (ob_new hp R.alloc) rfl fun i p q h => by simp at h
theorem de_dict1 {s : Str} {i : Int} {j1 j2 p1 p2} : DE K X (.Dict [some (.Constant (.str s) j1 p1)] [.Constant (.int i) j2 p2] pos) (dc (.dict [(.str s, .int i)])) := by
  refine wkE (pe_disp (pps_cons pe_str pe_int pps_nil) rfl rfl (by simp) (by simp)) fun σ H Q h => ?_
  obtain ⟨f, ρ, pd, A, R, t, k⟩ := h
  intro p hp
  show upd H p (.dK []) p = _ ∧ _
  refine ⟨upd_same, [(.inr s, .int i)], rfl, by simp, ?_⟩
  have e : upd (upd H p (.dK [])) p (.dK (mergeK [] [(.inr s, .int i)])) = upd H p (.dK [(.inr s, .int i)]) := by
    have e1 : mergeK [] [((.inr s : L2.Key), V.int i)] = [(.inr s, .int i)] := by simp [mergeK, putK]
    rw [e1]
    funext b
    by_cases z : b = p
    · rw [z, upd_same, upd_same]
    · rw [upd_ne z, upd_ne z, upd_ne z]
  rw [e]
  refine k _ ρ _ _ t ((R.keep (Kp.new hp)).push ?_)
  refine .dct (ob_new hp R.alloc) rfl fun j p q h1 h2 => ?_
  cases j with
  | zero => simp at h1 h2; subst h1; subst h2; exact .int i
  | succ j => simp at h1
end
section
variable {K : PySem.W.Frag} {X : Cx} {a b c : Expr} {pos : Pos}
/-- a, b, c = x, y, z -/
def sPar3 (i j l : Nat) (ta : TDA) : TSD := fun E ρ => ta ρ fun ds ρ1 => match ds with
  | [d, e, g] => match freeSlot ρ1[i]? && freeSlot ρ1[j]? && freeSlot ρ1[l]? with
    | true => E.nx (((ρ1.set i (some (.dat d))).set j (some (.dat e))).set l (some (.dat g)))
    | false => False
  | _ => False
theorem ds_par3 {i j l : Nat} {x y z : Str} {ta : TDA} {px py pz pt : Pos} {kt k2 pt2} (hc : X.calm = true) (hN : X.N.Nodup) (hi : X.N[i]? = some x) (hj : X.N[j]? = some y) (hl : X.N[l]? = some z) (hij : i ≠ j) (hil : i ≠ l) (hjl : j ≠ l)
    (hx : X.env.scope.names.lookup x = some .local) (hy : X.env.scope.names.lookup y = some .local) (hz : X.env.scope.names.lookup z = some .local) (ha : DA K X [a, b, c] ta)
    (hw : swappedStores [.Tuple [.Name x px, .Name y py, .Name z pz] kt pt] (.Tuple [a, b, c] k2 pt2) X.env = pure (some [x, y, z]))
    (hs : swapsWithSole [.Tuple [.Name x px, .Name y py, .Name z pz] kt pt] (.Tuple [a, b, c] k2 pt2) pos.line X.env = pure false := by rfl) :
    DS K X (.Assign [.Tuple [.Name x px, .Name y py, .Name z pz] kt pt] (.Tuple [a, b, c] k2 pt2) pos) (sPar3 i j l ta) := by
  refine wkS (ps_par3 hc hN hi hj hl hij hil hjl hx hy hz ha hw hs) fun D σ H h => ?_
  obtain ⟨f, ρ, pd, E, R, t, L⟩ := h
  refine ⟨f, ρ, pd, _, R, t, fun ds ρ1 vs H1 q hl R1 => ?_⟩
  match ds, vs, hl, q, R1 with
  | [d, e, g], [v, w, u], _, q, R1 =>
    refine ⟨v, w, u, rfl, ?_⟩
    simp only [] at q
    split at q
    · rename_i z
      simp only [Bool.and_eq_true] at z
      have Ra : Rel K f σ H1 ρ1 ((v, d) :: (w, e) :: (u, g) :: pd) := R1
      exact L.nx _ _ _ q (((Ra.set z.1.1).set (free_set z.1.2 hij)).set (free_set (free_set z.2 hil) hjl))
    · exact q.elim
  | [], _, _, q, _ => exact q.elim
  | [_], _, _, q, _ => exact q.elim
  | [_, _], _, _, q, _ => exact q.elim
  | _ :: _ :: _ :: _ :: _, _, _, q, _ => exact q.elim
end
/-! ### draws -/
def g_law_draw : RDn := fun ds A => match ds with
  | [.int many] => (0 < many ∧ many < 1073741824) ∧ ∀ r, 0 ≤ r → r < many → A (.int r)
  | _ => False
theorem draw_imp {K : PySem.W.Frag} : ∀ vs H Q E, spK K g_law_draw vs H Q E → spDraw vs H Q E := by
  intro vs H Q E h
  obtain ⟨S, a, c, ws, ds, A, rfl, hd, ma, mc, al, sy, hx, hg, q⟩ := h
  unfold g_law_draw at hg
  split at hg
  · obtain ⟨v, r, rfl, hv, hr⟩ := hx.inv_cons
    obtain rfl := hr.inv_nil
    obtain rfl := hv.inv_int
    exact ⟨a, c, _, rfl, hd, hg.1.1, hg.1.2, fun H' r h0 h1 hd' k => q _ _ H' (hg.2 r h0 h1) hd' k (.int r)⟩
  · exact hg.elim
/-! ### the law itself: the deck first -/
def spLawD (K : PySem.W.Frag) : Sp := fun vs H Q _ => ∃ (a : Addr) (ns : List Int), vs = [.ref a] ∧ SqL K H a (ns.map V.int) ∧ ns.length ≤ 63 ∧ ∀ H', Q (.bl true) H'
/-- as Kd2's spDeck -/
def spDeckD (K : PySem.W.Frag) : Sp := fun vs H Q _ => ∃ (p : Addr) (ns : List Int), vs = [.ref p] ∧ SqL K H p (ns.map V.int) ∧ ns.length ≤ 63 ∧ ∀ (H' : Hp) (a c : Addr), DeckAt H' a c → Kp [] H H' → H a = none → H c = none → Q (.ref a) H'
def startL (N : List Str) : Rho := none :: some .deck :: List.replicate (N.length - 2) none
theorem startL_at {N : List Str} {i : Nat} {p : Dv} (h : (startL N)[i]? = some (some p)) : i = 1 ∧ p = .deck := by
  unfold startL at h
  match i, h with
  | 0, h => simp at h
  | 1, h => simp at h; exact ⟨rfl, h.symm⟩
  | i + 2, h =>
    rw [List.getElem?_cons_succ, List.getElem?_cons_succ, List.getElem?_replicate] at h
    split at h <;> cases h
theorem owns_startL {N : List Str} : owns (startL N) = [] := by
  cases h : owns (startL N) with
  | nil => rfl
  | cons a r =>
    have : a ∈ owns (startL N) := by rw [h]; exact List.mem_cons_self
    obtain ⟨i, es, hi⟩ := mem_owns.mp this
    cases (startL_at hi).2
theorem rel_startL {K : PySem.W.Frag} {N : List Str} {H : Hp} {σ : Sl} {a c : Addr} (hd : DeckAt H a c) (hl : σ.length = (startL N).length) (h1 : σ[1]? = some (some (.ref a))) : Rel K { H0 := H, G := [], D := [a, c], dk := some (a, c) } σ H (startL N) [] := by
  obtain ⟨o1, o2, q1, q2, _⟩ := hd.some
  refine ⟨Kp.refl, fun a' c' q => ?_, fun a' c' q => ?_, fun b hb => ?_, fun b hb => absurd hb (by simp), trivial, by rw [owns_startL]; exact List.nodup_nil, hl, fun i p hp => ?_, fun p hp => absurd hp (by simp)⟩
  · cases q; exact hd
  · cases q; rw [owns_startL]; simp
  · simp at hb
    rcases hb with z | z
    · rw [z]; exact (deck_mu hd).1
    · rw [z]; exact (deck_mu hd).2
  · obtain ⟨rfl, rfl⟩ := startL_at hp
    exact ⟨.ref a, h1, .deck rfl⟩
section
variable {P : Program} {w : World} {K : PySem.W.Frag} {mg : Str → Option Value} {base : Heap} {st s1 : Stmt} {rest : List Stmt} {fa fD : Addr} {fd fdD : FuncData} {N : List Str} {k kD : Nat} {t : TSD} {e1 : Expr}
theorem ok_lawD (F : Fun K "law" "law" st fa fd) (S : FnScope N ["script"] (defScope st)) (hb : defBody st = s1 :: rest)
    (first : ∀ (cdv : Value) (A : Around) (outer : List Env) (s : Shared) (H : Hp) (E : XK), Room k (A.deeper (envOfC "law" (defScope st) s.heap.objs.size fa cdv)) → PS (cxOf CX0 P w K mg base N "law" (defScope st) fa cdv A outer s H E).nox s1 (tAsg (tCall (spDeckD K) [] E0 (tCons (tVar 0) tNil)) (gName 1)))
    (body : ∀ (cdv : Value) (A : Around) (outer : List Env) (s : Shared) (H : Hp) (E : XK), (A.deeper (envOfC "law" (defScope st) s.heap.objs.size fa cdv)).guards = some [] → Room k (A.deeper (envOfC "law" (defScope st) s.heap.objs.size fa cdv)) → DSs K (cxOf CX0 P w K mg base N "law" (defScope st) fa cdv A outer s H E).nox rest t)
    (hN : 2 ≤ N.length) (rd : t (endD fun d => d = .bool true) (startL N)) : FnG P w K mg base CX0 (k + 1) fa fd ["script"] (spLawD K) := by
  refine okG F S (fun vs H Q E h => ?_) (fun cdv A outer s H vs Q E hgd hr h => ?_)
  · obtain ⟨a, ns, rfl, _⟩ := h
    rfl
  · obtain ⟨p, ns, rfl, hp, hlen, q⟩ := h
    rw [hb]
    refine ⟨_, pss_cons (first cdv A outer s H E hr) (body cdv A outer s H E hgd hr), ?_⟩
    refine ⟨.ref p, rfl, p, ns, rfl, hp, hlen, fun H' a c hd kk ha hc => ?_⟩
    refine ⟨_, startL N, [], endD fun d => d = .bool true, rel_startL hd ?_ ?_, rd, ?_⟩
    · rw [List.length_set]
      unfold L2.start startL
      simp
      omega
    · rw [List.getElem?_set_self]
      unfold L2.start
      simp
      omega
    · refine ⟨fun σ H ρ h R => (by cases h), fun σ H ρ v d h R => ?_, fun _ _ _ h => h.elim, fun _ _ _ h => h.elim, fun b hb => ⟨a, c, rfl, by simpa using hb⟩⟩
      cases h
      have := R.top.inv_bool
      rw [this]
      exact q H
end
/-! ### the end -/
theorem walk_ofS {l : PySem.W.OpenLaw} {n k : Nat} {q : Program} {loose : List Str} {XP : (Str → Option Value) → Heap → Prop} {YP : World → Heap → Prop} {d : DefRec} {K : Params → PySem.W.Frag} {sp : World → Sp} {x : Str}
    (hn : l.most = some n) (hn2 : n ≤ sizeLine) (hdf : d.params.defaults = []) (hr : Room k callerA) (hq : importsNone q = true)
    (hY : ∀ (w : World) (h : Heap), YP w h → (K w.params).In h)
    (F : ∀ (w : World) (mg : Str → Option Value) (fa : Addr) (h : Heap), (K w.params).In h → h.Ns mainGlobals mg → mg d.name = some (.ref fa) →
      ∃ fd : FuncData, (∀ (s : Shared) (u : Value), BindsTo s fd ⟨[u], []⟩ [(x, u)]) ∧
        ∀ base : Heap, (K w.params).In base → base.Ns mainGlobals mg → (∃ o, base.get? sysModules = some o) → FnG l.prog w (K w.params) mg base CX0 k fa fd [x] (sp w))
    (hsp : ∀ (w : World) (H : Hp) (a : Addr) (ns : List Int), ns.length ≤ n → Only H → SqL (K w.params) H a (ns.map V.int) → sp w [.ref a] H (fun v _ => v = .bl true) fun _ _ _ => False) :
    PySem.W.WalkO q loose XP YP l.row.toRowW d [] (fun f vs => PySem.call f vs) := by
  refine Att.attach_call hn hdf fun w s₀ s mg mb fa o pm cd doc a vs ns G Y ho hd hcd hmg ha hi hlen hg => ?_
  have KX := hY w _ Y
  have hz : ns.length ≤ sizeLine := Nat.le_trans hlen hn2
  obtain ⟨fd, hb, hF⟩ := F w mg fa _ KX G.T.g hmg
  obtain ⟨mc, hc1, hc2⟩ := G.T.nolimit
  obtain ⟨mm, ⟨oy, es, ep, ey, dy, _⟩, _⟩ := (G.T.seer hq).mods
  have hy : (hidT s.heap (only1 (K w.params) a vs ns)).get? sysModules = some oy := only1_rest ey ha (fun z => by rw [z] at dy; exact nomatch (dy : Data.seq vs.toArray _ = Data.dict es ep))
  have hM : Mod (K w.params) mg (hidT s.heap (only1 (K w.params) a vs ns)) := ⟨only1_kin KX, only1_ns G.T.g ha, ⟨mb, only1_ns G.T.b ha, G.T.builtins⟩, ⟨mc, only1_ns hc1 ha, hc2⟩⟩
  have e0 : Env0 l.prog w (K w.params) mg (hidT s.heap (only1 (K w.params) a vs ns)) callerA [] s (only1 (K w.params) a vs ns) :=
    ⟨rfl, hM, fun _ _ => of_hidT, Nat.le_of_eq (hidT_size _ _), trivial, fun _ z => (List.not_mem_nil z).elim, only1_held ha hi hz, .of_eq hg⟩
  have R := (hF _ hM.kin hM.glob ⟨_, hy⟩).go callerA rfl hr [] s _ e0 ⟨[.ref a], []⟩ [.ref a] [.ref a] (hb s (.ref a)) (.cons rfl .nil) _ _ (hsp w _ a ns hlen only1_only (only1_list KX ha hi hz))
  refine codeAny_mono R fun r s' z => ?_
  cases r with
  | error e => exact False.elim z
  | ok fl =>
    cases fl with
    | next => exact False.elim z
    | brk => exact False.elim z
    | cont => exact False.elim z
    | ret u =>
      obtain ⟨v, H', os, bare, un, hok, rv, rfl⟩ := z
      obtain rfl : u = Value.bool true := rv
      refine ⟨rfl, OldK.of_keep fun b o e => ?_, os, bare⟩
      cases q : only1 (K w.params) a vs ns b with
      | none => exact un.keep b o e q (List.not_mem_nil) (List.not_mem_nil)
      | some u =>
        obtain ⟨rfl, _, rfl⟩ := only1_some q
        rw [ha] at e
        cases e
        exact (hok _ _ (un.frzs _ _ _ q)).1
end Dl

set_option Elab.async false
set_option linter.all false
set_option maxRecDepth 100000
set_option maxHeartbeats 4000000
namespace Dl
open PySem PySem.Spec PyProof.Rows L2 Kt
theorem shp_int (i : Int) : SeqAt.shaped (.int i) = true := shaped_of (by simp [PyData.canLay0]) (by simp [PyData.depth])
theorem shp_nil : SeqAt.shaped (.list []) = true := shaped_of (by simp [PyData.canLay0, PyData.canLayAll0]) (by simp [PyData.depth, PyData.depthAll])
theorem shp_intsT (ns : List Int) : SeqAt.shaped (.tuple (ns.map PyData.int)) = true := by
  refine shaped_of (by simp [PyData.canLay0, canLay_ints]) ?_
  have := depth_ints ns
  simp only [PyData.depth]
  omega
theorem eq_int (i j : Int) : eqD (.int i) (.int j) = decide (i = j) := by
  show PyData.eqv (.int i) (.int j) = _
  by_cases h : i = j <;> simp [PyData.eqv, h]
theorem bEq_int {i j : Int} {A : Bool → Prop} (h : A (decide (i = j))) : bEq (.int i) (.int j) A := ⟨⟨shp_int i, shp_int j⟩, by rw [eq_int]; exact h⟩
theorem bNe_int {i j : Int} {A : Bool → Prop} (h : A (!decide (i = j))) : bNe (.int i) (.int j) A := ⟨⟨shp_int i, shp_int j⟩, by rw [eq_int]; exact h⟩
theorem bEq_str {i j : Str} {A : Bool → Prop} (h : A (decide (i = j))) : bEq (.str i) (.str j) A := ⟨trivial, h⟩
theorem bNe_str {i j : Str} {A : Bool → Prop} (h : A (!decide (i = j))) : bNe (.str i) (.str j) A := ⟨trivial, h⟩
theorem in_ints (i : Int) (ns : List Int) : inD (.int i) (ns.map PyData.int) = decide (i ∈ ns) := by
  unfold inD
  induction ns with
  | nil => rfl
  | cons n ns ih =>
    rw [List.map_cons, List.any_cons, ih]
    by_cases h : n = i
    · subst h; simp [PyData.eqv]
    · have h' : ¬ i = n := fun e => h e.symm
      simp [PyData.eqv, h, h']
theorem in_pairs (q : Int × Int) (rs : List (Int × Int)) : inD (pD q) (rs.map pD) = decide (q ∈ rs) := any_pair rs q
/-! ### comprehensions, by what each turn gives -/
theorem lc_fm {tn : PyData → (Option PyData → Prop) → Prop} (h : PyData → Option PyData) {A : List PyData → Prop} : ∀ {ds acc : List PyData}, (∀ d ∈ ds, ∀ B : Option PyData → Prop, B (h d) → tn d B) → acc.length + ds.length ≤ SZ → A (acc ++ ds.filterMap h) → lcGo tn ds acc A
  | [], acc, _, _, k => by simpa [lcGo] using k
  | d :: ds, acc, hd, hl, k => by
    refine hd d List.mem_cons_self _ ?_
    rw [List.filterMap_cons] at k
    cases e : h d with
    | none =>
      rw [e] at k
      exact lc_fm h (fun x hx => hd x (List.mem_cons_of_mem _ hx)) (by simp at hl; omega) k
    | some y =>
      rw [e] at k
      refine ⟨by simp at hl; omega, lc_fm h (fun x hx => hd x (List.mem_cons_of_mem _ hx)) (by simp at hl ⊢; omega) (by simpa using k)⟩
/-- each item to one -/
theorem lc_map {tn : PyData → (Option PyData → Prop) → Prop} (h : PyData → PyData) {A : List PyData → Prop} {ds : List PyData} (hd : ∀ d ∈ ds, ∀ B : Option PyData → Prop, B (some (h d)) → tn d B) (hl : ds.length ≤ SZ) (k : A (ds.map h)) : lcGo tn ds [] A :=
  lc_fm (fun d => some (h d)) hd (by simpa using hl) (by simpa [List.filterMap_eq_map'] using k)
inductive Outs (Post : PyData → Option PyData → Prop) : List PyData → List PyData → Prop
  | nil : Outs Post [] []
  | no {d : PyData} {ds rs : List PyData} : Post d none → Outs Post ds rs → Outs Post (d :: ds) rs
  | yes {d y : PyData} {ds rs : List PyData} : Post d (some y) → Outs Post ds rs → Outs Post (d :: ds) (y :: rs)
theorem lc_post {tn : PyData → (Option PyData → Prop) → Prop} (Post : PyData → Option PyData → Prop) {A : List PyData → Prop} : ∀ {ds acc : List PyData}, (∀ d ∈ ds, ∀ B : Option PyData → Prop, (∀ o, Post d o → B o) → tn d B) → acc.length + ds.length ≤ SZ → (∀ rs, Outs Post ds rs → A (acc ++ rs)) → lcGo tn ds acc A
  | [], acc, _, _, k => by simpa [lcGo] using k [] .nil
  | d :: ds, acc, hd, hl, k => by
    refine hd d List.mem_cons_self _ fun o ho => ?_
    cases o with
    | none => exact lc_post Post (fun x hx => hd x (List.mem_cons_of_mem _ hx)) (by simp at hl; omega) fun rs h => k rs (.no ho h)
    | some y => exact ⟨by simp at hl; omega, lc_post Post (fun x hx => hd x (List.mem_cons_of_mem _ hx)) (by simp at hl ⊢; omega) fun rs h => by
        have := k (y :: rs) (.yes ho h)
        simpa using this⟩
theorem Outs.all {Post : PyData → Option PyData → Prop} {Q : PyData → Prop} {ds rs : List PyData} (h : Outs Post ds rs) (q : ∀ d ∈ ds, ∀ y, Post d (some y) → Q y) : ∀ y ∈ rs, Q y := by
  induction h with
  | nil => intro y hy; cases hy
  | no hp _ ih => exact ih fun d hd => q d (List.mem_cons_of_mem _ hd)
  | yes hp _ ih =>
    intro y hy
    rcases List.mem_cons.mp hy with e | e
    · rw [e]; exact q _ List.mem_cons_self _ hp
    · exact ih (fun d hd => q d (List.mem_cons_of_mem _ hd)) y e
theorem Outs.len {Post : PyData → Option PyData → Prop} {ds rs : List PyData} (h : Outs Post ds rs) : rs.length ≤ ds.length := by
  induction h with
  | nil => exact Nat.le_refl _
  | no _ _ ih => exact Nat.le_succ_of_le ih
  | yes _ _ ih => exact Nat.succ_le_succ ih

/-! ### what charts are -/
/-- an int that is no bool -/
def wholeD : PyData → Bool
  | .int _ => true
  | _ => false
/-- from 0 to n - 1 -/
def belowD (n : Int) : PyData → Bool
  | .int i => decide (0 ≤ i) && decide (i < n)
  | _ => false
def tupN (n : Int) : PyData → Bool
  | .tuple ds => decide ((ds.length : Int) = n)
  | _ => false
/-- a pair of fields, the lesser first -/
def roadD (n : Int) : PyData → Bool
  | .tuple [.int a, .int b] => decide (0 ≤ a) && decide (a < n) && (decide (0 ≤ b) && decide (b < n)) && decide (a < b)
  | _ => false
theorem road_pair {n : Int} {a b : PyData} : roadD n (.tuple [a, b]) = (belowD n a && belowD n b && match a, b with
    | .int i, .int j => decide (i < j)
    | _, _ => false) := by
  cases a <;> cases b <;> simp [roadD, belowD]
theorem road_tup {n : Int} {d : PyData} (h : tupN 2 d = false) : roadD n d = false := by
  unfold roadD
  split
  · exact absurd h (by simp [tupN])
  · rfl
theorem tup2 {d : PyData} (h : tupN 2 d = true) : ∃ a b, d = .tuple [a, b] := by
  cases d with
  | tuple ds =>
    match ds, h with
    | [a, b], _ => exact ⟨a, b, rfl⟩
    | [], h => simp [tupN] at h
    | [_], h => simp [tupN] at h
    | _ :: _ :: _ :: _, h => simp [tupN] at h; omega
  | _ => simp [tupN] at h
theorem tup3 {d : PyData} (h : tupN 3 d = true) : ∃ a b c, d = .tuple [a, b, c] := by
  cases d with
  | tuple ds =>
    match ds, h with
    | [a, b, c], _ => exact ⟨a, b, c, rfl⟩
    | [], h => simp [tupN] at h
    | [_], h => simp [tupN] at h
    | [_, _], h => simp [tupN] at h
    | _ :: _ :: _ :: _ :: _, h => simp [tupN] at h; omega
  | _ => simp [tupN] at h
/-- the first place that is bad -/
def firstBad (bad : Nat → Bool) (n : Nat) : Option Nat := (List.range n).find? bad
theorem firstBad_none {bad : Nat → Bool} {n : Nat} (h : ∀ j, j < n → bad j = false) : firstBad bad n = none := by
  unfold firstBad
  rw [List.find?_eq_none]
  intro x hx
  rw [h x (List.mem_range.mp hx)]
  exact Bool.false_ne_true
theorem firstBad_some {bad : Nat → Bool} {n i : Nat} (hi : i < n) (hb : bad i = true) (h : ∀ j, j < i → bad j = false) : firstBad bad n = some i := by
  unfold firstBad
  rw [List.find?_eq_some_iff_append]
  refine ⟨hb, List.range i, (List.range (n - i - 1)).map (i + 1 + ·), ?_, fun a ha => by rw [h a (List.mem_range.mp ha)]; rfl⟩
  have e : n = i + (1 + (n - i - 1)) := by omega
  conv => lhs; rw [e, List.range_add, List.range_add]
  simp [List.map_map, Function.comp_def, Nat.add_assoc]
def optD : Option Nat → PyData
  | none => .none
  | some i => .int (i : Nat)
def leB (x y : PyData) : Bool := (leD x y).getD false
/-- the place i of xs is no such thing, or not greater than the one ahead -/
def badAt (ok : PyData → Bool) (xs : List PyData) (i : Nat) : Bool := !ok (xs.getD i .none) || (decide (0 < i) && leB (xs.getD i .none) (xs.getD (i - 1) .none))
/-- what chart_error tells -/
def chartErr : PyData → PyData
  | .tuple [m, .tuple rs, .tuple cs] => match m with
    | .int n => if 1 ≤ n ∧ n ≤ 24 then match firstBad (badAt (roadD n) rs) rs.length with
        | some i => .tuple [.str "road", .int (i : Nat)]
        | none => match firstBad (badAt (belowD n) cs) cs.length with
          | some i => .tuple [.str "centre", .int (i : Nat)]
          | none => .none
      else .str "many"
    | _ => .str "many"
  | _ => .str "form"
theorem road_le {n : Int} {x y : PyData} (hx : roadD n x = true) (hy : roadD n y = true) : leD x y = some (leB x y) := by
  unfold roadD at hx hy
  split at hx
  · split at hy
    · rfl
    · cases hy
  · cases hx
theorem below_le {n : Int} {x y : PyData} (hx : belowD n x = true) (hy : belowD n y = true) : leD x y = some (leB x y) := by
  unfold belowD at hx hy
  split at hx
  · split at hy
    · rfl
    · cases hy
  · cases hx
end Dl

set_option Elab.async false
set_option linter.all false
set_option maxRecDepth 100000
set_option maxHeartbeats 4000000
namespace Dl
open PySem PySem.Spec PyProof.Rows L2 Kt
/-! ### a tuple some times -/
theorem tuple_mulE (l : Addr) (items : Array Value) (n : Nat) (dd : Option Addr) (sl : Array (Option Value)) (x : Int) (u : Tok) (hi : items.isEmpty = true) (c0 : (decide (x < -(2 ^ 63)) || decide (x ≥ 2 ^ 63)) = false) :
    Meets (Builtin.«tuple.__mul__» ⟨[.ref l, .int x u], []⟩) (fun _ R s => s.heap.get? l = some { cls := .type "tuple", dict := dd, data := .seq items n, slots := sl } ∧ R (.ok (.ret (Value.ref l))) s) :=
  .of_wp fun prog w A R s h => by
    obtain ⟨hp, g, d, tk, os⟩ := s
    obtain ⟨hl, h⟩ := h
    have f1 := AutoSeq1.idx_int
    have c1 : (items.isEmpty || x == 1) = true := by rw [hi]; rfl
    wp_walk using AutoSeq1.wpAny_loadPart' hl
    repeat (first
      | (refine wpAny_ite_false (decide_eq_false (by rw [c0]; exact Bool.false_ne_true)) ?_; wp_walk using AutoSeq1.wpAny_loadPart' hl)
      | (refine wpAny_ite_true (decide_eq_true c1) ?_; wp_walk using AutoSeq1.wpAny_loadPart' hl))
    all_goals exact ⟨_, rfl, h⟩
def rRep2 (K : PySem.W.Frag) : R2 := fun x y H Q => ∃ l k xs, x = .ref l ∧ y = .int k ∧ SqT K H l xs ∧ 2 ≤ k ∧ k ≤ 1000 ∧ xs.length ≤ 1000 ∧ (xs = [] → Q (.ref l) H) ∧ (xs ≠ [] → ∀ p, H p = none → Q (.ref p) (upd H p (.tup (List.replicate k.toNat xs).flatten)))
section
variable {X : Cx}
theorem op_rep2 : OpR X (binaryOp .Mult) (rRep2 X.K) := by
  intro pins s σ H x y v u Q I rx ry h
  obtain ⟨l, k, xs, rfl, rfl, hT, h1, h2, hz, q0, q1⟩ := h
  by_cases hne : xs = []
  · cases rx
    obtain ⟨t, rfl⟩ := ry
    obtain ⟨its, r, ⟨⟨cls, dd, data, sl⟩, ho, hc, n, hd⟩, hs⟩ := I.tuple hT
    simp only at hc hd
    subst hc hd
    have hi : its.toArray.isEmpty = true := by
      subst hne
      cases r
      rfl
    have c0 : (decide (k < -(2 ^ 63)) || decide (k ≥ 2 ^ 63)) = false := by
      rw [decide_eq_false (by omega), decide_eq_false (by omega)] <;> rfl
    exact wpAny_binaryOp_repeat_ref (T := "tuple") (U := "int") (by decide) ⟨_, ho, rfl⟩ (fun s' => typeIs_int s' k t) noFill_tuple_mul F.fills_int_mul F.slot_int_rmul repeat_tuple F.slot_int_index.lookup
      (call_meets F.slot_int_rmul (typeIs_int s k t) F.entry_int_rmul (F.args_int_rmul_2 _ _) (int_rmul_tuple k t l its.toArray n dd sl)
        ⟨ho, rfl, ⟨_, ho, rfl⟩, call_meets F.slot_tuple_mul ⟨_, ho, rfl⟩ F.entry_tuple_mul (F.args_tuple_mul_2 _ _) (tuple_mulE l its.toArray n dd sl k t hi c0) ⟨ho, ⟨.ref l, H, I, rfl, q0 hne⟩⟩⟩)
  · exact op_repT pins s σ H _ _ v u Q I rx ry ⟨l, k, xs, rfl, rfl, hT, hne, h1, h2, hz, q1 hne⟩
end
def timesD (k : Nat) (ds : List PyData) : List PyData := (List.replicate k ds).flatten
def dMul : RD2 := fun d e A => match d, e with
  | .int i, .int j => CMul i j ∧ A (.int (i * j))
  | .tuple xs, .int k => (2 ≤ k ∧ k ≤ 1000 ∧ xs.length ≤ 1000) ∧ A (.tuple (timesD k.toNat xs))
  | _, _ => False
section
variable {K : PySem.W.Frag} {X : Cx} {e a b c tg : Expr} {es : List Expr} {pos : Pos} {te ta tb : TD} {S : List Addr} {H : Hp}
theorem rep_dq {xs : List V} {ds : List PyData} (g : DqAll K H xs ds) : ∀ k : Nat, DqAll K H (List.replicate k xs).flatten (timesD k ds)
  | 0 => .nil
  | k + 1 => by
    unfold timesD
    rw [List.replicate_succ, List.replicate_succ, List.flatten_cons, List.flatten_cons]
    exact g.app (rep_dq g k)
theorem od_mul : OpD2 K (fun x y H Q => rI CMul (fun i j => .int (i * j)) x y H Q ∨ rRep2 K x y H Q) dMul := by
  intro S H x y d e A Q al sy hx hy h k
  unfold dMul at h
  split at h
  · obtain rfl := hx.inv_int
    obtain rfl := hy.inv_int
    exact .inl ⟨_, _, rfl, rfl, h.1, k _ _ _ h.2 Kp.refl (.int _)⟩
  · rename_i ds n
    obtain ⟨p, us, rfl, hp, gp⟩ := hx.inv_tup
    obtain rfl := hy.inv_int
    refine .inr ⟨p, n, us, rfl, rfl, obT hp, h.1.1, h.1.2.1, by rw [gp.1]; exact h.1.2.2, fun z => ?_, fun _ q hq => new_tup al (rep_dq gp _) h.2 k hq⟩
    subst z
    have e := List.eq_nil_of_length_eq_zero gp.1.symm
    subst e
    refine k _ _ _ h.2 Kp.refl ?_
    have : timesD n.toNat [] = [] := by simp [timesD]
    rw [this]
    exact .tupA hp gp
  · exact h.elim
theorem de_mulD (hK : X.K = K) (ha : DE K X a ta) (hb : DE K X b tb) : DE K X (.BinOp a .Mult b pos) (dOp dMul ta tb) := by
  subst hK
  exact de_op (op_mul.or op_rep2) od_mul ha hb
/-! ### list(range(n)) -/
def dListR (te : TD) : TD := fun ρ Q => te ρ fun d ρ1 => match d with
  | .int n => (0 ≤ n ∧ n ≤ 16777216) ∧ Q (.list (rngD 0 n.toNat)) ρ1
  | _ => False
theorem rgV_dq (n : Int) : DqAll K H (rgV 0 n) (rngD 0 n.toNat) := by
  refine ⟨by unfold rgV rngD; simp, fun i x d hx hd => ?_⟩
  unfold rgV at hx
  obtain ⟨h1, rfl⟩ := rngD_at hd
  rw [List.getElem?_map] at hx
  obtain ⟨j, hj, rfl⟩ := Option.map_eq_some_iff.mp hx
  obtain ⟨h2, h3⟩ := List.getElem?_eq_some_iff.mp hj
  rw [List.getElem_range] at h3
  subst h3
  exact .int _
theorem de_listR {p p2 pos2 : Pos} (hc : X.calm = true) (hg : Gl X "list") (hm : X.mg "list" = none) (hg2 : Gl X "range") (hm2 : X.mg "range" = none) (h : DE K X a te)
    (na : starEach [.Call (.Name "range" p2) [a] [] pos2] X.env = (false, eval (.Call (.Name "range" p2) [a] [] pos2) X.env) :: starEach [] X.env := by rfl) (na2 : starEach [a] X.env = (false, eval a X.env) :: starEach [] X.env := by rfl) :
    DE K X (.Call (.Name "list" p) [.Call (.Name "range" p2) [a] [] pos2] [] pos) (dListR te) := by
  refine wkE (pe_listRg hc hg hm (prg_1 hg2 hm2 h na2) na) fun σ H Q h => ?_
  obtain ⟨f, ρ, pd, A, R, t, k⟩ := h
  refine ⟨f, ρ, pd, _, R, t, fun d ρ1 x H1 q R1 => ?_⟩
  cases d with
  | int n => exact ⟨n, R1.top.inv_int, RgOk.of_le (by decide) q.1.2 (by decide) q.1.1, fun r hr => k _ ρ1 _ _ q.2 ((R1.pop.keep (Kp.new hr)).push (.lstA (ob_new hr R1.alloc) (rgV_dq n)))⟩
  | _ => exact q.elim
/-! ### some items in a drawn order -/
def g_law_mixed : RDn := fun ds A => match ds with
  | [.list xs] => (xs.length ≤ 100000 ∧ ∀ x ∈ xs, x.canLay0 = true ∧ x.depth ≤ 60) ∧ ∀ ys, ys.Perm xs → A (.list ys)
  | _ => False
theorem permDq {ys xs : List V} (h : ys.Perm xs) : ∀ {ds : List PyData}, DqAll K H xs ds → ∃ es : List PyData, es.Perm ds ∧ DqAll K H ys es := by
  induction h with
  | nil => intro ds g; cases ds with
    | nil => exact ⟨[], .refl _, g⟩
    | cons d ds => cases g.1
  | cons x _ ih =>
    intro ds g
    cases ds with
    | nil => cases g.1
    | cons d ds =>
      obtain ⟨es, h1, h2⟩ := ih g.tail
      exact ⟨d :: es, h1.cons d, .cons g.head h2⟩
  | swap x y l =>
    intro ds g
    match ds, g with
    | [], g => cases g.1
    | [_], g => exact absurd g.1 (by simp)
    | d :: e :: ds, g => exact ⟨e :: d :: ds, .swap _ _ _, .cons g.tail.head (.cons g.head g.tail.tail)⟩
  | trans _ _ ih1 ih2 =>
    intro ds g
    obtain ⟨es, h1, h2⟩ := ih2 g
    obtain ⟨fs, h3, h4⟩ := ih1 h2
    exact ⟨fs, h3.trans h1, h4⟩
end
end Dl

set_option Elab.async false
set_option linter.all false
set_option maxRecDepth 100000
set_option maxHeartbeats 4000000
namespace Dl
open PySem PySem.Spec PyProof.Rows L2 Kt
/-! xs.count(k) of ints -/
def dCnt (ta tb : TD) : TD := fun ρ Q => ta ρ fun d ρ1 => match d with
  | .list xs => tb ρ1 fun e ρ2 => match e with
    | .int k => match asInts xs with
      | some ns => Q (.int (ns.count k : Nat)) ρ2
      | none => False
    | _ => False
  | _ => False
section
variable {K : PySem.W.Frag} {X : Cx} {e a b c tg : Expr} {pos : Pos} {te ta tb : TD}
theorem de_count {o : Expr} {apos cpos : Pos} (hK : X.K = K) (ho : DE K X o ta) (he : DE K X e tb)
    (hbase : attributeBase o "count" X.env (eval o X.env) = eval o X.env := by rfl)
    (hfew : ((backTo cpos (starEach (e :: []) X.env)).all (fun x => !x.1) && (backToKw cpos (keywordEach [] X.env)).all (fun x => x.1.isSome)
      && decide ((e :: []).length + ([] : List Keyword).length + (if ([] : List Keyword).isEmpty then 0 else 1) < 30)) = true := by rfl)
    (hline : (apos.endLine == cpos.line) = true := by rfl) (hs : starEach (e :: []) X.env = (false, eval e X.env) :: starEach [] X.env := by rfl) (hplain : (backTo cpos (starEach [] X.env)).any (·.1) = false := by rfl) :
    DE K X (.Call (.Attribute o "count" apos) [e] [] cpos) (dCnt ta tb) := by
  subst hK
  refine wkE (pe_bm PySem.F.plainAttrs_list PySem.F.slot_list_count PySem.F.type_list_count mt_lcount ho (pa_cons he pa_nil hs) hbase hfew hline hs hplain) fun σ H Q h => ?_
  obtain ⟨f, ρ, pd, A, R, t, k⟩ := h
  refine ⟨f, ρ, pd, _, R, t, fun d ρ1 x H1 q R1 => ?_⟩
  cases d with
  | list xs =>
    obtain ⟨l, us, rfl, hl, g⟩ := R1.top.inv_list
    refine ⟨.inl ⟨rfl, us, SqL.of (Ob.of hl).2⟩, f, ρ1, _, _, R1, q, fun d2 ρ2 y H2 q2 R2 => ?_⟩
    cases d2 with
    | int i =>
      simp only [] at q2
      cases z : asInts xs with
      | none => rw [z] at q2; exact q2.elim
      | some ns =>
        rw [z] at q2
        have z2 := asInts_some z
        subst z2
        obtain ⟨l2, us2, e2, hl2, g2⟩ := R2.pop.top.inv_list
        cases e2
        obtain rfl := R2.top.inv_int
        refine ⟨l, ns, i, rfl, rfl, ?_, k _ ρ2 _ H2 q2 (R2.pop.pop.push (.int _))⟩
        have := ints_dq g2
        rw [this] at hl2
        exact SqL.of (Ob.of hl2).2
    | _ => exact q2.elim
  | _ => exact q.elim
end
end Dl

set_option Elab.async false
set_option linter.all false
set_option maxRecDepth 100000
set_option maxHeartbeats 4000000
namespace Dl
open PySem PySem.Spec PyProof.Rows L2 Kt
section
variable {K : PySem.W.Frag} {f : Fr} {σ : Sl} {H : Hp} {ρ : Rho} {pd : List (V × PyData)}
/-- an own list that is done is data -/
theorem Rel.freeze {i : Nat} {a : Addr} {ds : List PyData} (R : Rel K f σ H ρ pd) (mn : Main f) (h : ρ[i]? = some (some (.own a ds))) : Rel K f σ H (ρ.set i (some (.dat (.list ds)))) pd := by
  have hi : i < ρ.length := (List.getElem?_eq_some_iff.mp h).1
  obtain ⟨va, hva, sa⟩ := R.sl i _ h
  have ma : a ∈ owns ρ := mem_owns.mpr ⟨i, ds, h⟩
  -- the own lists left
  have key : ∀ (ρ : Rho) (i : Nat), ρ[i]? = some (some (.own a ds)) → (owns ρ).Nodup → (owns (ρ.set i (some (.dat (.list ds))))).Sublist (owns ρ) ∧ a ∉ owns (ρ.set i (some (.dat (.list ds)))) := by
    intro ρ
    induction ρ with
    | nil => intro i h; simp at h
    | cons p ρ ih =>
      intro i h n
      cases i with
      | zero =>
        simp at h
        subst h
        have e1 : owns (some (.own a ds) :: ρ) = a :: owns ρ := rfl
        have e2 : owns ((some (Dv.own a ds) :: ρ).set 0 (some (.dat (.list ds)))) = owns ρ := rfl
        rw [e1] at n ⊢
        rw [e2]
        exact ⟨List.sublist_cons_self _ _, (List.nodup_cons.mp n).1⟩
      | succ i =>
        have h' : ρ[i]? = some (some (.own a ds)) := by simpa using h
        have n' : (owns ρ).Nodup := by
          cases p with
          | none => exact n
          | some q =>
            cases q with
            | dat _ => exact n
            | deck => exact n
            | own b es => exact (List.nodup_cons.mp n).2
        obtain ⟨k1, k2⟩ := ih i h' n'
        rw [List.set_cons_succ]
        cases p with
        | none => exact ⟨k1, k2⟩
        | some q =>
          cases q with
          | dat _ => exact ⟨k1, k2⟩
          | deck => exact ⟨k1, k2⟩
          | own b es =>
            have e1 : owns (some (.own b es) :: ρ) = b :: owns ρ := rfl
            have e2 : owns (some (Dv.own b es) :: ρ.set i (some (.dat (.list ds)))) = b :: owns (ρ.set i (some (.dat (.list ds)))) := rfl
            rw [e1] at n ⊢
            rw [e2]
            refine ⟨k1.cons_cons b, fun z => ?_⟩
            rcases List.mem_cons.mp z with w | w
            · exact (List.nodup_cons.mp n).1 (by rw [← w]; exact mem_owns.mpr ⟨i, ds, h'⟩)
            · exact k2 w
  obtain ⟨k1, k2⟩ := key ρ i h R.nod
  have sub : ∀ b ∈ Sx f (ρ.set i (some (.dat (.list ds)))), b ∈ Sx f ρ := fun b hb => by
    unfold Sx at hb ⊢
    simp only [List.mem_append] at hb ⊢
    rcases hb with z | z | z
    · exact .inl z
    · exact .inr (.inl z)
    · exact .inr (.inr (k1.subset z))
  have sm : Same (Ob (Sx f ρ) H) (Ob (Sx f (ρ.set i (some (.dat (.list ds))))) H) := ob_sub sub
  have nD : a ∉ f.D := fun z => by
    obtain ⟨x, y, e, w⟩ := mn a z
    obtain ⟨_, _, h3, h4⟩ := R.dkD x y e
    rcases w with w | w
    · exact h3 (by rw [← w]; exact ma)
    · exact h4 (by rw [← w]; exact ma)
  have nS : a ∉ Sx f (ρ.set i (some (.dat (.list ds)))) := fun z => by
    unfold Sx at z
    simp only [List.mem_append] at z
    rcases z with z | z | z
    · obtain ⟨h0, _⟩ := R.hid a z
      cases sa with
      | own h' h0' hd =>
        rcases h0' with w | w
        · exact h0.ne w
        · exact nD w
    · exact nD z
    · exact k2 z
  refine ⟨R.kp, R.dk, fun x y e => ?_, R.dk0, R.hid, R.sys, k1.nodup R.nod, by rw [List.length_set]; exact R.len, fun j p hp => ?_, fun p hp => (R.pend p hp).same sm⟩
  · obtain ⟨h1, h2, h3, h4⟩ := R.dkD x y e
    exact ⟨h1, h2, fun z => h3 (k1.subset z), fun z => h4 (k1.subset z)⟩
  · by_cases e : i = j
    · subst e
      rw [List.getElem?_set_self hi] at hp
      cases hp
      refine ⟨va, hva, ?_⟩
      cases sa with
      | own h' h0 hd => exact .dat (.lstA (Ob.mk nS h') (hd.same sm))
    · rw [List.getElem?_set_ne e] at hp
      obtain ⟨v, hv, s⟩ := R.sl j p hp
      refine ⟨v, hv, ?_⟩
      cases s with
      | dat h => exact .dat (h.same sm)
      | deck h => exact .deck h
      | own h h0 hd => exact .own h h0 (hd.same sm)
/-- a statement ahead of which own lists become data -/
def frzD (i : Nat) (ρ : Rho) : Rho := match ρ[i]? with
  | some (some (.own _ ds)) => ρ.set i (some (.dat (.list ds)))
  | _ => ρ
def sFrz (is : List Nat) (t : TSD) : TSD := fun E ρ => t E (is.foldl (fun ρ i => frzD i ρ) ρ)
theorem Rel.frz {i : Nat} (R : Rel K f σ H ρ pd) (mn : Main f) : Rel K f σ H (frzD i ρ) pd := by
  unfold frzD
  split
  · rename_i h; exact R.freeze mn h
  · exact R
theorem Rel.frzs (mn : Main f) : ∀ (is : List Nat) {ρ : Rho}, Rel K f σ H ρ pd → Rel K f σ H (is.foldl (fun ρ i => frzD i ρ) ρ) pd
  | [], _, R => R
  | i :: is, ρ, R => Rel.frzs mn is (R.frz mn)
variable {X : Cx} {st : Stmt} {t : TSD}
theorem ds_frz (is : List Nat) (h : DS K X st t) : DS K X st (sFrz is t) := wkS h fun D σ H ⟨f, ρ, pd, E, R, q, L⟩ => ⟨f, _, pd, E, R.frzs L.mn is, q, L⟩
end
/-! ### own lists that begin with something -/
section
variable {K : PySem.W.Frag} {f : Fr} {σ : Sl} {H : Hp} {ρ : Rho} {pd : List (V × PyData)} {X : Cx} {a b : Expr} {es : List Expr} {pos : Pos} {ta tb te : TD} {tl : TDA}
theorem upd_two (H : Hp) (p : Addr) (o u : HO) : upd (upd H p o) p u = upd H p u := by
  funext b
  by_cases e : b = p
  · subst e; rw [upd_same, upd_same]
  · rw [upd_ne e, upd_ne e, upd_ne e]
theorem Rel.own_newL {i : Nat} {p : Addr} {ys : List V} {ds : List PyData} (R : Rel K f σ H ρ pd) (h : freeSlot ρ[i]? = true) (hp : H p = none) (hy : DqAll K (Ob (Sx f ρ) H) ys ds) : Rel K f (σ.set i (some (.ref p))) (upd H p (.lst ys)) (ρ.set i (some (.own p ds))) pd := by
  have hi : i < ρ.length := by
    cases q : ρ[i]? with
    | none => rw [q] at h; cases h
    | some o => exact (List.getElem?_eq_some_iff.mp q).1
  have R1 := (R.pushAll hy).own_new h hp
  have hy1 := Rel.all R1 hy.1
  have R2 := R1.popAll.own_put (List.getElem?_set_self hi) hy1
  rw [upd_two, List.set_set] at R2
  exact R2
/-- x = [a, b ..], changed later -/
def sOwnL (i : Nat) (tl : TDA) : TSD := fun E ρ => tl ρ fun ds ρ1 => (ds.length ≤ SZ ∧ freeSlot ρ1[i]? = true) ∧ ∀ p, E.nx (ρ1.set i (some (.own p ds)))
theorem ds_ownL {i : Nat} {x : Str} {pos' p2 : Pos} (hN : X.N.Nodup) (hi : X.N[i]? = some x) (hx : Loc X.env.scope x) (ha : DA K X es tl) (hs : swapsWith (.List es p2) (some (.Name x pos')) pos.line X.env = pure false := by rfl) (hf : X.fn x = true ∨ X.env.scope.names.lookup x = some .local := by first | exact .inl rfl | exact .inr rfl | assumption) :
    DS K X (.Assign [.Name x pos'] (.List es p2) pos) (sOwnL i tl) := by
  refine wkS (ps_set hN hi hx (pe_lst ha) hs hf) fun D σ H h => ?_
  obtain ⟨f, ρ, pd, E, R, t, L⟩ := h
  refine ⟨f, ρ, pd, _, R, t, fun ds ρ1 us H1 q hl R1 => ⟨szl (by rw [hl]; exact q.1.1), fun p hp => L.nx _ _ _ (q.2 p) ?_⟩⟩
  exact R1.popAll.own_newL q.1.2 hp (Rel.all R1 hl)
/-- x = y + z, lists, changed later -/
def sOwnAdd (i : Nat) (ta tb : TD) : TSD := fun E ρ => ta ρ fun d ρ1 => tb ρ1 fun e ρ2 => match d, e with
  | .list xs, .list ys => (xs.length + ys.length ≤ SZ ∧ freeSlot ρ2[i]? = true) ∧ ∀ p, E.nx (ρ2.set i (some (.own p (xs ++ ys))))
  | _, _ => False
theorem ds_ownAdd {i : Nat} {x : Str} {pos' p2 : Pos} (hK : X.K = K) (hN : X.N.Nodup) (hi : X.N[i]? = some x) (hx : Loc X.env.scope x) (ha : DE K X a ta) (hb : DE K X b tb) (hs : swapsWith (.BinOp a .Add b p2) (some (.Name x pos')) pos.line X.env = pure false := by rfl) (hf : X.fn x = true ∨ X.env.scope.names.lookup x = some .local := by first | exact .inl rfl | exact .inr rfl | assumption) :
    DS K X (.Assign [.Name x pos'] (.BinOp a .Add b p2) pos) (sOwnAdd i ta tb) := by
  subst hK
  refine wkS (ps_set hN hi hx (pe_op op_addD ha hb) hs hf) fun D σ H h => ?_
  obtain ⟨f, ρ, pd, E, R, t, L⟩ := h
  refine ⟨f, ρ, pd, _, R, t, fun d ρ1 v H1 q R1 => ⟨f, ρ1, _, _, R1, q, fun e ρ2 w H2 q2 R2 => ?_⟩⟩
  cases d with
  | list xs =>
    cases e with
    | list ys =>
      obtain ⟨p1, us, rfl, h1, g1⟩ := R2.pop.top.inv_list
      obtain ⟨p2, ws, rfl, h2, g2⟩ := R2.top.inv_list
      simp only [] at q2
      refine .inl (.inl (.inr ⟨p1, p2, us, ws, rfl, rfl, (Ob.of h1).2, (Ob.of h2).2, szl (by rw [g1.1, g2.1]; exact q2.1.1), fun r hr => L.nx _ _ _ (q2.2 r) ?_⟩))
      exact R2.pop.pop.own_newL q2.1.2 hr (g1.app g2)
    | _ => exact q2.elim
  | _ => cases e <;> exact q2.elim
/-- a, x = y, [] -/
def sParO (i j : Nat) (te : TD) : TSD := fun E ρ => te ρ fun d ρ1 => match freeSlot ρ1[i]? && freeSlot ρ1[j]? && !(i == j) with
  | true => ∀ p, E.nx ((ρ1.set i (some (.dat d))).set j (some (.own p [])))
  | false => False
theorem ds_parO {i j : Nat} {x y : Str} {px py pt : Pos} {kt k2 pt2 p3} (hc : X.calm = true) (hN : X.N.Nodup) (hi : X.N[i]? = some x) (hj : X.N[j]? = some y) (hij : i ≠ j)
    (hx : X.env.scope.names.lookup x = some .local) (hy : X.env.scope.names.lookup y = some .local) (ha : DE K X a te)
    (hw : swappedStores [.Tuple [.Name x px, .Name y py] kt pt] (.Tuple [a, .List [] p3] k2 pt2) X.env = pure (some [x, y]))
    (hs : swapsWithSole [.Tuple [.Name x px, .Name y py] kt pt] (.Tuple [a, .List [] p3] k2 pt2) pos.line X.env = pure false := by rfl) (he : starEach [a, .List [] p3] X.env = (false, eval a X.env) :: starEach [.List [] p3] X.env := by rfl) :
    DS K X (.Assign [.Tuple [.Name x px, .Name y py] kt pt] (.Tuple [a, .List [] p3] k2 pt2) pos) (sParO i j te) := by
  refine wkS (ps_par hc hN hi hj hij hx hy (pa_cons ha (pa_cons (pe_lst pa_nil) pa_nil) he) hw hs) fun D σ H h => ?_
  obtain ⟨f, ρ, pd, E, R, t, L⟩ := h
  refine ⟨f, ρ, pd, _, R, t, fun d ρ1 v H1 q R1 => ⟨Nat.zero_le _, fun p hp => ⟨v, .ref p, rfl, ?_⟩⟩⟩
  split at q
  · rename_i z
    simp only [Bool.and_eq_true, Bool.not_eq_true'] at z
    have hne : i ≠ j := by simpa using z.2
    have R2 := R1.set z.1.1
    exact L.nx _ _ _ (q p) (R2.own_new (free_set z.1.2 hne) hp)
  · exact q.elim
end
/-! ### all(..), any(..) of bools -/
def boolsD : List PyData → Option (List Bool)
  | [] => some []
  | .bool b :: ds => (boolsD ds).map (b :: ·)
  | _ => none
theorem boolsD_some : ∀ {ds : List PyData} {bs : List Bool}, boolsD ds = some bs → ds = bs.map PyData.bool := by
  intro ds
  induction ds with
  | nil => intro bs h; cases h; rfl
  | cons d ds ih =>
    intro bs h
    cases d <;> first | (cases h; done) | skip
    rename_i b
    unfold boolsD at h
    cases e : boolsD ds with
    | none => rw [e] at h; cases h
    | some ms =>
      rw [e] at h
      cases h
      rw [ih e]
      rfl
theorem boolsD_map : ∀ bs : List Bool, boolsD (bs.map PyData.bool) = some bs
  | [] => rfl
  | b :: bs => by
    show (boolsD (bs.map PyData.bool)).map _ = _
    rw [boolsD_map bs]
    rfl
theorem dq_bools {K : PySem.W.Frag} {S : List Addr} {H : Hp} : ∀ {xs : List V} {bs : List Bool}, DqAll K (Ob S H) xs (bs.map PyData.bool) → xs = bs.map V.bl
  | _, [], h => by rw [h.inv_nil]; rfl
  | _, b :: bs, h => by
    obtain ⟨v, r, rfl, hv, hr⟩ := h.inv_cons
    obtain rfl := hv.inv_bool
    rw [dq_bools hr]
    rfl
def dAll : RDn := fun ds A => match ds with
  | [.list xs] => match boolsD xs with
    | some bs => A (.bool (bs.all id))
    | none => False
  | _ => False
def dAny : RDn := fun ds A => match ds with
  | [.list xs] => match boolsD xs with
    | some bs => A (.bool (bs.any id))
    | none => False
  | _ => False
theorem od_all {K : PySem.W.Frag} : OpDn K (rAll K) dAll := by
  intro S H xs ds A Q al sy hx h k
  unfold dAll at h
  split at h
  · rename_i ys
    obtain ⟨v, r, rfl, hv, hr⟩ := hx.inv_cons
    obtain rfl := hr.inv_nil
    obtain ⟨q, us, rfl, hp, gp⟩ := hv.inv_list
    cases e : boolsD ys with
    | none => rw [e] at h; exact h.elim
    | some bs =>
      rw [e] at h
      obtain rfl := boolsD_some e
      rw [dq_bools gp] at hp
      exact ⟨q, bs, rfl, SqL.of (Ob.of hp).2, k _ _ _ h Kp.refl (.bl _)⟩
  · exact h.elim
theorem od_any {K : PySem.W.Frag} : OpDn K (rAny K) dAny := by
  intro S H xs ds A Q al sy hx h k
  unfold dAny at h
  split at h
  · rename_i ys
    obtain ⟨v, r, rfl, hv, hr⟩ := hx.inv_cons
    obtain rfl := hr.inv_nil
    obtain ⟨q, us, rfl, hp, gp⟩ := hv.inv_list
    cases e : boolsD ys with
    | none => rw [e] at h; exact h.elim
    | some bs =>
      rw [e] at h
      obtain rfl := boolsD_some e
      rw [dq_bools gp] at hp
      exact ⟨q, bs, rfl, SqL.of (Ob.of hp).2, k _ _ _ h Kp.refl (.bl _)⟩
  · exact h.elim
end Dl

set_option Elab.async false
set_option linter.all false
set_option maxRecDepth 100000
set_option maxHeartbeats 4000000
namespace Dl
open PySem PySem.Spec PyProof.Rows L2 Kt
/-- a def that calls repr, by name -/
def CalG (P : Program) (w : World) (K : PySem.W.Frag) (mg : Str → Option Value) (base : Heap) (k : Nat) (x : Str) (ps : List Str) (sp : Sp) : Prop :=
  ∃ fa fd, FnG P w K mg base CX0 k fa fd ps sp ∧ PySem.W.keepIn K (.ref fa) = true ∧ Binds K fd ps [] ∧ mg x = some (.ref fa)
section
variable {K : PySem.W.Frag} {X : Cx} {e : Expr} {es : List Expr} {pos p kpos : Pos} {te : TD} {ta : TDA} {k : Nat} {x : Str} {ps ks : List Str} {g : RDn}
theorem de_callCG (C : CalG X.prog X.w X.K X.mg X.base k x ps (spN K g)) (hgd : X.A.guards = some []) (hr : Room k X.A) (hg : Gl X x) (ha : DA K X (e :: es) ta) (hdb : (x == ("__debug__" : Str)) = false := by decide) (he : starEach (e :: es) X.env = (false, eval e X.env) :: starEach es X.env := by rfl) (hpl : (backTo pos (starEach es X.env)).any (·.1) = false := by rfl) :
    DE K X (.Call (.Name x p) (e :: es) [] pos) (dCall g ta) := by
  obtain ⟨fa, fd, F, kp, b, m⟩ := C
  exact de_callG F hgd hr hg m kp b pass0 ha hdb he hpl
end
end Dl

namespace Dl
open PySem PySem.Spec PyProof.Rows L2
def topS (i : Nat) : Stmt := PySem.Challenge.pw_whateverothers_k10_whole_all_tuples_of_b.main.body.getD i (.Pass ⟨0, 0, 0, 0⟩)
end Dl

set_option Elab.async false
set_option linter.all false
set_option maxRecDepth 100000
set_option maxHeartbeats 4000000
namespace Dl
open PySem PySem.Spec PyProof.Rows L2 Kt
/-! ### _law_pick -/
abbrev s_law_pick : Stmt := topS 18
abbrev n_law_pick : List Str := ["deck", "items"]
theorem sc_law_pick : FnScope n_law_pick ["deck", "items"] (defScope s_law_pick) := ⟨rfl, rfl, rfl, by decide +kernel, rfl, by decide +kernel, by decide +kernel⟩
def t_law_pick (g_law_draw : RDn) : TSD := (sRet (dOp dGet (dv 1) (dCallK 0 g_law_draw (aCons (dCall dLen (aCons (dv 1) aNil)) aNil))))
theorem tr_law_pick {P : Program} {w : World} {K : PySem.W.Frag} {mg : Str → Option Value} {base : Heap} {fa : Addr} {g_law_draw : RDn} (C_law_draw : Cal P w K mg base 1 "_law_draw" ["deck", "many"] (spK K g_law_draw)) (m_len : mg "len" = none) (cdv : Value) (A : Around) (outer : List Env) (s : Shared) (H : Hp) (E : XK) (hr : Room 1 (A.deeper (envOfC "_law_pick" (defScope s_law_pick) s.heap.objs.size fa cdv))) :
    DSs K (cxOf CX0 P w K mg base n_law_pick "_law_pick" (defScope s_law_pick) fa cdv A outer s H E).nox (defBody s_law_pick) (t_law_pick g_law_draw) :=
  (dss_one (ds_ret (de_get rfl (dpv 1) (de_callKC C_law_draw (hr.mono (by decide)) (by rfl) (i := 0) rfl (by first | exact .inl rfl | exact .inr (.inl rfl) | exact .inr (.inr rfl)) (da_cons (de_callB call_len od_len (by rfl) m_len PySem.boot_len (da_cons (dpv 1) da_nil)) da_nil)))))
/-! ### _law_chart -/
abbrev s_law_chart : Stmt := topS 21
abbrev n_law_chart : List Str := ["deck", "many", "more", "roads", "b", "turn", "a", "centres", "field"]
theorem sc_law_chart : FnScope n_law_chart ["deck", "many", "more"] (defScope s_law_chart) := ⟨rfl, rfl, rfl, by decide +kernel, rfl, by decide +kernel, by decide +kernel⟩
def t_law_chart (g_law_draw : RDn) : TSD := (sSeq (sOwn 3)
  (sSeq (sForI (iRng2D (dc (.int 1)) (dv 1)) (tn 4) (sIf (dCmpT (bI fun i j => decide (j < i)) (dCallK 0 g_law_draw (aCons (dc (.int 9)) aNil)) (dc (.int 0))) (sDrop (dApp 3 (dTup (aCons (dCall (dII fun i j => if j > i then j else i) (aCons (dc (.int 0)) (aCons (dOp (dI20 fun i j => i - j) (dOp (dI20 fun i j => i - j) (dv 4) (dc (.int 1))) (dCallK 0 g_law_draw (aCons (dc (.int 3)) aNil))) aNil))) (aCons (dv 4) aNil))))) sNext))
  (sSeq (sForI (iRng1D (dv 2)) (tn 5) (sSeq (sPar 6 4 (aCons (dCallK 0 g_law_draw (aCons (dv 1) aNil)) (aCons (dCallK 0 g_law_draw (aCons (dv 1) aNil)) aNil)))
  (sIf (dAnd (dCmpT (bI fun i j => decide (i < j)) (dv 6) (dv 4)) (dNotInO 3 (dTup (aCons (dv 6) (aCons (dv 4) aNil))))) (sDrop (dApp 3 (dTup (aCons (dv 6) (aCons (dv 4) aNil))))) sNext)))
  (sSeq (sAsg (dLc (iRng1D (dv 1)) (tn 8) (dCmpT bEq (dCallK 0 g_law_draw (aCons (dc (.int 2)) aNil)) (dc (.int 0))) (dv 8) [8]) (tn 7))
  (sRet (dTup (aCons (dv 1) (aCons (dCall dTupF (aCons (dSortedO 3) aNil)) (aCons (dCall dTupF (aCons (dv 7) aNil)) aNil)))))))))
theorem tr_law_chart {P : Program} {w : World} {K : PySem.W.Frag} {mg : Str → Option Value} {base : Heap} {fa : Addr} {g_law_draw : RDn} (C_law_draw : Cal P w K mg base 1 "_law_draw" ["deck", "many"] (spK K g_law_draw)) (m_range : mg "range" = none) (m_max : mg "max" = none) (m_tuple : mg "tuple" = none) (m_sorted : mg "sorted" = none) (cdv : Value) (A : Around) (outer : List Env) (s : Shared) (H : Hp) (E : XK) (hr : Room 1 (A.deeper (envOfC "_law_chart" (defScope s_law_chart) s.heap.objs.size fa cdv))) :
    DSs K (cxOf CX0 P w K mg base n_law_chart "_law_chart" (defScope s_law_chart) fa cdv A outer s H E).nox (defBody s_law_chart) (t_law_chart g_law_draw) :=
  (dss_cons (ds_own (i := 3) sc_law_chart.nd rfl (.inl rfl))
      (dss_cons (ds_forI PassesOwn.never rfl (di_range2 (by rfl) m_range de_int (dpv 1)) (dg_name (i := 4) sc_law_chart.nd rfl (.inl rfl)) (dss_one (ds_if (dt_gt (de_callKC C_law_draw (hr.mono (by decide)) (by rfl) (i := 0) rfl (by first | exact .inl rfl | exact .inr (.inl rfl) | exact .inr (.inr rfl)) (da_cons de_int da_nil)) de_int) (dss_one (ds_expr (de_append (i := 3) rfl (by first | exact .inl rfl | exact .inr (.inl rfl)) (de_tup (da_cons (de_callB (call_max2 rfl) od_II (by rfl) m_max PyProof.Rows.boot_max (da_cons de_int (da_cons (de_sub (de_sub (dpv 4) de_int) (de_callKC C_law_draw (hr.mono (by decide)) (by rfl) (i := 0) rfl (by first | exact .inl rfl | exact .inr (.inl rfl) | exact .inr (.inr rfl)) (da_cons de_int da_nil))) da_nil))) (da_cons (dpv 4) da_nil)))))) dss_nil)))
      (dss_cons (ds_forI PassesOwn.never rfl (di_range1 (by rfl) m_range (dpv 2)) (dg_name (i := 5) sc_law_chart.nd rfl (.inl rfl)) (dss_cons (ds_par (i := 6) (j := 4) rfl sc_law_chart.nd rfl rfl (by decide) rfl rfl (da_cons (de_callKC C_law_draw (hr.mono (by decide)) (by rfl) (i := 0) rfl (by first | exact .inl rfl | exact .inr (.inl rfl) | exact .inr (.inr rfl)) (da_cons (dpv 1) da_nil)) (da_cons (de_callKC C_law_draw (hr.mono (by decide)) (by rfl) (i := 0) rfl (by first | exact .inl rfl | exact .inr (.inl rfl) | exact .inr (.inr rfl)) (da_cons (dpv 1) da_nil)) da_nil)) (by rfl))
      (dss_one (ds_if (PW.pt (dw_and (dt_lt (dpv 6) (dpv 4)) (dw_and1 (dt_notInO (de_tup (da_cons (dpv 6) (da_cons (dpv 4) da_nil))) rfl hr rfl (by first | exact .inl rfl | exact .inr (.inl rfl)) (by rfl))))) (dss_one (ds_expr (de_append (i := 3) rfl (by first | exact .inl rfl | exact .inr (.inl rfl)) (de_tup (da_cons (dpv 6) (da_cons (dpv 4) da_nil)))))) dss_nil))))
      (dss_cons (ds_setLc (i := 7) (own := [("field", 8)]) rfl sc_law_chart.nd rfl rfl (sw_true rfl rfl rfl (by decide +kernel)) (di_range1 (by rfl) m_range (dpv 1)) (blkOk_by (own := [("field", 8)]) (N := n_law_chart) (sc := defScope s_law_chart) (by decide +kernel)) (fun _ _ _ _ _ => (dg_name (i := 8) sc_law_chart.nd rfl (.inl rfl))) (fun _ _ _ _ _ => (dts_one (dt_eq (de_callKC C_law_draw (hr.mono (by decide)) (by rfl) (i := 0) rfl (by first | exact .inl rfl | exact .inr (.inl rfl) | exact .inr (.inr rfl)) (da_cons de_int da_nil)) de_int rfl hr))) (fun _ _ _ _ _ => (dpv 8)) (by decide))
      (dss_one (ds_ret (de_tup (da_cons (dpv 1) (da_cons (de_callTy call_tuple_of od_tup (by rfl) m_tuple PyProof.Rows.boot_tuple (da_cons (de_sortedO rfl (by rfl) m_sorted PyProof.Rows.boot_sorted (i := 3) rfl (by first | exact .inl rfl | exact .inr (.inl rfl))) da_nil)) (da_cons (de_callTy call_tuple_of od_tup (by rfl) m_tuple PyProof.Rows.boot_tuple (da_cons (dpv 7) da_nil)) da_nil))))))))))
/-! ### _law_pieces -/
abbrev s_law_pieces : Stmt := topS 22
abbrev n_law_pieces : List Str := ["deck", "chart", "many", "players", "fields", "field"]
theorem sc_law_pieces : FnScope n_law_pieces ["deck", "chart", "many"] (defScope s_law_pieces) := ⟨rfl, rfl, rfl, by decide +kernel, rfl, by decide +kernel, by decide +kernel⟩
def t_law_pieces (g_law_mixed g_law_draw g_law_pick : RDn) : TSD := (sSeq (sAsg (dSlice (dCallK 0 g_law_mixed (aCons (dListR (dc (.int 6))) aNil)) oNo (oIs (dOp dAdd (dc (.int 2)) (dCallK 0 g_law_draw (aCons (dc (.int 2)) aNil))))) (tn 3))
  (sSeq (sAsg (dCall dSorted (aCons (dSlice (dCallK 0 g_law_mixed (aCons (dListR (dOp dGet (dv 1) (dc (.int 0)))) aNil)) oNo (oIs (dv 2))) aNil)) (tn 4))
  (sRet (dCall dTupF (aCons (dLc (iSeq (dv 4)) (tn 5) dYes (dTup (aCons (dv 5) (aCons (dCallK 0 g_law_pick (aCons (dv 3) aNil)) aNil))) [5]) aNil)))))
theorem tr_law_pieces {P : Program} {w : World} {K : PySem.W.Frag} {mg : Str → Option Value} {base : Heap} {fa : Addr} {g_law_mixed g_law_draw g_law_pick : RDn} (C_law_mixed : Cal P w K mg base 2 "_law_mixed" ["deck", "items"] (spK K g_law_mixed)) (C_law_draw : Cal P w K mg base 1 "_law_draw" ["deck", "many"] (spK K g_law_draw)) (C_law_pick : Cal P w K mg base 2 "_law_pick" ["deck", "items"] (spK K g_law_pick)) (m_list : mg "list" = none) (m_range : mg "range" = none) (m_sorted : mg "sorted" = none) (m_tuple : mg "tuple" = none) (cdv : Value) (A : Around) (outer : List Env) (s : Shared) (H : Hp) (E : XK) (hr : Room 2 (A.deeper (envOfC "_law_pieces" (defScope s_law_pieces) s.heap.objs.size fa cdv))) :
    DSs K (cxOf CX0 P w K mg base n_law_pieces "_law_pieces" (defScope s_law_pieces) fa cdv A outer s H E).nox (defBody s_law_pieces) (t_law_pieces g_law_mixed g_law_draw g_law_pick) :=
  (dss_cons (ds_set (i := 3) sc_law_pieces.nd rfl (.inr rfl) (de_slice rfl (de_callKC C_law_mixed (hr.mono (by decide)) (by rfl) (i := 0) rfl (by first | exact .inl rfl | exact .inr (.inl rfl) | exact .inr (.inr rfl)) (da_cons (de_listR rfl (by rfl) m_list (by rfl) m_range de_int) da_nil)) do_none (do_some (de_add rfl de_int (de_callKC C_law_draw (hr.mono (by decide)) (by rfl) (i := 0) rfl (by first | exact .inl rfl | exact .inr (.inl rfl) | exact .inr (.inr rfl)) (da_cons de_int da_nil))))))
      (dss_cons (ds_set (i := 4) sc_law_pieces.nd rfl (.inl rfl) (de_callB op_sorted od_sorted (by rfl) m_sorted PyProof.Rows.boot_sorted (da_cons (de_slice rfl (de_callKC C_law_mixed (hr.mono (by decide)) (by rfl) (i := 0) rfl (by first | exact .inl rfl | exact .inr (.inl rfl) | exact .inr (.inr rfl)) (da_cons (de_listR rfl (by rfl) m_list (by rfl) m_range (de_get rfl (dpv 1) de_int)) da_nil)) do_none (do_some (dpv 2))) da_nil)))
      (dss_one (ds_ret (de_callTy call_tuple_of od_tup (by rfl) m_tuple PyProof.Rows.boot_tuple (da_cons (de_lc (own := [("field", 5)]) rfl sc_law_pieces.nd (di_seq rfl (dpv 4)) (blkOk_by (own := [("field", 5)]) (N := n_law_pieces) (sc := defScope s_law_pieces) (by decide +kernel)) (fun _ _ _ _ _ => (dg_name (i := 5) sc_law_pieces.nd rfl (.inl rfl))) (fun _ _ _ _ _ => dts_nil) (fun _ _ _ _ _ => (de_tup (da_cons (dpv 5) (da_cons (de_callKC C_law_pick (hr.mono (by decide)) (by rfl) (i := 0) rfl (by first | exact .inl rfl | exact .inr (.inl rfl) | exact .inr (.inr rfl)) (da_cons (dpv 3) da_nil)) da_nil)))) (by decide)) da_nil))))))
/-! ### _law_board -/
abbrev s_law_board : Stmt := topS 26
abbrev n_law_board : List Str := ["deck", "fields", "many", "chart"]
theorem sc_law_board : FnScope n_law_board ["deck", "fields", "many"] (defScope s_law_board) := ⟨rfl, rfl, rfl, by decide +kernel, rfl, by decide +kernel, by decide +kernel⟩
def t_law_board (g_law_chart g_law_draw g_law_pieces : RDn) : TSD := (sSeq (sAsg (dCallK 0 g_law_chart (aCons (dv 1) (aCons (dOp dAdd (dc (.int 1)) (dCallK 0 g_law_draw (aCons (dc (.int 4)) aNil))) aNil))) (tn 3))
  (sRet (dTup (aCons (dv 3) (aCons (dCallK 0 g_law_pieces (aCons (dv 3) (aCons (dv 2) aNil))) aNil)))))
theorem tr_law_board {P : Program} {w : World} {K : PySem.W.Frag} {mg : Str → Option Value} {base : Heap} {fa : Addr} {g_law_chart g_law_draw g_law_pieces : RDn} (C_law_chart : Cal P w K mg base 2 "_law_chart" ["deck", "many", "more"] (spK K g_law_chart)) (C_law_draw : Cal P w K mg base 1 "_law_draw" ["deck", "many"] (spK K g_law_draw)) (C_law_pieces : Cal P w K mg base 3 "_law_pieces" ["deck", "chart", "many"] (spK K g_law_pieces)) (cdv : Value) (A : Around) (outer : List Env) (s : Shared) (H : Hp) (E : XK) (hr : Room 3 (A.deeper (envOfC "_law_board" (defScope s_law_board) s.heap.objs.size fa cdv))) :
    DSs K (cxOf CX0 P w K mg base n_law_board "_law_board" (defScope s_law_board) fa cdv A outer s H E).nox (defBody s_law_board) (t_law_board g_law_chart g_law_draw g_law_pieces) :=
  (dss_cons (ds_set (i := 3) sc_law_board.nd rfl (.inl rfl) (de_callKC C_law_chart (hr.mono (by decide)) (by rfl) (i := 0) rfl (by first | exact .inl rfl | exact .inr (.inl rfl) | exact .inr (.inr rfl)) (da_cons (dpv 1) (da_cons (de_add rfl de_int (de_callKC C_law_draw (hr.mono (by decide)) (by rfl) (i := 0) rfl (by first | exact .inl rfl | exact .inr (.inl rfl) | exact .inr (.inr rfl)) (da_cons de_int da_nil))) da_nil))))
      (dss_one (ds_ret (de_tup (da_cons (dpv 3) (da_cons (de_callKC C_law_pieces (hr.mono (by decide)) (by rfl) (i := 0) rfl (by first | exact .inl rfl | exact .inr (.inl rfl) | exact .inr (.inr rfl)) (da_cons (dpv 3) (da_cons (dpv 2) da_nil))) da_nil))))))
/-! ### _law_helpers -/
abbrev s_law_helpers : Stmt := topS 27
abbrev n_law_helpers : List Str := ["board", "orders", "backs", "place", "own", "order", "goal", "spot"]
theorem sc_law_helpers : FnScope n_law_helpers ["board", "orders", "backs", "place"] (defScope s_law_helpers) := ⟨rfl, rfl, rfl, by decide +kernel, rfl, by decide +kernel, by decide +kernel⟩
def t_law_helpers : TSD := (sSeq (sAsg (dTup (aCons (dOp dGet (dOp dGet (dOp dGet (dv 0) (dc (.int 1))) (dv 3)) (dc (.int 0))) (aCons (dOp dGet (dv 1) (dv 3)) aNil))) (tTupD 2 (tsCons (tn 4) (tsCons (tn 5) tsNil))))
  (sSeq (sAsg (dIf (dCmpT bEq (dOp dGet (dv 5) (dc (.int 0))) (dc (.str "go"))) (dOp dGet (dv 5) (dc (.int 1))) (dv 4)) (tn 6))
  (sRet (dLc (iSeq (dv 2)) (tn 7) (dCmpT bEq (dOp dGet (dv 1) (dv 7)) (dTup (aCons (dc (.str "back")) (aCons (dv 4) (aCons (dv 6) aNil))))) (dOp dGet (dOp dGet (dOp dGet (dv 0) (dc (.int 1))) (dv 7)) (dc (.int 1))) [7]))))
theorem tr_law_helpers {P : Program} {w : World} {K : PySem.W.Frag} {mg : Str → Option Value} {base : Heap} {fa : Addr}  (cdv : Value) (A : Around) (outer : List Env) (s : Shared) (H : Hp) (E : XK) (hr : Room 0 (A.deeper (envOfC "_law_helpers" (defScope s_law_helpers) s.heap.objs.size fa cdv))) :
    DSs K (cxOf CX0 P w K mg base n_law_helpers "_law_helpers" (defScope s_law_helpers) fa cdv A outer s H E).nox (defBody s_law_helpers) (t_law_helpers ) :=
  (dss_cons (ds_asg (de_tup (da_cons (de_get rfl (de_get rfl (de_get rfl (dpv 0) de_int) (dpv 3)) de_int) (da_cons (de_get rfl (dpv 1) (dpv 3)) da_nil))) (dg_tup rfl rfl (dgs_cons (dg_name (i := 4) sc_law_helpers.nd rfl (.inr rfl)) (dgs_cons (dg_name (i := 5) sc_law_helpers.nd rfl (.inl rfl)) dgs_nil))))
      (dss_cons (ds_set (i := 6) sc_law_helpers.nd rfl (.inr rfl) (de_ifExp (dt_eq (de_get rfl (dpv 5) de_int) de_str rfl hr) (de_get rfl (dpv 5) de_int) (dpv 4)))
      (dss_one (ds_ret (de_lc (own := [("spot", 7)]) rfl sc_law_helpers.nd (di_seq rfl (dpv 2)) (blkOk_by (own := [("spot", 7)]) (N := n_law_helpers) (sc := defScope s_law_helpers) (by decide +kernel)) (fun _ _ _ _ _ => (dg_name (i := 7) sc_law_helpers.nd rfl (.inl rfl))) (fun _ _ _ _ _ => (dts_one (dt_eq (de_get rfl (dpv 1) (dpv 7)) (de_tup (da_cons de_str (da_cons (dpv 4) (da_cons (dpv 6) da_nil)))) rfl hr))) (fun _ _ _ _ _ => (de_get rfl (de_get rfl (de_get rfl (dpv 0) de_int) (dpv 7)) de_int)) (by decide))))))
/-! ### _law_wins -/
abbrev s_law_wins : Stmt := topS 28
abbrev n_law_wins : List Str := ["board", "orders", "backs", "wins", "place", "pieces", "own", "player", "goal", "helpers", "thrust", "repelled", "spot", "piece", "there", "order", "hold"]
theorem sc_law_wins : FnScope n_law_wins ["board", "orders", "backs", "wins", "place"] (defScope s_law_wins) := ⟨rfl, rfl, rfl, by decide +kernel, rfl, by decide +kernel, by decide +kernel⟩
def t_law_wins (g_law_helpers : RDn) : TSD := (sSeq (sAsg (dOp dGet (dv 0) (dc (.int 1))) (tn 5))
  (sSeq (sAsg (dOp dGet (dv 5) (dv 4)) (tTupD 2 (tsCons (tn 6) (tsCons (tn 7) tsNil))))
  (sSeq (sAsg (dOp dGet (dOp dGet (dv 1) (dv 4)) (dc (.int 1))) (tn 8))
  (sSeq (sAsg (dCall g_law_helpers (aCons (dv 0) (aCons (dv 1) (aCons (dv 2) (aCons (dv 4) aNil))))) (tn 9))
  (sSeq (sPar 10 11 (aCons (dOp dAdd (dc (.int 1)) (dCall dLen (aCons (dv 9) aNil))) (aCons (dc .none) aNil)))
  (sSeq (sAsg (dLc (iEnumD (dv 5)) (tTupD 2 (tsCons (tn 12) (tsCons (tn 13) tsNil))) (dCmpT bEq (dOp dGet (dv 13) (dc (.int 0))) (dv 8)) (dv 12) [12, 13]) (tn 14))
  (sCut (sIf (dCmpT bNe (dv 14) (dLst aNil)) (sSeq (sAsg (dOp dGet (dv 1) (dOp dGet (dv 14) (dc (.int 0)))) (tn 15))
  (sIf (dAnd (dCmpT bEq (dOp dGet (dv 15) (dc (.int 0))) (dc (.str "go"))) (dAnd (dCmpT bNe (dOp dGet (dv 15) (dc (.int 1))) (dv 6)) (dCmpT bInD (dOp dGet (dv 14) (dc (.int 0))) (dv 3)))) (sAsg (dOp dGet (dv 15) (dc (.int 1))) (tn 11)) (sSeq (sAsg (dOp (dI20 fun i j => i - j) (dv 10) (dCnt (dv 9) (dOp dGet (dOp dGet (dv 5) (dOp dGet (dv 14) (dc (.int 0)))) (dc (.int 1))))) (tn 10))
  (sSeq (sAsg (dOp dAdd (dc (.int 1)) (dCall dLen (aCons (dCall g_law_helpers (aCons (dv 0) (aCons (dv 1) (aCons (dv 2) (aCons (dOp dGet (dv 14) (dc (.int 0))) aNil))))) aNil))) (tn 16))
  (sSeq (sAsg (dIf (dAnd (dCmpT bEq (dOp dGet (dv 15) (dc (.int 0))) (dc (.str "go"))) (dCmpT bNe (dOp dGet (dv 15) (dc (.int 1))) (dv 6))) (dc (.int 1)) (dv 16)) (tn 16))
  (sIf (dOr (dCmpT bEq (dOp dGet (dOp dGet (dv 5) (dOp dGet (dv 14) (dc (.int 0)))) (dc (.int 1))) (dv 7)) (dCmpT bLe (dv 10) (dv 16))) (sRet (dc (.bool false))) sNext)))))) sNext)
  (sSeq (sForI (iEnumD (dv 5)) (tTupD 2 (tsCons (tn 12) (tsCons (tn 13) tsNil))) (sIf (dAnd (dCmpT bNe (dv 12) (dv 4)) (dAnd (dCmpT bEq (dOp dGet (dv 1) (dv 12)) (dTup (aCons (dc (.str "go")) (aCons (dv 8) aNil)))) (dCmpT bNe (dOp dGet (dv 13) (dc (.int 0))) (dv 11)))) (sIf (dCmpT bLe (dv 10) (dOp dAdd (dc (.int 1)) (dCall dLen (aCons (dCall g_law_helpers (aCons (dv 0) (aCons (dv 1) (aCons (dv 2) (aCons (dv 12) aNil))))) aNil)))) (sRet (dc (.bool false))) sNext) sNext))
  (sRet (dc (.bool true)))))))))))
theorem tr_law_wins {P : Program} {w : World} {K : PySem.W.Frag} {mg : Str → Option Value} {base : Heap} {fa : Addr} {g_law_helpers : RDn} (C_law_helpers : Cal P w K mg base 1 "_law_helpers" ["board", "orders", "backs", "place"] (spN K g_law_helpers)) (m_len : mg "len" = none) (m_enumerate : mg "enumerate" = none) (cdv : Value) (A : Around) (outer : List Env) (s : Shared) (H : Hp) (E : XK) (hr : Room 1 (A.deeper (envOfC "_law_wins" (defScope s_law_wins) s.heap.objs.size fa cdv))) :
    DSs K (cxOf CX0 P w K mg base n_law_wins "_law_wins" (defScope s_law_wins) fa cdv A outer s H E).nox (defBody s_law_wins) (t_law_wins g_law_helpers) :=
  (dss_cons (ds_set (i := 5) sc_law_wins.nd rfl (.inl rfl) (de_get rfl (dpv 0) de_int))
      (dss_cons (ds_asg (de_get rfl (dpv 5) (dpv 4)) (dg_tup rfl rfl (dgs_cons (dg_name (i := 6) sc_law_wins.nd rfl (.inl rfl)) (dgs_cons (dg_name (i := 7) sc_law_wins.nd rfl (.inl rfl)) dgs_nil))))
      (dss_cons (ds_set (i := 8) sc_law_wins.nd rfl (.inr rfl) (de_get rfl (de_get rfl (dpv 1) (dpv 4)) de_int))
      (dss_cons (ds_set (i := 9) sc_law_wins.nd rfl (.inl rfl) (de_callC C_law_helpers (hr.mono (by decide)) (by rfl) (da_cons (dpv 0) (da_cons (dpv 1) (da_cons (dpv 2) (da_cons (dpv 4) da_nil))))))
      (dss_cons (ds_par (i := 10) (j := 11) rfl sc_law_wins.nd rfl rfl (by decide) rfl rfl (da_cons (de_add rfl de_int (de_callB call_len od_len (by rfl) m_len PySem.boot_len (da_cons (dpv 9) da_nil))) (da_cons de_non da_nil)) (by rfl))
      (dss_cons (ds_setLc (i := 14) (own := [("spot", 12), ("piece", 13)]) rfl sc_law_wins.nd rfl rfl (sw_true rfl rfl rfl (by decide +kernel)) (di_enum rfl (by rfl) m_enumerate (dpv 5)) (blkOk_by (own := [("spot", 12), ("piece", 13)]) (N := n_law_wins) (sc := defScope s_law_wins) (by decide +kernel)) (fun _ _ _ _ _ => (dg_tup rfl rfl (dgs_cons (dg_name (i := 12) sc_law_wins.nd rfl (.inl rfl)) (dgs_cons (dg_name (i := 13) sc_law_wins.nd rfl (.inl rfl)) dgs_nil)))) (fun _ _ _ _ _ => (dts_one (dt_eq (de_get rfl (dpv 13) de_int) (dpv 8) rfl hr))) (fun _ _ _ _ _ => (dpv 12)) (by decide))
      (dss_cut (ds_if (dt_ne (dpv 14) (de_lst da_nil) rfl hr) (dss_cons (ds_set (i := 15) sc_law_wins.nd rfl (.inl rfl) (de_get rfl (dpv 1) (de_get rfl (dpv 14) de_int)))
      (dss_one (ds_if (PW.pt (dw_and (dt_eq (de_get rfl (dpv 15) de_int) de_str rfl hr) (dw_and (dt_ne (de_get rfl (dpv 15) de_int) (dpv 6) rfl hr) (dw_and1 (dt_in (de_get rfl (dpv 14) de_int) (dpv 3) rfl hr (by rfl)))))) (dss_one (ds_set (i := 11) sc_law_wins.nd rfl (.inl rfl) (de_get rfl (dpv 15) de_int))) (dss_cons (ds_set (i := 10) sc_law_wins.nd rfl (.inl rfl) (de_sub (dpv 10) (de_count rfl (dpv 9) (de_get rfl (de_get rfl (dpv 5) (de_get rfl (dpv 14) de_int)) de_int))))
      (dss_cons (ds_set (i := 16) sc_law_wins.nd rfl (.inl rfl) (de_add rfl de_int (de_callB call_len od_len (by rfl) m_len PySem.boot_len (da_cons (de_callC C_law_helpers (hr.mono (by decide)) (by rfl) (da_cons (dpv 0) (da_cons (dpv 1) (da_cons (dpv 2) (da_cons (de_get rfl (dpv 14) de_int) da_nil))))) da_nil))))
      (dss_cons (ds_set (i := 16) sc_law_wins.nd rfl (.inl rfl) (de_ifExp (PW.pt (dw_and (dt_eq (de_get rfl (dpv 15) de_int) de_str rfl hr) (dw_and1 (dt_ne (de_get rfl (dpv 15) de_int) (dpv 6) rfl hr)))) de_int (dpv 16)))
      (dss_one (ds_if (PW.pt (dw_or (dt_eq (de_get rfl (de_get rfl (dpv 5) (de_get rfl (dpv 14) de_int)) de_int) (dpv 7) rfl hr) (dw_or1 (dt_le (dpv 10) (dpv 16) rfl hr)))) (dss_one (ds_ret de_bl)) dss_nil)))))))) dss_nil)
      (dss_cons (ds_forI PassesOwn.never rfl (di_enum rfl (by rfl) m_enumerate (dpv 5)) (dg_tup rfl rfl (dgs_cons (dg_name (i := 12) sc_law_wins.nd rfl (.inl rfl)) (dgs_cons (dg_name (i := 13) sc_law_wins.nd rfl (.inl rfl)) dgs_nil))) (dss_one (ds_if (PW.pt (dw_and (dt_ne (dpv 12) (dpv 4) rfl hr) (dw_and (dt_eq (de_get rfl (dpv 1) (dpv 12)) (de_tup (da_cons de_str (da_cons (dpv 8) da_nil))) rfl hr) (dw_and1 (dt_ne (de_get rfl (dpv 13) de_int) (dpv 11) rfl hr))))) (dss_one (ds_if (dt_le (dpv 10) (de_add rfl de_int (de_callB call_len od_len (by rfl) m_len PySem.boot_len (da_cons (de_callC C_law_helpers (hr.mono (by decide)) (by rfl) (da_cons (dpv 0) (da_cons (dpv 1) (da_cons (dpv 2) (da_cons (dpv 12) da_nil))))) da_nil))) rfl hr) (dss_one (ds_ret de_bl)) dss_nil)) dss_nil)))
      (dss_one (ds_ret de_bl))))))))))
/-! ### _law_back_fits -/
abbrev s_law_back_fits : Stmt := topS 29
abbrev n_law_back_fits : List Str := ["board", "orders", "place", "word", "field", "goal", "order", "spot", "piece"]
theorem sc_law_back_fits : FnScope n_law_back_fits ["board", "orders", "place"] (defScope s_law_back_fits) := ⟨rfl, rfl, rfl, by decide +kernel, rfl, by decide +kernel, by decide +kernel⟩
def t_law_back_fits : TSD := (sSeq (sAsg (dOp dGet (dv 1) (dv 2)) (tTupD 3 (tsCons (tn 3) (tsCons (tn 4) (tsCons (tn 5) tsNil)))))
  (sSeq (sAsg (dOp dGet (dv 1) (dOp dGet (dLc (iEnumD (dOp dGet (dv 0) (dc (.int 1)))) (tTupD 2 (tsCons (tn 7) (tsCons (tn 8) tsNil))) (dCmpT bEq (dOp dGet (dv 8) (dc (.int 0))) (dv 4)) (dv 7) [7, 8]) (dc (.int 0)))) (tn 6))
  (sRet (dIf (dCmpT bNe (dv 5) (dv 4)) (dCmp bEq (dv 6) (dTup (aCons (dc (.str "go")) (aCons (dv 5) aNil)))) (dCmp bNe (dOp dGet (dv 6) (dc (.int 0))) (dc (.str "go")))))))
theorem tr_law_back_fits {P : Program} {w : World} {K : PySem.W.Frag} {mg : Str → Option Value} {base : Heap} {fa : Addr} (m_enumerate : mg "enumerate" = none) (cdv : Value) (A : Around) (outer : List Env) (s : Shared) (H : Hp) (E : XK) (hr : Room 0 (A.deeper (envOfC "_law_back_fits" (defScope s_law_back_fits) s.heap.objs.size fa cdv))) :
    DSs K (cxOf CX0 P w K mg base n_law_back_fits "_law_back_fits" (defScope s_law_back_fits) fa cdv A outer s H E).nox (defBody s_law_back_fits) (t_law_back_fits ) :=
  (dss_cons (ds_asg (de_get rfl (dpv 1) (dpv 2)) (dg_tup rfl rfl (dgs_cons (dg_name (i := 3) sc_law_back_fits.nd rfl (.inl rfl)) (dgs_cons (dg_name (i := 4) sc_law_back_fits.nd rfl (.inr rfl)) (dgs_cons (dg_name (i := 5) sc_law_back_fits.nd rfl (.inl rfl)) dgs_nil)))))
      (dss_cons (ds_set (i := 6) sc_law_back_fits.nd rfl (.inl rfl) (de_get rfl (dpv 1) (de_get rfl (de_lc (own := [("spot", 7), ("piece", 8)]) rfl sc_law_back_fits.nd (di_enum rfl (by rfl) m_enumerate (de_get rfl (dpv 0) de_int)) (blkOk_by (own := [("spot", 7), ("piece", 8)]) (N := n_law_back_fits) (sc := defScope s_law_back_fits) (by decide +kernel)) (fun _ _ _ _ _ => (dg_tup rfl rfl (dgs_cons (dg_name (i := 7) sc_law_back_fits.nd rfl (.inl rfl)) (dgs_cons (dg_name (i := 8) sc_law_back_fits.nd rfl (.inl rfl)) dgs_nil)))) (fun _ _ _ _ _ => (dts_one (dt_eq (de_get rfl (dpv 8) de_int) (dpv 4) rfl hr))) (fun _ _ _ _ _ => (dpv 7)) (by decide)) de_int)))
      (dss_one (ds_ret (de_ifExp (dt_ne (dpv 5) (dpv 4) rfl hr) (de_eq (dpv 6) (de_tup (da_cons de_str (da_cons (dpv 5) da_nil))) rfl hr) (de_ne (de_get rfl (dpv 6) de_int) de_str rfl hr))))))
/-! ### _law_rule -/
abbrev s_law_rule : Stmt := topS 30
abbrev n_law_rule : List Str := ["board", "orders", "value", "place", "pieces", "order", "spot", "wins", "backs", "field", "player", "other", "foe", "own"]
theorem sc_law_rule : FnScope n_law_rule ["board", "orders", "value", "place"] (defScope s_law_rule) := ⟨rfl, rfl, rfl, by decide +kernel, rfl, by decide +kernel, by decide +kernel⟩
def t_law_rule (g_law_wins g_law_back_fits : RDn) : TSD := (sSeq (sPar 4 5 (aCons (dOp dGet (dv 0) (dc (.int 1))) (aCons (dOp dGet (dv 1) (dv 3)) aNil)))
  (sSeq (sIf (dCmpT bEq (dOp dGet (dv 5) (dc (.int 0))) (dc (.str "stay"))) (sRet (dc (.bool true))) sNext)
  (sSeq (sAsg (dLc (iEnumD (dv 2)) (tTupD 2 (tsCons (tn 6) (tsCons (tn 13) tsNil))) (dAnd (dB (dv 13)) (dCmpT bEq (dOp dGet (dOp dGet (dv 1) (dv 6)) (dc (.int 0))) (dc (.str "go")))) (dv 6) [6, 13]) (tn 7))
  (sSeq (sIf (dCmpT bEq (dOp dGet (dv 5) (dc (.int 0))) (dc (.str "go"))) (sSeq (sAsg (dLc (iEnumD (dv 2)) (tTupD 2 (tsCons (tn 6) (tsCons (tn 13) tsNil))) (dAnd (dB (dv 13)) (dCmpT bEq (dOp dGet (dOp dGet (dv 1) (dv 6)) (dc (.int 0))) (dc (.str "back")))) (dv 6) [6, 13]) (tn 8))
  (sRet (dCall g_law_wins (aCons (dv 0) (aCons (dv 1) (aCons (dv 8) (aCons (dv 7) (aCons (dv 3) aNil)))))))) sNext)
  (sSeq (sAsg (dOp dGet (dv 4) (dv 3)) (tTupD 2 (tsCons (tn 9) (tsCons (tn 10) tsNil))))
  (sSeq (sForI (iEnumD (dv 4)) (tTupD 2 (tsCons (tn 6) (tsCons (tTupD 2 (tsCons (tn 11) (tsCons (tn 12) tsNil))) tsNil))) (sIf (dAnd (dCmpT bEq (dOp dGet (dv 1) (dv 6)) (dTup (aCons (dc (.str "go")) (aCons (dv 9) aNil)))) (dOr (dCmpT bInD (dv 6) (dv 7)) (dAnd (dCmpT bNe (dv 12) (dv 10)) (dCmpT bNe (dv 11) (dOp dGet (dv 5) (dc (.int 2))))))) (sRet (dc (.bool false))) sNext))
  (sRet (dCall g_law_back_fits (aCons (dv 0) (aCons (dv 1) (aCons (dv 3) aNil)))))))))))
theorem tr_law_rule {P : Program} {w : World} {K : PySem.W.Frag} {mg : Str → Option Value} {base : Heap} {fa : Addr} {g_law_wins g_law_back_fits : RDn} (C_law_wins : Cal P w K mg base 2 "_law_wins" ["board", "orders", "backs", "wins", "place"] (spN K g_law_wins)) (C_law_back_fits : Cal P w K mg base 1 "_law_back_fits" ["board", "orders", "place"] (spN K g_law_back_fits)) (m_enumerate : mg "enumerate" = none) (cdv : Value) (A : Around) (outer : List Env) (s : Shared) (H : Hp) (E : XK) (hr : Room 2 (A.deeper (envOfC "_law_rule" (defScope s_law_rule) s.heap.objs.size fa cdv))) :
    DSs K (cxOf CX0 P w K mg base n_law_rule "_law_rule" (defScope s_law_rule) fa cdv A outer s H E).nox (defBody s_law_rule) (t_law_rule g_law_wins g_law_back_fits) :=
  (dss_cons (ds_par (i := 4) (j := 5) rfl sc_law_rule.nd rfl rfl (by decide) rfl rfl (da_cons (de_get rfl (dpv 0) de_int) (da_cons (de_get rfl (dpv 1) (dpv 3)) da_nil)) (by rfl))
      (dss_cons (ds_if (dt_eq (de_get rfl (dpv 5) de_int) de_str rfl hr) (dss_one (ds_ret de_bl)) dss_nil)
      (dss_cons (ds_setLc (i := 7) (own := [("spot", 6), ("own", 13)]) rfl sc_law_rule.nd rfl rfl (sw_true rfl rfl rfl (by decide +kernel)) (di_enum rfl (by rfl) m_enumerate (dpv 2)) (blkOk_by (own := [("spot", 6), ("own", 13)]) (N := n_law_rule) (sc := defScope s_law_rule) (by decide +kernel)) (fun _ _ _ _ _ => (dg_tup rfl rfl (dgs_cons (dg_name (i := 6) sc_law_rule.nd rfl (.inl rfl)) (dgs_cons (dg_name (i := 13) sc_law_rule.nd rfl (.inl rfl)) dgs_nil)))) (fun _ _ _ _ _ => (dts_one (PW.pt (dw_and (dt_val (dpv 13)) (dw_and1 (dt_eq (de_get rfl (de_get rfl (dpv 1) (dpv 6)) de_int) de_str rfl hr)))))) (fun _ _ _ _ _ => (dpv 6)) (by decide))
      (dss_cons (ds_if (dt_eq (de_get rfl (dpv 5) de_int) de_str rfl hr) (dss_cons (ds_setLc (i := 8) (own := [("spot", 6), ("own", 13)]) rfl sc_law_rule.nd rfl rfl (sw_true rfl rfl rfl (by decide +kernel)) (di_enum rfl (by rfl) m_enumerate (dpv 2)) (blkOk_by (own := [("spot", 6), ("own", 13)]) (N := n_law_rule) (sc := defScope s_law_rule) (by decide +kernel)) (fun _ _ _ _ _ => (dg_tup rfl rfl (dgs_cons (dg_name (i := 6) sc_law_rule.nd rfl (.inl rfl)) (dgs_cons (dg_name (i := 13) sc_law_rule.nd rfl (.inl rfl)) dgs_nil)))) (fun _ _ _ _ _ => (dts_one (PW.pt (dw_and (dt_val (dpv 13)) (dw_and1 (dt_eq (de_get rfl (de_get rfl (dpv 1) (dpv 6)) de_int) de_str rfl hr)))))) (fun _ _ _ _ _ => (dpv 6)) (by decide))
      (dss_one (ds_ret (de_callC C_law_wins (hr.mono (by decide)) (by rfl) (da_cons (dpv 0) (da_cons (dpv 1) (da_cons (dpv 8) (da_cons (dpv 7) (da_cons (dpv 3) da_nil))))))))) dss_nil)
      (dss_cons (ds_asg (de_get rfl (dpv 4) (dpv 3)) (dg_tup rfl rfl (dgs_cons (dg_name (i := 9) sc_law_rule.nd rfl (.inl rfl)) (dgs_cons (dg_name (i := 10) sc_law_rule.nd rfl (.inl rfl)) dgs_nil))))
      (dss_cons (ds_forI PassesOwn.never rfl (di_enum rfl (by rfl) m_enumerate (dpv 4)) (dg_tup rfl rfl (dgs_cons (dg_name (i := 6) sc_law_rule.nd rfl (.inl rfl)) (dgs_cons (dg_tup rfl rfl (dgs_cons (dg_name (i := 11) sc_law_rule.nd rfl (.inl rfl)) (dgs_cons (dg_name (i := 12) sc_law_rule.nd rfl (.inl rfl)) dgs_nil))) dgs_nil))) (dss_one (ds_if (PW.pt (dw_and (dt_eq (de_get rfl (dpv 1) (dpv 6)) (de_tup (da_cons de_str (da_cons (dpv 9) da_nil))) rfl hr) (dw_and1 (PW.pt (dw_or (dt_in (dpv 6) (dpv 7) rfl hr (by rfl)) (dw_or1 (PW.pt (dw_and (dt_ne (dpv 12) (dpv 10) rfl hr) (dw_and1 (dt_ne (dpv 11) (de_get rfl (dpv 5) de_int) rfl hr)))))))))) (dss_one (ds_ret de_bl)) dss_nil)))
      (dss_one (ds_ret (de_callC C_law_back_fits (hr.mono (by decide)) (by rfl) (da_cons (dpv 0) (da_cons (dpv 1) (da_cons (dpv 3) da_nil))))))))))))
/-! ### _law_settled_due -/
abbrev s_law_settled_due : Stmt := topS 31
abbrev n_law_settled_due : List Str := ["board", "orders", "value", "place", "own"]
theorem sc_law_settled_due : FnScope n_law_settled_due ["board", "orders", "value"] (defScope s_law_settled_due) := ⟨rfl, rfl, rfl, by decide +kernel, rfl, by decide +kernel, by decide +kernel⟩
def t_law_settled_due (g_law_rule : RDn) : TSD := (sSeq (sIf (dOr (dNot (dB (dIsi isTupD (dv 2)))) (dCmpT bNe (dCall dLen (aCons (dv 2) aNil)) (dCall dLen (aCons (dv 1) aNil)))) (sRet (dc (.str "form"))) sNext)
  (sSeq (sIf (dCmpT bNe (dLc (iSeq (dv 2)) (tn 4) (dNot (dB (dIsi isBoolD (dv 4)))) (dc (.int 1)) [4]) (dLst aNil)) (sRet (dc (.str "form"))) sNext)
  (sSeq (sForI (iRng1D (dCall dLen (aCons (dv 1) aNil))) (tn 3) (sIf (dCmpT bNe (dCall g_law_rule (aCons (dv 0) (aCons (dv 1) (aCons (dv 2) (aCons (dv 3) aNil))))) (dOp dGet (dv 2) (dv 3))) (sRet (dTup (aCons (dc (.str "order")) (aCons (dv 3) aNil)))) sNext))
  (sRet (dc .none)))))
theorem tr_law_settled_due {P : Program} {w : World} {K : PySem.W.Frag} {mg : Str → Option Value} {base : Heap} {fa : Addr} {g_law_rule : RDn} (C_law_rule : Cal P w K mg base 3 "_law_rule" ["board", "orders", "value", "place"] (spN K g_law_rule)) (m_isinstance : mg "isinstance" = none) (m_tuple : mg "tuple" = none) (m_len : mg "len" = none) (m_bool : mg "bool" = none) (m_range : mg "range" = none) (cdv : Value) (A : Around) (outer : List Env) (s : Shared) (H : Hp) (E : XK) (hr : Room 3 (A.deeper (envOfC "_law_settled_due" (defScope s_law_settled_due) s.heap.objs.size fa cdv))) :
    DSs K (cxOf CX0 P w K mg base n_law_settled_due "_law_settled_due" (defScope s_law_settled_due) fa cdv A outer s H E).nox (defBody s_law_settled_due) (t_law_settled_due g_law_rule) :=
  (dss_cons (ds_if (PW.pt (dw_or (dt_not (dt_val (de_isi rfl kit_tup (by rfl) m_isinstance (by rfl) m_tuple PyProof.Rows.boot_tuple (dpv 2)))) (dw_or1 (dt_ne (de_callB call_len od_len (by rfl) m_len PySem.boot_len (da_cons (dpv 2) da_nil)) (de_callB call_len od_len (by rfl) m_len PySem.boot_len (da_cons (dpv 1) da_nil)) rfl hr)))) (dss_one (ds_ret de_str)) dss_nil)
      (dss_cons (ds_if (dt_ne (de_lc (own := [("own", 4)]) rfl sc_law_settled_due.nd (di_seq rfl (dpv 2)) (blkOk_by (own := [("own", 4)]) (N := n_law_settled_due) (sc := defScope s_law_settled_due) (by decide +kernel)) (fun _ _ _ _ _ => (dg_name (i := 4) sc_law_settled_due.nd rfl (.inl rfl))) (fun _ _ _ _ _ => (dts_one (dt_not (dt_val (de_isi rfl kit_bool (by rfl) m_isinstance (by rfl) m_bool PyProof.Rows.boot_bool (dpv 4)))))) (fun _ _ _ _ _ => de_int) (by decide)) (de_lst da_nil) rfl hr) (dss_one (ds_ret de_str)) dss_nil)
      (dss_cons (ds_forI PassesOwn.never rfl (di_range1 (by rfl) m_range (de_callB call_len od_len (by rfl) m_len PySem.boot_len (da_cons (dpv 1) da_nil))) (dg_name (i := 3) sc_law_settled_due.nd rfl (.inl rfl)) (dss_one (ds_if (dt_ne (de_callC C_law_rule (hr.mono (by decide)) (by rfl) (da_cons (dpv 0) (da_cons (dpv 1) (da_cons (dpv 2) (da_cons (dpv 3) da_nil))))) (de_get rfl (dpv 2) (dpv 3)) rfl hr) (dss_one (ds_ret (de_tup (da_cons de_str (da_cons (dpv 3) da_nil))))) dss_nil)))
      (dss_one (ds_ret de_non)))))
/-! ### _law_all_tuples -/
abbrev s_law_all_tuples : Stmt := topS 32
abbrev n_law_all_tuples : List Str := ["many", "found", "turn", "elder", "own"]
theorem sc_law_all_tuples : FnScope n_law_all_tuples ["many"] (defScope s_law_all_tuples) := ⟨rfl, rfl, rfl, by decide +kernel, rfl, by decide +kernel, by decide +kernel⟩
def t_law_all_tuples : TSD := (sSeq (sAsg (dLst (aCons (dTup aNil) aNil)) (tn 1))
  (sSeq (sForI (iRng1D (dv 0)) (tn 2) (sSeq (sPar 3 1 (aCons (dv 1) (aCons (dLst aNil) aNil)))
  (sForI (iSeq (dv 3)) (tn 4) (sAsg (dOp dAdd (dv 1) (dLst (aCons (dOp dAdd (dv 4) (dTup (aCons (dc (.bool false)) aNil))) (aCons (dOp dAdd (dv 4) (dTup (aCons (dc (.bool true)) aNil))) aNil)))) (tn 1)))))
  (sRet (dv 1))))
theorem tr_law_all_tuples {P : Program} {w : World} {K : PySem.W.Frag} {mg : Str → Option Value} {base : Heap} {fa : Addr} (m_range : mg "range" = none) (cdv : Value) (A : Around) (outer : List Env) (s : Shared) (H : Hp) (E : XK) (hr : Room 0 (A.deeper (envOfC "_law_all_tuples" (defScope s_law_all_tuples) s.heap.objs.size fa cdv))) :
    DSs K (cxOf CX0 P w K mg base n_law_all_tuples "_law_all_tuples" (defScope s_law_all_tuples) fa cdv A outer s H E).nox (defBody s_law_all_tuples) (t_law_all_tuples ) :=
  (dss_cons (ds_set (i := 1) sc_law_all_tuples.nd rfl (.inl rfl) (de_lst (da_cons (de_tup da_nil) da_nil)))
      (dss_cons (ds_forI PassesOwn.never rfl (di_range1 (by rfl) m_range (dpv 0)) (dg_name (i := 2) sc_law_all_tuples.nd rfl (.inl rfl)) (dss_cons (ds_par (i := 3) (j := 1) rfl sc_law_all_tuples.nd rfl rfl (by decide) rfl rfl (da_cons (dpv 1) (da_cons (de_lst da_nil) da_nil)) (by rfl))
      (dss_one (ds_forI PassesOwn.never rfl (di_seq rfl (dpv 3)) (dg_name (i := 4) sc_law_all_tuples.nd rfl (.inl rfl)) (dss_one (ds_set (i := 1) sc_law_all_tuples.nd rfl (.inl rfl) (de_add rfl (dpv 1) (de_lst (da_cons (de_add rfl (dpv 4) (de_tup (da_cons de_bl da_nil))) (da_cons (de_add rfl (dpv 4) (de_tup (da_cons de_bl da_nil))) da_nil))))))))))
      (dss_one (ds_ret (dpv 1)))))
/-! ### law -/
abbrev s_law : Stmt := topS 33
abbrev n_law : List Str := ["script", "deck", "turn", "board", "orders", "kept", "keep_them", "spot", "value", "due", "told"]
theorem sc_law : FnScope n_law ["script"] (defScope s_law) := ⟨rfl, rfl, rfl, by decide +kernel, rfl, by decide +kernel, by decide +kernel⟩
def t_law (g_law_board g_law_draw g_law_orders g_law_all_tuples g_law_settled_due g_settlement_error : RDn) : TSD := (sSeq (sForI (iRng1D (dc (.int 3))) (tn 2) (sSeq (sAsg (dCallK 1 g_law_board (aCons (dOp dAdd (dc (.int 4)) (dCallK 1 g_law_draw (aCons (dc (.int 4)) aNil))) (aCons (dOp dGet (dLst (aCons (dc (.int 3)) (aCons (dc (.int 4)) (aCons (dc (.int 6)) aNil)))) (dv 2)) aNil))) (tn 3))
  (sSeq (sAsg (dCallK 1 g_law_orders (aCons (dv 3) aNil)) (tn 4))
  (sSeq (sPar 5 6 (aCons (dCall dRepr (aCons (dLst (aCons (dv 3) (aCons (dv 4) aNil))) aNil)) (aCons (dc (.int 0)) aNil)))
  (sSeq (sForI (iEnumD (dCall g_law_all_tuples (aCons (dCall dLen (aCons (dv 4) aNil)) aNil))) (tTupD 2 (tsCons (tn 7) (tsCons (tn 8) tsNil))) (sSeq (sAsg (dCall g_law_settled_due (aCons (dv 3) (aCons (dv 4) (aCons (dv 8) aNil)))) (tn 9))
  (sSeq (sAsg (dCall g_settlement_error (aCons (dv 3) (aCons (dv 4) (aCons (dv 8) aNil)))) (tn 10))
  (sCut (sIf (dCmpT bEq (dOp (dI2 (fun _ j => 0 < j) fun i j => i % j) (dv 7) (dc (.int 7))) (dc (.int 1))) (sAsg (dCallP g_settlement_error [2, 1, 0] (aCons (dv 8) (aCons (dv 4) (aCons (dv 3) aNil)))) (tn 10)) sNext)
  (sSeq (sIf (dCmpT bNe (dCall dRepr (aCons (dv 10) aNil)) (dCall dRepr (aCons (dv 9) aNil))) (sRet (dc (.bool false))) sNext)
  (sAsg (dOp dAdd (dv 6) (dCall dInt1 (aCons (dCmp bIsN (dv 9) (dc .none)) aNil))) (tn 6)))))))
  (sIf (dOr (dCmpT bEq (dv 6) (dc (.int 0))) (dCmpT bNe (dCall dRepr (aCons (dLst (aCons (dv 3) (aCons (dv 4) aNil))) aNil)) (dv 5))) (sRet (dc (.bool false))) sNext))))))
  (sRet (dc (.bool true))))
theorem tr_law {P : Program} {w : World} {K : PySem.W.Frag} {mg : Str → Option Value} {base : Heap} {fa : Addr} {g_law_board g_law_draw g_law_orders g_law_all_tuples g_law_settled_due g_settlement_error : RDn} (C_law_board : Cal P w K mg base 4 "_law_board" ["deck", "fields", "many"] (spK K g_law_board)) (C_law_draw : Cal P w K mg base 1 "_law_draw" ["deck", "many"] (spK K g_law_draw)) (C_law_orders : Cal P w K mg base 4 "_law_orders" ["deck", "board"] (spK K g_law_orders)) (C_law_all_tuples : Cal P w K mg base 1 "_law_all_tuples" ["many"] (spN K g_law_all_tuples)) (C_law_settled_due : Cal P w K mg base 4 "_law_settled_due" ["board", "orders", "value"] (spN K g_law_settled_due)) (C_settlement_error : Cal P w K mg base 6 "settlement_error" ["board", "orders", "value"] (spN K g_settlement_error)) (KW_settlement_error210 : CalW P w K mg base 6 "settlement_error" ["board", "orders", "value"] ["value", "orders", "board"] [2, 1, 0] (spN K g_settlement_error)) (m_range : mg "range" = none) (m_repr : mg "repr" = none) (m_enumerate : mg "enumerate" = none) (m_len : mg "len" = none) (m_int : mg "int" = none) (cdv : Value) (A : Around) (outer : List Env) (s : Shared) (H : Hp) (E : XK) (hsys : ∃ o, base.get? sysModules = some o) (hgd : (A.deeper (envOfC "law" (defScope s_law) s.heap.objs.size fa cdv)).guards = some []) (hr : Room 6 (A.deeper (envOfC "law" (defScope s_law) s.heap.objs.size fa cdv))) :
    DSs K (cxOf CX0 P w K mg base n_law "law" (defScope s_law) fa cdv A outer s H E).nox (defBody s_law).tail (t_law g_law_board g_law_draw g_law_orders g_law_all_tuples g_law_settled_due g_settlement_error) :=
  (dss_cons (ds_forI PassesOwn.never rfl (di_range1 (by rfl) m_range de_int) (dg_name (i := 2) sc_law.nd rfl (.inl rfl)) (dss_cons (ds_set (i := 3) sc_law.nd rfl (.inl rfl) (de_callKC C_law_board (hr.mono (by decide)) (by rfl) (i := 1) rfl (by first | exact .inl rfl | exact .inr (.inl rfl) | exact .inr (.inr rfl)) (da_cons (de_add rfl de_int (de_callKC C_law_draw (hr.mono (by decide)) (by rfl) (i := 1) rfl (by first | exact .inl rfl | exact .inr (.inl rfl) | exact .inr (.inr rfl)) (da_cons de_int da_nil))) (da_cons (de_get rfl (de_lst (da_cons de_int (da_cons de_int (da_cons de_int da_nil)))) (dpv 2)) da_nil))))
      (dss_cons (ds_set (i := 4) sc_law.nd rfl (.inl rfl) (de_callKC C_law_orders (hr.mono (by decide)) (by rfl) (i := 1) rfl (by first | exact .inl rfl | exact .inr (.inl rfl) | exact .inr (.inr rfl)) (da_cons (dpv 3) da_nil)))
      (dss_cons (ds_par (i := 5) (j := 6) rfl sc_law.nd rfl rfl (by decide) rfl rfl (da_cons (de_repr rfl hsys hgd hr.units (by rfl) m_repr (de_lst (da_cons (dpv 3) (da_cons (dpv 4) da_nil)))) (da_cons de_int da_nil)) (by rfl))
      (dss_cons (ds_forI PassesOwn.never rfl (di_enum rfl (by rfl) m_enumerate (de_callC C_law_all_tuples (hr.mono (by decide)) (by rfl) (da_cons (de_callB call_len od_len (by rfl) m_len PySem.boot_len (da_cons (dpv 4) da_nil)) da_nil))) (dg_tup rfl rfl (dgs_cons (dg_name (i := 7) sc_law.nd rfl (.inl rfl)) (dgs_cons (dg_name (i := 8) sc_law.nd rfl (.inl rfl)) dgs_nil))) (dss_cons (ds_set (i := 9) sc_law.nd rfl (.inl rfl) (de_callC C_law_settled_due (hr.mono (by decide)) (by rfl) (da_cons (dpv 3) (da_cons (dpv 4) (da_cons (dpv 8) da_nil)))))
      (dss_cons (ds_set (i := 10) sc_law.nd rfl (.inl rfl) (de_callC C_settlement_error (hr.mono (by decide)) (by rfl) (da_cons (dpv 3) (da_cons (dpv 4) (da_cons (dpv 8) da_nil)))))
      (dss_cut (ds_if (dt_eq (de_mod (dpv 7) de_int) de_int rfl hr) (dss_one (ds_set (i := 10) sc_law.nd rfl (.inl rfl) (de_callKw KW_settlement_error210 (hr.mono (by decide)) (by rfl) (dk_cons (dpv 8) (dk_cons (dpv 4) (dk_cons (dpv 3) dk_nil)))))) dss_nil)
      (dss_cons (ds_if (dt_ne (de_repr rfl hsys hgd hr.units (by rfl) m_repr (dpv 10)) (de_repr rfl hsys hgd hr.units (by rfl) m_repr (dpv 9)) rfl hr) (dss_one (ds_ret de_bl)) dss_nil)
      (dss_one (ds_set (i := 6) sc_law.nd rfl (.inl rfl) (de_add rfl (dpv 6) (de_callTy call_int1 od_int1 (by rfl) m_int PyProof.Rows.boot_int (da_cons (de_isN (dpv 9) de_non) da_nil))))))))))
      (dss_one (ds_if (PW.pt (dw_or (dt_eq (dpv 6) de_int rfl hr) (dw_or1 (dt_ne (de_repr rfl hsys hgd hr.units (by rfl) m_repr (de_lst (da_cons (dpv 3) (da_cons (dpv 4) da_nil)))) (dpv 5) rfl hr)))) (dss_one (ds_ret de_bl)) dss_nil)))))))
      (dss_one (ds_ret de_bl)))
end Dl

namespace Kt
open PySem PySem.Spec PyProof.Rows L2
def topS (i : Nat) : Stmt := PySem.Challenge.pw_whateverothers_k10_whole_all_tuples_of_b.main.body.getD i (.Pass ⟨0, 0, 0, 0⟩)
abbrev s_wall : Stmt := topS 0
abbrev s_is_fit : Stmt := topS 2
abbrev s_cls_Clash : Stmt := topS 3
abbrev s_settlement_error : Stmt := topS 5
abbrev s_first_cutter : Stmt := topS 6
abbrev s_barrier_to : Stmt := topS 7
abbrev s_repelled_by_met : Stmt := topS 8
abbrev s_holding_by : Stmt := topS 9
abbrev s_first_rival : Stmt := topS 10
abbrev s_go_wins : Stmt := topS 11
abbrev s_is_settlement : Stmt := topS 12
abbrev s_told : Stmt := topS 13
abbrev s_back_stands : Stmt := topS 14
abbrev sDeck : Stmt := topS 16
abbrev sDraw : Stmt := topS 17
abbrev sPick : Stmt := topS 18
abbrev sMixed : Stmt := topS 19
abbrev sBeside : Stmt := topS 20
abbrev sChart : Stmt := topS 21
abbrev sPieces : Stmt := topS 22
abbrev sOrdersOf : Stmt := topS 23
abbrev sGos : Stmt := topS 24
abbrev sOrders : Stmt := topS 25
abbrev sBoard : Stmt := topS 26
abbrev s_law_helpers : Stmt := topS 27
abbrev s_law_wins : Stmt := topS 28
abbrev sBackFits : Stmt := topS 29
abbrev s_law_rule : Stmt := topS 30
abbrev s_law_settled_due : Stmt := topS 31
abbrev s_law_all_tuples : Stmt := topS 32
abbrev sLaw : Stmt := topS 33
end Kt

set_option Elab.async false
set_option linter.all false
set_option maxRecDepth 100000
set_option maxHeartbeats 4000000
namespace Kt
open PySem PySem.Spec PyProof.Rows L2
section
variable {P : Program} {w : World} {K : PySem.W.Frag} {mg : Str → Option Value} {base : Heap}
theorem scDraw : FnScope ["deck", "many", "cell", "mixed"] ["deck", "many"] (defScope sDraw) := ⟨rfl, rfl, rfl, by decide +kernel, rfl, by decide +kernel, by decide +kernel⟩
theorem ok_draw {f : Addr} {fd : FuncData} (F : Fun K "_law_draw" "_law_draw" sDraw f fd) (mI : mg "int" = none) : FnOk P w K mg base CX0 1 f fd ["deck", "many"] spDraw := by
  refine F.ok scDraw (fun vs H Q E h => ?_) (fun cdv A outer s H vs Q E hr h => ?_)
  · obtain ⟨a, c, m, rfl, _⟩ := h
    rfl
  · obtain ⟨a, c, m, rfl, ⟨cells, st, n, h1, h2, nac⟩, hm0, hm1, k⟩ := h
    refine ⟨_, pss_cons (ps_if (pt_cmpR (op_neD hr.units) (kl (pv 0) pe_int) (pe_lst pa_nil) (nomark _))
        (pss_cons (ps_set (i := 2) scDraw.nd rfl (.inl rfl) (kl (kl (pv 0) pe_int) pe_int))
        (pss_cons (ps_asg (pe_op op_fdiv (pv 2) (pv 1)) (pg_sub (kl (pv 0) pe_int) pe_int set_list))
        (pss_cons (ps_if (pt_cmpR op_lt (pv 2) (pv 1) (nomark _)) (pss_one (ps_expr (pe_bm PySem.F.plainAttrs_list PySem.F.slot_list_pop PySem.F.type_list_pop mt_popAt (kl (pv 0) pe_int) (pa_cons pe_int pa_nil)))) pss_nil)
        (pss_one (ps_ret (pe_op op_mod (pe_callTy call_int1 (by rfl) mI PyProof.Rows.boot_int (pa_cons (pv 2) pa_nil)) (pv 1))))))) pss_nil)
      (pss_cons (ps_asg (pe_op op_add (kl (pv 0) pe_int) pe_int) (pg_sub (pv 0) pe_int set_list))
      (pss_cons (ps_set (i := 3) scDraw.nd rfl (.inl rfl) (pe_op op_mod (pe_callTy call_int1 (by rfl) mI PyProof.Rows.boot_int (pa_cons (pe_op op_add (kl (pv 0) pe_int) (pe_op op_mul pe_int (kl (pv 0) pe_int))) pa_nil)) pe_int))
      (pss_cons (ps_set (i := 3) scDraw.nd rfl (.inl rfl) (pe_op op_mod (pe_callTy call_int1 (by rfl) mI PyProof.Rows.boot_int (pa_cons (pe_op op_add (pe_op op_add (pe_op op_mul (pv 3) (pv 3)) (pe_op op_mul pe_int (kl (pv 0) pe_int))) pe_int) pa_nil)) pe_int))
      (pss_cons (ps_set (i := 3) scDraw.nd rfl (.inl rfl) (pe_op op_mod (pe_callTy call_int1 (by rfl) mI PyProof.Rows.boot_int (pa_cons (pe_op op_add (pe_op op_mul (pv 3) (pv 3)) (kl (pv 0) pe_int)) pa_nil)) pe_int))
      (pss_one (ps_ret (pe_op op_mod (pe_callTy call_int1 (by rfl) mI PyProof.Rows.boot_int (pa_cons (pe_op op_fdiv (pv 3) pe_int) pa_nil)) (pv 1)))))))), ?_⟩
    refine ⟨.ref a, rfl, a, _, 0, _, rfl, rfl, SqL.of h1, at0, Nat.zero_le _, fun e he => ?_⟩
    have ne1 := ne_of_none h1 he
    have ne2 := ne_of_none h2 he
    have h1' : (upd H e (.lst [])) a = some (.lst [.ref c, .int st, .int n]) := by rw [upd_ne ne1]; exact h1
    have h2' : (upd H e (.lst [])) c = some (.lst (cells.map V.int)) := by rw [upd_ne ne2]; exact h2
    have k0 : Kp [a, c] H (upd H e (.lst [])) := Kp.new he
    refine ⟨_, _, .lst (SqL.of h2') (dp_ints cells), .lst (SqL.of upd_same) .nil, shaped_ints cells, shaped_ints [], _, rfl, ?_⟩
    generalize upd H e (.lst []) = H1 at h1' h2' k0
    rw [eqv_nil]
    cases cells with
    | nil =>
      refine iteF ?_
      -- deck[2] = deck[2] + 1
      refine ⟨.ref a, rfl, a, _, 2, _, rfl, rfl, SqL.of h1', at2, n, 1, rfl, rfl, .ref a, rfl, a, _, 2, 2, rfl, rfl, h1', ix2, ?_⟩
      have h1n : (upd H1 a (.lst [.ref c, .int st, .int (n + 1)])) a = some (.lst [.ref c, .int st, .int (n + 1)]) := upd_same
      have k1 : Kp [a, c] H (upd H1 a (.lst [.ref c, .int st, .int (n + 1)])) := k0.trans (Kp.put (by simp))
      have h2n : (upd H1 a (.lst [.ref c, .int st, .int (n + 1)])) c = some (.lst []) := by rw [upd_ne nac.symm]; exact h2'
      show tSeq _ _ _ _ (upd H1 a (.lst [.ref c, .int st, .int (n + 1)]))
      generalize upd H1 a (.lst [.ref c, .int st, .int (n + 1)]) = H2 at h1n h2n k1
      refine ⟨.ref a, rfl, a, _, 1, _, rfl, rfl, SqL.of h1n, at1, .ref a, rfl, a, _, 2, _, rfl, rfl, SqL.of h1n, at2, _, _, rfl, rfl, .inl ⟨by decide, by decide⟩, _, _, rfl, rfl, .inl ⟨_, rfl, _, _, rfl, rfl, (by show (0 : Int) < 4294967291; decide), ?_⟩⟩
      generalize hx : (st + 2654435761 * (n + 1)) % 4294967291 = x
      have hx0 : 0 ≤ x ∧ x < 4294967291 := by omega
      refine ⟨_, rfl, _, rfl, _, _, rfl, rfl, .inl ⟨by omega, by omega⟩, .ref a, rfl, a, _, 2, _, rfl, rfl, SqL.of h1n, at2, _, _, rfl, rfl, .inl ⟨by decide, by decide⟩, _, _, rfl, rfl, _, _, rfl, rfl, .inl ⟨_, rfl, _, _, rfl, rfl, (by show (0 : Int) < 4294967279; decide), ?_⟩⟩
      generalize hy : (x * x + 40503 * (n + 1) + 11) % 4294967279 = y
      have hy0 : 0 ≤ y ∧ y < 4294967279 := by omega
      refine ⟨_, rfl, _, rfl, _, _, rfl, rfl, .inl ⟨by omega, by omega⟩, .ref a, rfl, a, _, 1, _, rfl, rfl, SqL.of h1n, at1, _, _, rfl, rfl, .inl ⟨_, rfl, _, _, rfl, rfl, (by show (0 : Int) < 4294967231; decide), ?_⟩⟩
      refine ⟨_, rfl, _, _, rfl, rfl, ⟨by decide, by decide⟩, .inl ⟨_, rfl, .int m, rfl, _, _, rfl, rfl, hm0, ?_⟩⟩
      exact k H2 _ (Int.emod_nonneg _ (by omega)) (Int.emod_lt_of_pos _ hm0) ⟨[], st, n + 1, h1n, h2n, nac⟩ k1
    | cons x cells =>
      refine iteT ?_
      -- cell = deck[0][0]
      refine ⟨.ref a, rfl, a, _, 0, _, rfl, rfl, SqL.of h1', at0, c, _, 0, _, rfl, rfl, SqL.of h2', at0, ?_⟩
      -- deck[0][0] = cell // many
      refine ⟨_, rfl, _, rfl, _, _, rfl, rfl, ⟨hm0, hm1⟩, .ref a, rfl, a, _, 0, _, rfl, rfl, SqL.of h1', at0, c, _, 0, 0, rfl, rfl, h2', ix0 (by simp), ?_⟩
      have e3 : ((x :: cells).map V.int).set 0 (.int (x / m)) = (x / m :: cells).map V.int := rfl
      rw [e3]
      have h1n : (upd H1 c (.lst ((x / m :: cells).map V.int))) a = some (.lst [.ref c, .int st, .int n]) := by rw [upd_ne nac]; exact h1'
      have h2n : (upd H1 c (.lst ((x / m :: cells).map V.int))) c = some (.lst ((x / m :: cells).map V.int)) := upd_same
      have k1 : Kp [a, c] H (upd H1 c (.lst ((x / m :: cells).map V.int))) := k0.trans (Kp.put (by simp))
      generalize upd H1 c (.lst ((x / m :: cells).map V.int)) = H2 at h1n h2n k1
      -- if cell < many
      refine ⟨_, rfl, _, rfl, _, _, rfl, rfl, _, rfl, ite2 (fun _ => ?_) (fun _ => ?_)⟩
      · refine ⟨.ref a, rfl, a, _, 0, _, rfl, rfl, SqL.of h1n, at0, .inl ⟨rfl, _, SqL.of h2n⟩, c, _, 0, 0, _, rfl, rfl, h2n, by decide, by decide, seq0 (by simp), rfl, ?_⟩
        refine ⟨_, rfl, .inl ⟨_, rfl, .int m, rfl, _, _, rfl, rfl, hm0, ?_⟩⟩
        refine k _ _ (Int.emod_nonneg _ (by omega)) (Int.emod_lt_of_pos _ hm0) ⟨cells, st, n, by rw [upd_ne nac]; exact h1n, upd_same, nac⟩ (k1.trans (Kp.put (by simp)))
      · refine ⟨_, rfl, .inl ⟨_, rfl, .int m, rfl, _, _, rfl, rfl, hm0, ?_⟩⟩
        exact k _ _ (Int.emod_nonneg _ (by omega)) (Int.emod_lt_of_pos _ hm0) ⟨_, st, n, h1n, h2n, nac⟩ k1
end
end Kt

set_option Elab.async false
set_option linter.all false
set_option maxRecDepth 100000
set_option maxHeartbeats 4000000
namespace Kt
open PySem PySem.Spec PyProof.Rows L2
theorem map_ints_get {ns : List Int} {i : Nat} {y : V} (h : (ns.map V.int)[i]? = some y) : ∃ n, ns[i]? = some n ∧ y = .int n := by
  rw [List.getElem?_map] at h
  cases e : ns[i]? with
  | none => rw [e] at h; cases h
  | some n => rw [e] at h; exact ⟨n, rfl, (Option.some.inj h).symm⟩
theorem cutV_ints (ns : List Int) (lo hi : Option Int) : ∃ ms : List Int, cutV (ns.map V.int) lo hi = ms.map V.int ∧ ms.length ≤ ns.length := by
  refine ⟨(ns.drop (HT.sIx (ns.map V.int).length 0 lo)).take (HT.sIx (ns.map V.int).length (ns.map V.int).length hi - HT.sIx (ns.map V.int).length 0 lo), ?_, ?_⟩
  · unfold cutV
    rw [List.map_take, List.map_drop]
  · rw [List.length_take, List.length_drop]
    omega
theorem kz_seq {H H' : Hp} (h : Kp [] H H') : Same H H' := fun b o e => h b o (by simp) e
def spDeck (K : PySem.W.Frag) : Sp := fun vs H Q _ => ∃ (p : Addr) (ns : List Int), vs = [.ref p] ∧ SqL K H p (ns.map V.int) ∧ ns.length ≤ 63 ∧ ∀ (H' : Hp) (a c : Addr), DeckAt H' a c → Kp [] H H' → H a = none → H c = none → Q (.ref a) H'
section
variable {P : Program} {w : World} {K : PySem.W.Frag} {mg : Str → Option Value} {base : Heap}
theorem scDeck : FnScope ["script", "cell", "cells", "stirred"] ["script"] (defScope sDeck) := ⟨rfl, rfl, rfl, by decide +kernel, rfl, by decide +kernel, by decide +kernel⟩
theorem ok_deck {f : Addr} {fd : FuncData} (F : Fun K "_law_deck" "_law_deck" sDeck f fd) (mI : mg "int" = none) (mL : mg "len" = none) : FnOk P w K mg base CX0 1 f fd ["script"] (spDeck K) := by
  refine F.ok scDeck (fun vs H Q E h => ?_) (fun cdv A outer s H vs Q E hr h => ?_)
  · obtain ⟨p, ns, rfl, _⟩ := h
    rfl
  · obtain ⟨p, ns, rfl, hp, hlen, k⟩ := h
    refine ⟨_, pss_cons (ps_par (i := 2) (j := 3) rfl scDeck.nd rfl rfl (by decide) rfl rfl
        (pa_cons (pe_lc (own := [("cell", 1)]) (g := gName 1) rfl scDeck.nd (pi_list (pe_slice sl_list (pv 0) po_none (po_some pe_int))) (blkOk_by (own := [("cell", 1)]) (N := ["script", "cell", "cells", "stirred"]) (sc := defScope sDeck) (by decide +kernel))
            (fun _ _ _ _ _ => pg_name (i := 1) scDeck.nd rfl (.inl rfl)) (fun _ _ _ _ _ => pts_nil)
            (fun _ _ _ _ _ => pe_ifExp (pt_cmpR op_ge (pv 1) pe_int (nomark _)) (pe_op op_mul pe_int (pv 1)) (pe_op op_sub (pe_op op_mul (pe_un un_neg pe_int) (pv 1)) pe_int)))
          (pa_cons (pe_op op_add pe_int (pe_callB call_len_seq (by rfl) mL PySem.boot_len (pa_cons (pv 0) pa_nil))) pa_nil)) (by rfl))
      (pss_cons (ps_for PassesOwn.never rfl (pi_list (pv 2)) (pg_name (i := 1) scDeck.nd rfl (.inl rfl))
        (pss_one (ps_set (i := 3) scDeck.nd rfl (.inl rfl) (pe_op op_mod (pe_callTy call_int1 (by rfl) mI PyProof.Rows.boot_int (pa_cons (pe_op op_add (pe_op op_mul (pv 3) pe_int) (pv 1)) pa_nil)) pe_int))))
      (pss_one (ps_ret (pe_lst (pa_cons (pe_lc (own := [("cell", 1)]) (g := gName 1) rfl scDeck.nd (pi_list (pv 2)) (blkOk_by (own := [("cell", 1)]) (N := ["script", "cell", "cells", "stirred"]) (sc := defScope sDeck) (by decide +kernel))
            (fun _ _ _ _ _ => pg_name (i := 1) scDeck.nd rfl (.inl rfl)) (fun _ _ _ _ _ => pts_one (pt_cmpR op_ge (pv 1) (pe_op op_pow pe_int pe_int) (nomark _)))
            (fun _ _ _ _ _ => pv 1)) (pa_cons (pv 3) (pa_cons pe_int pa_nil))))))), ?_⟩
    obtain ⟨ms, ems, hms⟩ := cutV_ints ns none (some 63)
    refine ⟨.ref p, rfl, 63, rfl, p, _, rfl, hp, fun z hz => ?_⟩
    rw [ems]
    have kz : Kp [] H (upd H z (.lst (ms.map V.int))) := Kp.new hz
    have hz1 : (upd H z (.lst (ms.map V.int))) z = some (.lst (ms.map V.int)) := upd_same
    generalize upd H z (.lst (ms.map V.int)) = H0 at kz hz1
    refine ⟨z, rfl, ⟨_, SqL.of hz1⟩, fun D hD => ?_⟩
    have nzD : z ≠ D := ne_of_none hz1 hD
    have hDH : H D = none := by
      cases e : H D with
      | none => rfl
      | some o => exact absurd (kz _ _ (by simp) e) (by rw [hD]; simp)
    refine lc_list (K := K) (a := z) (xs := ms.map V.int) (fun i H' => ∃ ls : List Int, H' D = some (.lst (ls.map V.int)) ∧ ls.length ≤ i ∧ H' z = some (.lst (ms.map V.int)) ∧ Kp [] H H')
      ⟨[], upd_same, Nat.zero_le _, by rw [upd_ne nzD]; exact hz1, kz.trans (Kp.new hD)⟩ (fun i H' _ ⟨_, _, _, e, _⟩ => SqL.of e) ?_ ?_
    · rintro i x H' hx ⟨ls, e1, e2, e3, e4⟩
      obtain ⟨n, hn, rfl⟩ := map_ints_get hx
      have hi : i < ms.length := (List.getElem?_eq_some_iff.mp hn).1
      have fin : ∀ y : Int, ∃ acc, H' D = some (.lst acc) ∧ acc.length < sizeLine ∧ ∃ ls : List Int, (upd H' D (.lst (acc ++ [.int y]))) D = some (.lst (ls.map V.int)) ∧ ls.length ≤ i + 1 ∧ (upd H' D (.lst (acc ++ [.int y]))) z = some (.lst (ms.map V.int)) ∧ Kp [] H (upd H' D (.lst (acc ++ [.int y]))) := fun y => by
        refine ⟨_, e1, ?_, ls ++ [y], ?_, ?_, ?_, ?_⟩
        · rw [List.length_map]
          exact small1000 (by omega)
        · rw [upd_same, List.map_append]
          rfl
        · rw [List.length_append]
          simpa using e2
        · rw [upd_ne nzD]
          exact e3
        · exact (e4.mono (S' := [D]) (by simp)).trans (Kp.put (by simp)) |>.drop hDH
      refine ⟨rfl, yesGo ?_⟩
      refine ⟨_, rfl, _, _, rfl, rfl, _, rfl, ite2 (fun _ => ?_) (fun _ => ?_)⟩
      · exact ⟨_, rfl, _, _, rfl, rfl, .inl ⟨by decide, by decide⟩, fin _⟩
      · exact ⟨_, rfl, _, rfl, _, _, rfl, rfl, .inl ⟨by decide, by decide⟩, _, _, rfl, rfl, fin _⟩
    · rintro H' ⟨ls, e1, e2, e3, e4⟩
      rw [List.length_map] at e2
      -- 48009 + len(script); cells, stirred
      refine ⟨.ref p, rfl, p, _, rfl, .inl ((kz_seq e4).seq hp), _, _, rfl, rfl, _, _, rfl, ?_⟩
      -- for cell in cells
      refine ⟨_, rfl, D, rfl, ⟨_, SqL.of e1⟩, for_list (K := K) (a := D) (xs := ls.map V.int) (fun i σ H2 => H2 = H' ∧ ∃ (v : Option V) (st : Int), σ = [some (.ref p), v, some (.ref D), some (.int st)])
        ⟨rfl, _, _, rfl⟩ (fun i σ H2 _ ⟨e, _⟩ => by rw [e]; exact SqL.of e1) ?_ ?_⟩
      · rintro i y σ H2 hy ⟨rfl, v, st, rfl⟩
        obtain ⟨n, hn, rfl⟩ := map_ints_get hy
        refine ⟨_, rfl, _, _, rfl, rfl, .inr ⟨by decide, by decide⟩, _, rfl, _, _, rfl, rfl, .inl ⟨_, rfl, _, _, rfl, rfl, (by show (0 : Int) < 4294967291; decide), ?_⟩⟩
        exact ⟨rfl, _, _, rfl⟩
      · rintro σ H2 ⟨rfl, v, st, rfl⟩
        -- return [[..], stirred, 0]
        refine ⟨_, rfl, D, rfl, ⟨_, SqL.of e1⟩, fun C hC => ?_⟩
        have nDC : D ≠ C := ne_of_none e1 hC
        have hCH : H C = none := by
          cases e : H C with
          | none => rfl
          | some o => exact absurd (e4 _ _ (by simp) e) (by rw [hC]; simp)
        refine lc_list (K := K) (a := D) (xs := ls.map V.int) (fun i H3 => ∃ cs : List Int, H3 C = some (.lst (cs.map V.int)) ∧ cs.length ≤ i ∧ H3 D = some (.lst (ls.map V.int)) ∧ Kp [] H H3)
          ⟨[], upd_same, Nat.zero_le _, by rw [upd_ne nDC]; exact e1, e4.trans (Kp.new hC)⟩ (fun i H3 _ ⟨_, _, _, e, _⟩ => SqL.of e) ?_ ?_
        · rintro i x H3 hx ⟨cs, f1, f2, f3, f4⟩
          obtain ⟨n, hn, rfl⟩ := map_ints_get hx
          have hi : i < ls.length := (List.getElem?_eq_some_iff.mp hn).1
          refine ⟨rfl, _, rfl, _, _, rfl, rfl, ⟨by decide, by decide, by decide⟩, _, _, rfl, rfl, _, rfl, ite2 (fun _ => ?_) (fun _ => ?_)⟩
          · refine ⟨_, rfl, _, f1, ?_, cs ++ [n], ?_, ?_, ?_, ?_⟩
            · rw [List.length_map]
              exact small1000 (by omega)
            · rw [upd_same, List.map_append]
              rfl
            · rw [List.length_append]
              simpa using f2
            · rw [upd_ne nDC]
              exact f3
            · exact (f4.mono (S' := [C]) (by simp)).trans (Kp.put (by simp)) |>.drop hCH
          · exact ⟨cs, f1, Nat.le_succ_of_le f2, f3, f4⟩
        · rintro H3 ⟨cs, f1, f2, f3, f4⟩
          refine ⟨_, rfl, by show 3 ≤ sizeLine; decide, fun a ha => ?_⟩
          have nCa : C ≠ a := ne_of_none f1 ha
          have haH : H a = none := by
            cases e : H a with
            | none => rfl
            | some o => exact absurd (f4 _ _ (by simp) e) (by rw [ha]; simp)
          exact k _ a C ⟨cs, st, 0, upd_same, by rw [upd_ne nCa]; exact f1, nCa.symm⟩ (f4.trans (Kp.new ha)) haH hCH
end
end Kt

set_option Elab.async false
set_option linter.all false
set_option maxRecDepth 100000
set_option maxHeartbeats 4000000
namespace Kt
open PySem PySem.Spec PyProof.Rows L2
theorem erase_perm {α : Type} : ∀ (l : List α) (i : Nat) (h : i < l.length), (l[i] :: l.eraseIdx i).Perm l
  | x :: l, 0, _ => List.Perm.refl _
  | x :: l, i + 1, h => (List.Perm.swap x _ _).trans (List.Perm.cons x (erase_perm l i (Nat.lt_of_succ_lt_succ h)))
/-- some data that may be compared -/
def Sh (K : PySem.W.Frag) (H : Hp) (x : V) : Prop := ∃ d, Dp K H x d ∧ d.canLay0 = true ∧ d.depth ≤ 60
theorem Sh.same {K : PySem.W.Frag} {H H' : Hp} {x : V} (h : Sh K H x) (e : Same H H') : Sh K H' x := let ⟨d, h1, h2, h3⟩ := h; ⟨d, Dp.same e d h1, h2, h3⟩
theorem sh_all {K : PySem.W.Frag} {H : Hp} : ∀ {xs : List V}, (∀ x ∈ xs, Sh K H x) → ∃ ds, DpAll K H xs ds ∧ PyData.canLayAll0 ds = true ∧ PyData.depthAll ds ≤ 60 ∧ ds.isEmpty = xs.isEmpty
  | [], _ => ⟨[], .nil, by simp [PyData.canLayAll0], by simp [PyData.depthAll], rfl⟩
  | x :: xs, h => by
    obtain ⟨d, h1, h2, h3⟩ := h x List.mem_cons_self
    obtain ⟨ds, g1, g2, g3, _⟩ := sh_all (xs := xs) fun y hy => h y (List.mem_cons_of_mem _ hy)
    exact ⟨d :: ds, .cons h1 g1, by simp [PyData.canLayAll0, h2, g2], by simp only [PyData.depthAll]; omega, rfl⟩
/-- xs != [] -/
theorem ne_nil {K : PySem.W.Frag} {H : Hp} {p q : Addr} {xs : List V} {Q : VK} (hp : SqL K H p xs) (hx : ∀ x ∈ xs, Sh K H x) (hq : H q = some (.lst [])) (k : Q (.bl (!xs.isEmpty)) H) : rNeD K (.ref p) (.ref q) H Q := by
  obtain ⟨ds, g1, g2, g3, g4⟩ := sh_all hx
  refine ⟨_, _, .lst hp g1, .lst (SqL.of hq) .nil, shaped_of (by simpa [PyData.canLay0] using g2) (by simp only [PyData.depth]; omega), shaped_of (by simp [PyData.canLay0, PyData.canLayAll0]) (by simp [PyData.depth, PyData.depthAll]), ?_⟩
  rw [eqv_nil, g4]
  exact k
def spPick (K : PySem.W.Frag) : Sp := fun vs H Q _ => ∃ (a c l : Addr) (xs : List V), vs = [.ref a, .ref l] ∧ DeckAt H a c ∧ l ≠ a ∧ l ≠ c ∧ SqL K H l xs ∧ xs ≠ [] ∧ xs.length ≤ 100000 ∧
  ∀ (H' : Hp) (x : V), x ∈ xs → DeckAt H' a c → Kp [a, c] H H' → Q x H'
def spMixed (K : PySem.W.Frag) : Sp := fun vs H Q _ => ∃ (a c l : Addr) (xs : List V), vs = [.ref a, .ref l] ∧ DeckAt H a c ∧ (SqL K H l xs ∨ SqT K H l xs) ∧ xs.length ≤ 100000 ∧ (∀ x ∈ xs, Sh K (Ob [a, c] H) x) ∧
  ∀ (H' : Hp) (p : Addr) (ys : List V), ys.Perm xs → H p = none → H' p = some (.lst ys) → DeckAt H' a c → Kp [a, c] H H' → Q (.ref p) H'
section
variable {P : Program} {w : World} {K : PySem.W.Frag} {mg : Str → Option Value} {base : Heap}
theorem scPick : FnScope ["deck", "items"] ["deck", "items"] (defScope sPick) := ⟨rfl, rfl, rfl, by decide +kernel, rfl, by decide +kernel, by decide +kernel⟩
theorem mg_lst {H H' : Hp} {a c l : Addr} {xs : List V} (h : SqL K H l xs) (k : Kp [a, c] H H') (h1 : l ≠ a) (h2 : l ≠ c) : SqL K H' l xs := by
  rcases h with (h | ⟨o, h⟩) | h
  · exact .inl (.inl (k.get (by simp [h1, h2]) h))
  · exact .inl (.inr ⟨o, k.get (by simp [h1, h2]) h⟩)
  · exact .inr h
theorem ok_pick {f fD : Addr} {fd fdD : FuncData} (F : Fun K "_law_pick" "_law_pick" sPick f fd) (FD : Fun K "_law_draw" "_law_draw" sDraw fD fdD) (bD : Binds K fdD ["deck", "many"] []) (gD : mg "_law_draw" = some (.ref fD)) (mI : mg "int" = none) (mL : mg "len" = none) :
    FnOk P w K mg base CX0 2 f fd ["deck", "items"] (spPick K) := by
  have GD : FnOk P w K mg base CX0 1 fD fdD ["deck", "many"] spDraw := ok_draw FD mI
  refine F.ok scPick (fun vs H Q E h => ?_) (fun cdv A outer s H vs Q E hr h => ?_)
  · obtain ⟨a, c, l, xs, rfl, _⟩ := h
    rfl
  · obtain ⟨a, c, l, xs, rfl, hD, n1, n2, hl, hne, hlen, k⟩ := h
    refine ⟨_, pss_one (ps_ret (kl (pv 1) (pe_call GD hr (by rfl) gD FD.kp bD .nil pass0 (pa_cons (pv 0) (pa_cons (pe_callB call_len_seq (by rfl) mL PySem.boot_len (pa_cons (pv 1) pa_nil)) pa_nil))) (fun _ _ => rfl))), ?_⟩
    have hpos : 0 < xs.length := by
      cases xs with
      | nil => exact absurd rfl hne
      | cons x r => simp
    refine ⟨.ref l, rfl, .ref a, rfl, .ref l, rfl, l, _, rfl, .inl hl, a, c, _, rfl, hD, by omega, by omega, fun H' r r0 r1 hD' k' => ?_⟩
    have hi : r.toNat < xs.length := by omega
    have e : xs[r.toNat]? = some xs[r.toNat] := List.getElem?_eq_getElem hi
    exact ⟨l, xs, r, xs[r.toNat], rfl, rfl, mg_lst hl k' n1 n2, at_of (j := r.toNat) (by omega) e, k H' _ (List.getElem_mem hi) hD' k'⟩
theorem scMixed : FnScope ["deck", "items", "rest", "got"] ["deck", "items"] (defScope sMixed) := ⟨rfl, rfl, rfl, by decide +kernel, rfl, by decide +kernel, by decide +kernel⟩
theorem ok_mixed {f fD : Addr} {fd fdD : FuncData} (F : Fun K "_law_mixed" "_law_mixed" sMixed f fd) (FD : Fun K "_law_draw" "_law_draw" sDraw fD fdD) (bD : Binds K fdD ["deck", "many"] []) (gD : mg "_law_draw" = some (.ref fD)) (mI : mg "int" = none) (mL : mg "len" = none) (mT : mg "list" = none) :
    FnOk P w K mg base CX0 2 f fd ["deck", "items"] (spMixed K) := by
  have GD : FnOk P w K mg base CX0 1 fD fdD ["deck", "many"] spDraw := ok_draw FD mI
  refine F.ok scMixed (fun vs H Q E h => ?_) (fun cdv A outer s H vs Q E hr h => ?_)
  · obtain ⟨a, c, l, xs, rfl, _⟩ := h
    rfl
  · obtain ⟨a, c, l, xs, rfl, hD, hl, hlen, hsh, k⟩ := h
    refine ⟨_, pss_cons (ps_par (i := 2) (j := 3) rfl scMixed.nd rfl rfl (by decide) rfl rfl (pa_cons (pe_callTy call_list_of (by rfl) mT PyProof.Rows.boot_list (pa_cons (pv 1) pa_nil)) (pa_cons (pe_lst pa_nil) pa_nil)) (by rfl))
      (pss_cons (ps_while PassesOwn.never (pt_cmpR (op_neD hr.units) (pv 2) (pe_lst pa_nil) (nomark _))
        (pss_one (ps_expr (pe_bm PySem.F.plainAttrs_list PySem.F.slot_list_append PySem.F.type_list_append mt_append (pv 3)
          (pa_cons (pe_bm PySem.F.plainAttrs_list PySem.F.slot_list_pop PySem.F.type_list_pop mt_popAt (pv 2) (pa_cons (pe_call GD hr (by rfl) gD FD.kp bD .nil pass0 (pa_cons (pv 0) (pa_cons (pe_callB call_len_seq (by rfl) mL PySem.boot_len (pa_cons (pv 2) pa_nil)) pa_nil))) pa_nil)) pa_nil)))))
      (pss_one (ps_ret (pv 3)))), ?_⟩
    have na := fun {p : Addr} (hp : H p = none) => hD.ne hp
    refine ⟨.ref l, rfl, l, xs, rfl, hl, fun r hr0 => ⟨Nat.zero_le _, fun g hg0 => ?_⟩⟩
    obtain ⟨ra, rc⟩ := na hr0
    have hg : H g = none := by
      by_cases e : g = r
      · rw [e]; exact hr0
      · rw [upd_ne e] at hg0; exact hg0
    have rg : r ≠ g := fun e => by rw [← e, upd_same] at hg0; cases hg0
    obtain ⟨ga, gc⟩ := na hg
    have back : ∀ H', Kp [r, g, a, c] H H' → Kp [a, c] H H' := fun H' z => Kp.drop (Kp.drop z hr0) hg
    refine ⟨_, _, rfl, fun m σ H' => ∃ rs gs, m = rs.length ∧ σ = [some (.ref a), some (.ref l), some (.ref r), some (.ref g)] ∧ (gs ++ rs).Perm xs ∧ H' r = some (.lst rs) ∧ H' g = some (.lst gs) ∧ DeckAt H' a c ∧ Kp [r, g, a, c] H H',
      ⟨_, xs, [], rfl, rfl, List.Perm.refl _, by rw [upd_ne rg, upd_same], upd_same, (hD.new hr0).new hg0, (Kp.new hr0).trans (Kp.new hg0)⟩, ?_⟩
    rintro m σ H' ⟨rs, gs, rfl, rfl, hp, h1, h2, hD', kk⟩
    refine ⟨.ref r, rfl, Nat.zero_le _, fun e he => ?_⟩
    have kE : Kp [r, g, a, c] H (upd H' e (.lst [])) := kk.trans (Kp.new he)
    have h1e : (upd H' e (.lst [])) r = some (.lst rs) := by rw [upd_ne (ne_of_none h1 he)]; exact h1
    have h2e : (upd H' e (.lst [])) g = some (.lst gs) := by rw [upd_ne (ne_of_none h2 he)]; exact h2
    have hDe : DeckAt (upd H' e (.lst [])) a c := hD'.new he
    refine ne_nil (SqL.of h1e) (fun x hx => ((hsh x (hp.mem_iff.mp (List.mem_append_right _ hx))).same (back _ kE).same).same (Ob.le _ _)) upd_same ⟨_, rfl, ?_⟩
    generalize upd H' e (.lst []) = H1 at kE h1e h2e hDe
    have hlen2 : gs.length + rs.length = xs.length := by rw [← List.length_append]; exact hp.length_eq
    cases rs with
    | nil =>
      refine iteF ⟨.ref g, rfl, ?_⟩
      rw [List.append_nil] at hp
      exact k H1 g gs hp hg h2e hDe (back _ kE)
    | cons x rs =>
      refine iteT ⟨fun σ' H2 => ∃ rs1 gs1, rs1.length = rs.length ∧ σ' = [some (.ref a), some (.ref l), some (.ref r), some (.ref g)] ∧ (gs1 ++ rs1).Perm xs ∧ H2 r = some (.lst rs1) ∧ H2 g = some (.lst gs1) ∧ DeckAt H2 a c ∧ Kp [r, g, a, c] H H2, ?_, ?_⟩
      · rintro σ' H2 ⟨rs1, gs1, e1, e2, e3⟩
        exact ⟨rs1.length, by rw [e1]; simp, rs1, gs1, rfl, e2, e3⟩
      · refine ⟨.ref g, rfl, .inl ⟨rfl, _, SqL.of h2e⟩, .ref r, rfl, .inl ⟨rfl, _, SqL.of h1e⟩, .ref a, rfl, .ref r, rfl, r, _, rfl, .inl (SqL.of h1e), a, c, _, rfl, hDe, by simp, by simp at hlen2 ⊢; omega, fun H2 i i0 i1 hD2 k2 => ?_⟩
        have hi : i.toNat < (x :: rs).length := by omega
        have h1n : H2 r = some (.lst (x :: rs)) := k2.get (by simp [ra, rc]) h1e
        have h2n : H2 g = some (.lst gs) := k2.get (by simp [ga, gc]) h2e
        have e := List.getElem?_eq_getElem hi
        refine ⟨r, _, i, i.toNat, _, rfl, rfl, h1n, by omega, by simp at i1 hlen2; omega, ?_, e, ?_⟩
        · have q := (ixN_seq (n := (x :: rs).length) (i := i) (j := i.toNat) (by unfold ixN; rw [if_pos i0, if_pos i1])).1
          exact q
        · refine ⟨g, _, _, rfl, rfl, by rw [upd_ne rg.symm]; exact h2n, Nat.lt_of_le_of_lt (show gs.length ≤ 100000 by omega) (by decide), ?_⟩
          refine ⟨(x :: rs).eraseIdx i.toNat, gs ++ [(x :: rs)[i.toNat]], by rw [List.length_eraseIdx_of_lt hi]; simp, rfl, ?_, by rw [upd_ne rg, upd_same], upd_same, (hD2.put ra rc).put ga gc, ((kE.trans (k2.mono (fun b h => List.mem_cons_of_mem _ (List.mem_cons_of_mem _ h)))).trans (Kp.put (by simp))).trans (Kp.put (by simp))⟩
          rw [List.append_assoc]
          exact (List.Perm.append_left gs (erase_perm _ _ hi)).trans hp
end
end Kt

set_option Elab.async false
set_option linter.all false
set_option maxRecDepth 100000
set_option maxHeartbeats 4000000
namespace Kt
open PySem PySem.Spec PyProof.Rows L2
/-! data, read back -/
section
variable {K : PySem.W.Frag} {H : Hp}
theorem tup_inv {v : V} {ds : List PyData} (h : Dp K H v (.tuple ds)) : ∃ a xs, v = .ref a ∧ SqT K H a xs ∧ DpAll K H xs ds := by
  cases h with
  | tup h1 h2 => exact ⟨_, _, rfl, h1, h2⟩
theorem lst_inv {v : V} {ds : List PyData} (h : Dp K H v (.list ds)) : ∃ a xs, v = .ref a ∧ SqL K H a xs ∧ DpAll K H xs ds := by
  cases h with
  | lst h1 h2 => exact ⟨_, _, rfl, h1, h2⟩
theorem int_inv {v : V} {i : Int} (h : Dp K H v (.int i)) : v = .int i := by cases h; rfl
theorem str_inv {v : V} {i : Str} (h : Dp K H v (.str i)) : v = .str i := by cases h; rfl
theorem all_len : ∀ {xs : List V} {ds : List PyData}, DpAll K H xs ds → xs.length = ds.length
  | _, _, .nil => rfl
  | _, _, .cons _ h => by rw [List.length_cons, List.length_cons, all_len h]
theorem all_get : ∀ {xs : List V} {ds : List PyData} {i : Nat} {x : V}, DpAll K H xs ds → xs[i]? = some x → ∃ d, ds[i]? = some d ∧ Dp K H x d
  | _, _, i, x, .nil, h => by simp at h
  | _, _, 0, x, .cons h1 _, h => by
    have e := Option.some.inj h
    subst e
    exact ⟨_, rfl, h1⟩
  | _, _, i + 1, x, .cons _ h2, h => all_get (i := i) h2 h
theorem all_at : ∀ {xs : List V} {ds : List PyData} {i : Nat} {d : PyData}, DpAll K H xs ds → ds[i]? = some d → ∃ x, xs[i]? = some x ∧ Dp K H x d
  | _, _, i, x, .nil, h => by simp at h
  | _, _, 0, x, .cons h1 _, h => by
    have e := Option.some.inj h
    subst e
    exact ⟨_, rfl, h1⟩
  | _, _, i + 1, x, .cons _ h2, h => all_at (i := i) h2 h
theorem all_ints : ∀ {xs : List V} {ns : List Int}, DpAll K H xs (ns.map PyData.int) → xs = ns.map V.int
  | _, [], h => by cases h; rfl
  | _, n :: ns, h => by
    cases h with
    | cons h1 h2 => rw [int_inv h1, all_ints h2]; rfl
theorem all_app : ∀ {xs ys : List V} {ds es : List PyData}, DpAll K H xs ds → DpAll K H ys es → DpAll K H (xs ++ ys) (ds ++ es)
  | _, _, _, _, .nil, h => h
  | _, _, _, _, .cons a b, h => .cons a (all_app b h)
theorem all_mem : ∀ {xs : List V} {ds : List PyData} {x : V}, DpAll K H xs ds → x ∈ xs → ∃ d ∈ ds, Dp K H x d := fun {xs ds x} h hx => by
  obtain ⟨i, hi⟩ := List.mem_iff_getElem?.mp hx
  obtain ⟨d, e, q⟩ := all_get h hi
  exact ⟨d, List.mem_of_getElem? e, q⟩
end
/-- a pair of ints -/
def pD (r : Int × Int) : PyData := .tuple [.int r.1, .int r.2]
theorem pair_inv {K : PySem.W.Frag} {H : Hp} {v : V} {r : Int × Int} (h : Dp K H v (pD r)) : ∃ t, v = .ref t ∧ SqT K H t [.int r.1, .int r.2] := by
  obtain ⟨a, xs, rfl, hs, ha⟩ := tup_inv h
  cases ha with
  | cons h1 h2 =>
    cases h2 with
    | cons h3 h4 =>
      cases h4
      rw [int_inv h1, int_inv h3] at hs
      exact ⟨a, rfl, hs⟩
/-- a chart: many, roads, centres -/
def chD (n : Int) (rs : List (Int × Int)) (cs : List Int) : PyData := .tuple [.int n, .tuple (rs.map pD), .tuple (cs.map .int)]
theorem chart_inv {K : PySem.W.Frag} {H : Hp} {v : V} {n : Int} {rs : List (Int × Int)} {cs : List Int} (h : Dp K H v (chD n rs cs)) :
    ∃ a t u, v = .ref a ∧ SqT K H a [.int n, .ref t, .ref u] ∧ Dp K H (.ref t) (.tuple (rs.map pD)) ∧ Dp K H (.ref u) (.tuple (cs.map .int)) := by
  obtain ⟨a, xs, rfl, hs, ha⟩ := tup_inv h
  cases ha with
  | cons h1 h2 =>
    cases h2 with
    | cons h3 h4 =>
      cases h4 with
      | cons h5 h6 =>
        cases h6
        obtain ⟨t, _, rfl, _⟩ := tup_inv h3
        obtain ⟨u, _, rfl, _⟩ := tup_inv h5
        rw [int_inv h1] at hs
        exact ⟨a, t, u, rfl, hs, h3, h5⟩
/-- the fields beside f, in the roads' order -/
def bes (rs : List (Int × Int)) (f : Int) : List Int := (rs.filter fun r => decide (f = r.1) || decide (f = r.2)).map fun r => r.1 + r.2 - f
theorem bes_snoc (rs : List (Int × Int)) (r : Int × Int) (f : Int) : bes (rs ++ [r]) f = bes rs f ++ (if (decide (f = r.1) || decide (f = r.2)) = true then [r.1 + r.2 - f] else []) := by
  unfold bes
  rw [List.filter_append, List.map_append]
  congr 1
  by_cases h : (decide (f = r.1) || decide (f = r.2)) = true
  · rw [if_pos h, List.filter_cons, if_pos h]
    rfl
  · rw [if_neg h, List.filter_cons, if_neg h]
    rfl
theorem take_snoc {α : Type} {l : List α} {i : Nat} {x : α} (h : l[i]? = some x) : l.take (i + 1) = l.take i ++ [x] := by
  rw [List.take_add_one, h]
  rfl
def spBeside (K : PySem.W.Frag) : Sp := fun vs H Q _ => ∃ (v : V) (n : Int) (rs : List (Int × Int)) (cs : List Int) (f : Int), vs = [v, .int f] ∧ Dp K H v (chD n rs cs) ∧ rs.length ≤ 1000 ∧
  ∀ (H' : Hp) (p : Addr) (ms : List Int), ms.Perm (bes rs f) → ms.Pairwise (· ≤ ·) → H p = none → H' p = some (.lst (ms.map V.int)) → Kp [] H H' → Q (.ref p) H'
theorem fresh_of {H H' : Hp} {S : List Addr} {p : Addr} (k : Kp S H H') (n : p ∉ S) (hp : H' p = none) : H p = none := by
  cases e : H p with
  | none => rfl
  | some o =>
    have q := k.get n e
    rw [hp] at q
    cases q
theorem eqv_int (a b : Int) : eqV (.int a) (.int b) = decide (b = a) := by
  simp only [eqV]
  by_cases h : b = a
  · rw [decide_eq_true h, h]; simp
  · rw [decide_eq_false h]; simp [Ne.symm h]
section
variable {P : Program} {w : World} {K : PySem.W.Frag} {mg : Str → Option Value} {base : Heap}
theorem scBeside : FnScope ["chart", "field", "a", "b"] ["chart", "field"] (defScope sBeside) := ⟨rfl, rfl, rfl, by decide +kernel, rfl, by decide +kernel, by decide +kernel⟩
theorem ok_beside {f : Addr} {fd : FuncData} (F : Fun K "_law_beside" "_law_beside" sBeside f fd) (mS : mg "sorted" = none) : FnOk P w K mg base CX0 1 f fd ["chart", "field"] (spBeside K) := by
  refine F.ok scBeside (fun vs H Q E h => ?_) (fun cdv A outer s H vs Q E hr h => ?_)
  · obtain ⟨v, n, rs, cs, f, rfl, _⟩ := h
    rfl
  · obtain ⟨v, n, rs, cs, f, rfl, hc, hlen, k⟩ := h
    refine ⟨_, pss_one (ps_ret (pe_callB cr_sortedI (by rfl) mS PyProof.Rows.boot_sorted (pa_cons
      (pe_lc (own := [("a", 2), ("b", 3)]) (g := gTup K 2 (gCons (gName 2) (gCons (gName 3) gNil))) rfl scBeside.nd (pi_tup (kt (pv 0) pe_int)) (blkOk_by (own := [("a", 2), ("b", 3)]) (N := ["chart", "field", "a", "b"]) (sc := defScope sBeside) (by decide +kernel))
        (fun _ _ _ _ _ => pg_tup rfl (pgs_cons (pg_name (i := 2) scBeside.nd rfl (.inl rfl)) (pgs_cons (pg_name (i := 3) scBeside.nd rfl (.inl rfl)) pgs_nil)))
        (fun _ _ _ _ _ => pts_one (pt_cmpR (op_inK K) (pv 1) (pe_tup (pa_cons (pv 2) (pa_cons (pv 3) pa_nil))) (by rfl)))
        (fun _ _ _ _ _ => pe_op op_sub (pe_op op_add (pv 2) (pv 3)) (pv 1))) pa_nil))), ?_⟩
    obtain ⟨a, t, u, rfl, hs, ht, _⟩ := chart_inv hc
    obtain ⟨t', xs, et, hxs, hall⟩ := tup_inv ht
    cases et
    have hl : xs.length = rs.length := by rw [all_len hall, List.length_map]
    refine ⟨.ref a, rfl, a, _, 1, _, rfl, rfl, hs, at1, t, rfl, ⟨_, hxs⟩, fun D hD => ?_⟩
    refine lc_tup (K := K) (a := t) (xs := xs) (fun i H' => H' D = some (.lst ((bes (rs.take i) f).map V.int)) ∧ (bes (rs.take i) f).length ≤ i ∧ Kp [] H H') ⟨upd_same, Nat.zero_le _, Kp.new hD⟩ (fun i H' _ ⟨_, _, kk⟩ => sameT (kz_seq kk) hxs) ?_ ?_
    · rintro i x H' hx ⟨h1, h2, kk⟩
      obtain ⟨d, hd, hxd⟩ := all_get hall hx
      rw [List.getElem?_map] at hd
      obtain ⟨r, hr', rfl⟩ := Option.map_eq_some_iff.mp hd
      obtain ⟨q, rfl, hq⟩ := pair_inv (Dp.same (kz_seq kk) _ hxd)
      have hi : i < rs.length := (List.getElem?_eq_some_iff.mp hr').1
      refine ⟨q, _, rfl, hq, rfl, .int r.1, _, rfl, .int r.2, _, rfl, rfl, rfl, ?_⟩
      refine ⟨.int f, rfl, .int r.1, rfl, .int r.2, rfl, by show 2 ≤ sizeLine; decide, fun z hz => ⟨z, _, rfl, .inr (SqT.of upd_same), rfl, rfl, _, rfl, ?_⟩⟩
      have kz : Kp [] H (upd H' z (.tup [.int r.1, .int r.2])) := kk.trans (Kp.new hz)
      have h1z : (upd H' z (.tup [.int r.1, .int r.2])) D = some (.lst ((bes (rs.take i) f).map V.int)) := by rw [upd_ne (ne_of_none h1 hz)]; exact h1
      have hDH : H D = none := hD
      rw [show inV (.int f) [.int r.1, .int r.2] = (decide (f = r.1) || decide (f = r.2)) by
        unfold inV
        rw [List.any_cons, List.any_cons, List.any_nil, eqv_int, eqv_int, Bool.or_false]]
      rw [take_snoc hr', bes_snoc]
      refine ite2 (fun hy => ?_) (fun hn => ?_)
      · replace hy : (decide (f = r.1) || decide (f = r.2)) = true := hy
        rw [if_pos hy]
        refine ⟨.int r.1, rfl, .int r.2, rfl, r.1, r.2, rfl, rfl, .int f, rfl, _, _, rfl, rfl, _, h1z, ?_, ?_, ?_, ?_⟩
        · rw [List.length_map]
          exact small1000 (by omega)
        · rw [upd_same, List.map_append]
          rfl
        · rw [List.length_append]
          simpa using h2
        · exact (kz.mono (S' := [D]) (by simp)).trans (Kp.put (by simp)) |>.drop hDH
      · replace hn : ¬ (decide (f = r.1) || decide (f = r.2)) = true := hn
        rw [if_neg hn, List.append_nil]
        exact ⟨h1z, Nat.le_succ_of_le h2, kz⟩
    · rintro H' ⟨h1, h2, kk⟩
      rw [hl, List.take_length] at h1
      refine ⟨D, _, rfl, SqL.of h1, fun ms p hp1 hp2 hp => ?_⟩
      exact k _ p ms hp1 hp2 (fresh_of kk (by simp) hp) upd_same (kk.trans (Kp.new hp))
end
end Kt

set_option Elab.async false
set_option linter.all false
set_option maxRecDepth 100000
set_option maxHeartbeats 4000000
namespace Kt
open PySem PySem.Spec PyProof.Rows L2
/-! pairs of ints that stand in the heap -/
def PrAt (H : Hp) (x : V) (r : Int × Int) : Prop := ∃ t, x = .ref t ∧ H t = some (.tup [.int r.1, .int r.2])
abbrev Prs (H : Hp) : List V → List (Int × Int) → Prop := Paired (PrAt H)
/-- what is told of S: no tuple stands there -/
def NoTup (H : Hp) (S : List Addr) : Prop := ∀ s ∈ S, ∀ xs, H s ≠ some (.tup xs)
theorem PrAt.keep {H H' : Hp} {S : List Addr} {x : V} {r : Int × Int} (h : PrAt H x r) (k : Kp S H H') (n : NoTup H S) : PrAt H' x r := by
  obtain ⟨t, rfl, e⟩ := h
  exact ⟨t, rfl, k.get (fun z => n t z _ e) e⟩
theorem Prs.keep {H H' : Hp} {S : List Addr} (k : Kp S H H') (n : NoTup H S) : ∀ {xs : List V} {rs : List (Int × Int)}, Prs H xs rs → Prs H' xs rs
  | _, _, .nil => .nil
  | _, _, .cons h t => .cons (h.keep k n) (Prs.keep k n t)
theorem Prs.data {K : PySem.W.Frag} {H : Hp} {S : List Addr} (n : NoTup H S) : ∀ {xs : List V} {rs : List (Int × Int)}, Prs H xs rs → DpAll K (Ob S H) xs (rs.map pD)
  | _, _, .nil => .nil
  | _, _, .cons h t => by
    obtain ⟨a, rfl, e⟩ := h
    exact .cons (.tup (SqT.of (Ob.mk (fun z => n a z _ e) e)) (.cons (.int _) (.cons (.int _) .nil))) (Prs.data n t)
theorem Prs.snoc {H : Hp} {x : V} {r : Int × Int} (hx : PrAt H x r) : ∀ {xs : List V} {rs : List (Int × Int)}, Prs H xs rs → Prs H (xs ++ [x]) (rs ++ [r])
  | _, _, .nil => .cons hx .nil
  | _, _, .cons h t => .cons h (Prs.snoc hx t)
theorem Prs.len {H : Hp} : ∀ {xs : List V} {rs : List (Int × Int)}, Prs H xs rs → xs.length = rs.length
  | _, _, .nil => rfl
  | _, _, .cons _ t => by rw [List.length_cons, List.length_cons, Prs.len t]
def keyP (H : Hp) (x : V) : Int × Int := match x with
  | .ref t => match H t with
    | some (.tup [.int i, .int j]) => (i, j)
    | _ => (0, 0)
  | _ => (0, 0)
theorem keyP_at {H : Hp} {x : V} {r : Int × Int} (h : PrAt H x r) : keyP H x = r := by
  obtain ⟨t, rfl, e⟩ := h
  unfold keyP
  simp only [e]
theorem Prs.keys {H : Hp} : ∀ {xs : List V} {rs : List (Int × Int)}, Prs H xs rs → xs.map (keyP H) = rs ∧ ∀ x ∈ xs, PrAt H x (keyP H x)
  | _, _, .nil => ⟨rfl, fun _ h => absurd h (by simp)⟩
  | _, _, .cons h t => by
    obtain ⟨e1, e2⟩ := Prs.keys t
    refine ⟨by rw [List.map_cons, keyP_at h, e1], fun x hx => ?_⟩
    rcases List.mem_cons.mp hx with e | hx
    · rw [e, keyP_at h]
      exact h
    · exact e2 x hx
theorem prs_map {H : Hp} : ∀ {ys : List V}, (∀ x ∈ ys, PrAt H x (keyP H x)) → Prs H ys (ys.map (keyP H))
  | [], _ => .nil
  | y :: ys, h => .cons (h y List.mem_cons_self) (prs_map fun x hx => h x (List.mem_cons_of_mem _ hx))
theorem prs_sorted {H : Hp} {xs ys : List V} {rs : List (Int × Int)} (hp : Prs H xs rs) (h1 : SrtO.Srtd (ltP (keyP H)) ys) (h2 : SrtO.Stb (ltP (keyP H)) ys xs) :
    (ys.map (keyP H)).Perm rs ∧ (ys.map (keyP H)).Pairwise (fun u v => SrtO.lexB v u = false) ∧ Prs H ys (ys.map (keyP H)) := by
  obtain ⟨e1, e2⟩ := hp.keys
  refine ⟨?_, List.pairwise_map.mpr h1, prs_map fun x hx => e2 x (h2.perm.mem_iff.mp hx)⟩
  rw [← e1]
  exact h2.perm.map _
/-! (a, b) in pairs -/
theorem eqv_pair (r q : Int × Int) : PyData.eqv (pD r) (pD q) = decide (r = q) := by
  obtain ⟨a, b⟩ := r
  obtain ⟨c, d⟩ := q
  unfold pD
  simp only [PyData.eqv, PyData.eqvAll, Bool.and_true]
  by_cases h1 : a = c <;> by_cases h2 : b = d <;> simp [h1, h2]
theorem any_pair (rs : List (Int × Int)) (q : Int × Int) : ((rs.map pD).any fun z => PyData.eqv z (pD q)) = decide (q ∈ rs) := by
  induction rs with
  | nil => rfl
  | cons r rs ih =>
    rw [List.map_cons, List.any_cons, ih, eqv_pair]
    by_cases h : r = q
    · simp [h]
    · have h' : ¬ q = r := fun e => h e.symm
      simp [h, h']
theorem canLay_pairs : ∀ rs : List (Int × Int), PyData.canLayAll0 (rs.map pD) = true
  | [] => by simp [PyData.canLayAll0]
  | r :: rs => by simp [PyData.canLayAll0, PyData.canLay0, pD, canLay_pairs rs]
theorem depth_pairs : ∀ rs : List (Int × Int), PyData.depthAll (rs.map pD) ≤ 1
  | [] => by simp [PyData.depthAll]
  | r :: rs => by
    have := depth_pairs rs
    simp only [List.map_cons, PyData.depthAll, PyData.depth, pD]
    omega
theorem shaped_pairs (rs : List (Int × Int)) : SeqAt.shaped (.list (rs.map pD)) = true :=
  shaped_of (by simp [PyData.canLay0, canLay_pairs]) (by have := depth_pairs rs; simp only [PyData.depth]; omega)
theorem shaped_pair (r : Int × Int) : SeqAt.shaped (pD r) = true := shaped_of (by simp [PyData.canLay0, PyData.canLayAll0, pD]) (by simp [PyData.depth, PyData.depthAll, pD])
end Kt

set_option Elab.async false
set_option linter.all false
set_option maxRecDepth 100000
set_option maxHeartbeats 4000000
namespace Kt
open PySem PySem.Spec PyProof.Rows L2
/-- a chart of n fields as the law makes it -/
structure ChOk (n : Int) (rs : List (Int × Int)) (cs : List Int) : Prop where
  lo : 0 < n
  hi : n ≤ 24
  few : rs.length ≤ 200
  road : ∀ r ∈ rs, 0 ≤ r.1 ∧ r.1 < r.2 ∧ r.2 < n
  nd : rs.Nodup
  srt : rs.Pairwise fun u v => SrtO.lexB v u = false
  cen : ∀ c ∈ cs, 0 ≤ c ∧ c < n
  cfew : cs.length ≤ 24
  csrt : cs.Pairwise (· < ·)
theorem hu65 {k : Nat} {A : Around} (hr : Room k A) : A.units + 65 < cLine := by
  have := hr.un
  omega
theorem clip {x y : Int} (h : x < y) (h0 : 0 < y) : 0 ≤ (if x > 0 then x else 0) ∧ (if x > 0 then x else 0) < y := by
  split <;> omega
/-- the roads made so far, at R -/
structure Roads (H : Hp) (a c R : Addr) (B : Int) (xs : List V) (rs : List (Int × Int)) (H' : Hp) : Prop where
  at_ : H' R = some (.lst xs)
  prs : Prs H' xs rs
  deck : DeckAt H' a c
  keep : Kp [R, a, c] H H'
  road : ∀ r ∈ rs, 0 ≤ r.1 ∧ r.1 < r.2 ∧ r.2 < B
  nd : rs.Nodup
theorem Roads.noTup {H : Hp} {a c R : Addr} {B : Int} {xs : List V} {rs : List (Int × Int)} {H' : Hp} (h : Roads H a c R B xs rs H') : NoTup H' [R, a, c] := by
  obtain ⟨cs, s, n, e1, e2, _⟩ := h.deck
  intro q hq ys e
  rcases List.mem_cons.mp hq with z | hq
  · rw [z, h.at_] at e; cases e
  · rcases List.mem_cons.mp hq with z | hq
    · rw [z, e1] at e; cases e
    · have z : q = c := by simpa using hq
      rw [z, e2] at e; cases e
theorem Roads.draw {H : Hp} {a c R : Addr} {B : Int} {xs : List V} {rs : List (Int × Int)} {H' H2 : Hp} (h : Roads H a c R B xs rs H') (d : DeckAt H2 a c) (k : Kp [a, c] H' H2) (n1 : R ≠ a) (n2 : R ≠ c) : Roads H a c R B xs rs H2 :=
  ⟨k.get (by simp [n1, n2]) h.at_, h.prs.keep k (fun s hs => h.noTup s (List.mem_cons_of_mem _ hs)), d, h.keep.trans (k.mono fun b hb => List.mem_cons_of_mem _ hb), h.road, h.nd⟩
theorem Roads.wide {H : Hp} {a c R : Addr} {B B' : Int} {xs : List V} {rs : List (Int × Int)} {H' : Hp} (h : Roads H a c R B xs rs H') (e : B ≤ B') : Roads H a c R B' xs rs H' :=
  ⟨h.at_, h.prs, h.deck, h.keep, fun r hr => by have := h.road r hr; omega, h.nd⟩
theorem Roads.new {H : Hp} {a c R p : Addr} {B : Int} {xs : List V} {rs : List (Int × Int)} {H' : Hp} {o : HO} (h : Roads H a c R B xs rs H') (hp : H' p = none) : Roads H a c R B xs rs (upd H' p o) :=
  ⟨by rw [upd_ne (ne_of_none h.at_ hp)]; exact h.at_, h.prs.keep (Kp.new (S := [R, a, c]) hp) h.noTup, h.deck.new hp, h.keep.trans (Kp.new hp), h.road, h.nd⟩
/-- one road more, its pair at t -/
theorem Roads.more {H : Hp} {a c R t : Addr} {B : Int} {xs : List V} {rs : List (Int × Int)} {H' : Hp} {r : Int × Int} (h : Roads H a c R B xs rs H') (e : H' t = some (.tup [.int r.1, .int r.2])) (n1 : R ≠ a) (n2 : R ≠ c)
    (g : 0 ≤ r.1 ∧ r.1 < r.2 ∧ r.2 < B) (nr : r ∉ rs) : Roads H a c R B (xs ++ [.ref t]) (rs ++ [r]) (upd H' R (.lst (xs ++ [.ref t]))) := by
  have k : Kp [R, a, c] H' (upd H' R (.lst (xs ++ [.ref t]))) := Kp.put (by simp)
  refine ⟨upd_same, Prs.snoc (PrAt.keep ⟨t, rfl, e⟩ k h.noTup) (h.prs.keep k h.noTup), h.deck.put n1 n2, h.keep.trans k, fun q hq => ?_, ?_⟩
  · rcases List.mem_append.mp hq with z | z
    · exact h.road q z
    · rw [List.mem_singleton.mp z]
      exact g
  · rw [List.nodup_append]
    exact ⟨h.nd, by simp, fun x hx y hy e => nr (by rw [List.mem_singleton.mp hy] at e; rw [← e]; exact hx)⟩
def spChart (K : PySem.W.Frag) : Sp := fun vs H Q _ => ∃ (a c : Addr) (n m : Int), vs = [.ref a, .int n, .int m] ∧ DeckAt H a c ∧ 0 < n ∧ n ≤ 24 ∧ 0 ≤ m ∧ m ≤ 100 ∧
  ∀ (H' : Hp) (v : V) (rs : List (Int × Int)) (cs : List Int), ChOk n rs cs → Da K [a, c] H' v (chD n rs cs) → DeckAt H' a c → Kp [a, c] H H' → Q v H'
section
variable {P : Program} {w : World} {K : PySem.W.Frag} {mg : Str → Option Value} {base : Heap}
abbrev nChart : List Str := ["deck", "many", "more", "roads", "b", "turn", "a", "centres", "field"]
theorem scChart : FnScope nChart ["deck", "many", "more"] (defScope sChart) := ⟨rfl, rfl, rfl, by decide +kernel, rfl, by decide +kernel, by decide +kernel⟩
theorem ok_chart {f fD : Addr} {fd fdD : FuncData} (F : Fun K "_law_chart" "_law_chart" sChart f fd) (FD : Fun K "_law_draw" "_law_draw" sDraw fD fdD) (bD : Binds K fdD ["deck", "many"] []) (gD : mg "_law_draw" = some (.ref fD)) (mI : mg "int" = none)
    (mR : mg "range" = none) (mX : mg "max" = none) (mT : mg "tuple" = none) (mS : mg "sorted" = none) : FnOk P w K mg base CX0 2 f fd ["deck", "many", "more"] (spChart K) := by
  have GD : FnOk P w K mg base CX0 1 fD fdD ["deck", "many"] spDraw := ok_draw FD mI
  refine F.ok scChart (fun vs H Q E h => ?_) (fun cdv A outer s H vs Q E hr h => ?_)
  · obtain ⟨a, c, n, m, rfl, _⟩ := h
    rfl
  · obtain ⟨a, c, n, m, rfl, hD, hn0, hn1, hm0, hm1, k⟩ := h
    refine ⟨_, pss_cons (ps_set (i := 3) scChart.nd rfl (.inl rfl) (pe_lst pa_nil))
      (pss_cons (ps_for PassesOwn.never rfl (pi_range2 (by rfl) mR (pa_cons pe_int (pa_cons (pv 1) pa_nil))) (pg_name (i := 4) scChart.nd rfl (.inl rfl))
        (pss_one (ps_if (pt_cmpR op_gt (pe_call GD hr (by rfl) gD FD.kp bD .nil pass0 (pa_cons (pv 0) (pa_cons pe_int pa_nil))) pe_int (nomark _))
          (pss_one (ps_expr (pe_bm PySem.F.plainAttrs_list PySem.F.slot_list_append PySem.F.type_list_append mt_append (pv 3) (pa_cons (pe_tup (pa_cons
            (pe_callB (call_max2 rfl) (by rfl) mX PyProof.Rows.boot_max (pa_cons pe_int (pa_cons (pe_op op_sub (pe_op op_sub (pv 4) pe_int) (pe_call GD hr (by rfl) gD FD.kp bD .nil pass0 (pa_cons (pv 0) (pa_cons pe_int pa_nil)))) pa_nil)))
            (pa_cons (pv 4) pa_nil))) pa_nil)))) pss_nil)))
      (pss_cons (ps_for PassesOwn.never rfl (pi_range1 (by rfl) mR (pa_cons (pv 2) pa_nil)) (pg_name (i := 5) scChart.nd rfl (.inl rfl))
        (pss_cons (ps_par (i := 6) (j := 4) rfl scChart.nd rfl rfl (by decide) rfl rfl
            (pa_cons (pe_call GD hr (by rfl) gD FD.kp bD .nil pass0 (pa_cons (pv 0) (pa_cons (pv 1) pa_nil))) (pa_cons (pe_call GD hr (by rfl) gD FD.kp bD .nil pass0 (pa_cons (pv 0) (pa_cons (pv 1) pa_nil))) pa_nil)) (by rfl))
        (pss_one (ps_if (PW.pt (pw_and (pt_cmpR op_lt (pv 6) (pv 4) (nomark _)) (pw_and1 (pt_cmpR (op_notInD (hu65 hr)) (pe_tup (pa_cons (pv 6) (pa_cons (pv 4) pa_nil))) (pv 3) (by rfl)))))
          (pss_one (ps_expr (pe_bm PySem.F.plainAttrs_list PySem.F.slot_list_append PySem.F.type_list_append mt_append (pv 3) (pa_cons (pe_tup (pa_cons (pv 6) (pa_cons (pv 4) pa_nil))) pa_nil)))) pss_nil))))
      (pss_cons (ps_setLc (i := 7) (own := [("field", 8)]) (g := gName 8) rfl scChart.nd rfl rfl (sw_true rfl rfl rfl (by decide +kernel)) (pi_range1 (by rfl) mR (pa_cons (pv 1) pa_nil))
          (blkOk_by (own := [("field", 8)]) (N := nChart) (sc := defScope sChart) (by decide +kernel)) (fun _ _ _ _ _ => pg_name (i := 8) scChart.nd rfl (.inl rfl))
          (fun _ _ _ _ _ => pts_one (pt_cmpR op_eq (pe_call GD hr (by rfl) gD FD.kp bD .nil pass0 (pa_cons (pv 0) (pa_cons pe_int pa_nil))) pe_int (nomark _)))
          (fun _ _ _ _ _ => pv 8))
      (pss_one (ps_ret (pe_tup (pa_cons (pv 1) (pa_cons (pe_callTy call_tuple_of (by rfl) mT PyProof.Rows.boot_tuple (pa_cons (pe_callB cr_sortedPO (by rfl) mS PyProof.Rows.boot_sorted (pa_cons (pv 3) pa_nil)) pa_nil))
          (pa_cons (pe_callTy call_tuple_of (by rfl) mT PyProof.Rows.boot_tuple (pa_cons (pv 7) pa_nil)) pa_nil))))))))), ?_⟩
    refine ⟨Nat.zero_le _, fun R hR => ?_⟩
    obtain ⟨Ra, Rc⟩ := hD.ne hR
    -- for b in range(1, many)
    refine ⟨.int n, rfl, 1, n, rfl, ⟨by decide, by decide, by omega, by omega⟩, for_range (lo := 1) (n := (n - 1).toNat)
      (fun i σ H' => ∃ xs rs v4, σ = [some (.ref a), some (.int n), some (.int m), some (.ref R), v4, none, none, none, none] ∧ rs.length ≤ i ∧ Roads H a c R (1 + i) xs rs H')
      ⟨[], [], none, rfl, Nat.le_refl _, upd_same, .nil, hD.new hR, Kp.new hR, fun r hr => absurd hr (by simp), List.nodup_nil⟩ ?_ ?_⟩
    · rintro i σ H' hi ⟨xs, rs, v4, rfl, hl, G⟩
      refine ⟨.ref a, rfl, a, c, 9, rfl, G.deck, by decide, by decide, fun H1 r r0 r1 hD1 k1 => ⟨_, _, rfl, rfl, _, rfl, ?_⟩⟩
      have G1 := G.draw hD1 k1 Ra Rc
      refine ite2 (fun _ => ?_) (fun _ => ?_)
      · refine ⟨.ref R, rfl, .inl ⟨rfl, _, SqL.of G1.at_⟩, .int (1 + i), rfl, _, _, rfl, rfl, .ref a, rfl, a, c, 3, rfl, G1.deck, by decide, by decide, fun H2 q q0 q1 hD2 k2 => ⟨_, _, rfl, rfl, 0, _, rfl, .int (1 + i), rfl, by show 2 ≤ sizeLine; decide, fun t ht => ?_⟩⟩
        have G2 := (G1.draw hD2 k2 Ra Rc).new (o := .tup [.int (if 1 + (i : Int) - 1 - q > 0 then 1 + (i : Int) - 1 - q else 0), .int (1 + i)]) ht
        refine ⟨R, _, _, rfl, rfl, G2.at_, small1000 (by rw [G2.prs.len]; omega), xs ++ [.ref t], rs ++ [((if 1 + (i : Int) - 1 - q > 0 then 1 + (i : Int) - 1 - q else 0 : Int), (1 + (i : Int) : Int))], _, rfl, by rw [List.length_append]; simpa using hl, ?_⟩
        refine Roads.more (G2.wide (by push_cast; omega)) upd_same Ra Rc ⟨(clip (y := 1 + (i : Int)) (by omega) (by omega)).1, (clip (y := 1 + (i : Int)) (by omega) (by omega)).2, by push_cast; omega⟩ (fun z => ?_)
        · have := (G2.road _ z).2.2
          simp at this
      · exact ⟨xs, rs, _, rfl, Nat.le_succ_of_le hl, G1.wide (by push_cast; omega)⟩
    · rintro σ H1 ⟨xs, rs, v4, rfl, hl, G⟩
      have G : Roads H a c R n xs rs H1 := G.wide (by omega)
      -- for turn in range(more)
      refine ⟨.int m, rfl, m, rfl, by omega, by omega, for_range (lo := 0) (n := m.toNat)
        (fun i σ H' => ∃ xs rs v4 v5 v6, σ = [some (.ref a), some (.int n), some (.int m), some (.ref R), v4, v5, v6, none, none] ∧ rs.length ≤ 24 + i ∧ Roads H a c R n xs rs H')
        ⟨xs, rs, _, _, _, rfl, by omega, G⟩ ?_ ?_⟩
      · rintro i σ H' hi ⟨xs, rs, v4, v5, v6, rfl, hl, G⟩
        refine ⟨.ref a, rfl, .int n, rfl, a, c, n, rfl, G.deck, by omega, by omega, fun H2 x x0 x1 hD2 k2 => ?_⟩
        have G2 := G.draw hD2 k2 Ra Rc
        refine ⟨.ref a, rfl, .int n, rfl, a, c, n, rfl, G2.deck, by omega, by omega, fun H3 y y0 y1 hD3 k3 => ?_⟩
        have G3 := G2.draw hD3 k3 Ra Rc
        refine ⟨_, _, rfl, _, rfl, _, rfl, _, _, rfl, rfl, _, rfl, ?_⟩
        refine ite2 (fun hxy => ?_) (fun _ => ?_)
        · have hxy : x < y := of_decide_eq_true hxy
          refine ⟨_, rfl, _, rfl, by show 2 ≤ sizeLine; decide, fun t ht => ?_⟩
          have G4 := G3.new (o := .tup [.int x, .int y]) ht
          refine ⟨.ref R, rfl, pD (x, y), rs.map pD, .tup (SqT.of upd_same) (.cons (.int _) (.cons (.int _) .nil)), .lst (SqL.of G4.at_) (Dp_all (G4.prs.data G4.noTup)), shaped_pair _, shaped_pairs _, _, rfl, ?_⟩
          rw [any_pair]
          generalize upd H3 t (.tup [.int x, .int y]) = H4 at G4
          refine ite2 (fun hno => ?_) (fun _ => ?_)
          · have hno : (x, y) ∉ rs := by simpa using hno
            refine ⟨.ref R, rfl, .inl ⟨rfl, _, SqL.of G4.at_⟩, _, rfl, _, rfl, by show 2 ≤ sizeLine; decide, fun u hu => ?_⟩
            have G5 := G4.new (o := .tup [.int x, .int y]) hu
            refine ⟨R, _, _, rfl, rfl, G5.at_, small1000 (by rw [G5.prs.len]; omega), xs ++ [.ref u], rs ++ [(x, y)], _, _, _, rfl, by rw [List.length_append]; simp; omega, ?_⟩
            exact Roads.more (r := (x, y)) G5 upd_same Ra Rc ⟨x0, hxy, y1⟩ hno
          · exact ⟨xs, rs, _, _, _, rfl, by omega, G4⟩
        · exact ⟨xs, rs, _, _, _, rfl, by omega, G3⟩
      · rintro σ H2 ⟨xs, rs, v4, v5, v6, rfl, hl, G⟩
        -- centres
        refine ⟨.int n, rfl, n, rfl, by omega, by omega, fun C hC => ?_⟩
        have CR : C ≠ R := (ne_of_none G.at_ hC).symm
        obtain ⟨Ca, Cc⟩ := G.deck.ne hC
        have hCH : H C = none := fresh_of G.keep (by simp [CR, Ca, Cc]) hC
        refine lc_range (lo := 0) (n := n.toNat) (fun i H' => ∃ cs : List Int, H' C = some (.lst (cs.map V.int)) ∧ cs.length ≤ i ∧ (∀ z ∈ cs, 0 ≤ z ∧ z < i) ∧ cs.Pairwise (· < ·) ∧ Roads H a c R n xs rs H')
          ⟨[], upd_same, Nat.le_refl _, fun z hz => absurd hz (by simp), List.Pairwise.nil, G.new hC⟩ ?_ ?_
        · rintro i H' hi ⟨cs, e1, e2, e3, e4, G⟩
          refine ⟨rfl, .ref a, rfl, a, c, 2, rfl, G.deck, by decide, by decide, fun H3 q q0 q1 hD3 k3 => ⟨rfl, _, rfl, ?_⟩⟩
          have G3 := G.draw hD3 k3 Ra Rc
          have e13 : H3 C = some (.lst (cs.map V.int)) := k3.get (by simp [Ca, Cc]) e1
          refine ite2 (fun _ => ?_) (fun _ => ?_)
          · refine ⟨_, rfl, _, e13, small1000 (by rw [List.length_map]; omega), cs ++ [0 + (i : Int)], by rw [upd_same, List.map_append]; rfl, by rw [List.length_append]; simpa using e2, fun z hz => ?_, ?_, ?_⟩
            · rcases List.mem_append.mp hz with z1 | z1
              · have := e3 z z1
                push_cast
                omega
              · rw [List.mem_singleton.mp z1]
                push_cast
                omega
            · rw [List.pairwise_append]
              refine ⟨e4, by simp, fun x hx y hy => ?_⟩
              have := e3 x hx
              rw [List.mem_singleton.mp hy]
              omega
            · exact ⟨by rw [upd_ne CR.symm]; exact G3.at_, G3.prs.keep (Kp.put (S := [C]) (by simp)) (fun s hs xs e => by rw [List.mem_singleton.mp hs, e13] at e; cases e), G3.deck.put Ca Cc, (Kp.trans (G3.keep.mono fun b hb => List.mem_cons_of_mem C hb) (Kp.put (by simp))).drop hCH, G3.road, G3.nd⟩
          · exact ⟨cs, e13, Nat.le_succ_of_le e2, fun z hz => by have := e3 z hz; push_cast; omega, e4, G3⟩
        · rintro H3 ⟨cs, e1, e2, e3, e4, G⟩
          refine ⟨.int n, rfl, .ref R, rfl, R, xs, keyP H3, rfl, SqL.of G.at_, (Prs.keys G.prs).2, fun ys S s1 s2 hS => ?_⟩
          obtain ⟨p1, p2, p3⟩ := prs_sorted G.prs s1 s2
          generalize ys.map (keyP H3) = rs' at p1 p2 p3
          refine ⟨S, ys, rfl, .inl ⟨SqL.of upd_same, fun T hT => ?_⟩⟩
          have G4 := G.new (o := .lst ys) hS
          have q4 : Prs (upd H3 S (.lst ys)) ys rs' := p3.keep (Kp.new (S := [R, a, c]) hS) G.noTup
          have e14 : (upd H3 S (.lst ys)) C = some (.lst (cs.map V.int)) := by rw [upd_ne (ne_of_none e1 hS)]; exact e1
          generalize upd H3 S (.lst ys) = H4 at G4 q4 e14 hT
          have G5 := G4.new (o := .tup ys) hT
          have q5 : Prs (upd H4 T (.tup ys)) ys rs' := q4.keep (Kp.new (S := [R, a, c]) hT) G4.noTup
          have eT : (upd H4 T (.tup ys)) T = some (.tup ys) := upd_same
          have e15 : (upd H4 T (.tup ys)) C = some (.lst (cs.map V.int)) := by rw [upd_ne (ne_of_none e14 hT)]; exact e14
          generalize upd H4 T (.tup ys) = H5 at G5 q5 eT e15
          refine ⟨.ref C, rfl, C, _, rfl, .inl ⟨SqL.of e15, fun W hW => ?_⟩⟩
          have G6 := G5.new (o := .tup (cs.map V.int)) hW
          have q6 : Prs (upd H5 W (.tup (cs.map V.int))) ys rs' := q5.keep (Kp.new (S := [R, a, c]) hW) G5.noTup
          have eT6 : (upd H5 W (.tup (cs.map V.int))) T = some (.tup ys) := by rw [upd_ne (ne_of_none eT hW)]; exact eT
          have eW : (upd H5 W (.tup (cs.map V.int))) W = some (.tup (cs.map V.int)) := upd_same
          generalize upd H5 W (.tup (cs.map V.int)) = H6 at G6 q6 eT6 eW
          refine ⟨by show 3 ≤ sizeLine; decide, fun Z hZ => ?_⟩
          have G7 := G6.new (o := .tup [.int n, .ref T, .ref W]) hZ
          have q7 : Prs (upd H6 Z (.tup [.int n, .ref T, .ref W])) ys rs' := q6.keep (Kp.new (S := [R, a, c]) hZ) G6.noTup
          have eT7 : (upd H6 Z (.tup [.int n, .ref T, .ref W])) T = some (.tup ys) := by rw [upd_ne (ne_of_none eT6 hZ)]; exact eT6
          have eW7 : (upd H6 Z (.tup [.int n, .ref T, .ref W])) W = some (.tup (cs.map V.int)) := by rw [upd_ne (ne_of_none eW hZ)]; exact eW
          have eZ : (upd H6 Z (.tup [.int n, .ref T, .ref W])) Z = some (.tup [.int n, .ref T, .ref W]) := upd_same
          generalize upd H6 Z (.tup [.int n, .ref T, .ref W]) = H7 at G7 q7 eT7 eW7 eZ
          have nt := G7.noTup
          have out : ∀ {q : Addr} {zs : List V}, H7 q = some (.tup zs) → q ∉ [a, c] := fun {q zs} e hq => nt q (List.mem_cons_of_mem _ hq) _ e
          refine k H7 (.ref Z) rs' cs ⟨hn0, hn1, ?_, fun r hr => G.road r (p1.mem_iff.mp hr), p1.nodup_iff.mpr G.nd, p2, fun z hz => by have := e3 z hz; omega, by omega, e4⟩ ?_ G7.deck (G7.keep.drop hR)
          · rw [p1.length_eq]
            omega
          · exact .tup (SqT.of (Ob.mk (out eZ) eZ)) (.cons (.int n) (.cons (.tup (SqT.of (Ob.mk (out eT7) eT7)) (q7.data fun s hs => nt s (List.mem_cons_of_mem _ hs))) (.cons (.tup (SqT.of (Ob.mk (out eW7) eW7)) (dp_ints cs)) .nil)))
end
end Kt

set_option Elab.async false
set_option linter.all false
set_option maxRecDepth 100000
set_option maxHeartbeats 4000000
namespace Kt
open PySem PySem.Spec PyProof.Rows L2
/-! ints in values -/
def toI : V → Int
  | .int i => i
  | _ => 0
theorem perm_ints {ys : List V} {ns : List Int} (h : ys.Perm (ns.map V.int)) : ∃ ms : List Int, ys = ms.map V.int ∧ ms.Perm ns := by
  have e : ∀ zs : List V, (∀ z ∈ zs, ∃ n, z = V.int n) → zs = (zs.map toI).map V.int := fun zs hz => by
    induction zs with
    | nil => rfl
    | cons z zs ih =>
      obtain ⟨n, rfl⟩ := hz z List.mem_cons_self
      rw [List.map_cons, List.map_cons, ← ih fun x hx => hz x (List.mem_cons_of_mem _ hx)]
      rfl
  refine ⟨ys.map toI, e ys fun z hz => ?_, ?_⟩
  · obtain ⟨n, _, rfl⟩ := List.mem_map.mp (h.mem_iff.mp hz)
    exact ⟨n, rfl⟩
  · have q := h.map toI
    rw [List.map_map] at q
    have : (toI ∘ V.int) = id := rfl
    rw [this, List.map_id] at q
    exact q
def rgI (n : Int) : List Int := (List.range n.toNat).map fun i => ((i : Nat) : Int)
theorem rgV_ints (n : Int) : rgV 0 n = (rgI n).map V.int := by
  unfold rgV rgI
  rw [List.map_map, Int.sub_zero]
  refine List.map_congr_left fun i _ => ?_
  show V.int (0 + (i : Int)) = V.int (i : Int)
  rw [Int.zero_add]
theorem rgI_mem {n z : Int} : z ∈ rgI n ↔ 0 ≤ z ∧ z < n := by
  unfold rgI
  rw [List.mem_map]
  constructor
  · rintro ⟨i, hi, rfl⟩
    have := List.mem_range.mp hi
    omega
  · rintro ⟨h1, h2⟩
    exact ⟨z.toNat, List.mem_range.mpr (by omega), by omega⟩
theorem rgI_nodup (n : Int) : (rgI n).Nodup := by
  unfold rgI List.Nodup
  rw [List.pairwise_map]
  refine List.nodup_range.imp fun {i j} h e => h (by omega)
theorem rgI_len (n : Int) : (rgI n).length = n.toNat := by
  unfold rgI
  rw [List.length_map, List.length_range]
theorem cut_to (xs : List V) (k : Int) (h : 0 ≤ k) : cutV xs none (some k) = xs.take k.toNat := by
  have e : k = ((k.toNat : Nat) : Int) := by omega
  unfold cutV
  rw [HT.sIx_none, e, HT.sIx_nat, List.drop_zero, Nat.sub_zero]
  rw [List.take_eq_take_iff]
  have : (((k.toNat : Nat) : Int)).toNat = k.toNat := by omega
  rw [this]
  omega
theorem sh_int {K : PySem.W.Frag} {H : Hp} (n : Int) : Sh K H (.int n) := ⟨.int n, .int n, by simp [PyData.canLay0], by simp [PyData.depth]⟩
theorem sh_ints {K : PySem.W.Frag} {H : Hp} {ns : List Int} : ∀ x ∈ ns.map V.int, Sh K H x := fun x hx => by
  obtain ⟨n, _, rfl⟩ := List.mem_map.mp hx
  exact sh_int n
theorem strict {ms : List Int} (h1 : ms.Pairwise (· ≤ ·)) (h2 : ms.Nodup) : ms.Pairwise (· < ·) :=
  (List.Pairwise.and h1 h2).imp fun {a b} h => by
    have := h.1
    have := h.2
    omega
/-- pieces of a chart of n fields -/
structure PsOk (n : Int) (ps : List (Int × Int)) : Prop where
  fld : ∀ p ∈ ps, 0 ≤ p.1 ∧ p.1 < n ∧ 0 ≤ p.2 ∧ p.2 < 6
  asc : ps.Pairwise fun p q => p.1 < q.1
def spPieces (K : PySem.W.Frag) : Sp := fun vs H Q _ => ∃ (a c : Addr) (v : V) (n m : Int) (rs : List (Int × Int)) (cs : List Int), vs = [.ref a, v, .int m] ∧ DeckAt H a c ∧ Da K [a, c] H v (chD n rs cs) ∧ 0 < n ∧ n ≤ 24 ∧ 0 ≤ m ∧ m ≤ 100 ∧
  ∀ (H' : Hp) (u : V) (ps : List (Int × Int)), PsOk n ps → ps.length = min m.toNat n.toNat → Da K [a, c] H' u (.tuple (ps.map pD)) → DeckAt H' a c → Kp [a, c] H H' → Q u H'
section
variable {P : Program} {w : World} {K : PySem.W.Frag} {mg : Str → Option Value} {base : Heap}
abbrev nPieces : List Str := ["deck", "chart", "many", "players", "fields", "field"]
theorem scPieces : FnScope nPieces ["deck", "chart", "many"] (defScope sPieces) := ⟨rfl, rfl, rfl, by decide +kernel, rfl, by decide +kernel, by decide +kernel⟩
theorem ok_pieces {f fD fM fP : Addr} {fd fdD fdM fdP : FuncData} (F : Fun K "_law_pieces" "_law_pieces" sPieces f fd) (FD : Fun K "_law_draw" "_law_draw" sDraw fD fdD) (bD : Binds K fdD ["deck", "many"] []) (gD : mg "_law_draw" = some (.ref fD))
    (FM : Fun K "_law_mixed" "_law_mixed" sMixed fM fdM) (bM : Binds K fdM ["deck", "items"] []) (gM : mg "_law_mixed" = some (.ref fM)) (FP : Fun K "_law_pick" "_law_pick" sPick fP fdP) (bP : Binds K fdP ["deck", "items"] []) (gP : mg "_law_pick" = some (.ref fP))
    (mI : mg "int" = none) (mL : mg "len" = none) (mLi : mg "list" = none) (mR : mg "range" = none) (mT : mg "tuple" = none) (mS : mg "sorted" = none) : FnOk P w K mg base CX0 3 f fd ["deck", "chart", "many"] (spPieces K) := by
  have GD : FnOk P w K mg base CX0 1 fD fdD ["deck", "many"] spDraw := ok_draw FD mI
  have GM : FnOk P w K mg base CX0 2 fM fdM ["deck", "items"] (spMixed K) := ok_mixed FM FD bD gD mI mL mLi
  have GP : FnOk P w K mg base CX0 2 fP fdP ["deck", "items"] (spPick K) := ok_pick FP FD bD gD mI mL
  refine F.ok scPieces (fun vs H Q E h => ?_) (fun cdv A outer s H vs Q E hr h => ?_)
  · obtain ⟨a, c, v, n, m, rs, cs, rfl, _⟩ := h
    rfl
  · obtain ⟨a, c, v, n, m, rs, cs, rfl, hD, hv, hn0, hn1, hm0, hm1, k⟩ := h
    refine ⟨_, pss_cons (ps_set (i := 3) scPieces.nd rfl (.inr rfl) (pe_slice sl_list (pe_call GM hr (by rfl) gM FM.kp bM .nil pass0 (pa_cons (pv 0) (pa_cons (pe_listRg rfl (by rfl) mLi (prg_1 (by rfl) mR pe_int)) pa_nil)))
          po_none (po_some (pe_op op_add pe_int (pe_call GD (hr.mono (by decide)) (by rfl) gD FD.kp bD .nil pass0 (pa_cons (pv 0) (pa_cons pe_int pa_nil)))))))
      (pss_cons (ps_set (i := 4) scPieces.nd rfl (.inl rfl) (pe_callB cr_sortedI (by rfl) mS PyProof.Rows.boot_sorted (pa_cons (pe_slice sl_list (pe_call GM hr (by rfl) gM FM.kp bM .nil pass0 (pa_cons (pv 0)
          (pa_cons (pe_listRg rfl (by rfl) mLi (prg_1 (by rfl) mR (kt (pv 1) pe_int))) pa_nil))) po_none (po_some (pv 2))) pa_nil)))
      (pss_one (ps_ret (pe_callTy call_tuple_of (by rfl) mT PyProof.Rows.boot_tuple (pa_cons
        (pe_lc (own := [("field", 5)]) (g := gName 5) rfl scPieces.nd (pi_list (pv 4)) (blkOk_by (own := [("field", 5)]) (N := nPieces) (sc := defScope sPieces) (by decide +kernel)) (fun _ _ _ _ _ => pg_name (i := 5) scPieces.nd rfl (.inl rfl))
          (fun _ _ _ _ _ => pts_nil) (fun _ _ _ _ _ => pe_tup (pa_cons (pv 5) (pa_cons (pe_call GP hr (by rfl) gP FP.kp bP .nil pass0 (pa_cons (pv 0) (pa_cons (pv 3) pa_nil))) pa_nil)))) pa_nil))))), ?_⟩
    -- players
    refine ⟨.ref a, rfl, 6, rfl, RgOk.of_le (by decide) (by decide) (by decide) (by decide), fun q hq => ?_⟩
    rw [rgV_ints]
    refine ⟨a, c, q, _, rfl, hD.new hq, .inl (SqL.of upd_same), by decide, sh_ints, fun H1 p ys hp1 hp2 hp3 hD1 k1 => ?_⟩
    obtain ⟨ms, rfl, hms⟩ := perm_ints hp1
    have k1 : Kp [a, c] H H1 := (Kp.new hq).trans k1
    have hpH : H p = none := by
      by_cases e : p = q
      · rw [e]; exact hq
      · rw [upd_ne e] at hp2; exact hp2
    obtain ⟨pa, pc⟩ := hD.ne hpH
    refine ⟨.ref a, rfl, a, c, 2, rfl, hD1, by decide, by decide, fun H2 r r0 r1 hD2 k2 => ⟨2, r, rfl, rfl, 2 + r, rfl, p, _, rfl, SqL.of (k2.get (by simp [pa, pc]) hp3), fun p2 hp2 => ?_⟩⟩
    rw [cut_to _ _ (by omega), ← List.map_take]
    have hms6 : ms.length = 6 := by rw [hms.length_eq]; decide
    have hpl : ∀ z ∈ ms.take (2 + r).toNat, 0 ≤ z ∧ z < 6 := fun z hz => rgI_mem.mp (hms.mem_iff.mp (List.mem_of_mem_take hz))
    have hplne : ms.take (2 + r).toNat ≠ [] := fun e => by
      have e := congrArg List.length e
      rw [List.length_take, hms6] at e
      simp only [List.length_nil] at e
      omega
    have hpllen : (ms.take (2 + r).toNat).length ≤ 6 := by rw [List.length_take, hms6]; omega
    generalize ms.take (2 + r).toNat = pl at hpl hplne hpllen
    have k3 : Kp [a, c] H (upd H2 p2 (.lst (pl.map V.int))) := (k1.trans k2).trans (Kp.new hp2)
    have hD3 := hD2.new (o := .lst (pl.map V.int)) hp2
    obtain ⟨p2a, p2c⟩ := hD2.ne hp2
    have hP3 : (upd H2 p2 (.lst (pl.map V.int))) p2 = some (.lst (pl.map V.int)) := upd_same
    show tSeq _ _ _ _ (upd H2 p2 (.lst (pl.map V.int)))
    generalize upd H2 p2 (.lst (pl.map V.int)) = H3 at k3 hD3 hP3
    clear hp2 hD2 k2 hp3 hD1 k1 hp1
    -- fields
    have hv3 := hv.keep k3
    obtain ⟨ta, t1, t2, rfl, hs, _, _⟩ := chart_inv hv3.dp
    refine ⟨.ref a, rfl, .ref ta, rfl, ta, _, 0, _, rfl, rfl, hs, at0, n, rfl, RgOk.of_le (by decide) (by omega) (by decide) (by omega), fun q hq => ?_⟩
    rw [rgV_ints]
    refine ⟨a, c, q, _, rfl, hD3.new hq, .inl (SqL.of upd_same), ?_, sh_ints, fun H4 p4 ys hp1 hp2 hp3 hD4 k4 => ?_⟩
    · rw [List.length_map, rgI_len]
      omega
    obtain ⟨fs, rfl, hfs⟩ := perm_ints hp1
    have hp4 : H3 p4 = none := by
      by_cases e : p4 = q
      · rw [e]; exact hq
      · rw [upd_ne e] at hp2; exact hp2
    have k4 : Kp [a, c] H3 H4 := (Kp.new hq).trans k4
    have hP4 : H4 p2 = some (.lst (pl.map V.int)) := k4.get (by simp [p2a, p2c]) hP3
    refine ⟨.int m, rfl, m, rfl, p4, _, rfl, SqL.of hp3, fun p5 hp5 => ?_⟩
    rw [cut_to _ _ hm0, ← List.map_take]
    refine ⟨p5, _, rfl, SqL.of upd_same, fun gs p6 hg1 hg2 hp6 => ?_⟩
    have hgs : ∀ z ∈ gs, 0 ≤ z ∧ z < n := fun z hz => rgI_mem.mp (hfs.mem_iff.mp (List.mem_of_mem_take (hg1.mem_iff.mp hz)))
    have hgn : gs.Nodup := hg1.nodup_iff.mpr ((hfs.nodup_iff.mpr (rgI_nodup n)).sublist (List.take_sublist _ _))
    have hgl : gs.length = min m.toNat n.toNat := by rw [hg1.length_eq, List.length_take, hfs.length_eq, rgI_len]
    have k6 : Kp [a, c] H3 (upd (upd H4 p5 (.lst ((fs.take m.toNat).map V.int))) p6 (.lst (gs.map V.int))) := (k4.trans (Kp.new hp5)).trans (Kp.new hp6)
    have hD6 := (hD4.new (o := .lst ((fs.take m.toNat).map V.int)) hp5).new (o := .lst (gs.map V.int)) hp6
    have hP6 := k6.get (by simp [p2a, p2c]) hP3
    have hG6 : (upd (upd H4 p5 (.lst ((fs.take m.toNat).map V.int))) p6 (.lst (gs.map V.int))) p6 = some (.lst (gs.map V.int)) := upd_same
    obtain ⟨p6a, p6c⟩ := (hD4.new (o := .lst ((fs.take m.toNat).map V.int)) hp5).ne hp6
    generalize upd (upd H4 p5 (.lst ((fs.take m.toNat).map V.int))) p6 (.lst (gs.map V.int)) = H6 at k6 hD6 hP6 hG6
    have k6 : Kp [a, c] H H6 := k3.trans k6
    clear hp6 hp5 hp3 hD4 k4 hP4 hp1
    -- the pieces
    refine ⟨_, rfl, p6, rfl, ⟨_, SqL.of hG6⟩, fun D hD0 => ?_⟩
    have Dp6 : p6 ≠ D := ne_of_none hG6 hD0
    have Dp2 : p2 ≠ D := ne_of_none hP6 hD0
    obtain ⟨Da', Dc'⟩ := hD6.ne hD0
    have hDH : H D = none := fresh_of k6 (by simp [Da', Dc']) hD0
    refine lc_list (K := K) (a := p6) (xs := gs.map V.int) (fun i H' => ∃ xs ps, H' D = some (.lst xs) ∧ Prs H' xs ps ∧ ps.map (·.1) = gs.take i ∧ (∀ p ∈ ps, 0 ≤ p.2 ∧ p.2 < 6) ∧ H' p6 = some (.lst (gs.map V.int)) ∧ H' p2 = some (.lst (pl.map V.int)) ∧ DeckAt H' a c ∧ Kp [a, c] H H')
      ⟨[], [], upd_same, .nil, by simp, fun p hp => absurd hp (by simp), by rw [upd_ne Dp6]; exact hG6, by rw [upd_ne Dp2]; exact hP6, hD6.new hD0, k6.trans (Kp.new hD0)⟩ (fun i H' _ ⟨_, _, _, _, _, _, e, _⟩ => SqL.of e) ?_ ?_
    · rintro i x H' hx ⟨xs, ps, e1, e2, e3, e4, e5, e6, e7, e8⟩
      obtain ⟨z, hz, rfl⟩ := map_ints_get hx
      have hi : i < gs.length := (List.getElem?_eq_some_iff.mp hz).1
      refine ⟨rfl, yesGo ?_⟩
      refine ⟨.int z, rfl, .ref a, rfl, .ref p2, rfl, a, c, p2, _, rfl, e7, p2a, p2c, SqL.of e6, (by simpa using hplne), (by rw [List.length_map]; omega), fun H7 y hy hD7 k7 => ?_⟩
      obtain ⟨b, hb, rfl⟩ := List.mem_map.mp hy
      refine ⟨by show 2 ≤ sizeLine; decide, fun T hT => ?_⟩
      have f1 : H7 D = some (.lst xs) := k7.get (by simp [Da', Dc']) e1
      have nt7 : NoTup H' [a, c] := by
        obtain ⟨q1, q2, q3, g1, g2, _⟩ := e7
        intro s hs xs e
        rcases List.mem_cons.mp hs with w | hs
        · rw [w, g1] at e; cases e
        · rw [List.mem_singleton.mp hs, g2] at e; cases e
      have f2 : Prs H7 xs ps := e2.keep k7 nt7
      have f5 : H7 p6 = some (.lst (gs.map V.int)) := k7.get (by simp [p6a, p6c]) e5
      have f6 : H7 p2 = some (.lst (pl.map V.int)) := k7.get (by simp [p2a, p2c]) e6
      have kT : Kp ([] : List Addr) H7 (upd H7 T (.tup [.int z, .int b])) := Kp.new hT
      have g1 : (upd H7 T (.tup [.int z, .int b])) D = some (.lst xs) := kT.get (by simp) f1
      have g2 : Prs (upd H7 T (.tup [.int z, .int b])) xs ps := f2.keep kT (fun s hs => absurd hs (by simp))
      have g5 := kT.get (by simp) f5
      have g6 := kT.get (by simp) f6
      have gT : PrAt (upd H7 T (.tup [.int z, .int b])) (.ref T) (z, b) := ⟨T, rfl, upd_same⟩
      have g7 : DeckAt (upd H7 T (.tup [.int z, .int b])) a c := hD7.new hT
      have g8 : Kp [a, c] H (upd H7 T (.tup [.int z, .int b])) := (e8.trans k7).trans (Kp.new hT)
      generalize upd H7 T (.tup [.int z, .int b]) = H8 at g1 g2 g5 g6 gT g7 g8
      have kD : Kp [D] H8 (upd H8 D (.lst (xs ++ [.ref T]))) := Kp.put (by simp)
      have nD : NoTup H8 [D] := fun s hs ys e => by rw [List.mem_singleton.mp hs, g1] at e; cases e
      have hlx : xs.length = i := by
        rw [g2.len, ← List.length_map (f := (·.1)), e3, List.length_take]
        omega
      refine ⟨xs, g1, small1000 (by omega), xs ++ [.ref T], ps ++ [(z, b)], upd_same, Prs.snoc (gT.keep kD nD) (g2.keep kD nD), ?_, fun p hp => ?_, by rw [upd_ne Dp6]; exact g5, by rw [upd_ne Dp2]; exact g6, g7.put Da' Dc', ?_⟩
      · rw [List.map_append, e3, take_snoc hz]
        rfl
      · rcases List.mem_append.mp hp with w | w
        · exact e4 p w
        · rw [List.mem_singleton.mp w]
          exact hpl b hb
      · exact (Kp.trans (g8.mono fun b hb => List.mem_cons_of_mem D hb) (Kp.put (by simp))).drop hDH
    · rintro H7 ⟨xs, ps, e1, e2, e3, e4, e5, e6, e7, e8⟩
      rw [List.length_map, List.take_length] at e3
      refine ⟨D, xs, rfl, .inl ⟨SqL.of e1, fun T hT => ?_⟩⟩
      have kT : Kp ([] : List Addr) H7 (upd H7 T (.tup xs)) := Kp.new hT
      have g2 : Prs (upd H7 T (.tup xs)) xs ps := e2.keep kT (fun s hs => absurd hs (by simp))
      have g7 : DeckAt (upd H7 T (.tup xs)) a c := e7.new hT
      have nt : NoTup (upd H7 T (.tup xs)) [a, c] := by
        obtain ⟨q1, q2, q3, g1, g2, _⟩ := g7
        intro s hs xs e
        rcases List.mem_cons.mp hs with w | hs
        · rw [w, g1] at e; cases e
        · rw [List.mem_singleton.mp hs, g2] at e; cases e
      refine k _ (.ref T) ps ⟨fun p hp => ?_, ?_⟩ ?_ (.tup (SqT.of (Ob.mk (fun w => nt T w _ upd_same) upd_same)) (g2.data nt)) g7 (e8.trans (Kp.new hT))
      · have h1 := hgs p.1 (by rw [← e3]; exact List.mem_map.mpr ⟨p, hp, rfl⟩)
        have h2 := e4 p hp
        omega
      · have q := strict hg2 hgn
        rw [← e3] at q
        exact List.pairwise_map.mp q
      · rw [← hgl, ← e3, List.length_map]
end
end Kt

set_option Elab.async false
set_option linter.all false
set_option maxRecDepth 100000
set_option maxHeartbeats 4000000
/-! sorted of triples of one word and two ints -/
namespace Kt
open PySem PySem.Spec PyProof.Rows L2
/-- v is a tuple of the word z and two ints -/
def IsTri (z : Str) (h : Heap) (v : Value) (r : Int × Int) : Prop := ∃ a o t u w n, v = .ref a ∧ h.get? a = some o ∧ o.cls = .type "tuple" ∧ o.data = .seq #[.str z t, .int r.1 u, .int r.2 w] n
section
variable {prog : Program} {w : World} {A : Around} {E : Value → Shared → Prop} {s : Shared} {z : Str}
theorem IsTri.stays {h h' : Heap} {v : Value} {r : Int × Int} (p : IsTri z h v r) (k : ∀ b o, h.get? b = some o → o.cls = .type "tuple" → h'.get? b = some o) : IsTri z h' v r :=
  let ⟨a, o, t, u, w, n, e, ho, hc, hd⟩ := p
  ⟨a, o, t, u, w, n, e, k a o ho hc, hc, hd⟩
theorem tri_heads {h : Heap} {k : Value → Int × Int} : ∀ (vs : List Value), (∀ v ∈ vs, IsTri z h v (k v)) → ∃ fs : List Value, PySem.W.KatTups h vs fs ∧ fs.length = vs.length ∧ ∀ f ∈ fs, ∃ t, f = Value.str z t
  | [], _ => ⟨[], .nil, rfl, fun _ q => absurd q (by simp)⟩
  | v :: vs, hp => by
    obtain ⟨a, o, t, u, w, n, e, ho, hc, hd⟩ := hp v (by simp)
    obtain ⟨fs, g1, g2, g3⟩ := tri_heads vs fun x hx => hp x (by simp [hx])
    subst e
    refine ⟨.str z t :: fs, .cons ho hc hd rfl g1, congrArg Nat.succ g2, fun f hf => ?_⟩
    cases List.mem_cons.mp hf with
    | inl e => exact ⟨t, e⟩
    | inr hf => exact g3 f hf
theorem tri_cmp {vs : List Value} {k : Value → Int × Int} (hp : ∀ v ∈ vs, IsTri z s.heap v (k v)) : SrtO.Cmp prog w A s (tuples' true) (fun p => p.1 ∈ vs) (SrtO.lt2 fun v u => SrtO.lexB (k v) (k u)) := by
  intro p q hm hm'
  obtain ⟨a, o, t, u, w', n, e, ho, hc, hd⟩ := hp _ hm
  obtain ⟨a', o', t', u', w'', n', e', ho', hc', hd'⟩ := hp _ hm'
  show wpAny (model prog w) A (keyLt' (tuples' true) p.1 q.1) (fun r s' => s' = s ∧ r = SrtO.lexB (k p.1) (k q.1)) (fun _ _ => False) s
  generalize k p.1 = x at hd ⊢
  generalize k q.1 = y at hd' ⊢
  rw [e, e']
  refine PySem.W.kat_lt ho hd ho' hd' ?_
  show PySem.W.KatLex prog w A true (decide (3 < 3)) _ [(.str z t, .str z t'), (.int x.1 u, .int y.1 u'), (.int x.2 w', .int y.2 w'')] 0 s
  refine PySem.W.kat_cons (SeqAt.EqAt.str_str z t z t' prog w _ _ ?_)
  rw [show (z == z) = true from beq_self_eq_true z]
  refine PySem.W.kat_yes (PySem.W.kat_cons (SeqAt.EqAt.int_int x.1 u y.1 u' prog w _ _ ?_))
  refine PySem.W.kat_go (fun e1 => ?_) (fun e1 => ?_)
  · have ex : x.1 = y.1 := by simpa using e1
    refine PySem.W.kat_yes (PySem.W.kat_cons (SeqAt.EqAt.int_int x.2 w' y.2 w'' prog w _ _ ?_))
    refine PySem.W.kat_go (fun e2 => ?_) (fun e2 => ?_)
    · have ey : x.2 = y.2 := by simpa using e2
      refine PySem.W.kat_yes (PySem.W.kat_nil ⟨rfl, ?_⟩)
      exact (SrtO.lexB_no.mpr (by omega)).symm
    · refine PySem.W.kat_no (PySem.W.kat_one _ _ (PyProof.Rows.lt_int ⟨rfl, ?_⟩))
      unfold SrtO.lexB
      rw [if_pos ex]
  · have ex : ¬ x.1 = y.1 := by simpa using e1
    refine PySem.W.kat_no (PySem.W.kat_one _ _ (PyProof.Rows.lt_int ⟨rfl, ?_⟩))
    unfold SrtO.lexB
    rw [if_neg ex]
end
/-- where the heap has triples, told by k -/
def rSortTri (K : PySem.W.Frag) (z : Str) : List V → Hp → VK → Prop := fun vs H Q => ∃ (a : Addr) (xs : List V) (k : V → Int × Int), vs = [V.ref a] ∧ SqL K H a xs ∧ (∀ x ∈ xs, ∃ t, x = V.ref t ∧ H t = some (.tup [.str z, .int (k x).1, .int (k x).2])) ∧
  ∀ ys p, SrtO.Srtd (ltP k) ys → SrtO.Stb (ltP k) ys xs → H p = none → Q (.ref p) (upd H p (.lst ys))
theorem cr_sortTri {X : Cx} (z : Str) : CallR X (.builtin "sorted") (rSortTri X.K z) := by
  intro pins s σ H vs us Q I r h
  obtain ⟨a, xs, k, rfl, hs, hx, q⟩ := h
  obtain ⟨u, rfl, ru⟩ := vals1 r
  obtain rfl : u = Value.ref a := ru
  obtain ⟨its, rv, hl, hz⟩ := I.list hs
  have hz' : its.length ≤ sizeLine := by rw [← rv.length]; exact hz
  obtain ⟨e1, e2⟩ := refs_back rv fun x m => let ⟨t, e, _⟩ := hx x m; ⟨t, e⟩
  have tri : ∀ v ∈ its, IsTri z s.heap v (k (backV v)) := fun v hv => by
    obtain ⟨t, rfl⟩ := e2 v hv
    obtain ⟨t', e, ht⟩ := hx (V.ref t) (by rw [e1]; exact List.mem_map.mpr ⟨_, hv, rfl⟩)
    cases e
    obtain ⟨_, us, r3, o, ho, hc, n, hd⟩ := I.hok _ _ ht
    cases r3 with
    | cons r1 r3 =>
      cases r3 with
      | cons r2 r3 =>
        cases r3 with
        | cons r4 r5 =>
          cases r5
          obtain ⟨t1, rfl⟩ := r1
          obtain ⟨t2, rfl⟩ := r2
          obtain ⟨t3, rfl⟩ := r4
          exact ⟨t, o, t1, t2, t3, n, rfl, ho, hc, hd⟩
  refine SrtO.sorted_ord (SrtO.swo_lex fun u => k (backV u)) hl.isList hz' (fun h2 h₁ b hb kk => ?_) fun out hS hB => ?_
  · intro h' keep
    have tri' : ∀ v ∈ its, IsTri z h' v (k (backV v)) := fun v hv => (tri v hv).stays fun d o ho hc => keep d o (fun w => (kk d o ho).1 w) (kk d o ho).2
    obtain ⟨fs, g1, g2, g3⟩ := tri_heads its tri'
    refine ⟨tuples' true, fun Q E hq => ?_, tri_cmp tri'⟩
    refine PySem.W.kat_kind (T := .type "str") g1 (by omega) (fun f hm => ?_) (by rfl) ?_
    · obtain ⟨t, rfl⟩ := g3 f hm
      exact PySem.W.Looks.now
    · rw [show (Value.type "str" != Value.type "tuple") = true by decide +kernel]
      exact hq
  · have h3 : ∀ u ∈ out, ∃ a, u = Value.ref a := fun u hu => e2 u (hB.perm.mem_iff.mp hu)
    have hb : SrtO.Stb (ltP k) (out.map backV) xs := by
      rw [e1]
      exact SrtO.Stb.map (ltP_swo k) backV hB
    obtain ⟨n, hn⟩ := sortedAll_at s.heap its out.toArray
    refine ⟨.ref (s.heap.objs.size + 1), upd H (s.heap.objs.size + 1) (.lst (out.map backV)), I.laid (t' := s.toks) (fun b o e => sortedAll_old e) (Nat.le_succ _) ⟨?_, out, n, vals_back h3, hn⟩, rfl, q _ _ (SrtO.srtd_map hS) hb (I.hok.fresh (Nat.le_succ _))⟩
    rw [hb.len]
    exact hz
end Kt

set_option Elab.async false
set_option linter.all false
set_option maxRecDepth 100000
set_option maxHeartbeats 4000000
namespace Kt
open PySem PySem.Spec PyProof.Rows L2
/-! tuples of flat things that stand in the heap -/
section
variable {α : Type} {f : α → List V}
def TpAt (f : α → List V) (H : Hp) (x : V) (r : α) : Prop := ∃ t, x = .ref t ∧ H t = some (.tup (f r))
abbrev Ps (f : α → List V) (H : Hp) : List V → List α → Prop := Paired (TpAt f H)
theorem TpAt.keep {H H' : Hp} {S : List Addr} {x : V} {r : α} (h : TpAt f H x r) (k : Kp S H H') (n : NoTup H S) : TpAt f H' x r := by
  obtain ⟨t, rfl, e⟩ := h
  exact ⟨t, rfl, k.get (fun z => n t z _ e) e⟩
theorem Ps.keep {H H' : Hp} {S : List Addr} (k : Kp S H H') (n : NoTup H S) : ∀ {xs : List V} {rs : List α}, Ps f H xs rs → Ps f H' xs rs
  | _, _, .nil => .nil
  | _, _, .cons h t => .cons (h.keep k n) (Ps.keep k n t)
theorem Ps.snoc {H : Hp} {x : V} {r : α} (hx : TpAt f H x r) : ∀ {xs : List V} {rs : List α}, Ps f H xs rs → Ps f H (xs ++ [x]) (rs ++ [r])
  | _, _, .nil => .cons hx .nil
  | _, _, .cons h t => .cons h (Ps.snoc hx t)
theorem Ps.app {H : Hp} : ∀ {xs ys : List V} {rs qs : List α}, Ps f H xs rs → Ps f H ys qs → Ps f H (xs ++ ys) (rs ++ qs)
  | _, _, _, _, .nil, h => h
  | _, _, _, _, .cons a b, h => .cons a (Ps.app b h)
theorem Ps.len {H : Hp} : ∀ {xs : List V} {rs : List α}, Ps f H xs rs → xs.length = rs.length
  | _, _, .nil => rfl
  | _, _, .cons _ t => by rw [List.length_cons, List.length_cons, Ps.len t]
theorem Ps.at {H : Hp} : ∀ {xs : List V} {rs : List α} {i : Nat} {x : V}, Ps f H xs rs → xs[i]? = some x → ∃ r, rs[i]? = some r ∧ TpAt f H x r
  | _, _, i, x, .nil, h => by simp at h
  | _, _, 0, x, .cons a _, h => by
    have e := Option.some.inj h
    subst e
    exact ⟨_, rfl, a⟩
  | _, _, i + 1, x, .cons _ b, h => Ps.at (i := i) b h
theorem Ps.map {β : Type} {g : β → List V} {q : α → β} (e : ∀ r, g (q r) = f r) {H : Hp} : ∀ {xs : List V} {rs : List α}, Ps f H xs rs → Ps g H xs (rs.map q)
  | _, _, .nil => .nil
  | _, _, .cons ⟨t, h1, h2⟩ b => .cons ⟨t, h1, by rw [e]; exact h2⟩ (Ps.map e b)
end
theorem noTup_nil {H : Hp} : NoTup H [] := fun s hs => absurd hs (by simp)
theorem deck_noTup {H : Hp} {a c : Addr} (h : DeckAt H a c) : NoTup H [a, c] := by
  obtain ⟨q1, q2, q3, g1, g2, _⟩ := h
  intro s hs xs e
  rcases List.mem_cons.mp hs with w | hs
  · rw [w, g1] at e; cases e
  · rw [List.mem_singleton.mp hs, g2] at e; cases e
/-! orders -/
inductive Ord where
  | stay
  | go (g : Int)
  | back (f g : Int)
deriving DecidableEq
def oV : Ord → List V
  | .stay => [.str "stay"]
  | .go g => [.str "go", .int g]
  | .back f g => [.str "back", .int f, .int g]
def half (rs : List (Int × Int)) (own : Int) (reach : List Int) (f : Int) : List (Int × Int) := if f = own then [] else (reach.filter fun g => decide (g = f) || decide (g ∈ bes rs f)).map fun g => (f, g)
def backsOf (rs : List (Int × Int)) (own : Int) (reach fs : List Int) : List (Int × Int) := fs.flatMap (half rs own reach)
/-- the law's own orders of a piece in the field own -/
structure MenuOf (rs : List (Int × Int)) (ps : List (Int × Int)) (own : Int) (os : List Ord) : Prop where
  eq : ∃ (reach : List Int) (bs : List (Int × Int)), reach.Perm (bes rs own) ∧ reach.Pairwise (· ≤ ·) ∧ bs.Perm (backsOf rs own reach (ps.map (·.1))) ∧ bs.Pairwise (fun u v => SrtO.lexB v u = false) ∧ os = .stay :: (reach.map .go ++ bs.map fun q => .back q.1 q.2)
def bdD (n : Int) (rs : List (Int × Int)) (cs : List Int) (ps : List (Int × Int)) : PyData := .tuple [chD n rs cs, .tuple (ps.map pD)]
theorem board_inv {K : PySem.W.Frag} {H : Hp} {v : V} {n : Int} {rs : List (Int × Int)} {cs : List Int} {ps : List (Int × Int)} (h : Dp K H v (bdD n rs cs ps)) :
    ∃ a t u xs, v = .ref a ∧ SqT K H a [.ref t, .ref u] ∧ Dp K H (.ref t) (chD n rs cs) ∧ SqT K H u xs ∧ DpAll K H xs (ps.map pD) := by
  obtain ⟨a, xs, rfl, hs, ha⟩ := tup_inv h
  cases ha with
  | cons h1 h2 =>
    cases h2 with
    | cons h3 h4 =>
      cases h4
      obtain ⟨t, _, _, rfl, _⟩ := chart_inv h1
      obtain ⟨u, xs, rfl, hu, hx⟩ := tup_inv h3
      exact ⟨a, t, u, xs, rfl, hs, h1, hu, hx⟩
theorem inV_ints (g : Int) (ms : List Int) : inV (.int g) (ms.map V.int) = decide (g ∈ ms) := by
  induction ms with
  | nil => rfl
  | cons m ms ih =>
    unfold inV at ih ⊢
    rw [List.map_cons, List.any_cons, ih, eqv_int]
    by_cases h : g = m <;> simp [h]
theorem flat_ints (ms : List Int) : (ms.map V.int).all flatV = true := by
  induction ms with
  | nil => rfl
  | cons m ms ih => rw [List.map_cons, List.all_cons, ih]; rfl
theorem pairs_at {K : PySem.W.Frag} {H : Hp} {xs : List V} {ps : List (Int × Int)} {i : Nat} {x : V} (h : DpAll K H xs (ps.map pD)) (hx : xs[i]? = some x) : ∃ r t, ps[i]? = some r ∧ x = .ref t ∧ SqT K H t [.int r.1, .int r.2] := by
  obtain ⟨d, hd, hxd⟩ := all_get h hx
  rw [List.getElem?_map] at hd
  obtain ⟨r, hr, rfl⟩ := Option.map_eq_some_iff.mp hd
  obtain ⟨t, rfl, ht⟩ := pair_inv hxd
  exact ⟨r, t, hr, rfl, ht⟩
/-! triples by their ints -/
def bV (q : Int × Int) : List V := [.str "back", .int q.1, .int q.2]
def keyT (H : Hp) (x : V) : Int × Int := match x with
  | .ref t => match H t with
    | some (.tup [.str _, .int i, .int j]) => (i, j)
    | _ => (0, 0)
  | _ => (0, 0)
theorem keyT_at {H : Hp} {x : V} {r : Int × Int} (h : TpAt bV H x r) : keyT H x = r := by
  obtain ⟨t, rfl, e⟩ := h
  unfold keyT bV at *
  simp only [e]
theorem tri_keys {H : Hp} : ∀ {xs : List V} {rs : List (Int × Int)}, Ps bV H xs rs → xs.map (keyT H) = rs ∧ ∀ x ∈ xs, TpAt bV H x (keyT H x)
  | _, _, .nil => ⟨rfl, fun _ h => absurd h (by simp)⟩
  | _, _, .cons h t => by
    obtain ⟨e1, e2⟩ := tri_keys t
    refine ⟨by rw [List.map_cons, keyT_at h, e1], fun x hx => ?_⟩
    rcases List.mem_cons.mp hx with e | hx
    · rw [e, keyT_at h]
      exact h
    · exact e2 x hx
theorem tri_map {H : Hp} : ∀ {ys : List V}, (∀ x ∈ ys, TpAt bV H x (keyT H x)) → Ps bV H ys (ys.map (keyT H))
  | [], _ => .nil
  | y :: ys, h => .cons (h y List.mem_cons_self) (tri_map fun x hx => h x (List.mem_cons_of_mem _ hx))
theorem tri_sorted {H : Hp} {xs ys : List V} {rs : List (Int × Int)} (hp : Ps bV H xs rs) (h1 : SrtO.Srtd (ltP (keyT H)) ys) (h2 : SrtO.Stb (ltP (keyT H)) ys xs) :
    (ys.map (keyT H)).Perm rs ∧ (ys.map (keyT H)).Pairwise (fun u v => SrtO.lexB v u = false) ∧ Ps bV H ys (ys.map (keyT H)) := by
  obtain ⟨e1, e2⟩ := tri_keys hp
  refine ⟨?_, List.pairwise_map.mpr h1, tri_map fun x hx => e2 x (h2.perm.mem_iff.mp hx)⟩
  rw [← e1]
  exact h2.perm.map _
theorem map_snoc {α β : Type} (f : α → β) {l : List α} {i : Nat} {x : α} (h : l[i]? = some x) : (l.take (i + 1)).map f = (l.take i).map f ++ [f x] := by
  rw [take_snoc h, List.map_append]
  rfl
theorem upd_self {H : Hp} {p : Addr} {o u : HO} : upd (upd H p o) p u = upd H p u := upd_upd
/-- H' is H but for the place l, which was free, and new places -/
theorem Kp.fill {S : List Addr} {H H' : Hp} {l : Addr} {o : HO} (k : Kp S H H') (hl : H l = none) : Kp S H (upd H' l o) :=
  Kp.drop (l := l) (Kp.trans (k.mono fun _ h => List.mem_cons_of_mem _ h) (Kp.put List.mem_cons_self)) hl
theorem half_len (rs : List (Int × Int)) (own : Int) (reach : List Int) (f : Int) : (half rs own reach f).length ≤ reach.length := by
  unfold half
  split
  · simp
  · rw [List.length_map]
    exact List.length_filter_le _ _
theorem backsOf_len (rs : List (Int × Int)) (own : Int) (reach : List Int) : ∀ fs : List Int, (backsOf rs own reach fs).length ≤ fs.length * reach.length
  | [] => by simp [backsOf]
  | f :: fs => by
    have h1 := backsOf_len rs own reach fs
    have h2 := half_len rs own reach f
    unfold backsOf at h1 ⊢
    rw [List.flatMap_cons, List.length_append, List.length_cons, Nat.succ_mul]
    omega
theorem bes_len (rs : List (Int × Int)) (f : Int) : (bes rs f).length ≤ rs.length := by
  unfold bes
  rw [List.length_map]
  exact List.length_filter_le _ _
def spOrdersOf (K : PySem.W.Frag) : Sp := fun vs H Q _ => ∃ (v : V) (i : Nat) (n : Int) (rs : List (Int × Int)) (cs : List Int) (ps : List (Int × Int)) (pc : Int × Int), vs = [v, .int i] ∧ Dp K H v (bdD n rs cs ps) ∧ rs.length ≤ 200 ∧ ps.length ≤ 24 ∧ ps[i]? = some pc ∧
  ∀ (H' : Hp) (p : Addr) (xs : List V) (os : List Ord), MenuOf rs ps pc.1 os → H p = none → H' p = some (.lst xs) → Ps oV H' xs os → xs.length ≤ 10000 → Kp [] H H' → Q (.ref p) H'
section
variable {P : Program} {w : World} {K : PySem.W.Frag} {mg : Str → Option Value} {base : Heap}
abbrev nOrdersOf : List Str := ["board", "place", "chart", "pieces", "field", "own", "fields", "reach", "gos", "backs", "goal", "player"]
theorem scOrdersOf : FnScope nOrdersOf ["board", "place"] (defScope sOrdersOf) := ⟨rfl, rfl, rfl, by decide +kernel, rfl, by decide +kernel, by decide +kernel⟩
theorem ok_ordersOf {f fB : Addr} {fd fdB : FuncData} (F : Fun K "_law_orders_of" "_law_orders_of" sOrdersOf f fd) (FB : Fun K "_law_beside" "_law_beside" sBeside fB fdB) (bB : Binds K fdB ["chart", "field"] []) (gB : mg "_law_beside" = some (.ref fB))
    (mS : mg "sorted" = none) : FnOk P w K mg base CX0 2 f fd ["board", "place"] (spOrdersOf K) := by
  have GB : FnOk P w K mg base CX0 1 fB fdB ["chart", "field"] (spBeside K) := ok_beside FB mS
  refine F.ok scOrdersOf (fun vs H Q E h => ?_) (fun cdv A outer s H vs Q E hr h => ?_)
  · obtain ⟨v, i, n, rs, cs, ps, pc, rfl, _⟩ := h
    rfl
  · obtain ⟨v, i, n, rs, cs, ps, pc, rfl, hv, hrs, hps, hpc, k⟩ := h
    refine ⟨_, pss_cons (ps_asg (pv 0) (pg_tup rfl (pgs_cons (pg_name (i := 2) scOrdersOf.nd rfl (.inl rfl)) (pgs_cons (pg_name (i := 3) scOrdersOf.nd rfl (.inl rfl)) pgs_nil))))
      (pss_cons (ps_par (i := 5) (j := 6) rfl scOrdersOf.nd rfl rfl (by decide) rfl rfl (pa_cons (kt (kt (pv 3) (pv 1)) pe_int) (pa_cons
          (pe_lc (own := [("field", 4), ("player", 11)]) (g := gTup K 2 (gCons (gName 4) (gCons (gName 11) gNil))) rfl scOrdersOf.nd (pi_tup (pv 3)) (blkOk_by (own := [("field", 4), ("player", 11)]) (N := nOrdersOf) (sc := defScope sOrdersOf) (by decide +kernel))
            (fun _ _ _ _ _ => pg_tup rfl (pgs_cons (pg_name (i := 4) scOrdersOf.nd rfl (.inl rfl)) (pgs_cons (pg_name (i := 11) scOrdersOf.nd rfl (.inl rfl)) pgs_nil))) (fun _ _ _ _ _ => pts_nil) (fun _ _ _ _ _ => pv 4)) pa_nil)) (by rfl))
      (pss_cons (ps_set (i := 7) scOrdersOf.nd rfl (.inl rfl) (pe_call GB hr (by rfl) gB FB.kp bB .nil pass0 (pa_cons (pv 2) (pa_cons (pv 5) pa_nil))))
      (pss_cons (ps_par (i := 8) (j := 9) rfl scOrdersOf.nd rfl rfl (by decide) rfl rfl (pa_cons
          (pe_lc (own := [("field", 4)]) (g := gName 4) rfl scOrdersOf.nd (pi_list (pv 7)) (blkOk_by (own := [("field", 4)]) (N := nOrdersOf) (sc := defScope sOrdersOf) (by decide +kernel))
            (fun _ _ _ _ _ => pg_name (i := 4) scOrdersOf.nd rfl (.inl rfl)) (fun _ _ _ _ _ => pts_nil) (fun _ _ _ _ _ => pe_tup (pa_cons pe_str (pa_cons (pv 4) pa_nil)))) (pa_cons (pe_lst pa_nil) pa_nil)) (by rfl))
      (pss_cons (ps_for PassesOwn.never rfl (pi_list (pv 6)) (pg_name (i := 4) scOrdersOf.nd rfl (.inl rfl))
        (pss_one (ps_if (pt_cmpR op_ne (pv 4) (pv 5) (nomark _))
          (pss_one (ps_for PassesOwn.never rfl (pi_list (pv 7)) (pg_name (i := 10) scOrdersOf.nd rfl (.inl rfl))
            (pss_one (ps_if (PW.pt (pw_or (pt_cmpR op_eq (pv 10) (pv 4) (nomark _)) (pw_or1 (pt_cmpR op_in_seq (pv 10) (pe_call GB hr (by rfl) gB FB.kp bB .nil pass0 (pa_cons (pv 2) (pa_cons (pv 4) pa_nil))) (by rfl)))))
              (pss_one (ps_expr (pe_bm PySem.F.plainAttrs_list PySem.F.slot_list_append PySem.F.type_list_append mt_append (pv 9) (pa_cons (pe_tup (pa_cons pe_str (pa_cons (pv 4) (pa_cons (pv 10) pa_nil)))) pa_nil)))) pss_nil)))) pss_nil)))
      (pss_one (ps_ret (pe_op op_cat (pe_op op_cat (pe_lst (pa_cons (pe_tup (pa_cons pe_str pa_nil)) pa_nil)) (pv 8)) (pe_callB (cr_sortTri "back") (by rfl) mS PyProof.Rows.boot_sorted (pa_cons (pv 9) pa_nil))))))))), ?_⟩
    obtain ⟨ta, tc, tp, xs, rfl, hb, hch, hpt, hpx⟩ := board_inv hv
    -- chart, pieces = board
    refine ⟨_, rfl, ta, _, rfl, hb, rfl, .ref tc, _, rfl, .ref tp, _, rfl, rfl, ?_⟩
    -- own, fields
    obtain ⟨x, hx, hxd⟩ := all_at hpx (show (ps.map pD)[i]? = some (pD pc) by rw [List.getElem?_map, hpc]; rfl)
    obtain ⟨t, rfl, ht⟩ := pair_inv hxd
    have hlx : xs.length = ps.length := by rw [all_len hpx, List.length_map]
    refine ⟨.ref tp, rfl, .int i, rfl, tp, xs, i, _, rfl, rfl, hpt, atI_nat hx, t, _, 0, _, rfl, rfl, ht, at0, .ref tp, rfl, tp, rfl, ⟨_, hpt⟩, fun D hD => ?_⟩
    refine lc_tup (K := K) (a := tp) (xs := xs) (fun j H' => H' D = some (.lst (((ps.take j).map (·.1)).map V.int)) ∧ Kp [] H H') ⟨upd_same, Kp.new hD⟩ (fun j H' _ ⟨_, kk⟩ => sameT (kz_seq kk) hpt) ?_ ?_
    · rintro j x H' hx ⟨h1, kk⟩
      obtain ⟨r, q, hr', rfl, hq⟩ := pairs_at hpx hx
      refine ⟨q, _, rfl, sameT (kz_seq kk) hq, rfl, .int r.1, _, rfl, .int r.2, _, rfl, rfl, rfl, yesGo ?_⟩
      refine ⟨.int r.1, rfl, _, h1, small1000 ?_, ?_, kk.fill hD⟩
      · rw [List.length_map, List.length_map, List.length_take]
        omega
      · rw [upd_same, map_snoc _ hr', List.map_append]
        rfl
    rintro H1 ⟨hF1, k1⟩
    rw [hlx, List.take_length] at hF1
    refine ⟨_, _, rfl, ?_⟩
    -- reach
    refine ⟨.ref tc, rfl, .int pc.1, rfl, .ref tc, n, rs, cs, pc.1, rfl, Dp.same (kz_seq k1) _ hch, by omega, fun H2 R reach hr1 hr2 hR0 hR2 k2 => ?_⟩
    have hrl : reach.length ≤ 200 := by
      rw [hr1.length_eq]
      exact Nat.le_trans (bes_len _ _) hrs
    have hF2 := k2.get (by simp) hF1
    have k12 := k1.trans k2
    have hRH : H R = none := fresh_of k1 (by simp) hR0
    have nDR : D ≠ R := ne_of_none hF1 hR0
    -- gos, backs
    refine ⟨.ref R, rfl, R, rfl, ⟨_, SqL.of hR2⟩, fun G hG => ?_⟩
    have nRG : R ≠ G := ne_of_none hR2 hG
    have nDG : D ≠ G := ne_of_none hF2 hG
    have hGH : H G = none := fresh_of k12 (by simp) hG
    refine lc_list (K := K) (a := R) (xs := reach.map V.int) (fun j H' => ∃ ys, H' G = some (.lst ys) ∧ Ps (fun g => oV (.go g)) H' ys (reach.take j) ∧ H' R = some (.lst (reach.map V.int)) ∧ H' D = some (.lst ((ps.map (·.1)).map V.int)) ∧ Kp [] H H')
      ⟨[], upd_same, .nil, by rw [upd_ne nRG]; exact hR2, by rw [upd_ne nDG]; exact hF2, k12.trans (Kp.new hG)⟩ (fun j H' _ ⟨_, _, _, e, _⟩ => SqL.of e) ?_ ?_
    · rintro j x H' hx ⟨ys, e1, e2, e3, e4, kk⟩
      obtain ⟨z, hz, rfl⟩ := map_ints_get hx
      have hj : j < reach.length := (List.getElem?_eq_some_iff.mp hz).1
      refine ⟨rfl, yesGo ?_⟩
      refine ⟨.int z, rfl, by show 2 ≤ sizeLine; decide, fun T hT => ?_⟩
      have kT : Kp ([] : List Addr) H' (upd H' T (.tup [.str "go", .int z])) := Kp.new hT
      have f1 := kT.get (by simp) e1
      have f2 := e2.keep kT noTup_nil
      have f3 := kT.get (by simp) e3
      have f4 := kT.get (by simp) e4
      have fT : TpAt (fun g => oV (.go g)) (upd H' T (.tup [.str "go", .int z])) (.ref T) z := ⟨T, rfl, upd_same⟩
      have f5 := kk.trans kT
      generalize upd H' T (.tup [.str "go", .int z]) = H8 at f1 f2 f3 f4 fT f5
      have kG : Kp [G] H8 (upd H8 G (.lst (ys ++ [.ref T]))) := Kp.put (by simp)
      have nG : NoTup H8 [G] := fun s hs ys e => by rw [List.mem_singleton.mp hs, f1] at e; cases e
      refine ⟨ys, f1, small1000 ?_, ys ++ [.ref T], upd_same, ?_, by rw [upd_ne nRG]; exact f3, by rw [upd_ne nDG]; exact f4, f5.fill hGH⟩
      · rw [f2.len, List.length_take]
        omega
      · rw [take_snoc hz]
        exact Ps.snoc (fT.keep kG nG) (f2.keep kG nG)
    rintro H3 ⟨gs, hG3, hgs, hR3, hF3, k3⟩
    rw [List.length_map, List.take_length] at hgs
    refine ⟨Nat.zero_le _, fun B hB => ⟨_, _, rfl, ?_⟩⟩
    have hBH : H B = none := fresh_of k3 (by simp) hB
    have nGB : G ≠ B := ne_of_none hG3 hB
    have nRB : R ≠ B := ne_of_none hR3 hB
    have nDB : D ≠ B := ne_of_none hF3 hB
    -- the state of the loops
    let M : List (Int × Int) → Hp → Prop := fun qs H' => ∃ ys, H' B = some (.lst ys) ∧ Ps bV H' ys qs ∧ Ps (fun g => oV (.go g)) H' gs reach ∧ H' G = some (.lst gs) ∧ H' R = some (.lst (reach.map V.int)) ∧ H' D = some (.lst ((ps.map (·.1)).map V.int)) ∧ Kp [] H H'
    have M0 : M [] (upd H3 B (.lst [])) := by
      have kB : Kp ([] : List Addr) H3 (upd H3 B (.lst [])) := Kp.new hB
      exact ⟨[], upd_same, .nil, hgs.keep kB noTup_nil, kB.get (by simp) hG3, kB.get (by simp) hR3, kB.get (by simp) hF3, k3.trans kB⟩
    have Mk : ∀ {qs H' H''}, M qs H' → Kp [] H' H'' → M qs H'' := fun {qs H' H''} ⟨ys, e1, e2, e3, e4, e5, e6, e7⟩ kk =>
      ⟨ys, kk.get (by simp) e1, e2.keep kk noTup_nil, e3.keep kk noTup_nil, kk.get (by simp) e4, kk.get (by simp) e5, kk.get (by simp) e6, e7.trans kk⟩
    have Mp : ∀ {qs H' T f g}, M qs H' → H' T = some (.tup [.str "back", .int f, .int g]) → ∀ ys, H' B = some (.lst ys) → M (qs ++ [(f, g)]) (upd H' B (.lst (ys ++ [.ref T]))) := fun {qs H' T f g} ⟨ys, e1, e2, e3, e4, e5, e6, e7⟩ eT ys' ey => by
      obtain rfl : ys = ys' := HO.lst.inj (Option.some.inj (e1.symm.trans ey))
      have kB : Kp [B] H' (upd H' B (.lst (ys ++ [.ref T]))) := Kp.put (by simp)
      have nB : NoTup H' [B] := fun s hs ys e => by rw [List.mem_singleton.mp hs, e1] at e; cases e
      exact ⟨_, upd_same, Ps.snoc (TpAt.keep (show TpAt bV H' (.ref T) (f, g) from ⟨T, rfl, eT⟩) kB nB) (e2.keep kB nB), e3.keep kB nB, by rw [upd_ne nGB]; exact e4, by rw [upd_ne nRB]; exact e5, by rw [upd_ne nDB]; exact e6, e7.fill hBH⟩
    have Ml : ∀ {qs H'}, M qs H' → ∀ ys, H' B = some (.lst ys) → ys.length = qs.length := fun {qs H'} ⟨ys, e1, e2, _⟩ ys' ey => by
      rw [e1] at ey
      cases ey
      exact e2.len
    refine ⟨_, rfl, D, rfl, ⟨_, SqL.of (by rw [upd_ne nDB]; exact hF3)⟩, for_list (K := K) (a := D) (xs := (ps.map (·.1)).map V.int)
      (fun j σ H' => ∃ v4 v10, σ = [some (.ref ta), some (.int i), some (.ref tc), some (.ref tp), v4, some (.int pc.1), some (.ref D), some (.ref R), some (.ref G), some (.ref B), v10, none] ∧ M (backsOf rs pc.1 reach ((ps.map (·.1)).take j)) H')
      ⟨_, _, rfl, M0⟩ (fun j σ H' _ ⟨_, _, _, _, _, _, _, _, _, e, _⟩ => SqL.of e) ?_ ?_⟩
    · rintro j x σ H' hx ⟨v4, v10, rfl, hM⟩
      obtain ⟨f, hf, rfl⟩ := map_ints_get hx
      have hj : j < (ps.map (·.1)).length := (List.getElem?_eq_some_iff.mp hf).1
      have hstep : backsOf rs pc.1 reach ((ps.map (·.1)).take (j + 1)) = backsOf rs pc.1 reach ((ps.map (·.1)).take j) ++ half rs pc.1 reach f := by
        rw [take_snoc hf]
        unfold backsOf
        rw [List.flatMap_append]
        simp
      have hbl : (backsOf rs pc.1 reach ((ps.map (·.1)).take j)).length ≤ 4800 := by
        refine Nat.le_trans (backsOf_len _ _ _ _) ?_
        rw [List.length_take]
        refine Nat.le_trans (Nat.mul_le_mul (show min j (ps.map (·.1)).length ≤ 24 by rw [List.length_map] at hj ⊢; omega) hrl) (by decide)
      refine ⟨.int f, rfl, .int pc.1, rfl, rfl, _, rfl, ?_⟩
      refine ite2 (fun hne => ?_) (fun heq => ?_)
      · have hne : ¬ f = pc.1 := fun e => by simp [e] at hne
        have hR' : H' R = some (.lst (reach.map V.int)) := by obtain ⟨_, _, _, _, _, e, _⟩ := hM; exact e
        refine ⟨.ref R, rfl, R, rfl, ⟨_, SqL.of hR'⟩, for_list (K := K) (a := R) (xs := reach.map V.int)
          (fun l σ H' => ∃ v10, σ = [some (.ref ta), some (.int i), some (.ref tc), some (.ref tp), some (.int f), some (.int pc.1), some (.ref D), some (.ref R), some (.ref G), some (.ref B), v10, none] ∧
            M (backsOf rs pc.1 reach ((ps.map (·.1)).take j) ++ ((reach.take l).filter fun g => decide (g = f) || decide (g ∈ bes rs f)).map fun g => (f, g)) H')
          ⟨_, rfl, by simpa using hM⟩ (fun l σ H' _ ⟨_, _, _, _, _, _, _, e, _⟩ => SqL.of e) ?_ ?_⟩
        · rintro l x σ H' hx ⟨v10, rfl, hM⟩
          obtain ⟨g, hg, rfl⟩ := map_ints_get hx
          have hl : l < reach.length := (List.getElem?_eq_some_iff.mp hg).1
          have hql : (backsOf rs pc.1 reach ((ps.map (·.1)).take j) ++ ((reach.take l).filter fun g => decide (g = f) || decide (g ∈ bes rs f)).map fun g => (f, g)).length < 100000 := by
            rw [List.length_append, List.length_map]
            have := List.length_filter_le (fun g => decide (g = f) || decide (g ∈ bes rs f)) (reach.take l)
            rw [List.length_take] at this
            omega
          have app : ∀ H'', M (backsOf rs pc.1 reach ((ps.map (·.1)).take j) ++ ((reach.take l).filter fun g => decide (g = f) || decide (g ∈ bes rs f)).map fun g => (f, g)) H'' → (decide (g = f) || decide (g ∈ bes rs f)) = true →
              ∃ ys, H'' B = some (.lst ys) ∧ ∀ T, H'' T = none → ∃ (_ : ys.length < sizeLine), (upd H'' T (.tup [.str "back", .int f, .int g])) B = some (.lst ys) ∧
                M (backsOf rs pc.1 reach ((ps.map (·.1)).take j) ++ ((reach.take (l + 1)).filter fun g => decide (g = f) || decide (g ∈ bes rs f)).map fun g => (f, g)) (upd (upd H'' T (.tup [.str "back", .int f, .int g])) B (.lst (ys ++ [.ref T]))) := fun H'' hM2 hyes => by
            obtain ⟨ys, ey, _⟩ := id hM2
            refine ⟨ys, ey, fun T hT => ⟨Nat.lt_of_lt_of_le (by rw [Ml hM2 ys ey]; exact hql) (show 100000 ≤ sizeLine by decide), by rw [upd_ne (ne_of_none ey hT)]; exact ey, ?_⟩⟩
            have q := Mp (T := T) (f := f) (g := g) (Mk hM2 (Kp.new hT)) upd_same ys (by rw [upd_ne (ne_of_none ey hT)]; exact ey)
            rw [take_snoc hg, List.filter_append, List.map_append, ← List.append_assoc]
            rw [show ([g].filter fun g => decide (g = f) || decide (g ∈ bes rs f)) = [g] by rw [List.filter_cons, if_pos hyes]; rfl]
            exact q
          have skip : ∀ H'', M (backsOf rs pc.1 reach ((ps.map (·.1)).take j) ++ ((reach.take l).filter fun g => decide (g = f) || decide (g ∈ bes rs f)).map fun g => (f, g)) H'' → (decide (g = f) || decide (g ∈ bes rs f)) = false →
              M (backsOf rs pc.1 reach ((ps.map (·.1)).take j) ++ ((reach.take (l + 1)).filter fun g => decide (g = f) || decide (g ∈ bes rs f)).map fun g => (f, g)) H'' := fun H'' hM2 hno => by
            rw [take_snoc hg, List.filter_append, List.map_append, ← List.append_assoc]
            rw [show ([g].filter fun g => decide (g = f) || decide (g ∈ bes rs f)) = [] by rw [List.filter_cons, if_neg (by rw [hno]; decide)]; rfl]
            simpa using hM2
          refine ⟨.int g, rfl, .int f, rfl, rfl, _, rfl, ?_⟩
          refine ite2 (fun he => ?_) (fun he => ?_)
          · obtain ⟨ys, ey, z⟩ := app H' hM (by
              have : g = f := by simpa using he
              simp [this])
            refine iteT ⟨.ref B, rfl, .inl ⟨rfl, _, SqL.of ey⟩, .int f, rfl, .int g, rfl, by show 3 ≤ sizeLine; decide, fun T hT => ?_⟩
            obtain ⟨z1, z2, z3⟩ := z T hT
            exact ⟨B, ys, _, rfl, rfl, z2, z1, _, rfl, z3⟩
          · have hne2 : ¬ g = f := fun e => he (by simp [e])
            refine ⟨.int g, rfl, .ref tc, rfl, .int f, rfl, .ref tc, n, rs, cs, f, rfl, Dp.same (kz_seq (by obtain ⟨_, _, _, _, _, _, _, e⟩ := hM; exact e)) _ hch, by omega, fun H4 p4 ms hm1 hm2 hp4 hP4 k4 => ?_⟩
            refine ⟨p4, _, rfl, .inl (SqL.of hP4), rfl, flat_ints ms, _, rfl, ?_⟩
            have hM4 := Mk hM k4
            rw [inV_ints]
            refine ite2 (fun hin => ?_) (fun hin => ?_)
            · have hin : g ∈ ms := of_decide_eq_true hin
              obtain ⟨ys, ey, z⟩ := app H4 hM4 (by simp [hm1.mem_iff.mp hin])
              refine ⟨.ref B, rfl, .inl ⟨rfl, _, SqL.of ey⟩, .int f, rfl, .int g, rfl, by show 3 ≤ sizeLine; decide, fun T hT => ?_⟩
              obtain ⟨z1, z2, z3⟩ := z T hT
              exact ⟨B, ys, _, rfl, rfl, z2, z1, _, rfl, z3⟩
            · have hin : g ∉ ms := fun e => hin (decide_eq_true e)
              refine ⟨_, rfl, skip H4 hM4 ?_⟩
              have : g ∉ bes rs f := fun e => hin (hm1.mem_iff.mpr e)
              simp [hne2, this]
        · rintro σ H' ⟨v10, rfl, hM⟩
          rw [List.length_map, List.take_length] at hM
          refine ⟨_, _, rfl, ?_⟩
          rw [hstep]
          unfold half
          rw [if_neg hne]
          exact hM
      · have heq : f = pc.1 := by
          by_cases e : f = pc.1
          · exact e
          · exact absurd (by simp [e]) heq
        refine ⟨_, _, rfl, ?_⟩
        rw [hstep]
        unfold half
        rw [if_pos heq, List.append_nil]
        exact hM
    · rintro σ H4 ⟨v4, v10, rfl, hM⟩
      rw [List.length_map, List.take_length] at hM
      obtain ⟨ys, e1, e2, e3, e4, e5, e6, e7⟩ := hM
      have hyl : ys.length ≤ 4800 := by
        rw [e2.len]
        refine Nat.le_trans (backsOf_len _ _ _ _) ?_
        rw [List.length_map]
        exact Nat.le_trans (Nat.mul_le_mul hps hrl) (by decide)
      have hgl : gs.length ≤ 200 := by rw [e3.len]; exact hrl
      refine ⟨by show 1 ≤ sizeLine; decide, fun T hT => ⟨by show 1 ≤ sizeLine; decide, fun L hL => ?_⟩⟩
      have kT : Kp ([] : List Addr) H4 (upd (upd H4 T (.tup [.str "stay"])) L (.lst [.ref T])) := (Kp.new hT).trans (Kp.new hL)
      have fT : TpAt oV (upd (upd H4 T (.tup [.str "stay"])) L (.lst [.ref T])) (.ref T) .stay := ⟨T, rfl, Kp.get (S := []) (Kp.new hL) (by simp) upd_same⟩
      have fL : (upd (upd H4 T (.tup [.str "stay"])) L (.lst [.ref T])) L = some (.lst [.ref T]) := upd_same
      have f1 := kT.get (by simp) e1
      have f2 := e2.keep kT noTup_nil
      have f3 := e3.keep kT noTup_nil
      have f4 := kT.get (by simp) e4
      have f7 := e7.trans kT
      generalize upd (upd H4 T (.tup [.str "stay"])) L (.lst [.ref T]) = H5 at fT fL f1 f2 f3 f4 f7
      refine ⟨.ref G, rfl, L, G, _, _, rfl, rfl, fL, f4, Nat.le_trans (show 1 + gs.length ≤ 1000 by omega) (by decide), fun N hN => ?_⟩
      have kN : Kp ([] : List Addr) H5 (upd H5 N (.lst ([.ref T] ++ gs))) := Kp.new hN
      have g1 := kN.get (by simp) f1
      have g2 := f2.keep kN noTup_nil
      have gN : (upd H5 N (.lst ([.ref T] ++ gs))) N = some (.lst ([.ref T] ++ gs)) := upd_same
      have gP : Ps oV (upd H5 N (.lst ([.ref T] ++ gs))) ([.ref T] ++ gs) (.stay :: reach.map .go) := .cons (fT.keep kN noTup_nil) (Ps.map (q := Ord.go) (fun _ => rfl) (f3.keep kN noTup_nil))
      have g7 := f7.trans kN
      generalize upd H5 N (.lst ([.ref T] ++ gs)) = H6 at g1 g2 gN gP g7
      refine ⟨.ref B, rfl, B, ys, keyT H6, rfl, SqL.of g1, (tri_keys g2).2, fun zs S s1 s2 hS => ?_⟩
      obtain ⟨p1, p2, p3⟩ := tri_sorted g2 s1 s2
      have hzl : zs.length ≤ 4800 := by rw [s2.perm.length_eq]; exact hyl
      generalize zs.map (keyT H6) = bs at p1 p2 p3
      have kS : Kp ([] : List Addr) H6 (upd H6 S (.lst zs)) := Kp.new hS
      have i1 := kS.get (by simp) gN
      have iP := gP.keep kS noTup_nil
      have iZ := p3.keep kS noTup_nil
      have iS : (upd H6 S (.lst zs)) S = some (.lst zs) := upd_same
      have i7 := g7.trans kS
      generalize upd H6 S (.lst zs) = H7 at i1 iP iZ iS i7
      refine ⟨N, S, _, _, rfl, rfl, i1, iS, Nat.le_trans (show (([V.ref T] ++ gs : List V)).length + zs.length ≤ 100000 by rw [List.length_append, List.length_singleton]; omega) (by decide), fun p hp => ?_⟩
      have kp : Kp ([] : List Addr) H7 (upd H7 p (.lst ([.ref T] ++ gs ++ zs))) := Kp.new hp
      refine k _ p _ (.stay :: (reach.map .go ++ bs.map fun q => .back q.1 q.2)) ⟨⟨reach, bs, hr1, hr2, p1, p2, rfl⟩⟩ (fresh_of i7 (by simp) hp) upd_same ?_ ?_ (i7.trans kp)
      · rw [← List.cons_append]
        exact Ps.app (iP.keep kp noTup_nil) (Ps.map (q := fun q : Int × Int => Ord.back q.1 q.2) (fun _ => rfl) (iZ.keep kp noTup_nil))
      · rw [List.length_append, List.length_append, List.length_singleton]
        omega
end
end Kt

set_option Elab.async false
set_option linter.all false
set_option maxRecDepth 100000
set_option maxHeartbeats 4000000
namespace Kt
open PySem PySem.Spec PyProof.Rows L2
theorem Kp.up {S : List Addr} {H H' : Hp} (k : Kp S H H') : Same (Ob S H) H' := fun b o e => k b o (Ob.of e).1 (Ob.of e).2
theorem Kp.all {S : List Addr} {H H' : Hp} (k : Kp [] H H') : Kp S H H' := k.mono (fun b h => absurd h (by simp))
theorem filter_snoc {α : Type} {t : α → Bool} {l : List α} {i : Nat} {x : α} (h : l[i]? = some x) : (l.take (i + 1)).filter t = (l.take i).filter t ++ (if t x = true then [x] else []) := by
  rw [take_snoc h, List.filter_append]
  congr 1
  by_cases e : t x = true <;> simp [List.filter_cons, e]
/-- [x for x in ints if t(x)] -/
theorem lc_ints {K : PySem.W.Frag} {L D : Addr} {ms : List Int} (t : Int → Bool) {i : Nat} {tt : TT} {vs : List Nat} {σ : Sl} {H1 : Hp} {Qd : Hp → Prop} (hL : H1 L = some (.lst (ms.map V.int))) (hD : H1 D = none) (hlen : ms.length ≤ 1000)
    (hi : ∀ x, ((wipe σ vs).set i x)[i]? = some x) (hw : ∀ x, wipe ((wipe σ vs).set i x) vs = wipe σ vs)
    (ht : ∀ z ∈ ms, ∀ (H' : Hp), Kp [] H1 H' → ∀ (Q : Bool → Hp → Prop), (∀ H'', Kp [] H' H'' → Q (t z) H'') → tt ((wipe σ vs).set i (some (.int z))) H' Q)
    (hd : ∀ H', H' D = some (.lst ((ms.filter t).map V.int)) → Kp [] H1 H' → Qd H') :
    ∃ W : Nat → Nat → Hp → Prop, (∃ m, W 0 m (upd H1 D (.lst []))) ∧ ∀ i' m H, W i' m H →
      ((Itl K L).stop i' H ∧ Qd H) ∨ ((Itl K L).go i' H ∧ ∃ Nx : Hp → Prop, (∀ H', Nx H' → ∃ m', m' < m ∧ W (i' + 1) m' H') ∧ ∀ x H', (Itl K L).yld i' H x H' → gName i x (wipe σ vs) H' fun σ2 H2 => wipe σ2 vs = wipe σ vs ∧ tt σ2 H2 fun b H3 =>
        if b = true then tVar i σ2 H3 fun y H4 => ∃ acc, H4 D = some (.lst acc) ∧ acc.length < sizeLine ∧ Nx (upd H4 D (.lst (acc ++ [y]))) else Nx H3) := by
  refine lc_list (K := K) (a := L) (xs := ms.map V.int) (fun j H' => H' D = some (.lst (((ms.take j).filter t).map V.int)) ∧ Kp [] H1 H') ⟨upd_same, Kp.new hD⟩ (fun j H' _ ⟨_, k⟩ => SqL.of (k.get (by simp) hL)) ?_ ?_
  · rintro j x H' hx ⟨h1, k⟩
    obtain ⟨z, hz, rfl⟩ := map_ints_get hx
    have hj : j < ms.length := (List.getElem?_eq_some_iff.mp hz).1
    refine ⟨hw _, ht z (List.mem_of_getElem? hz) H' k _ fun H'' k2 => ?_⟩
    have h2 := k2.get (by simp) h1
    have k3 := k.trans k2
    rw [filter_snoc hz]
    by_cases e : t z = true
    · rw [if_pos e]
      refine ⟨.int z, hi _, _, h2, small1000 ?_, ?_, k3.fill hD⟩
      · rw [List.length_map]
        have := List.length_filter_le t (ms.take j)
        rw [List.length_take] at this
        omega
      · rw [upd_same, if_pos e, List.map_append]
        rfl
    · rw [if_neg e]
      refine ⟨?_, k3⟩
      rw [if_neg e, List.append_nil]
      exact h2
  · rintro H' ⟨h1, k⟩
    rw [List.length_map, List.take_length] at h1
    exact hd H' h1 k
theorem sh_pair {K : PySem.W.Frag} {H : Hp} {x : V} {r : Int × Int} (h : PrAt H x r) : Sh K H x := by
  obtain ⟨t, rfl, e⟩ := h
  exact ⟨pD r, .tup (SqT.of e) (.cons (.int _) (.cons (.int _) .nil)), by simp [pD, PyData.canLay0, PyData.canLayAll0], by simp [pD, PyData.depth, PyData.depthAll]⟩
theorem Prs.mem {H : Hp} : ∀ {xs : List V} {rs : List (Int × Int)} {x : V}, Prs H xs rs → x ∈ xs → ∃ r ∈ rs, PrAt H x r
  | _, _, _, .nil, h => absurd h (by simp)
  | _, _, _, .cons a b, h => by
    rcases List.mem_cons.mp h with e | h
    · rw [e]
      exact ⟨_, List.mem_cons_self, a⟩
    · obtain ⟨r, hr, q⟩ := Prs.mem b h
      exact ⟨r, List.mem_cons_of_mem _ hr, q⟩
theorem Prs.app {H : Hp} : ∀ {xs ys : List V} {rs qs : List (Int × Int)}, Prs H xs rs → Prs H ys qs → Prs H (xs ++ ys) (rs ++ qs)
  | _, _, _, _, .nil, h => h
  | _, _, _, _, .cons a b, h => .cons a (Prs.app b h)
end Kt

set_option Elab.async false
set_option linter.all false
set_option maxRecDepth 100000
set_option maxHeartbeats 4000000
namespace Kt
open PySem PySem.Spec PyProof.Rows L2
/-- pairs of a field of fs and one beside it, as a dict -/
def GosOk (rs : List (Int × Int)) (fs : List Int) (kvs : List (Key × V)) : Prop := ∀ kv ∈ kvs, ∃ f g : Int, kv = (.inl f, .int g) ∧ f ∈ fs ∧ g ∈ bes rs f
theorem GosOk.put {rs : List (Int × Int)} {fs : List Int} {kvs : List (Key × V)} {f g : Int} (h : GosOk rs fs kvs) (hf : f ∈ fs) (hg : g ∈ bes rs f) : GosOk rs fs (putK kvs (.inl f) (.int g)) := fun kv hkv => by
  unfold putK at hkv
  split at hkv
  · obtain ⟨q, hq, e⟩ := List.mem_map.mp hkv
    split at e
    · rename_i z
      exact ⟨f, g, by rw [← e, z], hf, hg⟩
    · rw [← e]
      exact h q hq
  · rcases List.mem_append.mp hkv with w | w
    · exact h kv w
    · rw [List.mem_singleton.mp w]
      exact ⟨f, g, rfl, hf, hg⟩
theorem putK_len {kvs : List (Key × V)} {k : Key} {v : V} : (putK kvs k v).length ≤ kvs.length + 1 := by
  unfold putK
  split
  · rw [List.length_map]
    omega
  · rw [List.length_append]
    simp
theorem bes_mem {rs : List (Int × Int)} {f g : Int} : g ∈ bes rs f ↔ ∃ r ∈ rs, (f = r.1 ∧ g = r.2) ∨ (f = r.2 ∧ g = r.1) := by
  unfold bes
  rw [List.mem_map]
  constructor
  · rintro ⟨r, hr, rfl⟩
    obtain ⟨h1, h2⟩ := List.mem_filter.mp hr
    simp only [Bool.or_eq_true, decide_eq_true_eq] at h2
    refine ⟨r, h1, ?_⟩
    rcases h2 with h2 | h2
    · exact .inl ⟨h2, by omega⟩
    · exact .inr ⟨h2, by omega⟩
  · rintro ⟨r, hr, h⟩
    refine ⟨r, List.mem_filter.mpr ⟨hr, ?_⟩, by omega⟩
    simp only [Bool.or_eq_true, decide_eq_true_eq]
    omega
theorem bes_symm {rs : List (Int × Int)} {f g : Int} (h : g ∈ bes rs f) : f ∈ bes rs g := by
  obtain ⟨r, hr, h⟩ := bes_mem.mp h
  refine bes_mem.mpr ⟨r, hr, ?_⟩
  omega
def spGos (K : PySem.W.Frag) : Sp := fun vs H Q _ => ∃ (a c : Addr) (v : V) (n : Int) (rs : List (Int × Int)) (cs : List Int) (ps : List (Int × Int)), vs = [.ref a, v] ∧ DeckAt H a c ∧ Da K [a, c] H v (bdD n rs cs ps) ∧ rs.length ≤ 200 ∧ ps.length ≤ 24 ∧
  ∀ (H' : Hp) (g : Addr) (kvs : List (Key × V)), H g = none → H' g = some (.dK kvs) → GosOk rs (ps.map (·.1)) kvs → kvs.length ≤ 100 → DeckAt H' a c → Kp [a, c] H H' → Q (.ref g) H'
section
variable {P : Program} {w : World} {K : PySem.W.Frag} {mg : Str → Option Value} {base : Heap}
abbrev nGos : List Str := ["deck", "board", "chart", "pieces", "field", "player", "fields", "gos", "fights", "reach", "goal", "one", "taken", "a", "b", "c", "foe"]
theorem scGos : FnScope nGos ["deck", "board"] (defScope sGos) := ⟨rfl, rfl, rfl, by decide +kernel, rfl, by decide +kernel, by decide +kernel⟩
theorem ok_gos {f fD fB fP : Addr} {fd fdD fdB fdP : FuncData} (F : Fun K "_law_gos" "_law_gos" sGos f fd) (FD : Fun K "_law_draw" "_law_draw" sDraw fD fdD) (bD : Binds K fdD ["deck", "many"] []) (gD : mg "_law_draw" = some (.ref fD))
    (FB : Fun K "_law_beside" "_law_beside" sBeside fB fdB) (bB : Binds K fdB ["chart", "field"] []) (gB : mg "_law_beside" = some (.ref fB)) (FP : Fun K "_law_pick" "_law_pick" sPick fP fdP) (bP : Binds K fdP ["deck", "items"] []) (gP : mg "_law_pick" = some (.ref fP))
    (mI : mg "int" = none) (mL : mg "len" = none) (mS : mg "sorted" = none) : FnOk P w K mg base CX0 3 f fd ["deck", "board"] (spGos K) := by
  have GD : FnOk P w K mg base CX0 1 fD fdD ["deck", "many"] spDraw := ok_draw FD mI
  have GB : FnOk P w K mg base CX0 1 fB fdB ["chart", "field"] (spBeside K) := ok_beside FB mS
  have GP : FnOk P w K mg base CX0 2 fP fdP ["deck", "items"] (spPick K) := ok_pick FP FD bD gD mI mL
  refine F.ok scGos (fun vs H Q E h => ?_) (fun cdv A outer s H vs Q E hr h => ?_)
  · obtain ⟨a, c, v, n, rs, cs, ps, rfl, _⟩ := h
    rfl
  · obtain ⟨a, c, v, n, rs, cs, ps, rfl, hD, hv, hrs, hps, k⟩ := h
    have hr1 := hr.mono (show 1 ≤ 2 by decide)
    refine ⟨_, pss_cons (ps_asg (pv 1) (pg_tup rfl (pgs_cons (pg_name (i := 2) scGos.nd rfl (.inr rfl)) (pgs_cons (pg_name (i := 3) scGos.nd rfl (.inl rfl)) pgs_nil))))
      (pss_cons (ps_asg (pe_tup (pa_cons (pe_lc (own := [("field", 4), ("player", 5)]) (g := gTup K 2 (gCons (gName 4) (gCons (gName 5) gNil))) rfl scGos.nd (pi_tup (pv 3)) (blkOk_by (own := [("field", 4), ("player", 5)]) (N := nGos) (sc := defScope sGos) (by decide +kernel))
            (fun _ _ _ _ _ => pg_tup rfl (pgs_cons (pg_name (i := 4) scGos.nd rfl (.inl rfl)) (pgs_cons (pg_name (i := 5) scGos.nd rfl (.inl rfl)) pgs_nil))) (fun _ _ _ _ _ => pts_nil) (fun _ _ _ _ _ => pv 4))
          (pa_cons pe_dnewK (pa_cons (pe_lst pa_nil) pa_nil)))) (pg_tup rfl (pgs_cons (pg_name (i := 6) scGos.nd rfl (.inr rfl)) (pgs_cons (pg_name (i := 7) scGos.nd rfl (.inl rfl)) (pgs_cons (pg_name (i := 8) scGos.nd rfl (.inl rfl)) pgs_nil)))))
      (pss_cons (ps_for PassesOwn.never rfl (pi_tup (pv 3)) (pg_tup rfl (pgs_cons (pg_name (i := 4) scGos.nd rfl (.inr rfl)) (pgs_cons (pg_name (i := 5) scGos.nd rfl (.inr rfl)) pgs_nil)))
        (pss_cons (ps_set (i := 9) scGos.nd rfl (.inr rfl) (pe_call GB hr1 (by rfl) gB FB.kp bB .nil pass0 (pa_cons (pv 2) (pa_cons (pv 4) pa_nil))))
        (pss_one (ps_set (i := 8) scGos.nd rfl (.inl rfl) (pe_op op_cat (pv 8)
          (pe_lc (own := [("goal", 10), ("foe", 16)]) (g := gTup K 2 (gCons (gName 10) (gCons (gName 16) gNil))) rfl scGos.nd (pi_tup (pv 3)) (blkOk_by (own := [("goal", 10), ("foe", 16)]) (N := nGos) (sc := defScope sGos) (by decide +kernel))
            (fun _ _ _ _ _ => pg_tup rfl (pgs_cons (pg_name (i := 10) scGos.nd rfl (.inl rfl)) (pgs_cons (pg_name (i := 16) scGos.nd rfl (.inl rfl)) pgs_nil)))
            (fun _ _ _ _ _ => pts_one (PW.pt (pw_and (pt_cmpR op_ne (pv 16) (pv 5) (nomark _)) (pw_and1 (pt_cmpR (op_inK K) (pv 10) (pv 9) (by rfl))))))
            (fun _ _ _ _ _ => pe_tup (pa_cons (pv 4) (pa_cons (pv 10) pa_nil)))))))))
      (Evl.pss_cut (ps_if (PW.pt (pw_and (pt_cmpR (op_neD hr.units) (pv 8) (pe_lst pa_nil) (nomark _)) (pw_and1 (pt_cmpR op_eq (pe_call GD hr1 (by rfl) gD FD.kp bD .nil pass0 (pa_cons (pv 0) (pa_cons pe_int pa_nil))) pe_int (nomark _)))))
        (pss_cons (ps_asg (pe_call GP hr (by rfl) gP FP.kp bP .nil pass0 (pa_cons (pv 0) (pa_cons (pv 8) pa_nil))) (pg_tup rfl (pgs_cons (pg_name (i := 11) scGos.nd rfl (.inl rfl)) (pgs_cons (pg_name (i := 10) scGos.nd rfl (.inl rfl)) pgs_nil))))
        (pss_one (ps_ret (pe_disp (pps_cons (pv 11) (pv 10) pps_nil) (by rfl) (by rfl) (fun z => by cases z) (by decide))))) pss_nil)
      (pss_cons (ps_for PassesOwn.never rfl (pi_list (pv 6)) (pg_name (i := 4) scGos.nd rfl (.inr rfl))
        (pss_cons (ps_set (i := 9) scGos.nd rfl (.inr rfl) (pe_call GB hr1 (by rfl) gB FB.kp bB .nil pass0 (pa_cons (pv 2) (pa_cons (pv 4) pa_nil))))
        (pss_one (ps_if (PW.pt (pw_and (pt_cmpR (op_neD hr.units) (pv 9) (pe_lst pa_nil) (nomark _)) (pw_and1 (pt_cmpR op_lt (pe_call GD hr1 (by rfl) gD FD.kp bD .nil pass0 (pa_cons (pv 0) (pa_cons pe_int pa_nil))) pe_int (nomark _)))))
          (pss_cons (ps_setLc (i := 12) (own := [("goal", 10)]) (g := gName 10) rfl scGos.nd rfl rfl (sw_true rfl rfl rfl (by decide +kernel)) (pi_list (pv 9)) (blkOk_by (own := [("goal", 10)]) (N := nGos) (sc := defScope sGos) (by decide +kernel))
              (fun _ _ _ _ _ => pg_name (i := 10) scGos.nd rfl (.inl rfl)) (fun _ _ _ _ _ => pts_one (pt_cmpR (op_inK K) (pv 10) (pv 6) (by rfl))) (fun _ _ _ _ _ => pv 10))
          (pss_one (ps_asg (pe_call GP hr (by rfl) gP FP.kp bP .nil pass0 (pa_cons (pv 0) (pa_cons (pe_ifExp (PW.pt (pw_and (pt_cmpR (op_neD hr.units) (pv 12) (pe_lst pa_nil) (nomark _)) (pw_and1 (pt_cmpR op_gt (pe_call GD hr1 (by rfl) gD FD.kp bD .nil pass0 (pa_cons (pv 0) (pa_cons pe_int pa_nil))) pe_int (nomark _))))) (pv 12) (pv 9)) pa_nil)))
            (pg_sub (pv 7) (pv 4) (set_dict (hu_of hr)))))) pss_nil))))
      (pss_cons (ps_if (pt_cmpR op_eq (pe_call GD hr1 (by rfl) gD FD.kp bD .nil pass0 (pa_cons (pv 0) (pa_cons pe_int pa_nil))) pe_int (nomark _))
        (pss_one (ps_for PassesOwn.never rfl (pi_list (pv 6)) (pg_name (i := 13) scGos.nd rfl (.inr rfl))
          (pss_one (ps_for PassesOwn.never rfl (pi_list (pe_lc (own := [("field", 4)]) (g := gName 4) rfl scGos.nd (pi_list (pe_call GB hr1 (by rfl) gB FB.kp bB .nil pass0 (pa_cons (pv 2) (pa_cons (pv 13) pa_nil)))) (blkOk_by (own := [("field", 4)]) (N := nGos) (sc := defScope sGos) (by decide +kernel))
                (fun _ _ _ _ _ => pg_name (i := 4) scGos.nd rfl (.inl rfl)) (fun _ _ _ _ _ => pts_one (pt_cmpR (op_inK K) (pv 4) (pv 6) (by rfl))) (fun _ _ _ _ _ => pv 4))) (pg_name (i := 14) scGos.nd rfl (.inl rfl))
            (pss_one (ps_for PassesOwn.never rfl (pi_list (pe_lc (own := [("field", 4)]) (g := gName 4) rfl scGos.nd (pi_list (pe_call GB hr1 (by rfl) gB FB.kp bB .nil pass0 (pa_cons (pv 2) (pa_cons (pv 14) pa_nil)))) (blkOk_by (own := [("field", 4)]) (N := nGos) (sc := defScope sGos) (by decide +kernel))
                  (fun _ _ _ _ _ => pg_name (i := 4) scGos.nd rfl (.inl rfl)) (fun _ _ _ _ _ => pts_one (pt_cmpR (op_inK K) (pv 4) (pe_call GB hr1 (by rfl) gB FB.kp bB .nil pass0 (pa_cons (pv 2) (pa_cons (pv 13) pa_nil))) (by rfl))) (fun _ _ _ _ _ => pv 4))) (pg_name (i := 15) scGos.nd rfl (.inl rfl))
              (pss_one (ps_if (pt_cmpR op_in_seq (pv 15) (pv 6) (by rfl))
                (pss_cons (ps_asg (pe_tup (pa_cons (pv 14) (pa_cons (pv 15) (pa_cons (pv 13) pa_nil)))) (pg_tup rfl (pgs_cons (pg_sub (pv 7) (pv 13) (set_dict (hu_of hr))) (pgs_cons (pg_sub (pv 7) (pv 14) (set_dict (hu_of hr))) (pgs_cons (pg_sub (pv 7) (pv 15) (set_dict (hu_of hr))) pgs_nil)))))
                (pss_one (ps_ret (pv 7)))) pss_nil)))))))) pss_nil)
      (pss_one (ps_ret (pv 7)))))))), ?_⟩
    obtain ⟨ta, tc, tp, xs, rfl, hb, hch, hpt, hpx⟩ := board_inv (show Dp K (Ob [a, c] H) v _ from hv)
    have up := fun {H' : Hp} (kk : Kp [a, c] H H') => kk.up
    have hlx : xs.length = ps.length := by rw [all_len hpx, List.length_map]
    have hfl : (ps.map (·.1)).length ≤ 24 := by rw [List.length_map]; exact hps
    -- chart, pieces = board
    refine ⟨_, rfl, ta, _, rfl, sameT (up Kp.refl) hb, rfl, .ref tc, _, rfl, .ref tp, _, rfl, rfl, ?_⟩
    -- fields, gos, fights
    refine ⟨.ref tp, rfl, tp, rfl, ⟨_, sameT (up Kp.refl) hpt⟩, fun Fl hFl0 => ?_⟩
    refine lc_tup (K := K) (a := tp) (xs := xs) (fun j H' => H' Fl = some (.lst (((ps.take j).map (·.1)).map V.int)) ∧ Kp [] H H') ⟨upd_same, Kp.new hFl0⟩ (fun j H' _ ⟨_, kk⟩ => sameT (up kk.all) hpt) ?_ ?_
    · rintro j x H' hx ⟨h1, kk⟩
      obtain ⟨r, q, hr', rfl, hq⟩ := pairs_at hpx hx
      refine ⟨q, _, rfl, sameT (up kk.all) hq, rfl, .int r.1, _, rfl, .int r.2, _, rfl, rfl, rfl, yesGo ?_⟩
      refine ⟨.int r.1, rfl, _, h1, small1000 ?_, ?_, kk.fill hFl0⟩
      · rw [List.length_map, List.length_map, List.length_take]
        omega
      · rw [upd_same, map_snoc _ hr', List.map_append]
        rfl
    rintro H1 ⟨hF1, k1⟩
    rw [hlx, List.take_length] at hF1
    obtain ⟨Fa, Fc⟩ := hD.ne hFl0
    have hD1 := hD.keep k1 (by simp) (by simp)
    refine fun G hG0 => ⟨Nat.zero_le _, fun I0 hI0 => ?_⟩
    have kG : Kp [] H1 (upd (upd H1 G (.dK [])) I0 (.lst [])) := (Kp.new hG0).trans (Kp.new hI0)
    have hG1 : (upd (upd H1 G (.dK [])) I0 (.lst [])) G = some (.dK []) := Kp.get (S := []) (Kp.new hI0) (by simp) upd_same
    have hI1 : (upd (upd H1 G (.dK [])) I0 (.lst [])) I0 = some (.lst []) := upd_same
    have hGH : H G = none := fresh_of k1 (by simp) hG0
    obtain ⟨Ga, Gc⟩ := hD.ne hGH
    have FG : Fl ≠ G := ne_of_none hF1 hG0
    have hF2 := kG.get (by simp) hF1
    have hD2 := hD1.keep kG (by simp) (by simp)
    have k2 := k1.trans kG
    have I0a := (hD1.new (o := .dK []) hG0).ne hI0
    have I0G : I0 ≠ G := (ne_of_none (show (upd H1 G (.dK [])) G = some (.dK []) from upd_same) hI0).symm
    generalize upd (upd H1 G (.dK [])) I0 (.lst []) = H2 at kG hG1 hI1 hF2 hD2 k2
    refine ⟨by show 3 ≤ sizeLine; decide, fun Z hZ => ⟨Z, _, rfl, SqT.of upd_same, rfl, .ref Fl, _, rfl, .ref G, _, rfl, .ref I0, _, rfl, rfl, ?_⟩⟩
    have kZ : Kp [] H2 (upd H2 Z (.tup [.ref Fl, .ref G, .ref I0])) := Kp.new hZ
    have hG3 := kZ.get (by simp) hG1
    have hI3 := kZ.get (by simp) hI1
    have hF3 := kZ.get (by simp) hF2
    have hD3 := hD2.keep kZ (by simp) (by simp)
    have k3 : Kp [a, c] H _ := (k2.trans kZ).all
    show tSeq _ _ _ _ (upd H2 Z (.tup [.ref Fl, .ref G, .ref I0]))
    generalize upd H2 Z (.tup [.ref Fl, .ref G, .ref I0]) = H3 at hG3 hI3 hF3 hD3 k3
    clear hZ kZ kG hG1 hI1 hF2 hD2 k2 hF1 hD1 hI0 hG0
    -- for field, player in pieces: reach, fights
    let M : List (Key × V) → Hp → Prop := fun kvs H' => H' G = some (.dK kvs) ∧ GosOk rs (ps.map (·.1)) kvs ∧ H' Fl = some (.lst ((ps.map (·.1)).map V.int)) ∧ DeckAt H' a c ∧ Kp [a, c] H H'
    have Mk : ∀ {kvs H' H''}, M kvs H' → Kp [] H' H'' → M kvs H'' := fun {kvs H' H''} ⟨e1, e2, e3, e4, e5⟩ kk => ⟨kk.get (by simp) e1, e2, kk.get (by simp) e3, e4.keep kk (by simp) (by simp), e5.trans kk.all⟩
    have Md : ∀ {kvs H' H''}, M kvs H' → DeckAt H'' a c → Kp [a, c] H' H'' → M kvs H'' := fun {kvs H' H''} ⟨e1, e2, e3, e4, e5⟩ d kk => ⟨kk.get (by simp [Ga, Gc]) e1, e2, kk.get (by simp [Fa, Fc]) e3, d, e5.trans kk⟩
    have Mp : ∀ {kvs H' f g}, M kvs H' → f ∈ ps.map (·.1) → g ∈ bes rs f → M (putK kvs (.inl f) (.int g)) (upd H' G (.dK (putK kvs (.inl f) (.int g)))) := fun {kvs H' f g} ⟨e1, e2, e3, e4, e5⟩ hf hg =>
      ⟨upd_same, e2.put hf hg, by rw [upd_ne FG]; exact e3, e4.put Ga Gc, e5.fill hGH⟩
    have Mout : ∀ {kvs H'}, M kvs H' → kvs.length ≤ 100 → Q (.ref G) H' := fun {kvs H'} ⟨e1, e2, e3, e4, e5⟩ hl => k H' G kvs hGH e1 e2 hl e4 e5
    have bside : ∀ {kvs H'}, M kvs H' → ∀ (f : Int) (R : VK), (∀ (H'' : Hp) (p : Addr) (ms : List Int), ms.Perm (bes rs f) → H' p = none → H'' p = some (.lst (ms.map V.int)) → Kp [] H' H'' → R (.ref p) H'') → spBeside K [.ref tc, .int f] H' R E0 :=
      fun {kvs H'} hM f R kr => ⟨.ref tc, n, rs, cs, f, rfl, Dp.same (up hM.2.2.2.2) _ hch, by omega, fun H'' p ms h1 _ h3 h4 h5 => kr H'' p ms h1 h3 h4 h5⟩
    refine ⟨.ref tp, rfl, tp, rfl, ⟨_, sameT (up k3) hpt⟩, for_tup (K := K) (a := tp) (xs := xs)
      (fun j σ H' => ∃ v4 v5 v9 I ys qs, σ = [some (.ref a), some (.ref ta), some (.ref tc), some (.ref tp), v4, v5, some (.ref Fl), some (.ref G), some (.ref I), v9, none, none, none, none, none, none, none] ∧
        M [] H' ∧ H' I = some (.lst ys) ∧ Prs H' ys qs ∧ (∀ q ∈ qs, q.1 ∈ ps.map (·.1) ∧ q.2 ∈ bes rs q.1) ∧ qs.length ≤ j * 24 ∧ I ≠ a ∧ I ≠ c)
      ⟨_, _, _, I0, [], [], rfl, ⟨hG3, fun _ h => absurd h (by simp), hF3, hD3, k3⟩, hI3, .nil, fun _ h => absurd h (by simp), by simp, I0a.1, I0a.2⟩
      (fun j σ H' _ ⟨_, _, _, _, _, _, _, hM, _⟩ => sameT (up hM.2.2.2.2) hpt) ?_ ?_⟩
    · rintro j x σ H' hx ⟨v4, v5, v9, I, ys, qs, rfl, hM, hI, hP, hq, hl, Ia, Ic⟩
      obtain ⟨r, q, hr', rfl, hqt⟩ := pairs_at hpx hx
      have hj : j < ps.length := (List.getElem?_eq_some_iff.mp hr').1
      have hr1m : r.1 ∈ ps.map (·.1) := List.mem_map.mpr ⟨r, List.mem_of_getElem? hr', rfl⟩
      refine ⟨q, _, rfl, sameT (up hM.2.2.2.2) hqt, rfl, .int r.1, _, rfl, .int r.2, _, rfl, rfl, ?_⟩
      refine ⟨.ref tc, rfl, .int r.1, rfl, .ref tc, n, rs, cs, r.1, rfl, Dp.same (up hM.2.2.2.2) _ hch, by omega, fun H4 R ms m1 _ hR0 hR4 k4 => ?_⟩
      have hM4 := Mk hM k4
      have hI4 := k4.get (by simp) hI
      have hP4 := hP.keep k4 noTup_nil
      refine ⟨.ref I, rfl, .ref tp, rfl, tp, rfl, ⟨_, sameT (up hM4.2.2.2.2) hpt⟩, fun D hD0 => ?_⟩
      refine lc_tup (K := K) (a := tp) (xs := xs) (fun l H5 => ∃ zs us, H5 D = some (.lst zs) ∧ Prs H5 zs us ∧ (∀ u ∈ us, u.1 = r.1 ∧ u.2 ∈ bes rs r.1) ∧ us.length ≤ l ∧ Kp [] H4 H5)
        ⟨[], [], upd_same, .nil, fun _ h => absurd h (by simp), Nat.le_refl _, Kp.new hD0⟩ (fun l H5 _ ⟨_, _, _, _, _, _, kk⟩ => sameT (up (Mk hM4 kk).2.2.2.2) hpt) ?_ ?_
      · rintro l x H5 hx ⟨zs, us, e1, e2, e3, e4, k5⟩
        obtain ⟨w', q2, hw', rfl, hq2⟩ := pairs_at hpx hx
        have hl2 : l < ps.length := (List.getElem?_eq_some_iff.mp hw').1
        have hM5 := Mk hM4 k5
        have no : ∃ zs us, H5 D = some (.lst zs) ∧ Prs H5 zs us ∧ (∀ u ∈ us, u.1 = r.1 ∧ u.2 ∈ bes rs r.1) ∧ us.length ≤ l + 1 ∧ Kp [] H4 H5 := ⟨zs, us, e1, e2, e3, Nat.le_succ_of_le e4, k5⟩
        refine ⟨q2, _, rfl, sameT (up hM5.2.2.2.2) hq2, rfl, .int w'.1, _, rfl, .int w'.2, _, rfl, rfl, rfl, ?_⟩
        refine ⟨.int w'.2, rfl, .int r.2, rfl, rfl, _, rfl, ?_⟩
        refine ite2 (fun _ => ?_) (fun _ => iteF no)
        refine ⟨.int w'.1, rfl, .ref R, rfl, R, _, rfl, .inl (SqL.of (k5.get (by simp) hR4)), rfl, flat_ints ms, _, rfl, ?_⟩
        rw [inV_ints]
        refine ite2 (fun hin => ?_) (fun _ => no)
        have hin : w'.1 ∈ ms := of_decide_eq_true hin
        refine ⟨.int r.1, rfl, .int w'.1, rfl, by show 2 ≤ sizeLine; decide, fun T hT => ?_⟩
        have kT : Kp ([] : List Addr) H5 (upd H5 T (.tup [.int r.1, .int w'.1])) := Kp.new hT
        have f1 := kT.get (by simp) e1
        have f2 := e2.keep kT noTup_nil
        have fT : PrAt (upd H5 T (.tup [.int r.1, .int w'.1])) (.ref T) (r.1, w'.1) := ⟨T, rfl, upd_same⟩
        have k6 := k5.trans kT
        generalize upd H5 T (.tup [.int r.1, .int w'.1]) = H6 at f1 f2 fT k6
        have kD : Kp [D] H6 (upd H6 D (.lst (zs ++ [.ref T]))) := Kp.put (by simp)
        have nD : NoTup H6 [D] := fun s hs ys e => by rw [List.mem_singleton.mp hs, f1] at e; cases e
        refine ⟨zs, f1, small1000 (by rw [f2.len]; omega), zs ++ [.ref T], us ++ [(r.1, w'.1)], upd_same, Prs.snoc (fT.keep kD nD) (f2.keep kD nD), fun u hu => ?_, by rw [List.length_append]; simpa using e4, k6.fill hD0⟩
        rcases List.mem_append.mp hu with z | z
        · exact e3 u z
        · rw [List.mem_singleton.mp z]
          exact ⟨rfl, m1.mem_iff.mp hin⟩
      · rintro H5 ⟨zs, us, e1, e2, e3, e4, k5⟩
        have hM5 := Mk hM4 k5
        have hI5 := k5.get (by simp) hI4
        have hP5 := hP4.keep k5 noTup_nil
        rw [hlx] at e4
        have hlen : ys.length + zs.length ≤ (j + 1) * 24 := by
          rw [hP5.len, e2.len, Nat.succ_mul]
          omega
        refine ⟨I, D, _, _, rfl, rfl, hI5, e1, Nat.le_trans hlen (Nat.le_trans (Nat.mul_le_mul_right 24 (show j + 1 ≤ 24 by omega)) (by decide)), fun N hN => ?_⟩
        have kN : Kp ([] : List Addr) H5 (upd H5 N (.lst (ys ++ zs))) := Kp.new hN
        obtain ⟨Na, Nc⟩ := hM5.2.2.2.1.ne hN
        refine ⟨_, _, _, N, ys ++ zs, qs ++ us, rfl, Mk hM5 kN, upd_same, Prs.app (hP5.keep kN noTup_nil) (e2.keep kN noTup_nil), fun u hu => ?_, ?_, Na, Nc⟩
        · rcases List.mem_append.mp hu with z | z
          · exact hq u z
          · rw [(e3 u z).1]
            exact ⟨hr1m, (e3 u z).2⟩
        · rw [List.length_append, ← hP5.len, ← e2.len]
          exact hlen
    · rintro σ H4 ⟨v4, v5, v9, I, ys, qs, rfl, hM, hI, hP, hq, hl, Ia, Ic⟩
      have hys : ys.length ≤ 576 := by
        rw [hP.len]
        rw [hlx] at hl
        exact Nat.le_trans hl (Nat.le_trans (Nat.mul_le_mul_right 24 hps) (by decide))
      -- if fights != [] and draw == 0
      refine ⟨fun σ H' => M [] H' ∧ ∃ v4 v5 v8 v9, σ = [some (.ref a), some (.ref ta), some (.ref tc), some (.ref tp), v4, v5, some (.ref Fl), some (.ref G), v8, v9, none, none, none, none, none, none, none], ?_, ?_⟩
      case refine_2 =>
        clear hM hI hP hq hl hys
        rintro σ H4 ⟨hM, v4, v5, v8, v9, rfl⟩
        refine ⟨.ref Fl, rfl, Fl, rfl, ⟨_, SqL.of hM.2.2.1⟩, for_list (K := K) (a := Fl) (xs := (ps.map (·.1)).map V.int)
          (fun j σ H' => ∃ v4 v9 v12 kvs, σ = [some (.ref a), some (.ref ta), some (.ref tc), some (.ref tp), v4, v5, some (.ref Fl), some (.ref G), v8, v9, none, none, v12, none, none, none, none] ∧ M kvs H' ∧ kvs.length ≤ j)
          ⟨_, _, _, [], rfl, hM, Nat.le_refl _⟩ (fun j σ H' _ ⟨_, _, _, _, _, hM, _⟩ => SqL.of hM.2.2.1) ?_ ?_⟩
        · rintro j x σ H' hx ⟨v4, v9, v12, kvs, rfl, hM, hl⟩
          obtain ⟨f, hf, rfl⟩ := map_ints_get hx
          have hfm : f ∈ ps.map (·.1) := List.mem_of_getElem? hf
          have hj : j < 24 := Nat.lt_of_lt_of_le (List.getElem?_eq_some_iff.mp hf).1 hfl
          refine ⟨.ref tc, rfl, .int f, rfl, .ref tc, n, rs, cs, f, rfl, Dp.same (up hM.2.2.2.2) _ hch, by omega, fun H5 R ms m1 _ hR0 hR5 k5 => ?_⟩
          have hM5 := Mk hM k5
          obtain ⟨Ra, Rc⟩ := hM.2.2.2.1.ne hR0
          have hml : ms.length ≤ 200 := by
            rw [m1.length_eq]
            exact Nat.le_trans (bes_len _ _) hrs
          have hmb : ∀ g ∈ ms, g ∈ bes rs f := fun g hg => m1.mem_iff.mp hg
          -- if reach != [] and draw(5) < 2
          refine ⟨.ref R, rfl, Nat.zero_le _, fun Z hZ => ?_⟩
          have kZ : Kp ([] : List Addr) H5 (upd H5 Z (.lst [])) := Kp.new hZ
          have hM6 := Mk hM5 kZ
          have hR6 := kZ.get (by simp) hR5
          refine ne_nil (SqL.of hR6) sh_ints upd_same ⟨_, rfl, ?_⟩
          generalize upd H5 Z (.lst []) = H6 at hM6 hR6
          clear hZ kZ
          have stay : ∀ H7, M kvs H7 → ∃ v4' v9' v12' kvs', ([some (.ref a), some (.ref ta), some (.ref tc), some (.ref tp), some (.int f), v5, some (.ref Fl), some (.ref G), v8, some (.ref R), none, none, v12, none, none, none, none] : Sl) = [some (.ref a), some (.ref ta), some (.ref tc), some (.ref tp), v4', v5, some (.ref Fl), some (.ref G), v8, v9', none, none, v12', none, none, none, none] ∧ M kvs' H7 ∧ kvs'.length ≤ j + 1 :=
            fun H7 h => ⟨_, _, _, kvs, rfl, h, Nat.le_succ_of_le hl⟩
          refine ite2 (fun hne => ?_) (fun _ => iteF (stay H6 hM6))
          have hne : ms ≠ [] := fun e => by simp [e] at hne
          refine ⟨.ref a, rfl, a, c, 5, rfl, hM6.2.2.2.1, by decide, by decide, fun H7 z z0 z1 hD7 k7 => ⟨_, _, rfl, rfl, _, rfl, ?_⟩⟩
          have hM7 := Md hM6 hD7 k7
          have hR7 := k7.get (by simp [Ra, Rc]) hR6
          refine ite2 (fun _ => ?_) (fun _ => stay H7 hM7)
          -- taken
          refine ⟨.ref R, rfl, R, rfl, ⟨_, SqL.of hR7⟩, fun D hD0 => ?_⟩
          refine lc_ints (K := K) (L := R) (ms := ms) (fun g => decide (g ∈ ps.map (·.1))) (i := 10) hR7 hD0 (by omega) (fun x => rfl) (fun x => rfl) (fun g hg H8 k8 R8 kk => ?_) fun H8 hD8 k8 => ?_
          · refine ⟨.int g, rfl, .ref Fl, rfl, Fl, _, rfl, .inl (SqL.of (Mk hM7 k8).2.2.1), rfl, flat_ints _, _, rfl, ?_⟩
            rw [inV_ints]
            exact kk H8 Kp.refl
          · have hM8 := Mk hM7 k8
            have hR8 := k8.get (by simp) hR7
            obtain ⟨Da', Dc'⟩ := hM7.2.2.2.1.ne hD0
            have hfb : ∀ g ∈ ms.filter (fun g => decide (g ∈ ps.map (·.1))), g ∈ bes rs f := fun g hg => hmb g (List.mem_filter.mp hg).1
            have hfll : (ms.filter (fun g => decide (g ∈ ps.map (·.1)))).length ≤ 200 := Nat.le_trans (List.length_filter_le _ _) hml
            generalize ms.filter (fun g => decide (g ∈ ps.map (·.1))) = tk at hD8 hfb hfll
            have put : ∀ (H9 : Hp) (g : Int), M kvs H9 → g ∈ bes rs f → ∃ H', DPut H9 G (.int f) (.int g) H' ∧ ∃ kvs', M kvs' H' ∧ kvs'.length ≤ j + 1 := fun H9 g h9 hg =>
              ⟨_, DPut.k (k := .inl f) h9.1 (Nat.lt_of_le_of_lt (show kvs.length ≤ 1000 by omega) (by decide)), _, Mp h9 hfm hg, Nat.le_trans putK_len (by omega)⟩
            -- gos[field] = ..
            refine ⟨.ref a, rfl, .ref D, rfl, Nat.zero_le _, fun Z hZ => ?_⟩
            have kZ : Kp ([] : List Addr) H8 (upd H8 Z (.lst [])) := Kp.new hZ
            have hM9 := Mk hM8 kZ
            have hR9 := kZ.get (by simp) hR8
            have hD9 := kZ.get (by simp) hD8
            refine ne_nil (SqL.of hD9) sh_ints upd_same ⟨_, rfl, ?_⟩
            generalize upd H8 Z (.lst []) = H9 at hM9 hR9 hD9
            clear hZ kZ
            have viaR : ∀ H10, M kvs H10 → H10 R = some (.lst (ms.map V.int)) → ∃ (a' c' l : Addr) (xs : List V), ([.ref a, .ref R] : List V) = [.ref a', .ref l] ∧ DeckAt H10 a' c' ∧ l ≠ a' ∧ l ≠ c' ∧ SqL K H10 l xs ∧ xs ≠ [] ∧ xs.length ≤ 100000 ∧ (∀ (H' : Hp) (x : V), x ∈ xs → DeckAt H' a' c' → Kp [a', c'] H10 H' → ∃ g, x = .int g ∧ g ∈ bes rs f ∧ M kvs H') := fun H10 h10 hR10 =>
              ⟨a, c, R, _, rfl, h10.2.2.2.1, Ra, Rc, SqL.of hR10, by simpa using hne, by rw [List.length_map]; omega, fun H' x hx hD' k' => by
                obtain ⟨g, hg, rfl⟩ := List.mem_map.mp hx
                exact ⟨g, rfl, hmb g hg, Md h10 hD' k'⟩⟩
            have fin : ∀ (H11 : Hp) (x : V), (∃ g, x = .int g ∧ g ∈ bes rs f ∧ M kvs H11) → ∃ a' H', V.ref G = .ref a' ∧ DPut H11 a' (.int f) x H' ∧ ∃ v4' v9' v12' kvs', ([some (.ref a), some (.ref ta), some (.ref tc), some (.ref tp), some (.int f), v5, some (.ref Fl), some (.ref G), v8, some (.ref R), none, none, some (.ref D), none, none, none, none] : Sl) = [some (.ref a), some (.ref ta), some (.ref tc), some (.ref tp), v4', v5, some (.ref Fl), some (.ref G), v8, v9', none, none, v12', none, none, none, none] ∧ M kvs' H' ∧ kvs'.length ≤ j + 1 := fun H11 x ⟨g, e, hg, h11⟩ => by
              subst e
              obtain ⟨H', p1, kvs', p2, p3⟩ := put H11 g h11 hg
              exact ⟨G, H', rfl, p1, _, _, _, kvs', rfl, p2, p3⟩
            refine ite2 (fun htk => ?_) (fun _ => iteF ?_)
            · have htk : tk ≠ [] := fun e => by simp [e] at htk
              refine ⟨.ref a, rfl, a, c, 4, rfl, hM9.2.2.2.1, by decide, by decide, fun H10 z z0 z1 hD10 k10 => ⟨_, _, rfl, rfl, _, rfl, ?_⟩⟩
              have hM10 := Md hM9 hD10 k10
              have hR10 := k10.get (by simp [Ra, Rc]) hR9
              have hD11 := k10.get (by simp [Da', Dc']) hD9
              refine ite2 (fun _ => ?_) (fun _ => ?_)
              · refine ⟨.ref D, rfl, a, c, D, _, rfl, hD10, Da', Dc', SqL.of hD11, by simpa using htk, by rw [List.length_map]; omega, fun H' x hx hD' k' => ?_⟩
                obtain ⟨g, hg, rfl⟩ := List.mem_map.mp hx
                exact ⟨.ref G, rfl, .int f, rfl, fin H' _ ⟨g, rfl, hfb g hg, Md hM10 hD' k'⟩⟩
              · obtain ⟨a', c', l, xs', e, q1, q2, q3, q4, q5, q6, q7⟩ := viaR H10 hM10 hR10
                exact ⟨.ref R, rfl, a', c', l, xs', e, q1, q2, q3, q4, q5, q6, fun H' x hx hD' k' => ⟨.ref G, rfl, .int f, rfl, fin H' x (q7 H' x hx hD' k')⟩⟩
            · obtain ⟨a', c', l, xs', e, q1, q2, q3, q4, q5, q6, q7⟩ := viaR H9 hM9 hR9
              exact ⟨.ref R, rfl, a', c', l, xs', e, q1, q2, q3, q4, q5, q6, fun H' x hx hD' k' => ⟨.ref G, rfl, .int f, rfl, fin H' x (q7 H' x hx hD' k')⟩⟩
        · rintro σ H5 ⟨v4, v9, v12, kvs, rfl, hM, hl⟩
          rw [List.length_map] at hl
          have hl : kvs.length ≤ 24 := Nat.le_trans hl hfl
          -- if draw(6) == 0
          refine ⟨.ref a, rfl, a, c, 6, rfl, hM.2.2.2.1, by decide, by decide, fun H6 z z0 z1 hD6 k6 => ⟨rfl, _, rfl, ?_⟩⟩
          have hM6 := Md hM hD6 k6
          clear hM z0 z1 hD6 k6
          refine ite2 (fun _ => ?_) (fun _ => ⟨.ref G, rfl, Mout hM6 (by omega)⟩)
          have bs : ∀ (H' : Hp) (f : Int), M kvs H' → ∃ (v : V) (n' : Int) (rs' : List (Int × Int)) (cs' : List Int) (f' : Int), ([.ref tc, .int f] : List V) = [v, .int f'] ∧ Dp K H' v (chD n' rs' cs') ∧ rs'.length ≤ 1000 ∧ rs' = rs ∧ f' = f := fun H' f hM =>
            ⟨.ref tc, n, rs, cs, f, rfl, Dp.same (up hM.2.2.2.2) _ hch, by omega, rfl, rfl⟩
          refine ⟨.ref Fl, rfl, Fl, rfl, ⟨_, SqL.of hM6.2.2.1⟩, for_list (K := K) (a := Fl) (xs := (ps.map (·.1)).map V.int)
            (fun j σ H' => ∃ v13 v14 v15, σ = [some (.ref a), some (.ref ta), some (.ref tc), some (.ref tp), v4, v5, some (.ref Fl), some (.ref G), v8, v9, none, none, v12, v13, v14, v15, none] ∧ M kvs H')
            ⟨_, _, _, rfl, hM6⟩ (fun j σ H' _ ⟨_, _, _, _, hM⟩ => SqL.of hM.2.2.1) ?_ ?_⟩
          · rintro j x σ H' hx ⟨v13, v14, v15, rfl, hM⟩
            obtain ⟨fa, hfa, rfl⟩ := map_ints_get hx
            have hfam : fa ∈ ps.map (·.1) := List.mem_of_getElem? hfa
            refine ⟨.ref tc, rfl, .int fa, rfl, .ref tc, n, rs, cs, fa, rfl, Dp.same (up hM.2.2.2.2) _ hch, by omega, fun H7 p7 ms m1 _ hp0 hp7 k7 => ⟨p7, rfl, ⟨_, SqL.of hp7⟩, fun D hD0 => ?_⟩⟩
            have hM7 := Mk hM k7
            have hml : ms.length ≤ 200 := by rw [m1.length_eq]; exact Nat.le_trans (bes_len _ _) hrs
            refine lc_ints (K := K) (L := p7) (ms := ms) (fun g => decide (g ∈ ps.map (·.1))) (i := 4) hp7 hD0 (by omega) (fun x => rfl) (fun x => rfl) (fun g hg H8 k8 R8 kk => ?_) fun H8 hD8 k8 => ?_
            · refine ⟨.int g, rfl, .ref Fl, rfl, Fl, _, rfl, .inl (SqL.of (Mk hM7 k8).2.2.1), rfl, flat_ints _, _, rfl, ?_⟩
              rw [inV_ints]
              exact kk H8 Kp.refl
            have hM8 := Mk hM7 k8
            have hbm : ∀ g ∈ ms.filter (fun g => decide (g ∈ ps.map (·.1))), g ∈ ps.map (·.1) ∧ g ∈ bes rs fa := fun g hg => ⟨of_decide_eq_true (List.mem_filter.mp hg).2, m1.mem_iff.mp (List.mem_filter.mp hg).1⟩
            have hDa := hM7.2.2.2.1.ne hD0
            have hDG : D ≠ G := (ne_of_none hM7.1 hD0).symm
            generalize ms.filter (fun g => decide (g ∈ ps.map (·.1))) = bl at hD8 hbm
            clear hp7 hD0 k8 hM7 k7 hp0
            refine ⟨D, rfl, ⟨_, SqL.of hD8⟩, for_list (K := K) (a := D) (xs := bl.map V.int)
              (fun j σ H' => ∃ v14 v15, σ = [some (.ref a), some (.ref ta), some (.ref tc), some (.ref tp), v4, v5, some (.ref Fl), some (.ref G), v8, v9, none, none, v12, some (.int fa), v14, v15, none] ∧ M kvs H' ∧ H' D = some (.lst (bl.map V.int)))
              ⟨_, _, rfl, hM8, hD8⟩ (fun j σ H' _ ⟨_, _, _, _, e⟩ => SqL.of e) ?_ ?_⟩
            · rintro l x σ H9 hx ⟨v14, v15, rfl, hM9, hD9⟩
              obtain ⟨fb, hfb, rfl⟩ := map_ints_get hx
              obtain ⟨hfb1, hfb2⟩ := hbm fb (List.mem_of_getElem? hfb)
              refine ⟨.ref tc, rfl, .int fb, rfl, .ref tc, n, rs, cs, fb, rfl, Dp.same (up hM9.2.2.2.2) _ hch, by omega, fun H10 p10 ns n1 _ hq0 hq10 k10 => ⟨p10, rfl, ⟨_, SqL.of hq10⟩, fun D2 hD20 => ?_⟩⟩
              have hM10 := Mk hM9 k10
              have hnl : ns.length ≤ 200 := by rw [n1.length_eq]; exact Nat.le_trans (bes_len _ _) hrs
              refine lc_ints (K := K) (L := p10) (ms := ns) (fun g => decide (g ∈ bes rs fa)) (i := 4) hq10 hD20 (by omega) (fun x => rfl) (fun x => rfl) (fun g hg H11 k11 R11 kk => ?_) fun H11 hD11 k11 => ?_
              · refine ⟨.int g, rfl, .ref tc, rfl, .int fa, rfl, .ref tc, n, rs, cs, fa, rfl, Dp.same (up (Mk hM10 k11).2.2.2.2) _ hch, by omega, fun H12 p12 os o1 _ ho0 ho12 k12 => ⟨p12, _, rfl, .inl (SqL.of ho12), rfl, flat_ints _, _, rfl, ?_⟩⟩
                rw [inV_ints, show decide (g ∈ os) = decide (g ∈ bes rs fa) from decide_eq_decide.mpr o1.mem_iff]
                exact kk H12 k12
              have hM11 := Mk hM10 k11
              have hD11' : H11 D = some (.lst (bl.map V.int)) := k11.get (by simp) (k10.get (by simp) hD9)
              have hcm : ∀ g ∈ ns.filter (fun g => decide (g ∈ bes rs fa)), g ∈ bes rs fb ∧ g ∈ bes rs fa := fun g hg => ⟨n1.mem_iff.mp (List.mem_filter.mp hg).1, of_decide_eq_true (List.mem_filter.mp hg).2⟩
              generalize ns.filter (fun g => decide (g ∈ bes rs fa)) = cl at hD11 hcm
              clear hq10 hD20 k11 hM10 k10 hq0
              refine ⟨D2, rfl, ⟨_, SqL.of hD11⟩, for_list (K := K) (a := D2) (xs := cl.map V.int)
                (fun j σ H' => ∃ v15, σ = [some (.ref a), some (.ref ta), some (.ref tc), some (.ref tp), v4, v5, some (.ref Fl), some (.ref G), v8, v9, none, none, v12, some (.int fa), some (.int fb), v15, none] ∧ M kvs H' ∧ H' D = some (.lst (bl.map V.int)) ∧ H' D2 = some (.lst (cl.map V.int)))
                ⟨_, rfl, hM11, hD11', hD11⟩ (fun j σ H' _ ⟨_, _, _, _, e⟩ => SqL.of e) ?_ ?_⟩
              · rintro u x σ H12 hx ⟨v15, rfl, hM12, hD12, hE12⟩
                obtain ⟨fc, hfc, rfl⟩ := map_ints_get hx
                obtain ⟨hfc1, hfc2⟩ := hcm fc (List.mem_of_getElem? hfc)
                refine ⟨.int fc, rfl, .ref Fl, rfl, Fl, _, rfl, .inl (SqL.of hM12.2.2.1), rfl, flat_ints _, _, rfl, ?_⟩
                rw [inV_ints]
                refine ite2 (fun hin => ?_) (fun _ => ⟨_, rfl, hM12, hD12, hE12⟩)
                have hin : fc ∈ ps.map (·.1) := of_decide_eq_true hin
                refine ⟨.int fb, rfl, .int fc, rfl, .int fa, rfl, by show 3 ≤ sizeLine; decide, fun T hT => ⟨T, _, rfl, SqT.of upd_same, rfl, ?_⟩⟩
                have hM13 := Mk hM12 (Kp.new (o := .tup [.int fb, .int fc, .int fa]) hT)
                generalize upd H12 T (.tup [.int fb, .int fc, .int fa]) = H13 at hM13
                have hM14 := Mp hM13 hfam hfb2
                have hM15 := Mp hM14 hfb1 hfc1
                have hM16 := Mp hM15 hin (bes_symm hfc2)
                have l1 := putK_len (kvs := kvs) (k := .inl fa) (v := .int fb)
                have l2 := putK_len (kvs := putK kvs (.inl fa) (.int fb)) (k := .inl fb) (v := .int fc)
                have l3 := putK_len (kvs := putK (putK kvs (.inl fa) (.int fb)) (.inl fb) (.int fc)) (k := .inl fc) (v := .int fa)
                have big : 1000 < sizeLine := by decide
                refine ⟨.int fb, _, rfl, .ref G, rfl, .int fa, rfl, G, _, rfl, DPut.k (k := .inl fa) hM13.1 (by omega), .int fc, _, rfl, .ref G, rfl, .int fb, rfl, G, _, rfl, DPut.k (k := .inl fb) hM14.1 (by omega),
                  .int fa, _, rfl, .ref G, rfl, .int fc, rfl, G, _, rfl, DPut.k (k := .inl fc) hM15.1 (by omega), rfl, .ref G, rfl, Mout hM16 (by omega)⟩
              · rintro σ H12 ⟨v15, rfl, hM12, hD12, hE12⟩
                exact ⟨_, _, rfl, hM12, hD12⟩
            · rintro σ H9 ⟨v14, v15, rfl, hM9, hD9⟩
              exact ⟨_, _, _, rfl, hM9⟩
          · rintro σ H7 ⟨v13, v14, v15, rfl, hM⟩
            exact ⟨.ref G, rfl, Mout hM (by omega)⟩
      refine ⟨.ref I, rfl, Nat.zero_le _, fun Z hZ => ?_⟩
      have kZ : Kp ([] : List Addr) H4 (upd H4 Z (.lst [])) := Kp.new hZ
      have hM5 := Mk hM kZ
      have hI5 := kZ.get (by simp) hI
      have hP5 := hP.keep kZ noTup_nil
      refine ne_nil (SqL.of hI5) (fun x hx => let ⟨r, _, z⟩ := hP5.mem hx; sh_pair z) upd_same ⟨_, rfl, ?_⟩
      generalize upd H4 Z (.lst []) = H5 at hM5 hI5 hP5
      clear hZ kZ hM hI hP
      have out : M [] H5 ∧ ∃ v4' v5' v8 v9', ([some (.ref a), some (.ref ta), some (.ref tc), some (.ref tp), v4, v5, some (.ref Fl), some (.ref G), some (.ref I), v9, none, none, none, none, none, none, none] : Sl) = [some (.ref a), some (.ref ta), some (.ref tc), some (.ref tp), v4', v5', some (.ref Fl), some (.ref G), v8, v9', none, none, none, none, none, none, none] := ⟨hM5, _, _, _, _, rfl⟩
      refine ite2 (fun hne => ?_) (fun _ => iteF out)
      have hne : ys ≠ [] := fun e => by simp [e] at hne
      refine ⟨.ref a, rfl, a, c, 2, rfl, hM5.2.2.2.1, by decide, by decide, fun H6 z z0 z1 hD6 k6 => ⟨rfl, _, rfl, ?_⟩⟩
      have hM6 := Md hM5 hD6 k6
      have hI6 := k6.get (by simp [Ia, Ic]) hI5
      have hP6 := hP5.keep k6 (deck_noTup hM5.2.2.2.1)
      refine ite2 (fun _ => ?_) (fun _ => ⟨hM6, _, _, _, _, rfl⟩)
      refine ⟨.ref a, rfl, .ref I, rfl, a, c, I, _, rfl, hD6, Ia, Ic, SqL.of hI6, hne, by omega, fun H7 x hx hD7 k7 => ?_⟩
      obtain ⟨r, hr, hxr⟩ := (hP6.keep k7 (deck_noTup hD6)).mem hx
      obtain ⟨T, rfl, hT⟩ := hxr
      have hM7 := Md hM6 hD7 k7
      refine ⟨T, _, rfl, SqT.of hT, rfl, .int r.1, _, rfl, .int r.2, _, rfl, rfl, fun Z hZ => ?_⟩
      refine ⟨.int r.1, rfl, .int r.2, rfl, upd_same, [(.inl r.1, .int r.2)], rfl, by simp, ?_⟩
      have kf : Kp [a, c] H (upd (upd H7 Z (.dK [])) Z (.dK (mergeK [] [(.inl r.1, .int r.2)]))) := by
        rw [upd_upd]
        exact hM7.2.2.2.2.trans (Kp.new hZ)
      refine k _ Z [(.inl r.1, .int r.2)] (fresh_of hM7.2.2.2.2 (by have := hD7.ne hZ; simp [this]) hZ) (by rw [upd_same]; rfl) (fun kv hkv => ?_) (by simp) ?_ kf
      · rw [List.mem_singleton.mp hkv]
        exact ⟨r.1, r.2, rfl, hq r hr⟩
      · rw [upd_upd]
        exact hD7.new hZ
end
end Kt

set_option Elab.async false
set_option linter.all false
set_option maxRecDepth 100000
set_option maxHeartbeats 4000000
namespace Kt
open PySem PySem.Spec PyProof.Rows L2
def isBack : Ord → Bool
  | .back _ _ => true
  | _ => false
def word : Ord → Str
  | .stay => "stay"
  | .go _ => "go"
  | .back _ _ => "back"
theorem oV_word (o : Ord) : ∃ r, oV o = .str (word o) :: r := by cases o <;> exact ⟨_, rfl⟩
theorem word_back (o : Ord) : decide (V.str (word o) = V.str "back") = isBack o := by
  cases o with
  | stay => exact decide_eq_false fun e => absurd (V.str.inj e) (by decide +kernel)
  | go g => exact decide_eq_false fun e => absurd (V.str.inj e) (show ¬ (("go" : Str) = "back") by decide +kernel)
  | back f g => exact decide_eq_true rfl
theorem word_go (o : Ord) : decide (V.str (word o) = V.str "go") = (match o with | .go _ => true | _ => false) := by
  cases o with
  | stay => exact decide_eq_false fun e => absurd (V.str.inj e) (by decide +kernel)
  | go g => exact decide_eq_true rfl
  | back f g => exact decide_eq_false fun e => absurd (V.str.inj e) (show ¬ (("back" : Str) = "go") by decide +kernel)
/-- an order of the piece in the field own -/
def OrdOk (rs ps : List (Int × Int)) (own : Int) : Ord → Prop
  | .stay => True
  | .go g => g ∈ bes rs own
  | .back f g => f ∈ ps.map (·.1) ∧ f ≠ own ∧ g ∈ bes rs own ∧ (g = f ∨ g ∈ bes rs f)
theorem MenuOf.ok {rs ps : List (Int × Int)} {own : Int} {os : List Ord} (h : MenuOf rs ps own os) : ∀ o ∈ os, OrdOk rs ps own o := by
  obtain ⟨reach, bs, h1, h2, h3, h4, rfl⟩ := h.eq
  intro o ho
  rcases List.mem_cons.mp ho with e | ho
  · rw [e]
    trivial
  · rcases List.mem_append.mp ho with ho | ho
    · obtain ⟨g, hg, rfl⟩ := List.mem_map.mp ho
      exact h1.mem_iff.mp hg
    · obtain ⟨q, hq, rfl⟩ := List.mem_map.mp ho
      have hq := h3.mem_iff.mp hq
      unfold backsOf at hq
      obtain ⟨f, hf, hq⟩ := List.mem_flatMap.mp hq
      unfold half at hq
      split at hq
      · cases hq
      · rename_i hne
        obtain ⟨g, hg, rfl⟩ := List.mem_map.mp hq
        obtain ⟨hg1, hg2⟩ := List.mem_filter.mp hg
        simp only [Bool.or_eq_true, decide_eq_true_eq] at hg2
        exact ⟨hf, hne, h1.mem_iff.mp hg1, hg2⟩
theorem Ps.mem {α : Type} {f : α → List V} {H : Hp} : ∀ {xs : List V} {rs : List α} {x : V}, Ps f H xs rs → x ∈ xs → ∃ r ∈ rs, TpAt f H x r
  | _, _, _, .nil, h => absurd h (by simp)
  | _, _, _, .cons a b, h => by
    rcases List.mem_cons.mp h with e | h
    · rw [e]
      exact ⟨_, List.mem_cons_self, a⟩
    · obtain ⟨r, hr, q⟩ := Ps.mem b h
      exact ⟨r, List.mem_cons_of_mem _ hr, q⟩
theorem dp_flat {K : PySem.W.Frag} {H : Hp} : ∀ o : Ord, ∃ ds, DpAll K H (oV o) ds ∧ PyData.canLayAll0 ds = true ∧ PyData.depthAll ds ≤ 1
  | .stay => ⟨_, .cons (.str _) .nil, by decide +kernel, by simp [PyData.depthAll, PyData.depth]⟩
  | .go g => ⟨_, .cons (.str _) (.cons (.int _) .nil), by
      have : PyData.strOk "go" = true := by decide +kernel
      simp [PyData.canLayAll0, PyData.canLay0, this], by simp [PyData.depthAll, PyData.depth]⟩
  | .back f g => ⟨_, .cons (.str _) (.cons (.int _) (.cons (.int _) .nil)), by
      have : PyData.strOk "back" = true := by decide +kernel
      simp [PyData.canLayAll0, PyData.canLay0, this], by simp [PyData.depthAll, PyData.depth]⟩
theorem sh_ord {K : PySem.W.Frag} {H : Hp} {x : V} {o : Ord} (h : TpAt oV H x o) : Sh K H x := by
  obtain ⟨t, rfl, e⟩ := h
  obtain ⟨ds, h1, h2, h3⟩ := dp_flat (K := K) (H := H) o
  exact ⟨_, .tup (SqT.of e) h1, by simpa [PyData.canLay0] using h2, by simp only [PyData.depth]; omega⟩
/-- [x for x in orders if t(x)] -/
theorem lc_ords {K : PySem.W.Frag} {L D : Addr} {xs : List V} {os : List Ord} (t : Ord → Bool) {i : Nat} {tt : TT} {vs : List Nat} {σ : Sl} {H1 : Hp} {Qd : Hp → Prop} (hL : H1 L = some (.lst xs)) (hP : Ps oV H1 xs os) (hD : H1 D = none) (hlen : xs.length ≤ 10000)
    (hi : ∀ x, ((wipe σ vs).set i x)[i]? = some x) (hw : ∀ x, wipe ((wipe σ vs).set i x) vs = wipe σ vs)
    (ht : ∀ o ∈ os, ∀ (T : Addr) (H' : Hp), Kp [] H1 H' → H' T = some (.tup (oV o)) → ∀ (Q : Bool → Hp → Prop), (∀ H'', Kp [] H' H'' → Q (t o) H'') → tt ((wipe σ vs).set i (some (.ref T))) H' Q)
    (hd : ∀ H' zs, H' D = some (.lst zs) → Ps oV H' zs (os.filter t) → Kp [] H1 H' → Qd H') :
    ∃ W : Nat → Nat → Hp → Prop, (∃ m, W 0 m (upd H1 D (.lst []))) ∧ ∀ i' m H, W i' m H →
      ((Itl K L).stop i' H ∧ Qd H) ∨ ((Itl K L).go i' H ∧ ∃ Nx : Hp → Prop, (∀ H', Nx H' → ∃ m', m' < m ∧ W (i' + 1) m' H') ∧ ∀ x H', (Itl K L).yld i' H x H' → gName i x (wipe σ vs) H' fun σ2 H2 => wipe σ2 vs = wipe σ vs ∧ tt σ2 H2 fun b H3 =>
        if b = true then tVar i σ2 H3 fun y H4 => ∃ acc, H4 D = some (.lst acc) ∧ acc.length < sizeLine ∧ Nx (upd H4 D (.lst (acc ++ [y]))) else Nx H3) := by
  refine lc_list (K := K) (a := L) (xs := xs) (fun j H' => ∃ zs, H' D = some (.lst zs) ∧ Ps oV H' zs ((os.take j).filter t) ∧ Kp [] H1 H') ⟨[], upd_same, .nil, Kp.new hD⟩ (fun j H' _ ⟨_, _, _, k⟩ => SqL.of (k.get (by simp) hL)) ?_ ?_
  · rintro j x H' hx ⟨zs, h1, h2, k⟩
    obtain ⟨o, ho, T, rfl, hT⟩ := (hP.keep k noTup_nil).at hx
    have hj : j < xs.length := (List.getElem?_eq_some_iff.mp hx).1
    refine ⟨hw _, ht o (List.mem_of_getElem? ho) T H' k hT _ fun H'' k2 => ?_⟩
    have g1 := k2.get (by simp) h1
    have g2 := h2.keep k2 noTup_nil
    have gT := k2.get (by simp) hT
    have k3 := k.trans k2
    rw [filter_snoc ho]
    by_cases e : t o = true
    · rw [if_pos e]
      have kD : Kp [D] H'' (upd H'' D (.lst (zs ++ [.ref T]))) := Kp.put (by simp)
      have nD : NoTup H'' [D] := fun s hs ys e => by rw [List.mem_singleton.mp hs, g1] at e; cases e
      refine ⟨.ref T, hi _, _, g1, ?_, zs ++ [.ref T], upd_same, ?_, k3.fill hD⟩
      · rw [g2.len]
        have := List.length_filter_le t (os.take j)
        rw [List.length_take] at this
        exact Nat.lt_of_le_of_lt (show _ ≤ 10000 by omega) (by decide)
      · rw [if_pos e]
        exact Ps.snoc (TpAt.keep (show TpAt oV H'' (.ref T) o from ⟨T, rfl, gT⟩) kD nD) (g2.keep kD nD)
    · rw [if_neg e]
      refine ⟨zs, g1, ?_, k3⟩
      rw [if_neg e, List.append_nil]
      exact g2
  · rintro H' ⟨zs, h1, h2, k⟩
    rw [hP.len, List.take_length] at h2
    exact hd H' zs h1 h2 k
theorem valV_mem {kvs : List (Key × V)} {k : Key} {v : V} (h : valV kvs k = some v) : (k, v) ∈ kvs := by
  unfold valV at h
  obtain ⟨q, hq, rfl⟩ := Option.map_eq_some_iff.mp h
  have h1 := List.mem_of_find?_eq_some hq
  have h2 := List.find?_some hq
  have h3 : q.1 = k := of_decide_eq_true h2
  rw [← h3]
  exact h1
theorem GosOk.get {rs : List (Int × Int)} {fs : List Int} {kvs : List (Key × V)} {f : Int} {v : V} (h : GosOk rs fs kvs) (e : valV kvs (.inl f) = some v) : ∃ g, v = .int g ∧ f ∈ fs ∧ g ∈ bes rs f := by
  obtain ⟨f', g, e', h1, h2⟩ := h _ (valV_mem e)
  have e1 := congrArg Prod.fst e'
  have e2 := congrArg Prod.snd e'
  have e3 : f = f' := Sum.inl.inj e1
  subst e3
  exact ⟨g, e2, h1, h2⟩
def fitGo (kvs : List (Key × V)) : Ord → Bool
  | .back f g => decide ((valV kvs (.inl f)).getD (.int (-1)) = .int g)
  | _ => false
def fitStay : Ord → Bool
  | .back f g => decide (V.int f = V.int g)
  | _ => false
theorem Ps.take {α : Type} {f : α → List V} {H : Hp} : ∀ {xs : List V} {rs : List α} (n : Nat), Ps f H xs rs → Ps f H (xs.take n) (rs.take n)
  | _, _, 0, _ => .nil
  | _, _, _ + 1, .nil => .nil
  | _, _, n + 1, .cons a b => .cons a (Ps.take n b)
/-- orders as data -/
def oD : Ord → PyData
  | .stay => .tuple [.str "stay"]
  | .go g => .tuple [.str "go", .int g]
  | .back f g => .tuple [.str "back", .int f, .int g]
theorem Ps.ords {K : PySem.W.Frag} {H : Hp} {S : List Addr} (n : NoTup H S) : ∀ {xs : List V} {os : List Ord}, Ps oV H xs os → DpAll K (Ob S H) xs (os.map oD)
  | _, _, .nil => .nil
  | _, o :: _, .cons h t => by
    obtain ⟨a, rfl, e⟩ := h
    refine .cons ?_ (Ps.ords n t)
    have e' := SqT.of (K := K) (Ob.mk (fun z => n a z _ e) e)
    cases o with
    | stay => exact .tup e' (.cons (.str _) .nil)
    | go g => exact .tup e' (.cons (.str _) (.cons (.int _) .nil))
    | back f g => exact .tup e' (.cons (.str _) (.cons (.int _) (.cons (.int _) .nil)))
def OrdsOk (rs ps : List (Int × Int)) (os : List Ord) : Prop := os.length = ps.length ∧ ∀ (i : Nat) (o : Ord) (p : Int × Int), os[i]? = some o → ps[i]? = some p → OrdOk rs ps p.1 o
def spOrders (K : PySem.W.Frag) : Sp := fun vs H Q _ => ∃ (a c : Addr) (v : V) (n : Int) (rs : List (Int × Int)) (cs : List Int) (ps : List (Int × Int)), vs = [.ref a, v] ∧ DeckAt H a c ∧ Da K [a, c] H v (bdD n rs cs ps) ∧ rs.length ≤ 200 ∧ ps.length ≤ 24 ∧
  ∀ (H' : Hp) (p : Addr) (ys : List V) (os : List Ord), OrdsOk rs ps os → H p = none → H' p = some (.tup ys) → Ps oV H' ys os → DeckAt H' a c → Kp [a, c] H H' → Q (.ref p) H'
section
variable {P : Program} {w : World} {K : PySem.W.Frag} {mg : Str → Option Value} {base : Heap}
abbrev nOrders : List Str := ["deck", "board", "chart", "pieces", "gos", "told", "place", "field", "player", "menu", "good", "way", "order"]
theorem scOrders : FnScope nOrders ["deck", "board"] (defScope sOrders) := ⟨rfl, rfl, rfl, by decide +kernel, rfl, by decide +kernel, by decide +kernel⟩
theorem ok_orders {f fD fG fO fP : Addr} {fd fdD fdG fdO fdP : FuncData} (F : Fun K "_law_orders" "_law_orders" sOrders f fd) (FD : Fun K "_law_draw" "_law_draw" sDraw fD fdD) (bD : Binds K fdD ["deck", "many"] []) (gD : mg "_law_draw" = some (.ref fD))
    (FG : Fun K "_law_gos" "_law_gos" sGos fG fdG) (bG : Binds K fdG ["deck", "board"] []) (gG : mg "_law_gos" = some (.ref fG)) (GG : FnOk P w K mg base CX0 3 fG fdG ["deck", "board"] (spGos K))
    (FO : Fun K "_law_orders_of" "_law_orders_of" sOrdersOf fO fdO) (bO : Binds K fdO ["board", "place"] []) (gO : mg "_law_orders_of" = some (.ref fO)) (GO : FnOk P w K mg base CX0 2 fO fdO ["board", "place"] (spOrdersOf K))
    (FP : Fun K "_law_pick" "_law_pick" sPick fP fdP) (bP : Binds K fdP ["deck", "items"] []) (gP : mg "_law_pick" = some (.ref fP))
    (mI : mg "int" = none) (mL : mg "len" = none) (mE : mg "enumerate" = none) (mT : mg "tuple" = none) : FnOk P w K mg base CX0 4 f fd ["deck", "board"] (spOrders K) := by
  have GD : FnOk P w K mg base CX0 1 fD fdD ["deck", "many"] spDraw := ok_draw FD mI
  have GP : FnOk P w K mg base CX0 2 fP fdP ["deck", "items"] (spPick K) := ok_pick FP FD bD gD mI mL
  refine F.ok scOrders (fun vs H Q E h => ?_) (fun cdv A outer s H vs Q E hr h => ?_)
  · obtain ⟨a, c, v, n, rs, cs, ps, rfl, _⟩ := h
    rfl
  · obtain ⟨a, c, v, n, rs, cs, ps, rfl, hD, hv, hrs, hps, k⟩ := h
    have hr1 := hr.mono (show 1 ≤ 3 by decide)
    have hr2 := hr.mono (show 2 ≤ 3 by decide)
    refine ⟨_, pss_cons (ps_asg (pv 1) (pg_tup rfl (pgs_cons (pg_name (i := 2) scOrders.nd rfl (.inl rfl)) (pgs_cons (pg_name (i := 3) scOrders.nd rfl (.inl rfl)) pgs_nil))))
      (pss_cons (ps_asg (pe_tup (pa_cons (pe_call GG hr (by rfl) gG FG.kp bG .nil pass0 (pa_cons (pv 0) (pa_cons (pv 1) pa_nil))) (pa_cons (pe_lst pa_nil) pa_nil))) (pg_tup rfl (pgs_cons (pg_name (i := 4) scOrders.nd rfl (.inr rfl)) (pgs_cons (pg_name (i := 5) scOrders.nd rfl (.inl rfl)) pgs_nil))))
      (pss_cons (ps_for PassesOwn.never rfl (pi_enumT (by rfl) mE (pa_cons (pv 3) pa_nil)) (pg_tup rfl (pgs_cons (pg_name (i := 6) scOrders.nd rfl (.inl rfl)) (pgs_cons (pg_tup rfl (pgs_cons (pg_name (i := 7) scOrders.nd rfl (.inl rfl)) (pgs_cons (pg_name (i := 8) scOrders.nd rfl (.inl rfl)) pgs_nil))) pgs_nil)))
        (pss_cons (ps_if (pt_cmp (pc_din (hu_of hr) (pv 7) (pv 4)))
          (pss_cons (ps_expr (pe_bm PySem.F.plainAttrs_list PySem.F.slot_list_append PySem.F.type_list_append mt_append (pv 5) (pa_cons (pe_tup (pa_cons pe_str (pa_cons (pe_dget (hu_of hr) (pv 4) (pv 7) (fun _ _ => rfl)) pa_nil))) pa_nil))) (pss_one ps_continue)) pss_nil)
        (pss_cons (ps_set (i := 9) scOrders.nd rfl (.inl rfl) (pe_call GO hr2 (by rfl) gO FO.kp bO .nil pass0 (pa_cons (pv 1) (pa_cons (pv 6) pa_nil))))
        (pss_cons (ps_setLc (i := 10) (own := [("order", 12)]) (g := gName 12) rfl scOrders.nd rfl rfl (sw_true rfl rfl rfl (by decide +kernel)) (pi_list (pv 9)) (blkOk_by (own := [("order", 12)]) (N := nOrders) (sc := defScope sOrders) (by decide +kernel))
            (fun _ _ _ _ _ => pg_name (i := 12) scOrders.nd rfl (.inl rfl))
            (fun _ _ _ _ _ => pts_one (PW.pt (pw_and (pt_cmpR op_eq (ktK K (pv 12) pe_int) pe_str (nomark _)) (pw_and1 (pt_cmpR op_eq (pe_dget2 (hu_of hr) (pv 4) (ktK K (pv 12) pe_int) (pe_un un_neg pe_int) ⟨rfl, rfl, rfl, rfl⟩) (ktK K (pv 12) pe_int) (nomark _))))))
            (fun _ _ _ _ _ => pv 12))
        (Evl.pss_cut (ps_set (i := 10) scOrders.nd rfl (.inl rfl) (pe_ifExp (pt_cmpR (op_neD hr.units) (pv 10) (pe_lst pa_nil) (nomark _)) (pv 10)
            (pe_lc (own := [("order", 12)]) (g := gName 12) rfl scOrders.nd (pi_list (pv 9)) (blkOk_by (own := [("order", 12)]) (N := nOrders) (sc := defScope sOrders) (by decide +kernel))
              (fun _ _ _ _ _ => pg_name (i := 12) scOrders.nd rfl (.inl rfl))
              (fun _ _ _ _ _ => pts_one (PW.pt (pw_and (pt_cmpR op_eq (ktK K (pv 12) pe_int) pe_str (nomark _)) (pw_and1 (pt_cmpR op_eq (ktK K (pv 12) pe_int) (ktK K (pv 12) pe_int) (nomark _))))))
              (fun _ _ _ _ _ => pv 12))))
        (pss_cons (ps_set (i := 11) scOrders.nd rfl (.inl rfl) (pe_call GD hr1 (by rfl) gD FD.kp bD .nil pass0 (pa_cons (pv 0) (pa_cons pe_int pa_nil))))
        (Evl.pss_cut (ps_set (i := 9) scOrders.nd rfl (.inl rfl) (pe_ifExp (PW.pt (pw_and (pt_cmpR (op_neD hr.units) (pv 10) (pe_lst pa_nil) (nomark _)) (pw_and1 (pt_cmpR op_lt (pv 11) pe_int (nomark _))))) (pv 10)
            (pe_ifExp (pt_cmpR op_eq (pv 11) pe_int (nomark _)) (pv 9) (pe_slice sl_list (pv 9) po_none (po_some pe_int)))))
        (pss_one (ps_expr (pe_bm PySem.F.plainAttrs_list PySem.F.slot_list_append PySem.F.type_list_append mt_append (pv 5) (pa_cons (pe_call GP hr2 (by rfl) gP FP.kp bP .nil pass0 (pa_cons (pv 0) (pa_cons (pv 9) pa_nil))) pa_nil)))))))))))
      (pss_one (ps_ret (pe_callTy call_tuple_of (by rfl) mT PyProof.Rows.boot_tuple (pa_cons (pv 5) pa_nil)))))), ?_⟩
    obtain ⟨ta, tc, tp, xs, rfl, hb, hch, hpt, hpx⟩ := board_inv (show Dp K (Ob [a, c] H) v _ from hv)
    have up := fun {H' : Hp} (kk : Kp [a, c] H H') => kk.up
    have hlx : xs.length = ps.length := by rw [all_len hpx, List.length_map]
    -- chart, pieces = board
    refine ⟨_, rfl, ta, _, rfl, sameT (up Kp.refl) hb, rfl, .ref tc, _, rfl, .ref tp, _, rfl, rfl, ?_⟩
    -- gos, told
    refine ⟨.ref a, rfl, .ref ta, rfl, a, c, .ref ta, n, rs, cs, ps, rfl, hD, hv, hrs, hps, fun H1 G kvs hG0 hG1 hgo hgl hD1 k1 => ⟨Nat.zero_le _, fun Tl hT0 => ⟨by show 2 ≤ sizeLine; decide, fun Z hZ => ⟨Z, _, rfl, SqT.of upd_same, rfl, .ref G, _, rfl, .ref Tl, _, rfl, rfl, ?_⟩⟩⟩⟩
    obtain ⟨Ga, Gc⟩ := hD.ne hG0
    obtain ⟨Ta, Tc⟩ := hD1.ne hT0
    have TG : Tl ≠ G := (ne_of_none hG1 hT0).symm
    have hTH : H Tl = none := fresh_of k1 (by simp [Ta, Tc]) hT0
    let M : List V → List Ord → Hp → Prop := fun ys os H' => H' G = some (.dK kvs) ∧ H' Tl = some (.lst ys) ∧ Ps oV H' ys os ∧ DeckAt H' a c ∧ Kp [a, c] H H'
    have Mk : ∀ {ys os H' H''}, M ys os H' → Kp [] H' H'' → M ys os H'' := fun {ys os H' H''} ⟨e1, e2, e3, e4, e5⟩ kk => ⟨kk.get (by simp) e1, kk.get (by simp) e2, e3.keep kk noTup_nil, e4.keep kk (by simp) (by simp), e5.trans kk.all⟩
    have Md : ∀ {ys os H' H''}, M ys os H' → DeckAt H'' a c → Kp [a, c] H' H'' → M ys os H'' := fun {ys os H' H''} ⟨e1, e2, e3, e4, e5⟩ d kk => ⟨kk.get (by simp [Ga, Gc]) e1, kk.get (by simp [Ta, Tc]) e2, e3.keep kk (deck_noTup e4), d, e5.trans kk⟩
    have Mp : ∀ {ys os H' T o}, M ys os H' → H' T = some (.tup (oV o)) → M (ys ++ [.ref T]) (os ++ [o]) (upd H' Tl (.lst (ys ++ [.ref T]))) := fun {ys os H' T o} ⟨e1, e2, e3, e4, e5⟩ eT => by
      have kT : Kp [Tl] H' (upd H' Tl (.lst (ys ++ [.ref T]))) := Kp.put (by simp)
      have nT : NoTup H' [Tl] := fun s hs zs e => by rw [List.mem_singleton.mp hs, e2] at e; cases e
      exact ⟨by rw [upd_ne TG.symm]; exact e1, upd_same, Ps.snoc (TpAt.keep (show TpAt oV H' (.ref T) o from ⟨T, rfl, eT⟩) kT nT) (e3.keep kT nT), e4.put Ta Tc, e5.fill hTH⟩
    have M0 : M [] [] (upd (upd H1 Tl (.lst [])) Z (.tup [.ref G, .ref Tl])) := by
      have kk : Kp ([] : List Addr) H1 (upd (upd H1 Tl (.lst [])) Z (.tup [.ref G, .ref Tl])) := (Kp.new hT0).trans (Kp.new hZ)
      exact ⟨kk.get (by simp) hG1, Kp.get (S := []) (Kp.new hZ) (by simp) upd_same, .nil, hD1.keep kk (by simp) (by simp), k1.trans kk.all⟩
    have okc : ∀ {os : List Ord} {o : Ord} {r : Int × Int} {j : Nat}, os.length = j → (∀ (i : Nat) (o : Ord) (p : Int × Int), os[i]? = some o → ps[i]? = some p → OrdOk rs ps p.1 o) → ps[j]? = some r → OrdOk rs ps r.1 o →
        (os ++ [o]).length = j + 1 ∧ ∀ (i : Nat) (q : Ord) (p : Int × Int), (os ++ [o])[i]? = some q → ps[i]? = some p → OrdOk rs ps p.1 q := fun {os o r j} hl h hr ho => by
      refine ⟨by rw [List.length_append, hl]; rfl, fun i q p hq hp => ?_⟩
      by_cases hi : i < os.length
      · rw [List.getElem?_append_left hi] at hq
        exact h i q p hq hp
      · rw [List.getElem?_append_right (by omega)] at hq
        have hi0 : i - os.length = 0 := by
          by_cases e : i - os.length = 0
          · exact e
          · rw [List.getElem?_eq_none (by simp; omega)] at hq
            cases hq
        rw [hi0] at hq
        have e : o = q := Option.some.inj hq
        have ei : i = j := by omega
        rw [ei, hr] at hp
        cases hp
        rw [← e]
        exact ho
    refine ⟨.ref tp, rfl, tp, xs, rfl, sameT (up M0.2.2.2.2) hpt, for_it walk_enumT
      (fun j σ H' => ∃ v6 v7 v8 v9 v10 v11 ys os, σ = [some (.ref a), some (.ref ta), some (.ref tc), some (.ref tp), some (.ref G), some (.ref Tl), v6, v7, v8, v9, v10, v11, none] ∧ M ys os H' ∧ os.length = j ∧ (∀ (i : Nat) (o : Ord) (p : Int × Int), os[i]? = some o → ps[i]? = some p → OrdOk rs ps p.1 o))
      ⟨_, _, _, _, _, _, [], [], rfl, M0, rfl, fun i o p h => by simp at h⟩ (fun j σ H' _ ⟨_, _, _, _, _, _, _, _, _, hM, _⟩ => sameT (up hM.2.2.2.2) hpt) ?_ ?_⟩
    · rintro j x σ H' H'' hj ⟨v6, v7, v8, v9, v10, v11, ys, os, rfl, hM, hol, hok⟩ ⟨Tq, x1, x2, rfl, hTq, rfl, ex1, ex2⟩
      cases ex1
      obtain ⟨r, q, hr', rfl, hqt⟩ := pairs_at hpx ex2
      have kq : Kp ([] : List Addr) H' (upd H' Tq (.tup [.int (j : Nat), .ref q])) := Kp.new hTq
      have hM := Mk hM kq
      refine ⟨Tq, _, rfl, SqT.of upd_same, rfl, .int (j : Nat), _, rfl, .ref q, _, rfl, ⟨q, _, rfl, sameT (up hM.2.2.2.2) hqt, rfl, .int r.1, _, rfl, .int r.2, _, rfl, rfl, rfl, ?_⟩⟩
      generalize upd H' Tq (.tup [.int (j : Nat), .ref q]) = H2 at hM
      have hj24 : j < 24 := by omega
      have hyl : ys.length ≤ 1000 := by rw [hM.2.2.1.len, hol]; omega
      -- if field in gos
      refine ⟨.int r.1, rfl, .ref G, rfl, G, _, rfl, DGet.k (k := .inl r.1) hM.1, _, rfl, ?_⟩
      cases eg : valV kvs (.inl r.1) with
      | some w' =>
        obtain ⟨g, rfl, hg1, hg2⟩ := hgo.get eg
        refine iteT ⟨.ref Tl, rfl, .inl ⟨rfl, _, SqL.of hM.2.1⟩, .ref G, rfl, .int r.1, rfl, G, .int g, rfl, (by have z := DGet.k (k := .inl r.1) hM.1; rw [eg] at z; exact z), by show 2 ≤ sizeLine; decide, fun T hT => ?_⟩
        have kT : Kp ([] : List Addr) H2 (upd H2 T (.tup [.str "go", .int g])) := Kp.new hT
        have hM3 := Mk hM kT
        refine ⟨Tl, _, _, rfl, rfl, hM3.2.1, small1000 hyl, ?_⟩
        have ho := okc (o := .go g) hol hok hr' hg2
        exact ⟨_, _, _, _, _, _, _, _, rfl, Mp (o := .go g) hM3 upd_same, ho.1, ho.2⟩
      | none =>
        refine iteF ?_
        -- menu
        refine ⟨.ref ta, rfl, .int (j : Nat), rfl, .ref ta, j, n, rs, cs, ps, r, rfl, Dp.same (up hM.2.2.2.2) _ hv, hrs, hps, hr', fun H3 Lm zs os3 hmenu hL0 hL3 hP3 hzl k3 => ?_⟩
        have hM3 := Mk hM k3
        obtain ⟨La, Lc⟩ := hM.2.2.2.1.ne hL0
        have hok3 := hmenu.ok
        have hne3 : zs ≠ [] := fun e => by
          obtain ⟨reach, bs, _, _, _, _, e3⟩ := hmenu.eq
          have := hP3.len
          rw [e, e3] at this
          simp at this
        -- good
        refine ⟨.ref Lm, rfl, Lm, rfl, ⟨_, SqL.of hL3⟩, fun D hD0 => ?_⟩
        refine lc_ords (K := K) (L := Lm) (xs := zs) (os := os3) (fitGo kvs) (i := 12) hL3 hP3 hD0 hzl (fun x => rfl) (fun x => rfl) (fun o ho T H4 k4 hT R kk => ?_) fun H4 us hD4 hP4 k4 => ?_
        · have hM4 := Mk hM3 k4
          cases o with
          | stay =>
            refine ⟨.ref T, rfl, T, _, 0, _, rfl, rfl, SqT.of hT, at0, rfl, _, rfl, ?_⟩
            rw [show decide (V.str "stay" = V.str "back") = false from word_back .stay]
            exact iteF (kk H4 Kp.refl)
          | go g =>
            refine ⟨.ref T, rfl, T, _, 0, _, rfl, rfl, SqT.of hT, at0, rfl, _, rfl, ?_⟩
            rw [show decide (V.str "go" = V.str "back") = false from word_back (.go g)]
            exact iteF (kk H4 Kp.refl)
          | back f g =>
            refine ⟨.ref T, rfl, T, _, 0, _, rfl, rfl, SqT.of hT, at0, rfl, _, rfl, ?_⟩
            rw [show decide (V.str "back" = V.str "back") = true from word_back (.back f g)]
            refine iteT ⟨.ref G, rfl, G, rfl, .inl ⟨_, .inl hM4.1⟩, .ref T, rfl, T, _, 1, _, rfl, rfl, SqT.of hT, at1, 1, rfl, _, DGet.k (k := .inl f) hM4.1, .ref T, rfl, T, _, 2, _, rfl, rfl, SqT.of hT, at2, ?_⟩
            have hz : ∃ z, (valV kvs (.inl f)).getD (.int (-1)) = .int z := by
              cases e : valV kvs (.inl f) with
              | none => exact ⟨-1, rfl⟩
              | some y =>
                obtain ⟨z, rfl, _⟩ := hgo.get e
                exact ⟨z, rfl⟩
            obtain ⟨z, hz⟩ := hz
            refine ⟨by rw [hz]; rfl, _, rfl, ?_⟩
            exact kk H4 Kp.refl
        have hM4 := Mk hM3 k4
        have hL4 := k4.get (by simp) hL3
        have hP34 := hP3.keep k4 noTup_nil
        have hDa := hM3.2.2.2.1.ne hD0
        -- good, again
        refine ⟨fun σ H5 => ∃ v12 L5 us os5, σ = [some (.ref a), some (.ref ta), some (.ref tc), some (.ref tp), some (.ref G), some (.ref Tl), some (.int (j : Nat)), some (.int r.1), some (.int r.2), some (.ref Lm), some (.ref L5), v12, none] ∧ M ys os H5 ∧ H5 Lm = some (.lst zs) ∧ Ps oV H5 zs os3 ∧
          H5 L5 = some (.lst us) ∧ Ps oV H5 us os5 ∧ (∀ o ∈ os5, OrdOk rs ps r.1 o) ∧ us.length ≤ 10000 ∧ L5 ≠ a ∧ L5 ≠ c, ?_, ?_⟩
        · have hul : us.length ≤ 10000 := by
            rw [hP4.len]
            refine Nat.le_trans (List.length_filter_le _ _) ?_
            rw [← hP3.len]
            exact hzl
          refine ⟨.ref D, rfl, Nat.zero_le _, fun Z2 hZ2 => ?_⟩
          have kZ : Kp ([] : List Addr) H4 (upd H4 Z2 (.lst [])) := Kp.new hZ2
          have hM5 := Mk hM4 kZ
          have hL5 := kZ.get (by simp) hL4
          have hP5 := hP34.keep kZ noTup_nil
          have hD5 := kZ.get (by simp) hD4
          have hQ5 := hP4.keep kZ noTup_nil
          refine ne_nil (SqL.of hD5) (fun x hx => let ⟨_, _, z⟩ := hQ5.mem hx; sh_ord z) upd_same ⟨_, rfl, ?_⟩
          generalize upd H4 Z2 (.lst []) = H5 at hM5 hL5 hP5 hD5 hQ5
          refine ite2 (fun _ => ?_) (fun _ => ?_)
          · exact ⟨.ref D, rfl, _, D, us, _, rfl, hM5, hL5, hP5, hD5, hQ5, fun o ho => hok3 o (List.mem_filter.mp ho).1, hul, hDa.1, hDa.2⟩
          · refine ⟨.ref Lm, rfl, Lm, rfl, ⟨_, SqL.of hL5⟩, fun D2 hD20 => ?_⟩
            refine lc_ords (K := K) (L := Lm) (xs := zs) (os := os3) fitStay (i := 12) hL5 hP5 hD20 hzl (fun x => rfl) (fun x => rfl) (fun o ho T H6 k6 hT R kk => ?_) fun H6 us2 hD6 hP6 k6 => ?_
            · cases o with
              | stay =>
                refine ⟨.ref T, rfl, T, _, 0, _, rfl, rfl, SqT.of hT, at0, rfl, _, rfl, ?_⟩
                rw [show decide (V.str "stay" = V.str "back") = false from word_back .stay]
                exact iteF (kk H6 Kp.refl)
              | go g =>
                refine ⟨.ref T, rfl, T, _, 0, _, rfl, rfl, SqT.of hT, at0, rfl, _, rfl, ?_⟩
                rw [show decide (V.str "go" = V.str "back") = false from word_back (.go g)]
                exact iteF (kk H6 Kp.refl)
              | back f g =>
                refine ⟨.ref T, rfl, T, _, 0, _, rfl, rfl, SqT.of hT, at0, rfl, _, rfl, ?_⟩
                rw [show decide (V.str "back" = V.str "back") = true from word_back (.back f g)]
                refine iteT ⟨.ref T, rfl, T, _, 1, _, rfl, rfl, SqT.of hT, at1, .ref T, rfl, T, _, 2, _, rfl, rfl, SqT.of hT, at2, rfl, _, rfl, ?_⟩
                exact kk H6 Kp.refl
            have hM6 := Mk hM5 k6
            have hD2a := hM5.2.2.2.1.ne hD20
            refine ⟨_, D2, us2, _, rfl, hM6, k6.get (by simp) hL5, hP5.keep k6 noTup_nil, hD6, hP6, fun o ho => hok3 o (List.mem_filter.mp ho).1, ?_, hD2a.1, hD2a.2⟩
            rw [hP6.len]
            refine Nat.le_trans (List.length_filter_le _ _) ?_
            rw [← hP3.len]
            exact hzl
        · clear hM4 hL4 hP34 hDa hD4 hP4 k4
          rintro σ H5 ⟨v12, L5, us, os5, rfl, hM5, hL5, hP5, hU5, hQ5, hok5, hul, L5a, L5c⟩
          -- way
          refine ⟨.ref a, rfl, a, c, 7, rfl, hM5.2.2.2.1, by decide, by decide, fun H6 w' w0 w1 hD6 k6 => ?_⟩
          have hM6 := Md hM5 hD6 k6
          have hL6 := k6.get (by simp [La, Lc]) hL5
          have hP6 := hP5.keep k6 (deck_noTup hM5.2.2.2.1)
          have hU6 := k6.get (by simp [L5a, L5c]) hU5
          have hQ6 := hQ5.keep k6 (deck_noTup hM5.2.2.2.1)
          clear hM5 hL5 hP5 hU5 hQ5 w0 w1 hD6 k6
          -- menu
          refine ⟨fun σ H7 => ∃ v10 v11 L7 us os7, σ = [some (.ref a), some (.ref ta), some (.ref tc), some (.ref tp), some (.ref G), some (.ref Tl), some (.int (j : Nat)), some (.int r.1), some (.int r.2), some (.ref L7), v10, v11, none] ∧ M ys os H7 ∧
            H7 L7 = some (.lst us) ∧ Ps oV H7 us os7 ∧ (∀ o ∈ os7, OrdOk rs ps r.1 o) ∧ us ≠ [] ∧ us.length ≤ 10000 ∧ L7 ≠ a ∧ L7 ≠ c, ?_, ?_⟩
          · refine ⟨.ref L5, rfl, Nat.zero_le _, fun Z2 hZ2 => ?_⟩
            have kZ : Kp ([] : List Addr) H6 (upd H6 Z2 (.lst [])) := Kp.new hZ2
            have hM7 := Mk hM6 kZ
            have hL7 := kZ.get (by simp) hL6
            have hP7 := hP6.keep kZ noTup_nil
            have hU7 := kZ.get (by simp) hU6
            have hQ7 := hQ6.keep kZ noTup_nil
            refine ne_nil (SqL.of hU7) (fun x hx => let ⟨_, _, z⟩ := hQ7.mem hx; sh_ord z) upd_same ⟨_, rfl, ?_⟩
            generalize upd H6 Z2 (.lst []) = H7 at hM7 hL7 hP7 hU7 hQ7
            have other : tIf (tTest (tOp rEq (tVar 11) (tC (.int 5)))) (tVar 9) (tSl (rSlL K) (tVar 9) tNoPart (tPart (tC (.int 1)))) [some (.ref a), some (.ref ta), some (.ref tc), some (.ref tp), some (.ref G), some (.ref Tl), some (.int (j : Nat)), some (.int r.1), some (.int r.2), some (.ref Lm), some (.ref L5), some (.int w'), none] H7
                (fun x H8 => ∃ v10 v11 L7 us os7, ([some (.ref a), some (.ref ta), some (.ref tc), some (.ref tp), some (.ref G), some (.ref Tl), some (.int (j : Nat)), some (.int r.1), some (.int r.2), some x, some (.ref L5), some (.int w'), none] : Sl) = [some (.ref a), some (.ref ta), some (.ref tc), some (.ref tp), some (.ref G), some (.ref Tl), some (.int (j : Nat)), some (.int r.1), some (.int r.2), some (.ref L7), v10, v11, none] ∧ M ys os H8 ∧
                  H8 L7 = some (.lst us) ∧ Ps oV H8 us os7 ∧ (∀ o ∈ os7, OrdOk rs ps r.1 o) ∧ us ≠ [] ∧ us.length ≤ 10000 ∧ L7 ≠ a ∧ L7 ≠ c) := by
              refine ⟨_, rfl, rfl, _, rfl, ?_⟩
              refine ite2 (fun _ => ?_) (fun _ => ?_)
              · exact ⟨.ref Lm, rfl, _, _, Lm, zs, os3, rfl, hM7, hL7, hP7, hok3, hne3, hzl, La, Lc⟩
              · refine ⟨.ref Lm, rfl, 1, rfl, Lm, _, rfl, SqL.of hL7, fun N hN => ?_⟩
                rw [cut_to _ _ (by decide)]
                have kN : Kp ([] : List Addr) H7 (upd H7 N (.lst (zs.take (1 : Int).toNat))) := Kp.new hN
                have hNa := hM7.2.2.2.1.ne hN
                refine ⟨_, _, N, _, os3.take (1 : Int).toNat, rfl, Mk hM7 kN, upd_same, (hP7.keep kN noTup_nil).take _, fun o ho => hok3 o (List.mem_of_mem_take ho), ?_, ?_, hNa.1, hNa.2⟩
                · cases zs with
                  | nil => exact absurd rfl hne3
                  | cons z zs => simp
                · rw [List.length_take]
                  omega
            refine ite2 (fun hne => ?_) (fun _ => iteF other)
            have hne : us ≠ [] := fun e => by simp [e] at hne
            refine ⟨.int w', rfl, _, _, rfl, rfl, _, rfl, ite2 (fun _ => ?_) (fun _ => other)⟩
            exact ⟨.ref L5, rfl, _, _, L5, us, os5, rfl, hM7, hU7, hQ7, hok5, hne, hul, L5a, L5c⟩
          · clear hM6 hL6 hP6 hU6 hQ6 hul L5a L5c hok5
            rintro σ H7 ⟨v10, v11, L7, us, os7, rfl, hM7, hU7, hQ7, hok7, hne7, hul, L7a, L7c⟩
            -- told.append(pick)
            refine ⟨.ref Tl, rfl, .inl ⟨rfl, _, SqL.of hM7.2.1⟩, .ref a, rfl, .ref L7, rfl, a, c, L7, us, rfl, hM7.2.2.2.1, L7a, L7c, SqL.of hU7, hne7, by omega, fun H8 x hx hD8 k8 => ?_⟩
            have hM8 := Md hM7 hD8 k8
            obtain ⟨o, ho, T, rfl, hT⟩ := (hQ7.keep k8 (deck_noTup hM7.2.2.2.1)).mem hx
            refine ⟨Tl, _, _, rfl, rfl, hM8.2.1, small1000 hyl, ?_⟩
            have hoo := okc (o := o) hol hok hr' (hok7 o ho)
            exact ⟨_, _, _, _, _, _, _, _, rfl, Mp hM8 hT, hoo.1, hoo.2⟩
    · rintro σ H2 ⟨v6, v7, v8, v9, v10, v11, ys, os, rfl, hM, hol, hok⟩
      refine ⟨.ref Tl, rfl, Tl, _, rfl, .inl ⟨SqL.of hM.2.1, fun p hp => ?_⟩⟩
      have kp : Kp ([] : List Addr) H2 (upd H2 p (.tup ys)) := Kp.new hp
      have hMp := Mk hM kp
      exact k _ p ys os ⟨by rw [hol, hlx], hok⟩ (fresh_of hM.2.2.2.2 (by have := hM.2.2.2.1.ne hp; simp [this]) hp) upd_same hMp.2.2.1 hMp.2.2.2.1 hMp.2.2.2.2
end
end Kt

set_option Elab.async false
set_option linter.all false
set_option maxRecDepth 100000
set_option maxHeartbeats 4000000
namespace Kt
open PySem PySem.Spec PyProof.Rows L2
def spotOf (ps : List (Int × Int)) (f : Int) : Nat := ps.findIdx fun p => decide (p.1 = f)
theorem spot_lt {ps : List (Int × Int)} {f : Int} (h : f ∈ ps.map (·.1)) : spotOf ps f < ps.length := by
  obtain ⟨p, hp, rfl⟩ := List.mem_map.mp h
  exact List.findIdx_lt_length_of_exists ⟨p, hp, by simp⟩
theorem spot_eq {ps : List (Int × Int)} {f : Int} {j : Nat} {p : Int × Int} (hj : ps[j]? = some p) (hp : p.1 = f) (h : ∀ (i : Nat) (q : Int × Int), i < j → ps[i]? = some q → q.1 ≠ f) : spotOf ps f = j := by
  obtain ⟨hl, e⟩ := List.getElem?_eq_some_iff.mp hj
  unfold spotOf
  refine (List.findIdx_eq hl).mpr ⟨by rw [e]; simp [hp], fun i hi => ?_⟩
  have := h i _ hi (List.getElem?_eq_getElem (by omega))
  simp [this]
def isGo : Ord → Bool
  | .go _ => true
  | _ => false
theorem word_go' (o : Ord) : decide (V.str (word o) = V.str "go") = isGo o := by
  rw [word_go]
  cases o <;> rfl
def fitO (o : Ord) (f g : Int) : Bool := if g = f then !isGo o else decide (o = .go g)
/-- what the back of f at g is told -/
def fitF (ps : List (Int × Int)) (os : List Ord) (f g : Int) : Bool := match os[spotOf ps f]? with
  | some o => fitO o f g
  | none => false
theorem eqv_go (o : Ord) (g : Int) : PyData.eqv (oD o) (.tuple [.str "go", .int g]) = decide (o = .go g) := by
  have h1 : (("stay" : Str) == "go") = false := by decide +kernel
  have h2 : (("back" : Str) == "go") = false := by decide +kernel
  cases o with
  | stay => simp [oD, PyData.eqv, PyData.eqvAll, h1]
  | go z => by_cases h : z = g <;> simp [oD, PyData.eqv, PyData.eqvAll, h]
  | back f z => simp [oD, PyData.eqv, PyData.eqvAll, h2]
theorem ord_data {K : PySem.W.Frag} {H : Hp} {x : V} {o : Ord} (h : TpAt oV H x o) : Dp K H x (oD o) := by
  obtain ⟨t, rfl, e⟩ := h
  cases o with
  | stay => exact .tup (SqT.of e) (.cons (.str _) .nil)
  | go g => exact .tup (SqT.of e) (.cons (.str _) (.cons (.int _) .nil))
  | back f g => exact .tup (SqT.of e) (.cons (.str _) (.cons (.int _) (.cons (.int _) .nil)))
theorem shaped_ord (o : Ord) : SeqAt.shaped (oD o) = true := by
  have h1 : PyData.strOk "stay" = true := by decide +kernel
  have h2 : PyData.strOk "go" = true := by decide +kernel
  have h3 : PyData.strOk "back" = true := by decide +kernel
  cases o <;> exact shaped_of (by simp [oD, PyData.canLay0, PyData.canLayAll0, h1, h2, h3]) (by simp [oD, PyData.depth, PyData.depthAll])
def spFits (K : PySem.W.Frag) : Sp := fun vs H Q _ => ∃ (v : V) (n : Int) (rs : List (Int × Int)) (cs : List Int) (ps : List (Int × Int)) (t : Addr) (ys : List V) (os : List Ord) (i : Nat) (f g : Int), vs = [v, .ref t, .int i] ∧ Dp K H v (bdD n rs cs ps) ∧ SqT K H t ys ∧ Ps oV H ys os ∧
  os.length = ps.length ∧ os[i]? = some (.back f g) ∧ f ∈ ps.map (·.1) ∧ ps.length ≤ 24 ∧ ∀ H', Kp [] H H' → Q (.bl (fitF ps os f g)) H'
def spPlaceIn (K : PySem.W.Frag) : Sp := fun vs H Q _ => ∃ (v : V) (n : Int) (rs : List (Int × Int)) (cs : List Int) (ps : List (Int × Int)) (f : Int), vs = [v, .int f] ∧ Dp K H v (bdD n rs cs ps) ∧ f ∈ ps.map (·.1) ∧ ∀ H', Kp [] H H' → Q (.int (spotOf ps f : Nat)) H'
def spBoard (K : PySem.W.Frag) : Sp := fun vs H Q _ => ∃ (a c : Addr) (n m : Int), vs = [.ref a, .int n, .int m] ∧ DeckAt H a c ∧ 0 < n ∧ n ≤ 24 ∧ 0 ≤ m ∧ m ≤ 100 ∧
  ∀ (H' : Hp) (v : V) (rs : List (Int × Int)) (cs : List Int) (ps : List (Int × Int)), ChOk n rs cs → PsOk n ps → ps.length = min m.toNat n.toNat → Da K [a, c] H' v (bdD n rs cs ps) → DeckAt H' a c → Kp [a, c] H H' → Q v H'
section
variable {P : Program} {w : World} {K : PySem.W.Frag} {mg : Str → Option Value} {base : Heap}
theorem scBoard : FnScope ["deck", "fields", "many", "chart"] ["deck", "fields", "many"] (defScope sBoard) := ⟨rfl, rfl, rfl, by decide +kernel, rfl, by decide +kernel, by decide +kernel⟩
theorem ok_board {f fD fC fP : Addr} {fd fdD fdC fdP : FuncData} (F : Fun K "_law_board" "_law_board" sBoard f fd) (FD : Fun K "_law_draw" "_law_draw" sDraw fD fdD) (bD : Binds K fdD ["deck", "many"] []) (gD : mg "_law_draw" = some (.ref fD))
    (FC : Fun K "_law_chart" "_law_chart" sChart fC fdC) (bC : Binds K fdC ["deck", "many", "more"] []) (gC : mg "_law_chart" = some (.ref fC)) (GC : FnOk P w K mg base CX0 2 fC fdC ["deck", "many", "more"] (spChart K))
    (FP : Fun K "_law_pieces" "_law_pieces" sPieces fP fdP) (bP : Binds K fdP ["deck", "chart", "many"] []) (gP : mg "_law_pieces" = some (.ref fP)) (GP : FnOk P w K mg base CX0 3 fP fdP ["deck", "chart", "many"] (spPieces K))
    (mI : mg "int" = none) : FnOk P w K mg base CX0 4 f fd ["deck", "fields", "many"] (spBoard K) := by
  have GD : FnOk P w K mg base CX0 1 fD fdD ["deck", "many"] spDraw := ok_draw FD mI
  refine F.ok scBoard (fun vs H Q E h => ?_) (fun cdv A outer s H vs Q E hr h => ?_)
  · obtain ⟨a, c, n, m, rfl, _⟩ := h
    rfl
  · obtain ⟨a, c, n, m, rfl, hD, hn0, hn1, hm0, hm1, k⟩ := h
    refine ⟨_, pss_cons (ps_set (i := 3) scBoard.nd rfl (.inl rfl) (pe_call GC (hr.mono (by decide)) (by rfl) gC FC.kp bC .nil pass0 (pa_cons (pv 0) (pa_cons (pv 1) (pa_cons (pe_op op_add pe_int (pe_call GD (hr.mono (by decide)) (by rfl) gD FD.kp bD .nil pass0 (pa_cons (pv 0) (pa_cons pe_int pa_nil)))) pa_nil)))))
      (pss_one (ps_ret (pe_tup (pa_cons (pv 3) (pa_cons (pe_call GP hr (by rfl) gP FP.kp bP .nil pass0 (pa_cons (pv 0) (pa_cons (pv 3) (pa_cons (pv 2) pa_nil)))) pa_nil))))), ?_⟩
    refine ⟨.ref a, rfl, .int n, rfl, .ref a, rfl, a, c, 4, rfl, hD, by decide, by decide, fun H1 r r0 r1 hD1 k1 => ⟨1, r, rfl, rfl, a, c, n, 1 + r, rfl, hD1, hn0, hn1, by omega, by omega, fun H2 v rs cs hch hv hD2 k2 => ?_⟩⟩
    refine ⟨v, rfl, .ref a, rfl, v, rfl, .int m, rfl, a, c, v, n, m, rs, cs, rfl, hD2, hv, hn0, hn1, hm0, hm1, fun H3 u ps hps hpl hu hD3 k3 => ⟨by show 2 ≤ sizeLine; decide, fun p hp => ?_⟩⟩
    have kp : Kp ([] : List Addr) H3 (upd H3 p (.tup [v, u])) := Kp.new hp
    have hDp := hD3.keep kp (by simp) (by simp)
    have hne := hD3.ne hp
    refine k _ (.ref p) rs cs ps hch hps hpl ?_ hDp ((k1.trans k2).trans (k3.trans kp.all))
    exact .tup (SqT.of (Ob.mk (by simp [hne]) upd_same)) (.cons ((hv.keep k3).keep kp.all) (.cons (hu.keep kp.all) .nil))
end
end Kt

set_option Elab.async false
set_option linter.all false
set_option maxRecDepth 100000
set_option maxHeartbeats 4000000
namespace Kt
open PySem PySem.Spec PyProof.Rows L2
abbrev sClash : Stmt := s_cls_Clash
abbrev sInit : Stmt := inClass sClash 0
abbrev sIsFit : Stmt := inClass sClash 10
def FS (t : V) (lf lp dp dg lb : Addr) : List (Str × V) := putF "_backers" (.ref lb) (putF "_goers" (.ref dg) (putF "_places" (.ref dp) (putF "players" (.ref lp) (putF "fields" (.ref lf) (putF "orders" t [])))))
theorem fs_orders {t : V} {lf lp dp dg lb : Addr} : (FS t lf lp dp dg lb).lookup ("orders" : Str) = some t := by
  unfold FS
  rw [lookup_putF, if_neg (by decide +kernel), lookup_putF, if_neg (by decide +kernel), lookup_putF, if_neg (by decide +kernel), lookup_putF, if_neg (by decide +kernel), lookup_putF, if_neg (by decide +kernel), lookup_putF, if_pos rfl]
theorem fs_places {t : V} {lf lp dp dg lb : Addr} : (FS t lf lp dp dg lb).lookup ("_places" : Str) = some (.ref dp) := by
  unfold FS
  rw [lookup_putF, if_neg (by decide +kernel), lookup_putF, if_neg (by decide +kernel), lookup_putF, if_pos rfl]
theorem fs_goers {t : V} {lf lp dp dg lb : Addr} : (FS t lf lp dp dg lb).lookup ("_goers" : Str) = some (.ref dg) := by
  unfold FS
  rw [lookup_putF, if_neg (by decide +kernel), lookup_putF, if_pos rfl]
theorem fs_backers {t : V} {lf lp dp dg lb : Addr} : (FS t lf lp dp dg lb).lookup ("_backers" : Str) = some (.ref lb) := by
  unfold FS
  rw [lookup_putF, if_pos rfl]
theorem fs_fit {t : V} {lf lp dp dg lb : Addr} : (FS t lf lp dp dg lb).lookup ("is_fitting" : Str) = none := by
  unfold FS
  rw [lookup_putF, if_neg (by decide +kernel), lookup_putF, if_neg (by decide +kernel), lookup_putF, if_neg (by decide +kernel), lookup_putF, if_neg (by decide +kernel), lookup_putF, if_neg (by decide +kernel), lookup_putF, if_neg (by decide +kernel)]
  rfl
structure ClT (K : PySem.W.Frag) (mg : Str → Option Value) (C : Addr) : Prop where
  cl : Cls K C
  nO : NoAttr K C "orders"
  nF : NoAttr K C "fields"
  nP : NoAttr K C "players"
  nL : NoAttr K C "_places"
  nG : NoAttr K C "_goers"
  nB : NoAttr K C "_backers"
  mgC : mg "Clash" = some (.ref C)
/-- the places by fields -/
def PlD (H : Hp) (dp : Addr) (ps : List (Int × Int)) : Prop := ∃ kvs, H dp = some (.dK kvs) ∧ kvs.length ≤ 100 ∧ (∀ f ∈ ps.map (·.1), valV kvs (.inl f) = some (.int (spotOf ps f : Nat))) ∧ ∀ F, F ∉ ps.map (·.1) → valV kvs (.inl F) = none
def spIsFit (K : PySem.W.Frag) (C : Addr) : Sp := fun vs H Q _ => ∃ (me dx t lf lp dp dg lb : Addr) (ys : List V) (os : List Ord) (ps : List (Int × Int)) (i : Nat) (f g : Int), vs = [.ref me, .int i] ∧ H me = some (.ins C dx (FS (.ref t) lf lp dp dg lb)) ∧ SqT K H t ys ∧ Ps oV H ys os ∧ PlD H dp ps ∧
  os.length = ps.length ∧ os[i]? = some (.back f g) ∧ f ∈ ps.map (·.1) ∧ ∀ H', Kp [] H H' → Q (.bl (fitF ps os f g)) H'
section
variable {P : Program} {w : World} {K : PySem.W.Frag} {mg : Str → Option Value} {base : Heap}
/-- whether an order of backing fits the order it backs -/
def spIsFitD (K : PySem.W.Frag) : Sp := fun vs H Q _ => ∃ (T1 T2 : Addr) (f g : Int) (o : Ord), vs = [.ref T1, .ref T2] ∧ H T1 = some (.tup (oV (.back f g))) ∧ H T2 = some (.tup (oV o)) ∧ ∀ H', Kp [] H H' → Q (.bl (fitO o f g)) H'
theorem scIsFitD : FnScope ["back", "backed", "_", "field", "aim"] ["back", "backed"] (defScope s_is_fit) := ⟨rfl, rfl, rfl, by decide +kernel, rfl, by decide +kernel, by decide +kernel⟩
theorem ok_isFitD {f : Addr} {fd : FuncData} (F : Fun K "is_fit" "is_fit" s_is_fit f fd) : FnOk P w K mg base CX0 1 f fd ["back", "backed"] (spIsFitD K) := by
  refine F.ok scIsFitD (fun vs H Q E h => ?_) (fun cdv A outer s H vs Q E hr h => ?_)
  · obtain ⟨T1, T2, f, g, o, rfl, _⟩ := h
    rfl
  · obtain ⟨T1, T2, f, g, o, rfl, hT, hT2, k⟩ := h
    refine ⟨_, pss_cons (ps_asg (pv 0) (pg_tup rfl (pgs_cons (pg_name (i := 2) scIsFitD.nd rfl (.inl rfl)) (pgs_cons (pg_name (i := 3) scIsFitD.nd rfl (.inl rfl)) (pgs_cons (pg_name (i := 4) scIsFitD.nd rfl (.inl rfl)) pgs_nil)))))
      (pss_cons (ps_if (pt_cmpR op_eq (pv 4) (pv 3) (nomark _)) (pss_one (ps_ret (pe_cmpR op_ne (kt (pv 1) pe_int) pe_str (nomark _)))) pss_nil)
      (pss_one (ps_ret (pe_cmpR (op_eqD hr.units) (pv 1) (pe_tup (pa_cons pe_str (pa_cons (pv 4) pa_nil))) (nomark _))))), ?_⟩
    refine ⟨.ref T1, rfl, T1, _, rfl, SqT.of hT, rfl, .str "back", _, rfl, .int f, _, rfl, .int g, _, rfl, rfl, ?_⟩
    refine ⟨.int g, rfl, .int f, rfl, rfl, _, rfl, ?_⟩
    refine ite2 (fun he => ?_) (fun he => ?_)
    · have he : g = f := by simpa using he
      obtain ⟨rr, er⟩ := oV_word o
      refine ⟨.ref T2, rfl, T2, _, 0, _, rfl, rfl, SqT.of hT2, by rw [er]; exact at0, rfl, ?_⟩
      rw [word_go']
      have e : fitO o f g = !isGo o := by unfold fitO; rw [if_pos he]
      rw [e] at k
      exact k H Kp.refl
    · have he : ¬ g = f := fun e => he (by simp [e])
      refine ⟨.ref T2, rfl, .int g, rfl, by show 2 ≤ sizeLine; decide, fun Z hZ => ?_⟩
      have kZ : Kp ([] : List Addr) H (upd H Z (.tup [.str "go", .int g])) := Kp.new hZ
      refine ⟨oD o, .tuple [.str "go", .int g], ord_data ⟨T2, rfl, kZ.get (by simp) hT2⟩, .tup (SqT.of upd_same) (.cons (.str _) (.cons (.int _) .nil)), shaped_ord o, shaped_ord (.go g), ?_⟩
      rw [eqv_go]
      have e : fitO o f g = decide (o = .go g) := by unfold fitO; rw [if_neg he]
      rw [e] at k
      exact k _ kZ
theorem scIsFit : FnScope ["self", "place", "order"] ["self", "place"] (defScope sIsFit) := ⟨rfl, rfl, rfl, by decide +kernel, rfl, by decide +kernel, by decide +kernel⟩
theorem ok_isFit {f C fD : Addr} {fd fdD : FuncData} (F : Fun K "is_fitting" "Clash.is_fitting" sIsFit f fd) (T : ClT K mg C) (FD : Fun K "is_fit" "is_fit" s_is_fit fD fdD) (bD : Binds K fdD ["back", "backed"] []) (gD : mg "is_fit" = some (.ref fD)) : FnOk P w K mg base CX0 2 f fd ["self", "place"] (spIsFit K C) := by
  have GD : FnOk P w K mg base CX0 1 fD fdD ["back", "backed"] (spIsFitD K) := ok_isFitD FD
  refine F.ok scIsFit (fun vs H Q E h => ?_) (fun cdv A outer s H vs Q E hr h => ?_)
  · obtain ⟨me, dx, t, lf, lp, dp, dg, lb, ys, os, ps, i, f, g, rfl, _⟩ := h
    rfl
  · obtain ⟨me, dx, t, lf, lp, dp, dg, lb, ys, os, ps, i, f, g, rfl, hM, ht, hy, ⟨kvs, hd, hk, hv, _⟩, hlen, hi, hf, k⟩ := h
    refine ⟨_, pss_cons (ps_set (i := 2) scIsFit.nd rfl (.inl rfl) (kt (pe_fld (pv 0) rfl) (pv 1)))
      (pss_one (ps_ret (pe_call GD hr (by rfl) gD FD.kp bD .nil pass0 (pa_cons (pv 2) (pa_cons (kt (pe_fld (pv 0) rfl) (pe_dget (hu_of hr) (pe_fld (pv 0) rfl) (kt (pv 2) pe_int) (fun _ _ => rfl)) (fun _ _ => rfl)) pa_nil))))), ?_⟩
    have hyl := hy.len
    obtain ⟨x, hx⟩ : ∃ x, ys[i]? = some x := ⟨_, List.getElem?_eq_getElem (by have := (List.getElem?_eq_some_iff.mp hi).1; omega)⟩
    obtain ⟨o, ho, T1, rfl, hT⟩ := hy.at hx
    rw [hi] at ho
    cases ho
    have hsl := spot_lt hf
    obtain ⟨x2, hx2⟩ : ∃ x, ys[spotOf ps f]? = some x := ⟨_, List.getElem?_eq_getElem (by omega)⟩
    obtain ⟨o, ho, T2, rfl, hT2⟩ := hy.at hx2
    have eF : fitF ps os f g = fitO o f g := by unfold fitF; rw [ho]
    rw [eF] at k
    have hg := DGet.k (k := .inl f) hd
    rw [hv f hf] at hg
    refine ⟨.ref me, rfl, me, C, dx, _, _, rfl, hM, T.cl, T.nO, fs_orders, .int i, rfl, t, ys, i, _, rfl, rfl, ht, atI_nat hx, ?_⟩
    refine ⟨.ref T1, rfl, .ref me, rfl, me, C, dx, _, _, rfl, hM, T.cl, T.nO, fs_orders, .ref me, rfl, me, C, dx, _, _, rfl, hM, T.cl, T.nL, fs_places, .ref T1, rfl, T1, _, 1, .int f, rfl, rfl, SqT.of hT, at1, dp, _, rfl, hg, t, ys, _, _, rfl, rfl, ht, atI_nat hx2, ?_⟩
    exact ⟨T1, T2, f, g, o, rfl, hT, hT2, k⟩
end
end Kt

set_option Elab.async false
set_option linter.all false
set_option maxRecDepth 100000
set_option maxHeartbeats 4000000
namespace Kt
open PySem PySem.Spec PyProof.Rows L2
section
variable {J : It} {n : Nat} {G : Hp → Prop} {Y : Nat → Hp → V → Hp → Prop}
/-- a dict made over a walk -/
theorem dc_it (w : Walk J n G Y) {g : TG} {tt : TT} {tk tv : TE} {vs : List Nat} {σ : L2.St} {H1 : Hp} {D : Addr} {Qd : Hp → Prop} (Pv : Nat → Hp → Prop) (h0 : Pv 0 (upd H1 D (.dK []))) (hG : ∀ i H, i ≤ n → Pv i H → G H)
    (hs : ∀ i x H H', i < n → Pv i H → Y i H x H' → g x (wipe σ vs) H' fun σ2 H2 => wipe σ2 vs = wipe σ vs ∧ tt σ2 H2 fun b H3 =>
      if b = true then tk σ2 H3 fun y H4 => tv σ2 H4 fun z H5 => ∃ kvs k, y = kV k ∧ H5 D = some (.dK kvs) ∧ kvs.length < sizeLine ∧ Pv (i + 1) (upd H5 D (.dK (putK kvs k z))) else Pv (i + 1) H3) (hd : ∀ H, Pv n H → Qd H) :
    ∃ W : Nat → Nat → Hp → Prop, (∃ m, W 0 m (upd H1 D (.dK []))) ∧ ∀ i m H, W i m H →
      (J.stop i H ∧ Qd H) ∨ (J.go i H ∧ ∃ Nx : Hp → Prop, (∀ H', Nx H' → ∃ m', m' < m ∧ W (i + 1) m' H') ∧ ∀ x H', J.yld i H x H' → g x (wipe σ vs) H' fun σ2 H2 => wipe σ2 vs = wipe σ vs ∧ tt σ2 H2 fun b H3 =>
        if b = true then tk σ2 H3 fun y H4 => tv σ2 H4 fun z H5 => ∃ kvs k, y = kV k ∧ H5 D = some (.dK kvs) ∧ kvs.length < sizeLine ∧ Nx (upd H5 D (.dK (putK kvs k z))) else Nx H3) := by
  refine ⟨fun i m H => m = n - i ∧ i ≤ n ∧ Pv i H, ⟨n, by simp, Nat.zero_le _, h0⟩, ?_⟩
  rintro i m H ⟨rfl, hi, p⟩
  have q := hG i H hi p
  by_cases hlt : i < n
  · refine .inr ⟨w.goes i H hlt q, Pv (i + 1), fun H' p' => ⟨n - (i + 1), by omega, rfl, hlt, p'⟩, fun x H' y => hs i x H H' hlt p (w.yields i H x H' hlt q y)⟩
  · have e : i = n := by omega
    subst e
    exact .inl ⟨w.stops H q, hd H p⟩
end
theorem putF_len (f : Str) (v : V) : ∀ fs : List (Str × V), (putF f v fs).length ≤ fs.length + 1
  | [] => Nat.le_refl _
  | (g, u) :: fs => by
    have h := putF_len f v fs
    unfold putF
    split <;> simp <;> omega
theorem same_put {H0 H : Hp} {a : Addr} {o : HO} (h : Same H0 H) (ha : H0 a = none) : Same H0 (upd H a o) := fun b u e => by
  rw [upd_ne (fun z => by rw [z, ha] at e; cases e)]
  exact h b u e
/-- the lists that the values name -/
def Ls (H0 H : Hp) (lb : Addr) (m : Nat) (vs : List V) : Prop := ∀ v ∈ vs, ∃ l xs, v = .ref l ∧ H0 l = none ∧ l ≠ lb ∧ H l = some (.lst xs) ∧ xs.length ≤ m
theorem Ls.keep {H0 H H' : Hp} {lb : Addr} {m m' : Nat} {vs : List V} (h : Ls H0 H lb m vs) (k : Kp [] H H') (hm : m ≤ m') : Ls H0 H' lb m' vs := fun v hv => by
  obtain ⟨l, xs, e1, e2, e3, e4, e5⟩ := h v hv
  exact ⟨l, xs, e1, e2, e3, k.get (by simp) e4, Nat.le_trans e5 hm⟩
theorem Ls.put {H0 H : Hp} {lb l : Addr} {m : Nat} {vs ys : List V} (h : Ls H0 H lb m vs) (hl : ys.length ≤ m + 1) : Ls H0 (upd H l (.lst ys)) lb (m + 1) vs := fun v hv => by
  obtain ⟨l', xs, e1, e2, e3, e4, e5⟩ := h v hv
  by_cases z : l' = l
  · exact ⟨l', ys, e1, e2, e3, by rw [z, upd_same], hl⟩
  · exact ⟨l', xs, e1, e2, e3, by rw [upd_ne z]; exact e4, by omega⟩
/-- while the orders are gone through -/
structure IV (H0 : Hp) (me : Addr) (o : HO) (dp dg lb : Addr) (ps : List (Int × Int)) (m : Nat) (H : Hp) : Prop where
  s : Same H0 H
  me : H me = some o
  pl : PlD H dp ps
  gk : ∃ gk, H dg = some (.dK gk) ∧ gk.length ≤ m ∧ Ls H0 H lb m (gk.map (·.2))
  bs : ∃ bs, H lb = some (.lst bs) ∧ bs.length = ps.length ∧ Ls H0 H lb m bs
theorem ps_keep {H H' : Hp} {ys : List V} {os : List Ord} (h : Ps oV H ys os) (s : Same H H') : Ps oV H' ys os := by
  induction h with
  | nil => exact .nil
  | cons hd _ ih =>
    obtain ⟨t, e1, e2⟩ := hd
    exact .cons ⟨t, e1, s _ _ e2⟩ ih
theorem PlD.keep {H H' : Hp} {dp : Addr} {ps : List (Int × Int)} (h : PlD H dp ps) (k : Kp [] H H') : PlD H' dp ps := by
  obtain ⟨kvs, e, r⟩ := h
  exact ⟨kvs, k.get (by simp) e, r⟩
theorem IV.keep {H0 H H' : Hp} {me dp dg lb : Addr} {o : HO} {ps : List (Int × Int)} {m m' : Nat} (h : IV H0 me o dp dg lb ps m H) (k : Kp [] H H') (hm : m ≤ m') : IV H0 me o dp dg lb ps m' H' := by
  obtain ⟨gk, g1, g2, g3⟩ := h.gk
  obtain ⟨bs, b1, b2, b3⟩ := h.bs
  exact ⟨fun b u e => k b u (by simp) (h.s b u e), k.get (by simp) h.me, h.pl.keep k, ⟨gk, k.get (by simp) g1, Nat.le_trans g2 hm, g3.keep k hm⟩, ⟨bs, k.get (by simp) b1, b2, b3.keep k hm⟩⟩
theorem IV.app {H0 H : Hp} {me dp dg lb l : Addr} {C dx : Addr} {fs : List (Str × V)} {ps : List (Int × Int)} {m : Nat} {xs : List V} {v : V} (h : IV H0 me (.ins C dx fs) dp dg lb ps m H) (hl : H l = some (.lst xs)) (h0 : H0 l = none) (hb : l ≠ lb) (hx : xs.length ≤ m) : IV H0 me (.ins C dx fs) dp dg lb ps (m + 1) (upd H l (.lst (xs ++ [v]))) := by
  obtain ⟨gk, g1, g2, g3⟩ := h.gk
  obtain ⟨bs, b1, b2, b3⟩ := h.bs
  obtain ⟨kvs, p1, p2⟩ := h.pl
  have n1 : me ≠ l := fun z => by have := h.me; rw [z, hl] at this; cases this
  have n2 : dg ≠ l := fun z => by rw [z, hl] at g1; cases g1
  have n3 : dp ≠ l := fun z => by rw [z, hl] at p1; cases p1
  have hlen : (xs ++ [v]).length ≤ m + 1 := by rw [List.length_append, List.length_singleton]; omega
  exact ⟨same_put h.s h0, by rw [upd_ne n1]; exact h.me, ⟨kvs, by rw [upd_ne n3]; exact p1, p2⟩, ⟨gk, by rw [upd_ne n2]; exact g1, by omega, g3.put hlen⟩, ⟨bs, by rw [upd_ne hb.symm]; exact b1, b2, b3.put hlen⟩⟩
theorem val_mem {κ : Type} [DecidableEq κ] {kvs : List (κ × V)} {k : κ} {v : V} (h : valV kvs k = some v) : v ∈ kvs.map (·.2) := by
  unfold valV at h
  obtain ⟨p, hp, rfl⟩ := Option.map_eq_some_iff.mp h
  exact List.mem_map_of_mem (List.mem_of_find?_eq_some hp)
theorem IV.set {H0 H : Hp} {me dp dg lb z : Addr} {C dx : Addr} {fs : List (Str × V)} {ps : List (Int × Int)} {m : Nat} {gk : List (Key × V)} {k : Key} (h : IV H0 me (.ins C dx fs) dp dg lb ps m H) (hg : H dg = some (.dK gk)) (hn : valV gk k = none) (hz : H z = some (.lst [])) (h0 : H0 z = none) (hb : z ≠ lb) (d0 : H0 dg = none) (dd : dp ≠ dg) : IV H0 me (.ins C dx fs) dp dg lb ps (m + 1) (upd H dg (.dK (putK gk k (.ref z)))) := by
  obtain ⟨gk', g1, g2, g3⟩ := h.gk
  rw [hg] at g1
  cases g1
  obtain ⟨bs, b1, b2, b3⟩ := h.bs
  obtain ⟨kvs, p1, p2⟩ := h.pl
  have n1 : me ≠ dg := fun z => by have := h.me; rw [z, hg] at this; cases this
  have n2 : lb ≠ dg := fun z => by rw [z, hg] at b1; cases b1
  have kl : ∀ vs : List V, Ls H0 H lb m vs → Ls H0 (upd H dg (.dK (putK gk k (.ref z)))) lb (m + 1) vs := fun vs hv v hm => by
    obtain ⟨l, xs, e1, e2, e3, e4, e5⟩ := hv v hm
    exact ⟨l, xs, e1, e2, e3, by rw [upd_ne (fun q => by rw [q, hg] at e4; cases e4)]; exact e4, by omega⟩
  refine ⟨same_put h.s d0, by rw [upd_ne n1]; exact h.me, ⟨kvs, by rw [upd_ne dd]; exact p1, p2⟩, ⟨_, upd_same, ?_, ?_⟩, ⟨bs, by rw [upd_ne n2]; exact b1, b2, kl _ b3⟩⟩
  · have := length_putK gk k (.ref z)
    omega
  · rw [putK_new _ hn]
    intro v hv
    rw [List.map_append] at hv
    rcases List.mem_append.mp hv with q | q
    · rw [← putK_new (.ref z) hn]; exact kl _ g3 v q
    · simp at q
      exact ⟨z, [], q, h0, hb, by rw [upd_ne (fun q => by rw [q, hg] at hz; cases hz)]; exact hz, by simp⟩
abbrev nInit : List Str := ["self", "board", "orders", "place", "order", "field", "_", "player"]
theorem scInit : FnScope nInit ["self", "board", "orders"] (defScope sInit) := ⟨rfl, rfl, rfl, by decide +kernel, rfl, by decide +kernel, by decide +kernel⟩
end Kt

set_option Elab.async false
set_option linter.all false
set_option maxRecDepth 100000
set_option maxHeartbeats 4000000
namespace Kt
open PySem PySem.Spec PyProof.Rows L2
/-! ### what goers and backers hold -/
def gof (os : List Ord) (F : Int) : Nat → List Int
  | 0 => []
  | n + 1 => gof os F n ++ if os[n]? = some (.go F) then [(n : Int)] else []
/-- the back at the place n fits and is for the piece at p -/
def forB (ps : List (Int × Int)) (os : List Ord) (p n : Nat) : Bool := match os[n]? with
  | some (.back f g) => fitF ps os f g && decide (spotOf ps f = p)
  | _ => false
def bof (ps : List (Int × Int)) (os : List Ord) (p : Nat) : Nat → List Int
  | 0 => []
  | n + 1 => bof ps os p n ++ if forB ps os p n = true then [(n : Int)] else []
structure IF (H0 : Hp) (me : Addr) (o : HO) (lf lp dp dg lb : Addr) (ps : List (Int × Int)) (os : List Ord) (jg jb : Nat) (G : Int → Option Addr) (B : List Addr) (H : Hp) : Prop where
  s : Same H0 H
  me : H me = some o
  f : H lf = some (.lst ((ps.map (·.1)).map V.int))
  p : H lp = some (.lst ((ps.map (·.2)).map V.int))
  pl : PlD H dp ps
  gk : ∃ gk, H dg = some (.dK gk) ∧ gk.length ≤ jg ∧ ∀ F, valV gk (.inl F) = (G F).map V.ref
  g : ∀ F l, G F = some l → H l = some (.lst ((gof os F jg).map V.int)) ∧ H0 l = none ∧ l ≠ lb ∧ l ≠ lf ∧ l ≠ lp
  gn : ∀ F, G F = none → gof os F jg = []
  gi : ∀ F F' l, G F = some l → G F' = some l → F = F'
  bl : H lb = some (.lst (B.map V.ref))
  bn : B.length = ps.length
  bi : B.Nodup
  b : ∀ (p : Nat) l, B[p]? = some l → H l = some (.lst ((bof ps os p jb).map V.int)) ∧ H0 l = none ∧ l ≠ lb ∧ l ≠ lf ∧ l ≠ lp ∧ ∀ F, G F ≠ some l
section
variable {H0 H H' : Hp} {me lf lp dp dg lb C dx : Addr} {fs : List (Str × V)} {ps : List (Int × Int)} {os : List Ord} {jg jb : Nat} {G : Int → Option Addr} {B : List Addr}
theorem IF.keep {o : HO} (h : IF H0 me o lf lp dp dg lb ps os jg jb G B H) (k : Kp [] H H') : IF H0 me o lf lp dp dg lb ps os jg jb G B H' := by
  obtain ⟨gk, g1, g2⟩ := h.gk
  exact ⟨fun b u e => k b u (by simp) (h.s b u e), k.get (by simp) h.me, k.get (by simp) h.f, k.get (by simp) h.p, h.pl.keep k, ⟨gk, k.get (by simp) g1, g2⟩,
    fun F l e => ⟨k.get (by simp) (h.g F l e).1, (h.g F l e).2⟩, h.gn, h.gi, k.get (by simp) h.bl, h.bn, h.bi, fun p l e => ⟨k.get (by simp) (h.b p l e).1, (h.b p l e).2⟩⟩
theorem IF.skipG {o : HO} (h : IF H0 me o lf lp dp dg lb ps os jg jb G B H) (n : ∀ F, os[jg]? ≠ some (.go F)) : IF H0 me o lf lp dp dg lb ps os (jg + 1) jb G B H := by
  have e : ∀ F, gof os F (jg + 1) = gof os F jg := fun F => by
    show gof os F jg ++ _ = _
    rw [if_neg (n F), List.append_nil]
  obtain ⟨gk, g1, g2, g3⟩ := h.gk
  exact ⟨h.s, h.me, h.f, h.p, h.pl, ⟨gk, g1, by omega, g3⟩, fun F l q => by rw [e]; exact h.g F l q, fun F q => by rw [e]; exact h.gn F q, h.gi, h.bl, h.bn, h.bi, h.b⟩
theorem IF.skipB {o : HO} (h : IF H0 me o lf lp dp dg lb ps os jg jb G B H) (n : ∀ p, forB ps os p jb = false) : IF H0 me o lf lp dp dg lb ps os jg (jb + 1) G B H := by
  have e : ∀ p, bof ps os p (jb + 1) = bof ps os p jb := fun p => by
    show bof ps os p jb ++ _ = _
    rw [n p]
    simp
  exact ⟨h.s, h.me, h.f, h.p, h.pl, h.gk, h.g, h.gn, h.gi, h.bl, h.bn, h.bi, fun p l q => by rw [e]; exact h.b p l q⟩
theorem gof_go {F : Int} {n : Nat} (e : os[n]? = some (.go F)) : gof os F (n + 1) = gof os F n ++ [(n : Int)] := by
  show gof os F n ++ _ = _
  rw [if_pos e]
theorem gof_no {F F' : Int} {n : Nat} (e : os[n]? = some (.go F)) (h : F' ≠ F) : gof os F' (n + 1) = gof os F' n := by
  show gof os F' n ++ _ = _
  rw [if_neg (fun z => h (by rw [e] at z; cases z; rfl)), List.append_nil]
/-- a goer more, where the field has some already -/
theorem IF.appG {F : Int} {l : Addr} (h : IF H0 me (.ins C dx fs) lf lp dp dg lb ps os jg jb G B H) (e : os[jg]? = some (.go F)) (hl : G F = some l) : IF H0 me (.ins C dx fs) lf lp dp dg lb ps os (jg + 1) jb G B (upd H l (.lst ((gof os F jg).map V.int ++ [.int (jg : Nat)]))) := by
  obtain ⟨e1, e2, e3, e4, e5⟩ := h.g F l hl
  obtain ⟨gk, g1, g2, g3⟩ := h.gk
  obtain ⟨kvs, p1, p2⟩ := h.pl
  have n1 : me ≠ l := fun z => by have := h.me; rw [z, e1] at this; cases this
  have n2 : dg ≠ l := fun z => by rw [z, e1] at g1; cases g1
  have n3 : dp ≠ l := fun z => by rw [z, e1] at p1; cases p1
  refine ⟨same_put h.s e2, by rw [upd_ne n1]; exact h.me, by rw [upd_ne e4.symm]; exact h.f, by rw [upd_ne e5.symm]; exact h.p, ⟨kvs, by rw [upd_ne n3]; exact p1, p2⟩, ⟨gk, by rw [upd_ne n2]; exact g1, by omega, g3⟩, fun F' l' q => ?_, fun F' q => ?_, h.gi, by rw [upd_ne e3.symm]; exact h.bl, h.bn, h.bi, fun p l' q => ?_⟩
  · obtain ⟨a1, a2⟩ := h.g F' l' q
    by_cases z : F' = F
    · subst z
      rw [hl] at q
      cases q
      exact ⟨by rw [upd_same, gof_go e, List.map_append]; rfl, a2⟩
    · have nl : l' ≠ l := fun w => z (h.gi F' F l (w ▸ q) hl)
      exact ⟨by rw [upd_ne nl, gof_no e z]; exact a1, a2⟩
  · have z : F' ≠ F := fun w => by rw [w, hl] at q; cases q
    rw [gof_no e z]
    exact h.gn F' q
  · obtain ⟨a1, a2, a3, a4, a5, a6⟩ := h.b p l' q
    have nl : l' ≠ l := fun w => a6 F (by rw [w]; exact hl)
    exact ⟨by rw [upd_ne nl]; exact a1, a2, a3, a4, a5, a6⟩
/-- a goer more, the field's first -/
theorem IF.newG {F : Int} {z : Addr} {gk : List (Key × V)} (h : IF H0 me (.ins C dx fs) lf lp dp dg lb ps os jg jb G B H) (e : os[jg]? = some (.go F)) (hg : H dg = some (.dK gk)) (hn : valV gk (.inl F) = none) (hz : H z = some (.lst [])) (hz0 : H0 z = none) (d0 : H0 dg = none) (dd : dp ≠ dg)
    (zb : z ≠ lb) (zf : z ≠ lf) (zp : z ≠ lp) (zG : ∀ F, G F ≠ some z) (zB : z ∉ B) :
    IF H0 me (.ins C dx fs) lf lp dp dg lb ps os (jg + 1) jb (fun F' => if F' = F then some z else G F') B (upd (upd H dg (.dK (putK gk (.inl F) (.ref z)))) z (.lst ([] ++ [.int (jg : Nat)]))) := by
  obtain ⟨gk', g1, g2, g3⟩ := h.gk
  rw [hg] at g1
  cases g1
  have hGF : G F = none := by
    have := g3 F
    rw [hn] at this
    cases q : G F with
    | none => rfl
    | some l => rw [q] at this; cases this
  obtain ⟨kvs, p1, p2⟩ := h.pl
  have m1 : me ≠ dg := fun q => by have := h.me; rw [q, hg] at this; cases this
  have m2 : me ≠ z := fun q => by have := h.me; rw [q, hz] at this; cases this
  have f1 : lf ≠ dg := fun q => by have := h.f; rw [q, hg] at this; cases this
  have q1 : lp ≠ dg := fun q => by have := h.p; rw [q, hg] at this; cases this
  have b1 : lb ≠ dg := fun q => by have := h.bl; rw [q, hg] at this; cases this
  have z1 : dg ≠ z := fun q => by rw [← q, hg] at hz; cases hz
  have z2 : dp ≠ z := fun q => by rw [q, hz] at p1; cases p1
  have other : ∀ {l : Addr} {xs : List V}, H l = some (.lst xs) → l ≠ z → (upd (upd H dg (.dK (putK gk (.inl F) (.ref z)))) z (.lst ([] ++ [.int (jg : Nat)]))) l = some (.lst xs) := fun {l xs} a nz => by
    rw [upd_ne nz, upd_ne (fun q => by rw [q, hg] at a; cases a)]
    exact a
  refine ⟨same_put (same_put h.s d0) hz0, by rw [upd_ne m2, upd_ne m1]; exact h.me, other h.f zf.symm, other h.p zp.symm, ⟨kvs, by rw [upd_ne z2, upd_ne dd]; exact p1, p2⟩, ⟨_, by rw [upd_ne z1]; exact upd_same, ?_, fun F' => ?_⟩, fun F' l q => ?_, fun F' q => ?_, fun F' F'' l q r => ?_, other h.bl zb.symm, h.bn, h.bi, fun p l q => ?_⟩
  · have := length_putK gk (.inl F) (.ref z)
    omega
  · rw [valV_put]
    by_cases w : F' = F
    · rw [if_pos (congrArg Sum.inl w), if_pos w]; rfl
    · rw [if_neg (fun q => w (Sum.inl.inj q)), if_neg w]
      exact g3 F'
  · by_cases w : F' = F
    · simp only [if_pos w] at q
      cases q
      rw [w, gof_go e, h.gn F hGF]
      exact ⟨upd_same, hz0, zb, zf, zp⟩
    · simp only [if_neg w] at q
      obtain ⟨a1, a2⟩ := h.g F' l q
      rw [gof_no e w]
      exact ⟨other a1 (fun r => zG F' (r ▸ q)), a2⟩
  · by_cases w : F' = F
    · simp only [if_pos w] at q
      cases q
    · simp only [if_neg w] at q
      rw [gof_no e w]
      exact h.gn F' q
  · by_cases w : F' = F
    · by_cases w' : F'' = F
      · rw [w, w']
      · simp only [if_pos w] at q
        simp only [if_neg w'] at r
        cases q
        exact absurd r (zG F'')
    · by_cases w' : F'' = F
      · simp only [if_neg w] at q
        simp only [if_pos w'] at r
        cases r
        exact absurd q (zG F')
      · simp only [if_neg w] at q
        simp only [if_neg w'] at r
        exact h.gi F' F'' l q r
  · obtain ⟨a1, a2, a3, a4, a5, a6⟩ := h.b p l q
    have nz : l ≠ z := fun r => zB (r ▸ List.mem_of_getElem? q)
    refine ⟨other a1 nz, a2, a3, a4, a5, fun F' r => ?_⟩
    by_cases w : F' = F
    · simp only [if_pos w] at r
      cases r
      exact nz rfl
    · simp only [if_neg w] at r
      exact a6 F' r
/-- a backer more -/
theorem IF.appB {p0 : Nat} {l : Addr} (h : IF H0 me (.ins C dx fs) lf lp dp dg lb ps os jg jb G B H) (hp : ∀ p, forB ps os p jb = decide (p0 = p)) (hl : B[p0]? = some l) : IF H0 me (.ins C dx fs) lf lp dp dg lb ps os jg (jb + 1) G B (upd H l (.lst ((bof ps os p0 jb).map V.int ++ [.int (jb : Nat)]))) := by
  obtain ⟨e1, e2, e3, e4, e5, e6⟩ := h.b p0 l hl
  obtain ⟨gk, g1, g2⟩ := h.gk
  obtain ⟨kvs, p1, p2⟩ := h.pl
  have n1 : me ≠ l := fun z => by have := h.me; rw [z, e1] at this; cases this
  have n2 : dg ≠ l := fun z => by rw [z, e1] at g1; cases g1
  have n3 : dp ≠ l := fun z => by rw [z, e1] at p1; cases p1
  refine ⟨same_put h.s e2, by rw [upd_ne n1]; exact h.me, by rw [upd_ne e4.symm]; exact h.f, by rw [upd_ne e5.symm]; exact h.p, ⟨kvs, by rw [upd_ne n3]; exact p1, p2⟩, ⟨gk, by rw [upd_ne n2]; exact g1, g2⟩, fun F l' q => ?_, h.gn, h.gi, by rw [upd_ne e3.symm]; exact h.bl, h.bn, h.bi, fun p l' q => ?_⟩
  · obtain ⟨a1, a2⟩ := h.g F l' q
    have nl : l' ≠ l := fun w => e6 F (w ▸ q)
    exact ⟨by rw [upd_ne nl]; exact a1, a2⟩
  · obtain ⟨a1, a2⟩ := h.b p l' q
    have eb : bof ps os p (jb + 1) = bof ps os p jb ++ if forB ps os p jb = true then [(jb : Int)] else [] := rfl
    rw [eb, hp p]
    by_cases z : p0 = p
    · subst z
      rw [hl] at q
      cases q
      refine ⟨?_, a2⟩
      rw [upd_same, if_pos (decide_eq_true rfl), List.map_append]
      rfl
    · have nl : l' ≠ l := fun w => by
        obtain ⟨i1, j1⟩ := List.getElem?_eq_some_iff.mp hl
        obtain ⟨i2, j2⟩ := List.getElem?_eq_some_iff.mp q
        exact z ((List.getElem?_inj i1 h.bi).mp (by rw [hl, q, w]))
      refine ⟨?_, a2⟩
      rw [upd_ne nl, if_neg (by simp [z]), List.append_nil]
      exact a1
end
end Kt

set_option Elab.async false
set_option linter.all false
set_option maxRecDepth 100000
set_option maxHeartbeats 4000000
namespace Kt
open PySem PySem.Spec PyProof.Rows L2
def spInitF (K : PySem.W.Frag) (C : Addr) : Sp := fun vs H Q _ => ∃ (H0 : Hp) (me dx : Addr) (v : V) (t : Addr) (n : Int) (rs : List (Int × Int)) (cs : List Int) (ps : List (Int × Int)) (ys : List V) (os : List Ord), vs = [.ref me, v, .ref t] ∧ Same H0 H ∧ H0 me = none ∧ H me = some (.ins C dx []) ∧
  Dp K H0 v (bdD n rs cs ps) ∧ SqT K H0 t ys ∧ Ps oV H0 ys os ∧ os.length = ps.length ∧ ps.length ≤ 24 ∧ (ps.map (·.1)).Nodup ∧ (∀ (j : Nat) (f g : Int), os[j]? = some (.back f g) → f ∈ ps.map (·.1)) ∧
  ∀ (H' : Hp) (lf lp dp dg lb : Addr) (G : Int → Option Addr) (B : List Addr), IF H0 me (.ins C dx (FS (.ref t) lf lp dp dg lb)) lf lp dp dg lb ps os os.length os.length G B H' → Q .non H'
section
variable {P : Program} {w : World} {K : PySem.W.Frag} {mg : Str → Option Value} {base : Heap}
theorem ok_initF {f C fF : Addr} {fd fdF : FuncData} (F : Fun K "__init__" "Clash.__init__" sInit f fd) (T : ClT K mg C) (FF : Fun K "is_fitting" "Clash.is_fitting" sIsFit fF fdF) (bF : Binds K fdF ["self", "place"] []) (mF : Meth K C "is_fitting" fF) (GF : FnOk P w K mg base CX0 2 fF fdF ["self", "place"] (spIsFit K C)) (mE : mg "enumerate" = none) :
    FnOk P w K mg base CX0 3 f fd ["self", "board", "orders"] (spInitF K C) := by
  refine F.ok scInit (fun vs H Q E h => ?_) (fun cdv A outer s H vs Q E hr h => ?_)
  · obtain ⟨H0, me, dx, v, t, n, rs, cs, ps, ys, os, rfl, _⟩ := h
    rfl
  · obtain ⟨H0, me, dx, v, t, n, rs, cs, ps, ys, os, rfl, s0, m0, hme, hv, ht, hy, hlen, hps, hnd, hbk, k⟩ := h
    refine ⟨_, pss_cons (ps_fld (pv 0) (pv 2) rfl)
      (pss_cons (ps_fld (pv 0) (pe_lc (own := [("field", 5), ("_", 6)]) (g := gTup K 2 (gCons (gName 5) (gCons (gName 6) gNil))) rfl scInit.nd (pi_tup (kt (pv 1) pe_int)) (blkOk_by (own := [("field", 5), ("_", 6)]) (N := nInit) (sc := defScope sInit) (by decide +kernel))
          (fun _ _ _ _ _ => pg_tup rfl (pgs_cons (pg_name (i := 5) scInit.nd rfl (.inl rfl)) (pgs_cons (pg_name (i := 6) scInit.nd rfl (.inl rfl)) pgs_nil))) (fun _ _ _ _ _ => pts_nil) (fun _ _ _ _ _ => pv 5)) rfl)
      (pss_cons (ps_fld (pv 0) (pe_lc (own := [("_", 6), ("player", 7)]) (g := gTup K 2 (gCons (gName 6) (gCons (gName 7) gNil))) rfl scInit.nd (pi_tup (kt (pv 1) pe_int)) (blkOk_by (own := [("_", 6), ("player", 7)]) (N := nInit) (sc := defScope sInit) (by decide +kernel))
          (fun _ _ _ _ _ => pg_tup rfl (pgs_cons (pg_name (i := 6) scInit.nd rfl (.inl rfl)) (pgs_cons (pg_name (i := 7) scInit.nd rfl (.inl rfl)) pgs_nil))) (fun _ _ _ _ _ => pts_nil) (fun _ _ _ _ _ => pv 7)) rfl)
      (pss_cons (ps_fld (pv 0) (pe_dc (own := [("place", 3), ("field", 5)]) (g := gTup K 2 (gCons (gName 3) (gCons (gName 5) gNil))) rfl scInit.nd (pi_enum (by rfl) mE (pa_cons (pe_fld (pv 0) rfl) pa_nil)) (blkOk_by (own := [("place", 3), ("field", 5)]) (N := nInit) (sc := defScope sInit) (by decide +kernel))
          (fun _ _ _ _ _ => pg_tup rfl (pgs_cons (pg_name (i := 3) scInit.nd rfl (.inl rfl)) (pgs_cons (pg_name (i := 5) scInit.nd rfl (.inl rfl)) pgs_nil))) (fun _ _ _ _ _ => pts_nil) (fun _ _ _ _ _ => pv 5) (fun _ _ _ _ _ => pv 3)) rfl)
      (pss_cons (ps_fld (pv 0) pe_dnewK rfl)
      (pss_cons (ps_fld (pv 0) (pe_lc (own := [("_", 6)]) (g := gName 6) rfl scInit.nd (pi_tup (pv 2)) (blkOk_by (own := [("_", 6)]) (N := nInit) (sc := defScope sInit) (by decide +kernel))
          (fun _ _ _ _ _ => pg_name (i := 6) scInit.nd rfl (.inl rfl)) (fun _ _ _ _ _ => pts_nil) (fun _ _ _ _ _ => pe_lst pa_nil)) rfl)
      (pss_one (ps_for PassesOwn.never rfl (pi_enumT (by rfl) mE (pa_cons (pv 2) pa_nil)) (pg_tup rfl (pgs_cons (pg_name (i := 3) scInit.nd rfl (.inl rfl)) (pgs_cons (pg_name (i := 4) scInit.nd rfl (.inl rfl)) pgs_nil)))
        (Evl.pss_cut (ps_if (pt_cmpR op_eq (kt (pv 4) pe_int) pe_str (nomark _)) (pss_one (ps_expr (pe_bm PySem.F.plainAttrs_list PySem.F.slot_list_append PySem.F.type_list_append mt_append (pe_dsetd (pe_fld (pv 0) rfl) (kt (pv 4) pe_int) (pe_lst pa_nil) ⟨rfl, rfl, rfl, rfl⟩) (pa_cons (pv 3) pa_nil)))) pss_nil)
        (pss_one (ps_if (PW.pt (pw_and (pt_cmpR op_eq (kt (pv 4) pe_int) pe_str (nomark _)) (pw_and1 (pt_val (pe_meth (pv 0) T.cl mF GF hr bF .nil pass0 (pa_cons (pv 3) pa_nil))))))
          (pss_one (ps_expr (pe_bm PySem.F.plainAttrs_list PySem.F.slot_list_append PySem.F.type_list_append mt_append (kl (pe_fld (pv 0) rfl) (pe_dget (hu_of hr) (pe_fld (pv 0) rfl) (kt (pv 4) pe_int) (fun _ _ => rfl)) (fun _ _ => rfl)) (pa_cons (pv 3) pa_nil)))) pss_nil))))))))))
      , ?_⟩
    -- orders
    refine ⟨.ref t, rfl, .ref me, rfl, me, C, dx, [], rfl, hme, T.cl, T.nO, (by show 0 < 1000; decide), ?_⟩
    have sA := same_put (o := .ins C dx (putF "orders" (.ref t) [])) s0 m0
    have hA : (upd H me (.ins C dx (putF "orders" (.ref t) []))) me = _ := upd_same
    generalize upd H me (.ins C dx (putF "orders" (.ref t) [])) = HA at sA hA
    obtain ⟨ta, tc, tp, xs, rfl, hb, hch, hpt, hpx⟩ := board_inv hv
    have hlx : xs.length = ps.length := by rw [all_len hpx, List.length_map]
    -- fields
    refine ⟨.ref ta, rfl, ta, _, 1, _, rfl, rfl, sameT sA hb, at1, tp, rfl, ⟨_, sameT sA hpt⟩, fun lf hlf => ?_⟩
    refine lc_tup (K := K) (a := tp) (xs := xs) (fun j H' => H' lf = some (.lst (((ps.take j).map (·.1)).map V.int)) ∧ Kp [] HA H') ⟨upd_same, Kp.new hlf⟩ (fun j H' _ ⟨_, kk⟩ => sameT (sA.trans (kz_seq kk)) hpt) ?_ ?_
    · rintro j x H' hx ⟨h1, kk⟩
      obtain ⟨r, q, hr', rfl, hq⟩ := pairs_at hpx hx
      refine ⟨q, _, rfl, sameT (sA.trans (kz_seq kk)) hq, rfl, .int r.1, _, rfl, .int r.2, _, rfl, rfl, rfl, yesGo ?_⟩
      refine ⟨.int r.1, rfl, _, h1, small1000 ?_, ?_, kk.fill hlf⟩
      · rw [List.length_map, List.length_map, List.length_take]
        omega
      · rw [upd_same, map_snoc _ hr', List.map_append]
        rfl
    rintro HB ⟨hF, kB⟩
    rw [hlx, List.take_length] at hF
    have l1 := putF_len "orders" (.ref t) []
    have f0 : H0 lf = none := sA.free hlf
    have sB := sA.trans (kz_seq kB)
    refine ⟨.ref me, rfl, me, C, dx, _, rfl, kB.get (by simp) hA, T.cl, T.nF, (by simp at l1; omega), ?_⟩
    have mB := kB.get (by simp) hA
    have nlf : lf ≠ me := fun z => by rw [z, mB] at hF; cases hF
    have sC := same_put (o := .ins C dx (putF "fields" (.ref lf) (putF "orders" (.ref t) []))) sB m0
    have mC : (upd HB me (.ins C dx (putF "fields" (.ref lf) (putF "orders" (.ref t) [])))) me = _ := upd_same
    have fC : (upd HB me (.ins C dx (putF "fields" (.ref lf) (putF "orders" (.ref t) [])))) lf = _ := (upd_ne nlf).trans hF
    generalize upd HB me (.ins C dx (putF "fields" (.ref lf) (putF "orders" (.ref t) []))) = HC at sC mC fC
    -- players
    refine ⟨.ref ta, rfl, ta, _, 1, _, rfl, rfl, sameT sC hb, at1, tp, rfl, ⟨_, sameT sC hpt⟩, fun lp hlp => ?_⟩
    refine lc_tup (K := K) (a := tp) (xs := xs) (fun j H' => H' lp = some (.lst (((ps.take j).map (·.2)).map V.int)) ∧ Kp [] HC H') ⟨upd_same, Kp.new hlp⟩ (fun j H' _ ⟨_, kk⟩ => sameT (sC.trans (kz_seq kk)) hpt) ?_ ?_
    · rintro j x H' hx ⟨h1, kk⟩
      obtain ⟨r, q, hr', rfl, hq⟩ := pairs_at hpx hx
      refine ⟨q, _, rfl, sameT (sC.trans (kz_seq kk)) hq, rfl, .int r.1, _, rfl, .int r.2, _, rfl, rfl, rfl, yesGo ?_⟩
      refine ⟨.int r.2, rfl, _, h1, small1000 ?_, ?_, kk.fill hlp⟩
      · rw [List.length_map, List.length_map, List.length_take]
        omega
      · rw [upd_same, map_snoc _ hr', List.map_append]
        rfl
    rintro HD ⟨hPl, kD⟩
    rw [hlx, List.take_length] at hPl
    have nlp : lp ≠ me := fun z => by rw [z, kD.get (by simp) mC] at hPl; cases hPl
    have l2 := putF_len "fields" (.ref lf) (putF "orders" (.ref t) [])
    have sD := sC.trans (kz_seq kD)
    have mD := kD.get (by simp) mC
    have fD := kD.get (by simp) fC
    refine ⟨.ref me, rfl, me, C, dx, _, rfl, mD, T.cl, T.nP, (by simp at l1; omega), ?_⟩
    have sE := same_put (o := .ins C dx (putF "players" (.ref lp) (putF "fields" (.ref lf) (putF "orders" (.ref t) [])))) sD m0
    have mE' : (upd HD me (.ins C dx (putF "players" (.ref lp) (putF "fields" (.ref lf) (putF "orders" (.ref t) []))))) me = _ := upd_same
    have fE : (upd HD me (.ins C dx (putF "players" (.ref lp) (putF "fields" (.ref lf) (putF "orders" (.ref t) []))))) lf = _ := (upd_ne nlf).trans fD
    have qE : (upd HD me (.ins C dx (putF "players" (.ref lp) (putF "fields" (.ref lf) (putF "orders" (.ref t) []))))) lp = _ := (upd_ne nlp).trans hPl
    generalize upd HD me (.ins C dx (putF "players" (.ref lp) (putF "fields" (.ref lf) (putF "orders" (.ref t) [])))) = HE at sE mE' fE qE
    have lkF : (putF "players" (.ref lp) (putF "fields" (.ref lf) (putF "orders" (.ref t) []))).lookup ("fields" : Str) = some (V.ref lf) := by
      rw [lookup_putF, if_neg (by decide +kernel), lookup_putF, if_pos rfl]
    -- places
    refine ⟨.ref me, rfl, me, C, dx, _, _, rfl, mE', T.cl, T.nF, lkF, lf, _, rfl, SqL.of fE, fun dp hdp => ?_⟩
    refine dc_it (walk_enum (K := K) (a := lf) (xs := (ps.map (·.1)).map V.int)) (fun j H' => (∃ kvs, H' dp = some (.dK kvs) ∧ kvs.length ≤ j ∧ (∀ (i : Nat) (p : Int × Int), i < j → ps[i]? = some p → valV kvs (.inl p.1) = some (.int (i : Nat))) ∧ (∀ F : Int, (∀ (i : Nat) (p : Int × Int), i < j → ps[i]? = some p → p.1 ≠ F) → valV kvs (.inl F) = none)) ∧ Kp [] HE H')
      ⟨⟨[], upd_same, Nat.le_refl _, fun i p hi => absurd hi (Nat.not_lt_zero _), fun F _ => rfl⟩, Kp.new hdp⟩ (fun j H' _ ⟨_, kk⟩ => SqL.of (kk.get (by simp) fE)) ?_ ?_
    · rintro j x H' H'' hj ⟨⟨kvs, h1, h2, h3, h4⟩, kk⟩ ⟨Tq, x1, x2, rfl, hTq, rfl, ex1, ex2⟩
      cases ex1
      rw [List.length_map, List.length_map] at hj
      obtain ⟨z, hz, rfl⟩ := map_ints_get ex2
      rw [List.getElem?_map] at hz
      obtain ⟨p, hp, rfl⟩ := Option.map_eq_some_iff.mp hz
      have nT : dp ≠ Tq := ne_of_none h1 hTq
      have kq := kk.trans (Kp.new (o := .tup [.int (j : Nat), .int p.1]) hTq)
      refine ⟨Tq, _, rfl, SqT.of upd_same, rfl, .int (j : Nat), _, rfl, .int p.1, _, rfl, rfl, rfl, yesGo ?_⟩
      refine ⟨.int p.1, rfl, .int (j : Nat), rfl, kvs, .inl p.1, rfl, by rw [upd_ne nT]; exact h1, small1000 (by omega), ⟨_, upd_same, ?_, fun i q hi hq => ?_, fun F hF => ?_⟩, kq.fill hdp⟩
      · have := length_putK kvs (.inl p.1) (.int (j : Nat))
        omega
      · rw [valV_put]
        by_cases e : i = j
        · subst e
          rw [hp] at hq
          cases hq
          rw [if_pos rfl]
        · have hij : i < j := by omega
          have ne : ¬ (Sum.inl q.1 : Key) = .inl p.1 := fun z => by
            have z : q.1 = p.1 := Sum.inl.inj z
            obtain ⟨li, gi⟩ := List.getElem?_eq_some_iff.mp hq
            obtain ⟨lj, gj⟩ := List.getElem?_eq_some_iff.mp hp
            have := (List.pairwise_iff_getElem.mp hnd) i j (by rw [List.length_map]; exact li) (by rw [List.length_map]; exact lj) hij
            rw [List.getElem_map, List.getElem_map, gi, gj] at this
            exact this z
          rw [if_neg ne]
          exact h3 i q hij hq
      · rw [valV_put, if_neg (fun z => hF j p (by omega) hp (Sum.inl.inj z).symm)]
        exact h4 F fun i q hi hq => hF i q (by omega) hq
    rintro HG ⟨⟨kvs, pG, pl, pv, pn⟩, kG⟩
    rw [List.length_map, List.length_map] at pl pv pn
    have l3 := putF_len "players" (.ref lp) (putF "fields" (.ref lf) (putF "orders" (.ref t) []))
    have sG := sE.trans (kz_seq kG)
    have mG := kG.get (by simp) mE'
    have fG := kG.get (by simp) fE
    have qG := kG.get (by simp) qE
    refine ⟨.ref me, rfl, me, C, dx, _, rfl, mG, T.cl, T.nL, (by simp at l1; omega), ?_⟩
    have ndp : dp ≠ me := fun z => by rw [z, mG] at pG; cases pG
    have sI := same_put (o := .ins C dx (putF "_places" (.ref dp) (putF "players" (.ref lp) (putF "fields" (.ref lf) (putF "orders" (.ref t) []))))) sG m0
    have mI : (upd HG me (.ins C dx (putF "_places" (.ref dp) (putF "players" (.ref lp) (putF "fields" (.ref lf) (putF "orders" (.ref t) [])))))) me = _ := upd_same
    have pI : (upd HG me (.ins C dx (putF "_places" (.ref dp) (putF "players" (.ref lp) (putF "fields" (.ref lf) (putF "orders" (.ref t) [])))))) dp = _ := (upd_ne ndp).trans pG
    have fI : (upd HG me (.ins C dx (putF "_places" (.ref dp) (putF "players" (.ref lp) (putF "fields" (.ref lf) (putF "orders" (.ref t) [])))))) lf = _ := (upd_ne nlf).trans fG
    have qI : (upd HG me (.ins C dx (putF "_places" (.ref dp) (putF "players" (.ref lp) (putF "fields" (.ref lf) (putF "orders" (.ref t) [])))))) lp = _ := (upd_ne nlp).trans qG
    generalize upd HG me (.ins C dx (putF "_places" (.ref dp) (putF "players" (.ref lp) (putF "fields" (.ref lf) (putF "orders" (.ref t) []))))) = HI at sI mI pI fI qI
    have l4 := putF_len "_places" (.ref dp) (putF "players" (.ref lp) (putF "fields" (.ref lf) (putF "orders" (.ref t) [])))
    -- goers
    refine fun dg hdg => ?_
    have kJ : Kp ([] : List Addr) HI (upd HI dg (.dK [])) := Kp.new hdg
    have dd : dp ≠ dg := ne_of_none pI hdg
    have d0 : H0 dg = none := sI.free hdg
    have gJ : (upd HI dg (.dK [])) dg = _ := upd_same
    have sJ := sI.trans (kz_seq kJ)
    have mJ := kJ.get (by simp) mI
    have pJ := kJ.get (by simp) pI
    have fJ := kJ.get (by simp) fI
    have qJ := kJ.get (by simp) qI
    generalize upd HI dg (.dK []) = HJ at gJ sJ mJ pJ kJ fJ qJ
    have ndg : dg ≠ me := fun z => by rw [z, mJ] at gJ; cases gJ
    refine ⟨.ref me, rfl, me, C, dx, _, rfl, mJ, T.cl, T.nG, (by simp at l1; omega), ?_⟩
    have sL := same_put (o := .ins C dx (putF "_goers" (.ref dg) (putF "_places" (.ref dp) (putF "players" (.ref lp) (putF "fields" (.ref lf) (putF "orders" (.ref t) [])))))) sJ m0
    have mL : (upd HJ me (.ins C dx (putF "_goers" (.ref dg) (putF "_places" (.ref dp) (putF "players" (.ref lp) (putF "fields" (.ref lf) (putF "orders" (.ref t) []))))))) me = _ := upd_same
    have pL : (upd HJ me (.ins C dx (putF "_goers" (.ref dg) (putF "_places" (.ref dp) (putF "players" (.ref lp) (putF "fields" (.ref lf) (putF "orders" (.ref t) []))))))) dp = _ := (upd_ne ndp).trans pJ
    have gL : (upd HJ me (.ins C dx (putF "_goers" (.ref dg) (putF "_places" (.ref dp) (putF "players" (.ref lp) (putF "fields" (.ref lf) (putF "orders" (.ref t) []))))))) dg = _ := (upd_ne ndg).trans gJ
    have fL : (upd HJ me (.ins C dx (putF "_goers" (.ref dg) (putF "_places" (.ref dp) (putF "players" (.ref lp) (putF "fields" (.ref lf) (putF "orders" (.ref t) []))))))) lf = _ := (upd_ne nlf).trans fJ
    have qL : (upd HJ me (.ins C dx (putF "_goers" (.ref dg) (putF "_places" (.ref dp) (putF "players" (.ref lp) (putF "fields" (.ref lf) (putF "orders" (.ref t) []))))))) lp = _ := (upd_ne nlp).trans qJ
    generalize upd HJ me (.ins C dx (putF "_goers" (.ref dg) (putF "_places" (.ref dp) (putF "players" (.ref lp) (putF "fields" (.ref lf) (putF "orders" (.ref t) [])))))) = HL at sL mL pL gL fL qL
    have l5 := putF_len "_goers" (.ref dg) (putF "_places" (.ref dp) (putF "players" (.ref lp) (putF "fields" (.ref lf) (putF "orders" (.ref t) []))))
    have hyl := hy.len
    -- backers
    refine ⟨.ref t, rfl, t, rfl, ⟨_, sameT sL ht⟩, fun lb hlb => ?_⟩
    refine lc_tup (K := K) (a := t) (xs := ys) (fun j H' => (∃ B : List Addr, H' lb = some (.lst (B.map V.ref)) ∧ B.length = j ∧ B.Nodup ∧ ∀ l ∈ B, H0 l = none ∧ l ≠ lb ∧ l ≠ lf ∧ l ≠ lp ∧ H' l = some (.lst [])) ∧ Kp [] HL H') ⟨⟨[], upd_same, rfl, .nil, by simp⟩, Kp.new hlb⟩ (fun j H' _ ⟨_, kk⟩ => sameT (sL.trans (kz_seq kk)) ht) ?_ ?_
    · rintro j x H' hx ⟨⟨B, h1, h2, h3, h4⟩, kk⟩
      have hj : j < ys.length := (List.getElem?_eq_some_iff.mp hx).1
      refine ⟨rfl, yesGo ⟨Nat.zero_le _, fun z hz => ⟨B.map V.ref, ?_, small1000 (by rw [List.length_map]; omega), ⟨B ++ [z], by rw [upd_same, List.map_append]; rfl, by rw [List.length_append, List.length_singleton, h2], ?_, fun l hl => ?_⟩, (kk.trans (Kp.new hz)).fill hlb⟩⟩⟩
      · rw [upd_ne (ne_of_none h1 hz)]
        exact h1
      · rw [List.nodup_append]
        refine ⟨h3, by simp, fun l hl l' hl' e => ?_⟩
        rw [List.mem_singleton.mp hl'] at e
        exact ne_of_none (h4 l hl).2.2.2.2 hz e
      · rcases List.mem_append.mp hl with q | q
        · obtain ⟨e1, e2, e3, e4, e5⟩ := h4 l q
          exact ⟨e1, e2, e3, e4, by rw [upd_ne e2, upd_ne (ne_of_none e5 hz)]; exact e5⟩
        · rw [List.mem_singleton.mp q]
          have nz : z ≠ lb := (ne_of_none h1 hz).symm
          exact ⟨(sL.trans (kz_seq kk)).free hz, nz, (ne_of_none (kk.get (by simp) fL) hz).symm, (ne_of_none (kk.get (by simp) qL) hz).symm, by rw [upd_ne nz, upd_same]⟩
    rintro HM ⟨⟨B, b1, b2, bnd, b3⟩, kM⟩
    have fM := kM.get (by simp) fL
    have qM := kM.get (by simp) qL
    have sM := sL.trans (kz_seq kM)
    have mM := kM.get (by simp) mL
    have pM := kM.get (by simp) pL
    have gM := kM.get (by simp) gL
    have nlb : lb ≠ me := fun z => by rw [z, mM] at b1; cases b1
    refine ⟨.ref me, rfl, me, C, dx, _, rfl, mM, T.cl, T.nB, (by simp at l1; omega), ?_⟩
    have iv0 : IF H0 me (.ins C dx (FS (.ref t) lf lp dp dg lb)) lf lp dp dg lb ps os 0 0 (fun _ => none) B (upd HM me (.ins C dx (FS (.ref t) lf lp dp dg lb))) := by
      refine ⟨same_put sM m0, upd_same, (upd_ne nlf).trans fM, (upd_ne nlp).trans qM, ⟨kvs, (upd_ne ndp).trans pM, by omega, fun f hf => ?_, fun F hF => pn F fun i p _ hp e => hF (e ▸ List.mem_map_of_mem (List.mem_of_getElem? hp))⟩, ⟨[], (upd_ne ndg).trans gM, Nat.le_refl _, fun F => rfl⟩, fun F l q => (by cases q), fun F _ => rfl, fun F F' l q => (by cases q), (upd_ne nlb).trans b1, by omega, bnd, fun p l q => ?_⟩
      · obtain ⟨p, hp, rfl⟩ := List.mem_map.mp hf
        obtain ⟨i, hi⟩ := List.mem_iff_getElem?.mp hp
        have li := (List.getElem?_eq_some_iff.mp hi).1
        have e : spotOf ps p.1 = i := spot_eq hi rfl fun i' q hlt hq z => by
          obtain ⟨la, ga⟩ := List.getElem?_eq_some_iff.mp hq
          obtain ⟨lb', gb⟩ := List.getElem?_eq_some_iff.mp hi
          have := (List.pairwise_iff_getElem.mp hnd) i' i (by rw [List.length_map]; exact la) (by rw [List.length_map]; exact lb') hlt
          rw [List.getElem_map, List.getElem_map, ga, gb] at this
          exact this z
        rw [e]
        exact pv i p (by omega) hi
      · obtain ⟨e1, e2, e3, e4, e5⟩ := b3 l (List.mem_of_getElem? q)
        exact ⟨(upd_ne (fun z => by rw [z, mM] at e5; cases e5)).trans e5, e1, e2, e3, e4, fun F r => by cases r⟩
    have iv1 : ∀ HN, HN = upd HM me (.ins C dx (FS (.ref t) lf lp dp dg lb)) → IF H0 me (.ins C dx (FS (.ref t) lf lp dp dg lb)) lf lp dp dg lb ps os 0 0 (fun _ => none) B HN := by
      rintro _ rfl
      exact iv0
    clear iv0
    generalize hHN : upd HM me (.ins C dx (putF "_backers" (.ref lb) (putF "_goers" (.ref dg) (putF "_places" (.ref dp) (putF "players" (.ref lp) (putF "fields" (.ref lf) (putF "orders" (.ref t) []))))))) = HN
    have iv0 := iv1 HN hHN.symm
    clear iv1 hHN b1 b2 b3 pM gM mM sM kM pL gL mL sL
    clear fM qM
    refine ⟨.ref t, rfl, t, ys, rfl, sameT iv0.s ht, for_it walk_enumT (fun j σ H' => ∃ v3 v4 G, σ = [some (.ref me), some (.ref ta), some (.ref t), v3, v4, none, none, none] ∧ IF H0 me (.ins C dx (FS (.ref t) lf lp dp dg lb)) lf lp dp dg lb ps os j j G B H')
      ⟨_, _, _, rfl, iv0⟩ (fun j σ H' _ ⟨_, _, _, _, iv⟩ => sameT iv.s ht) ?_ ?_⟩
    · rintro j x σ H' H'' hj ⟨v3, v4, G, rfl, iv⟩ ⟨Tq, x1, x2, rfl, hTq, rfl, ex1, ex2⟩
      cases ex1
      obtain ⟨o, ho, T1, rfl, hT1⟩ := hy.at ex2
      have kq : Kp ([] : List Addr) H' (upd H' Tq (.tup [.int (j : Nat), .ref T1])) := Kp.new hTq
      have iv := iv.keep kq
      refine ⟨Tq, _, rfl, SqT.of upd_same, rfl, .int (j : Nat), _, rfl, .ref T1, _, rfl, rfl, ?_⟩
      generalize upd H' Tq (.tup [.int (j : Nat), .ref T1]) = H2 at iv
      clear kq
      have hj24 : j < 24 := by omega
      obtain ⟨rr, er⟩ := oV_word o
      have gl : ∀ F n, (gof os F n).length ≤ n := fun F n => by
        induction n with
        | zero => exact Nat.le_refl _
        | succ n ih =>
          show (gof os F n ++ _).length ≤ _
          rw [List.length_append]
          split <;> simp <;> omega
      have bl : ∀ p n, (bof ps os p n).length ≤ n := fun p n => by
        induction n with
        | zero => exact Nat.le_refl _
        | succ n ih =>
          show (bof ps os p n ++ _).length ≤ _
          rw [List.length_append]
          split <;> simp <;> omega
      refine ⟨fun σ' H3 => σ' = [some (.ref me), some (.ref ta), some (.ref t), some (.int (j : Nat)), some (.ref T1), none, none, none] ∧ ∃ G, IF H0 me (.ins C dx (FS (.ref t) lf lp dp dg lb)) lf lp dp dg lb ps os (j + 1) j G B H3, ?_, ?_⟩
      · refine ⟨.ref T1, rfl, T1, _, 0, _, rfl, rfl, SqT.of (iv.s _ _ hT1), by rw [er]; exact at0, rfl, _, rfl, ?_⟩
        refine ite2 (fun he => ?_) (fun he => ?_)
        · have he : isGo o = true := by rw [← word_go']; exact he
          cases o with
          | stay => cases he
          | back _ _ => cases he
          | go g =>
            obtain ⟨gk, g1, g2, g3⟩ := iv.gk
            refine ⟨.ref me, rfl, me, C, dx, _, _, rfl, iv.me, T.cl, T.nG, fs_goers, dg, rfl, .inl ⟨_, .inl g1⟩, .ref T1, rfl, T1, _, 1, _, rfl, rfl, SqT.of (iv.s _ _ hT1), at1, Nat.zero_le _, fun z hz => ?_⟩
            have kz : Kp ([] : List Addr) H2 (upd H2 z (.lst [])) := Kp.new hz
            have nzg : dg ≠ z := ne_of_none g1 hz
            have iv3 := iv.keep kz
            have hzz : (upd H2 z (.lst [])) z = some (.lst []) := upd_same
            have z0 : H0 z = none := iv.s.free hz
            have zb : z ≠ lb := (ne_of_none iv.bl hz).symm
            have zf : z ≠ lf := (ne_of_none iv.f hz).symm
            have zp : z ≠ lp := (ne_of_none iv.p hz).symm
            have zG : ∀ F, G F ≠ some z := fun F q => ne_of_none (iv.g F z q).1 hz rfl
            have zB : z ∉ B := fun q => by
              obtain ⟨p, hp⟩ := List.mem_iff_getElem?.mp q
              exact ne_of_none (iv.b p z hp).1 hz rfl
            have g1' := kz.get (by simp) g1
            generalize upd H2 z (.lst []) = H3 at iv3 hzz g1'
            refine ⟨gk, .inl g, g1', rfl, small1000 (by omega), fun v hv => ?_, fun hn => ?_⟩
            · rw [g3 g] at hv
              obtain ⟨l, hl, rfl⟩ := Option.map_eq_some_iff.mp hv
              have e4 := (iv3.g g l hl).1
              exact ⟨.inl ⟨rfl, _, SqL.of e4⟩, .int (j : Nat), rfl, l, _, _, rfl, rfl, e4, small1000 (by rw [List.length_map]; have := gl g j; omega), rfl, _, iv3.appG ho hl⟩
            · have hz4 : (upd H3 dg (.dK (putK gk (.inl g) (.ref z)))) z = some (.lst []) := by rw [upd_ne nzg.symm]; exact hzz
              exact ⟨.inl ⟨rfl, _, SqL.of hz4⟩, .int (j : Nat), rfl, z, _, _, rfl, rfl, hz4, small1000 (by simp), rfl, _, iv3.newG ho g1' hn hzz z0 d0 dd zb zf zp zG zB⟩
        · have he : isGo o = false := by rw [← word_go']; simpa using he
          exact ⟨rfl, G, iv.skipG fun F q => by rw [ho] at q; cases q; cases he⟩
      · rintro σ' H3 ⟨rfl, G, iv⟩
        refine ⟨.ref T1, rfl, T1, _, 0, _, rfl, rfl, SqT.of (iv.s _ _ hT1), by rw [er]; exact at0, rfl, ?_⟩
        refine ⟨_, rfl, ite2 (fun he => ?_) (fun he => ?_)⟩
        · have he : isBack o = true := by rw [← word_back]; exact he
          cases o with
          | stay => cases he
          | go _ => cases he
          | back f g =>
            have hf := hbk j f g ho
            have hy3 : Ps oV H3 ys os := ps_keep hy iv.s
            refine ⟨.ref me, rfl, me, dx, _, rfl, iv.me, fs_fit, .int (j : Nat), rfl, me, dx, t, lf, lp, dp, dg, lb, ys, os, ps, j, f, g, rfl, iv.me, sameT iv.s ht, hy3, iv.pl, hlen, ho, hf, fun H4 k4 => ?_⟩
            have iv4 := iv.keep k4
            have fb : ∀ p, forB ps os p j = (fitF ps os f g && decide (spotOf ps f = p)) := fun p => by unfold forB; rw [ho]
            refine ⟨_, rfl, ite2 (fun hfit => ?_) (fun hfit => ?_)⟩
            · have hfit : fitF ps os f g = true := hfit
              obtain ⟨kvs', p1, p2, p3⟩ := iv4.pl
              have hg := DGet.k (k := .inl f) p1
              rw [p3.1 f hf] at hg
              have hsl := spot_lt hf
              obtain ⟨l, hl⟩ : ∃ l, B[spotOf ps f]? = some l := ⟨_, List.getElem?_eq_getElem (by have := iv4.bn; omega)⟩
              have hx : (B.map V.ref)[spotOf ps f]? = some (V.ref l) := by rw [List.getElem?_map, hl]; rfl
              have e4 := (iv4.b _ l hl).1
              exact ⟨.ref me, rfl, me, C, dx, _, _, rfl, iv4.me, T.cl, T.nB, fs_backers, .ref me, rfl, me, C, dx, _, _, rfl, iv4.me, T.cl, T.nL, fs_places, .ref T1, rfl, T1, _, 1, .int f, rfl, rfl, SqT.of (iv4.s _ _ hT1), at1, dp, _, rfl, hg, lb, _, _, _, rfl, rfl, SqL.of iv4.bl, atI_nat hx, .inl ⟨rfl, _, SqL.of e4⟩, .int (j : Nat), rfl, l, _, _, rfl, rfl, e4, small1000 (by rw [List.length_map]; have := bl (spotOf ps f) j; omega), _, _, _, rfl, iv4.appB (fun p => by rw [fb, hfit]; rfl) hl⟩
            · have hfit : fitF ps os f g = false := by simpa using hfit
              exact ⟨_, _, _, rfl, iv4.skipB fun p => by rw [fb, hfit]; rfl⟩
        · have he : isBack o = false := by rw [← word_back]; simpa using he
          refine ⟨_, _, _, rfl, iv.skipB fun p => ?_⟩
          unfold forB
          rw [ho]
          cases o with
          | back _ _ => cases he
          | _ => rfl
    · rintro σ H' ⟨_, _, G, rfl, iv⟩
      rw [hyl] at iv
      exact k H' lf lp dp dg lb G B iv
end
end Kt

set_option Elab.async false
set_option linter.all false
set_option maxRecDepth 100000
set_option maxHeartbeats 4000000
namespace Kt
open PySem PySem.Spec PyProof.Rows L2
abbrev sMetBy : Stmt := inClass sClash 1
abbrev sIsGoing : Stmt := inClass sClash 4
abbrev sAgainst : Stmt := inClass sClash 5
abbrev sElse : Stmt := inClass sClash 6
abbrev sForeign : Stmt := inClass sClash 7
theorem fs_fields {t : V} {lf lp dp dg lb : Addr} : (FS t lf lp dp dg lb).lookup ("fields" : Str) = some (.ref lf) := by
  unfold FS
  rw [lookup_putF, if_neg (by decide +kernel), lookup_putF, if_neg (by decide +kernel), lookup_putF, if_neg (by decide +kernel), lookup_putF, if_neg (by decide +kernel), lookup_putF, if_pos rfl]
theorem fs_players {t : V} {lf lp dp dg lb : Addr} : (FS t lf lp dp dg lb).lookup ("players" : Str) = some (.ref lp) := by
  unfold FS
  rw [lookup_putF, if_neg (by decide +kernel), lookup_putF, if_neg (by decide +kernel), lookup_putF, if_neg (by decide +kernel), lookup_putF, if_pos rfl]
theorem fs_no {t : V} {lf lp dp dg lb : Addr} {m : Str} (h : (m ≠ "_backers" ∧ m ≠ "_goers" ∧ m ≠ "_places") ∧ m ≠ "players" ∧ m ≠ "fields" ∧ m ≠ "orders") : (FS t lf lp dp dg lb).lookup m = none := by
  unfold FS
  rw [lookup_putF, if_neg h.1.1, lookup_putF, if_neg h.1.2.1, lookup_putF, if_neg h.1.2.2, lookup_putF, if_neg h.2.1, lookup_putF, if_neg h.2.2.1, lookup_putF, if_neg h.2.2.2]
  rfl
/-- a made Clash at me, of pieces and orders -/
def CA (K : PySem.W.Frag) (C : Addr) (H : Hp) (me : Addr) (ps : List (Int × Int)) (os : List Ord) : Prop :=
  ∃ (dx t lf lp dp dg lb : Addr) (G : Int → Option Addr) (B : List Addr) (H0 : Hp) (ys : List V), IF H0 me (.ins C dx (FS (.ref t) lf lp dp dg lb)) lf lp dp dg lb ps os os.length os.length G B H ∧ SqT K H t ys ∧ Ps oV H ys os ∧ os.length = ps.length
theorem CA.keep {K : PySem.W.Frag} {C me : Addr} {H H' : Hp} {ps : List (Int × Int)} {os : List Ord} (h : CA K C H me ps os) (k : Kp [] H H') : CA K C H' me ps os := by
  obtain ⟨dx, t, lf, lp, dp, dg, lb, G, B, H0, ys, h1, h2, h3, h4⟩ := h
  exact ⟨dx, t, lf, lp, dp, dg, lb, G, B, H0, ys, h1.keep k, sameT (kz_seq k) h2, h3.keep k noTup_nil, h4⟩
def spIsGoing (K : PySem.W.Frag) (C : Addr) : Sp := fun vs H Q _ => ∃ (me : Addr) (ps : List (Int × Int)) (os : List Ord) (i : Nat) (o : Ord), vs = [.ref me, .int i] ∧ CA K C H me ps os ∧ os[i]? = some o ∧ Q (.bl (isGo o)) H
def optV (ps : List (Int × Int)) (F : Int) : V := if F ∈ ps.map (·.1) then .int (spotOf ps F : Nat) else .non
def spMetBy (K : PySem.W.Frag) (C : Addr) : Sp := fun vs H Q _ => ∃ (me : Addr) (ps : List (Int × Int)) (os : List Ord) (i : Nat) (g : Int), vs = [.ref me, .int i] ∧ CA K C H me ps os ∧ os[i]? = some (.go g) ∧ Q (optV ps g) H
def spAgainst (K : PySem.W.Frag) (C : Addr) : Sp := fun vs H Q _ => ∃ (me : Addr) (ps : List (Int × Int)) (os : List Ord) (i j : Nat) (o : Ord) (p : Int × Int), vs = [.ref me, .int i, .int j] ∧ CA K C H me ps os ∧ os[i]? = some o ∧ ps[j]? = some p ∧ ∀ H', Kp [] H H' → Q (.bl (decide (o = .go p.1))) H'
def spForeign (K : PySem.W.Frag) (C : Addr) : Sp := fun vs H Q _ => ∃ (me : Addr) (ps : List (Int × Int)) (os : List Ord) (i j : Nat) (p q : Int × Int), vs = [.ref me, .int i, .int j] ∧ CA K C H me ps os ∧ ps[i]? = some p ∧ ps[j]? = some q ∧ Q (.bl (!decide (p.2 = q.2))) H
section
variable {P : Program} {w : World} {K : PySem.W.Frag} {mg : Str → Option Value} {base : Heap} {f C : Addr} {fd : FuncData}
theorem scIsGoing : FnScope ["self", "place"] ["self", "place"] (defScope sIsGoing) := ⟨rfl, rfl, rfl, by decide +kernel, rfl, by decide +kernel, by decide +kernel⟩
theorem ok_isGoing (F : Fun K "is_going" "Clash.is_going" sIsGoing f fd) (T : ClT K mg C) : FnOk P w K mg base CX0 1 f fd ["self", "place"] (spIsGoing K C) := by
  refine F.ok scIsGoing (fun vs H Q E h => ?_) (fun cdv A outer s H vs Q E hr h => ?_)
  · obtain ⟨me, ps, os, i, o, rfl, _⟩ := h
    rfl
  · obtain ⟨me, ps, os, i, o, rfl, ⟨dx, t, lf, lp, dp, dg, lb, G, B, H0, ys, iv, ht, hy, hlen⟩, ho, k⟩ := h
    refine ⟨_, pss_one (ps_ret (pe_cmpR op_eq (kt (kt (pe_fld (pv 0) rfl) (pv 1)) pe_int) pe_str (nomark _))), ?_⟩
    obtain ⟨x, hx⟩ : ∃ x, ys[i]? = some x := ⟨_, List.getElem?_eq_getElem (by have := (List.getElem?_eq_some_iff.mp ho).1; have := hy.len; omega)⟩
    obtain ⟨o', ho', T1, rfl, hT⟩ := hy.at hx
    rw [ho] at ho'
    cases ho'
    obtain ⟨rr, er⟩ := oV_word o
    refine ⟨.ref me, rfl, me, C, dx, _, _, rfl, iv.me, T.cl, T.nO, fs_orders, .int i, rfl, t, ys, i, _, rfl, rfl, ht, atI_nat hx, T1, _, 0, _, rfl, rfl, SqT.of hT, by rw [er]; exact at0, rfl, ?_⟩
    rw [word_go']
    exact k
theorem scMetBy : FnScope ["self", "place"] ["self", "place"] (defScope sMetBy) := ⟨rfl, rfl, rfl, by decide +kernel, rfl, by decide +kernel, by decide +kernel⟩
theorem ok_metBy (F : Fun K "met_by" "Clash.met_by" sMetBy f fd) (T : ClT K mg C) : FnOk P w K mg base CX0 1 f fd ["self", "place"] (spMetBy K C) := by
  refine F.ok scMetBy (fun vs H Q E h => ?_) (fun cdv A outer s H vs Q E hr h => ?_)
  · obtain ⟨me, ps, os, i, o, rfl, _⟩ := h
    rfl
  · obtain ⟨me, ps, os, i, g, rfl, ⟨dx, t, lf, lp, dp, dg, lb, G, B, H0, ys, iv, ht, hy, hlen⟩, ho, k⟩ := h
    refine ⟨_, pss_one (ps_ret (pe_dget1 (hu_of hr) (pe_fld (pv 0) rfl) (kt (kt (pe_fld (pv 0) rfl) (pv 1)) pe_int) ⟨rfl, rfl, rfl, rfl⟩)), ?_⟩
    obtain ⟨x, hx⟩ : ∃ x, ys[i]? = some x := ⟨_, List.getElem?_eq_getElem (by have := (List.getElem?_eq_some_iff.mp ho).1; have := hy.len; omega)⟩
    obtain ⟨o', ho', T1, rfl, hT⟩ := hy.at hx
    rw [ho] at ho'
    cases ho'
    obtain ⟨kvs, p1, p2, p3, p4⟩ := iv.pl
    have hg := DGet.k (k := .inl g) p1
    refine ⟨.ref me, rfl, me, C, dx, _, _, rfl, iv.me, T.cl, T.nL, fs_places, dp, rfl, .inl ⟨_, .inl p1⟩, .ref me, rfl, me, C, dx, _, _, rfl, iv.me, T.cl, T.nO, fs_orders, .int i, rfl, t, ys, i, _, rfl, rfl, ht, atI_nat hx, T1, _, 1, _, rfl, rfl, SqT.of hT, at1, _, hg, ?_⟩
    unfold optV at k
    by_cases z : g ∈ ps.map (·.1)
    · rw [p3 g z]
      rw [if_pos z] at k
      exact k
    · rw [p4 g z]
      rw [if_neg z] at k
      exact k
theorem scForeign : FnScope ["self", "place", "other"] ["self", "place", "other"] (defScope sForeign) := ⟨rfl, rfl, rfl, by decide +kernel, rfl, by decide +kernel, by decide +kernel⟩
theorem ok_foreign (F : Fun K "is_foreign" "Clash.is_foreign" sForeign f fd) (T : ClT K mg C) : FnOk P w K mg base CX0 1 f fd ["self", "place", "other"] (spForeign K C) := by
  refine F.ok scForeign (fun vs H Q E h => ?_) (fun cdv A outer s H vs Q E hr h => ?_)
  · obtain ⟨me, ps, os, i, j, p, q, rfl, _⟩ := h
    rfl
  · obtain ⟨me, ps, os, i, j, p, q, rfl, ⟨dx, t, lf, lp, dp, dg, lb, G, B, H0, ys, iv, ht, hy, hlen⟩, hi, hj, k⟩ := h
    refine ⟨_, pss_one (ps_ret (pe_cmpR op_ne (kl (pe_fld (pv 0) rfl) (pv 1)) (kl (pe_fld (pv 0) rfl) (pv 2)) (nomark _))), ?_⟩
    have h1 : ((ps.map (·.2)).map V.int)[i]? = some (.int p.2) := by rw [List.getElem?_map, List.getElem?_map, hi]; rfl
    have h2 : ((ps.map (·.2)).map V.int)[j]? = some (.int q.2) := by rw [List.getElem?_map, List.getElem?_map, hj]; rfl
    refine ⟨.ref me, rfl, me, C, dx, _, _, rfl, iv.me, T.cl, T.nP, fs_players, .int i, rfl, lp, _, i, _, rfl, rfl, SqL.of iv.p, atI_nat h1, .ref me, rfl, me, C, dx, _, _, rfl, iv.me, T.cl, T.nP, fs_players, .int j, rfl, lp, _, j, _, rfl, rfl, SqL.of iv.p, atI_nat h2, rfl, ?_⟩
    have e : decide (V.int p.2 = V.int q.2) = decide (p.2 = q.2) := by by_cases z : p.2 = q.2 <;> simp [z]
    rw [e]
    exact k
theorem scAgainst : FnScope ["self", "place", "other"] ["self", "place", "other"] (defScope sAgainst) := ⟨rfl, rfl, rfl, by decide +kernel, rfl, by decide +kernel, by decide +kernel⟩
theorem ok_against (F : Fun K "goes_against" "Clash.goes_against" sAgainst f fd) (T : ClT K mg C) : FnOk P w K mg base CX0 1 f fd ["self", "place", "other"] (spAgainst K C) := by
  refine F.ok scAgainst (fun vs H Q E h => ?_) (fun cdv A outer s H vs Q E hr h => ?_)
  · obtain ⟨me, ps, os, i, j, o, p, rfl, _⟩ := h
    rfl
  · obtain ⟨me, ps, os, i, j, o, p, rfl, ⟨dx, t, lf, lp, dp, dg, lb, G, B, H0, ys, iv, ht, hy, hlen⟩, ho, hj, k⟩ := h
    refine ⟨_, pss_one (ps_ret (pe_cmpR (op_eqD hr.units) (kt (pe_fld (pv 0) rfl) (pv 1)) (pe_tup (pa_cons pe_str (pa_cons (kl (pe_fld (pv 0) rfl) (pv 2)) pa_nil))) (nomark _))), ?_⟩
    obtain ⟨x, hx⟩ : ∃ x, ys[i]? = some x := ⟨_, List.getElem?_eq_getElem (by have := (List.getElem?_eq_some_iff.mp ho).1; have := hy.len; omega)⟩
    obtain ⟨o', ho', T1, rfl, hT⟩ := hy.at hx
    rw [ho] at ho'
    cases ho'
    have h2 : ((ps.map (·.1)).map V.int)[j]? = some (.int p.1) := by rw [List.getElem?_map, List.getElem?_map, hj]; rfl
    refine ⟨.ref me, rfl, me, C, dx, _, _, rfl, iv.me, T.cl, T.nO, fs_orders, .int i, rfl, t, ys, i, _, rfl, rfl, ht, atI_nat hx, .ref me, rfl, me, C, dx, _, _, rfl, iv.me, T.cl, T.nF, fs_fields, .int j, rfl, lf, _, j, _, rfl, rfl, SqL.of iv.f, atI_nat h2, by show 2 ≤ sizeLine; decide, fun Z hZ => ?_⟩
    have kZ : Kp ([] : List Addr) H (upd H Z (.tup [.str "go", .int p.1])) := Kp.new hZ
    refine ⟨oD o, .tuple [.str "go", .int p.1], ord_data ⟨T1, rfl, kZ.get (by simp) hT⟩, .tup (SqT.of upd_same) (.cons (.str _) (.cons (.int _) .nil)), shaped_ord o, shaped_ord (.go p.1), ?_⟩
    rw [eqv_go]
    exact k _ kZ
end
end Kt

set_option Elab.async false
set_option linter.all false
set_option maxRecDepth 100000
set_option maxHeartbeats 4000000
namespace Kt
open PySem PySem.Spec PyProof.Rows L2
abbrev sGoersTo : Stmt := inClass sClash 2
abbrev sForeignTo : Stmt := inClass sClash 8
abbrev sWinner : Stmt := inClass sClash 9
abbrev sForce : Stmt := inClass sClash 11
abbrev sThrust : Stmt := inClass sClash 12
def spGoersTo (K : PySem.W.Frag) (C : Addr) : Sp := fun vs H Q _ => ∃ (me : Addr) (ps : List (Int × Int)) (os : List Ord) (F : Int), vs = [.ref me, .int F] ∧ CA K C H me ps os ∧ ∀ (H' : Hp) (r : Addr), H r = none → H' r = some (.lst ((gof os F os.length).map V.int)) → Kp [] H H' → Q (.ref r) H'
def boolAt (bs : List Bool) (j : Int) : Bool := bs.getD j.toNat false
/-- the force of the piece at i, by what stands -/
def forceN (ps : List (Int × Int)) (os : List Ord) (bs : List Bool) (i : Nat) : Nat := 1 + ((bof ps os i os.length).filter (boolAt bs)).length
def spForce (K : PySem.W.Frag) (C : Addr) : Sp := fun vs H Q _ => ∃ (me ts : Addr) (ps : List (Int × Int)) (os : List Ord) (bs : List Bool) (i : Nat), vs = [.ref me, .ref ts, .int i] ∧ CA K C H me ps os ∧ SqT K H ts (bs.map V.bl) ∧ bs.length = os.length ∧ i < ps.length ∧ ps.length ≤ 24 ∧ ∀ H', Kp [] H H' → Q (.int (forceN ps os bs i : Nat)) H'
theorem gof_len {os : List Ord} {F : Int} : ∀ n, (gof os F n).length ≤ n
  | 0 => Nat.le_refl _
  | n + 1 => by
    have := gof_len (os := os) (F := F) n
    show (gof os F n ++ _).length ≤ _
    rw [List.length_append]
    split <;> simp <;> omega
theorem bof_len {ps : List (Int × Int)} {os : List Ord} {p : Nat} : ∀ n, (bof ps os p n).length ≤ n
  | 0 => Nat.le_refl _
  | n + 1 => by
    have := bof_len (ps := ps) (os := os) (p := p) n
    show (bof ps os p n ++ _).length ≤ _
    rw [List.length_append]
    split <;> simp <;> omega
theorem bof_lt {ps : List (Int × Int)} {os : List Ord} {p : Nat} : ∀ {n : Nat} {x : Int}, x ∈ bof ps os p n → ∃ j : Nat, x = j ∧ j < n
  | 0, x, h => by cases h
  | n + 1, x, h => by
    rcases List.mem_append.mp h with q | q
    · obtain ⟨j, e, l⟩ := bof_lt q
      exact ⟨j, e, by omega⟩
    · split at q
      · exact ⟨n, by simpa using q, by omega⟩
      · cases q
section
variable {P : Program} {w : World} {K : PySem.W.Frag} {mg : Str → Option Value} {base : Heap} {f C : Addr} {fd : FuncData}
theorem scGoersTo : FnScope ["self", "field"] ["self", "field"] (defScope sGoersTo) := ⟨rfl, rfl, rfl, by decide +kernel, rfl, by decide +kernel, by decide +kernel⟩
theorem ok_goersTo (F : Fun K "goers_to" "Clash.goers_to" sGoersTo f fd) (T : ClT K mg C) (mLi : mg "list" = none) : FnOk P w K mg base CX0 1 f fd ["self", "field"] (spGoersTo K C) := by
  refine F.ok scGoersTo (fun vs H Q E h => ?_) (fun cdv A outer s H vs Q E hr h => ?_)
  · obtain ⟨me, ps, os, i, rfl, _⟩ := h
    rfl
  · obtain ⟨me, ps, os, F, rfl, ⟨dx, t, lf, lp, dp, dg, lb, G, B, H0, ys, iv, ht, hy, hlen⟩, k⟩ := h
    refine ⟨_, pss_one (ps_ret (pe_callTy call_list_of (by rfl) mLi PyProof.Rows.boot_list (pa_cons (pe_dget2 (hu_of hr) (pe_fld (pv 0) rfl) (pv 1) (pe_lst pa_nil) ⟨rfl, rfl, rfl, rfl⟩) pa_nil))), ?_⟩
    obtain ⟨gk, g1, g2, g3⟩ := iv.gk
    refine ⟨.ref me, rfl, me, C, dx, _, _, rfl, iv.me, T.cl, T.nG, fs_goers, dg, rfl, .inl ⟨_, .inl g1⟩, .int F, rfl, Nat.zero_le _, fun z hz => ?_⟩
    have kz : Kp ([] : List Addr) H (upd H z (.lst [])) := Kp.new hz
    have hzz : (upd H z (.lst [])) z = some (.lst []) := upd_same
    have g1' := kz.get (by simp) g1
    have iv' := iv.keep kz
    generalize hH1 : upd H z (.lst []) = H1 at kz hzz g1' iv'
    have fin : ∀ (l : Addr), H1 l = some (.lst ((gof os F os.length).map V.int)) → ∀ r, H1 r = none → Q (.ref r) (upd H1 r (.lst ((gof os F os.length).map V.int))) := fun l hl r hr0 => by
      refine k _ r ?_ upd_same (kz.trans (Kp.new hr0))
      cases e : H r with
      | none => rfl
      | some o => rw [kz.get (by simp) e] at hr0; cases hr0
    have hg := DGet.k (k := .inl F) g1'
    rw [g3 F] at hg
    cases q : G F with
    | none =>
      rw [q] at hg
      have e := iv.gn F q
      refine ⟨_, hg, z, _, rfl, .inl (SqL.of hzz), fun r hr0 => ?_⟩
      have := fin z (by rw [e]; exact hzz) r hr0
      rw [e] at this
      exact this
    | some l =>
      rw [q] at hg
      have e4 := (iv'.g F l q).1
      exact ⟨_, hg, l, _, rfl, .inl (SqL.of e4), fin l e4⟩
theorem scForce : FnScope ["self", "stands", "place", "other"] ["self", "stands", "place"] (defScope sForce) := ⟨rfl, rfl, rfl, by decide +kernel, rfl, by decide +kernel, by decide +kernel⟩
theorem ok_force (F : Fun K "force_of" "Clash.force_of" sForce f fd) (T : ClT K mg C) (mL : mg "len" = none) : FnOk P w K mg base CX0 1 f fd ["self", "stands", "place"] (spForce K C) := by
  refine F.ok scForce (fun vs H Q E h => ?_) (fun cdv A outer s H vs Q E hr h => ?_)
  · obtain ⟨me, ts, ps, os, bs, i, rfl, _⟩ := h
    rfl
  · obtain ⟨me, ts, ps, os, bs, i, rfl, ⟨dx, t, lf, lp, dp, dg, lb, G, B, H0, ys, iv, ht, hy, hlen⟩, hts, hbl, hi, h24, k⟩ := h
    refine ⟨_, pss_one (ps_ret (pe_op op_add pe_int (pe_callB call_len_seq (by rfl) mL PySem.boot_len (pa_cons (pe_lc (own := [("other", 3)]) (g := gName 3) rfl scForce.nd (pi_list (kl (pe_fld (pv 0) rfl) (pv 2))) (blkOk_by (own := [("other", 3)]) (N := ["self", "stands", "place", "other"]) (sc := defScope sForce) (by decide +kernel))
      (fun _ _ _ _ _ => pg_name (i := 3) scForce.nd rfl (.inl rfl)) (fun _ _ _ _ _ => pts_one (pt_val (ktK K (pv 1) (pv 3)))) (fun _ _ _ _ _ => pv 3)) pa_nil)))), ?_⟩
    obtain ⟨l, hl⟩ : ∃ l, B[i]? = some l := ⟨_, List.getElem?_eq_getElem (by have := iv.bn; omega)⟩
    have hx : (B.map V.ref)[i]? = some (V.ref l) := by rw [List.getElem?_map, hl]; rfl
    have e4 := (iv.b i l hl).1
    refine ⟨.ref me, rfl, me, C, dx, _, _, rfl, iv.me, T.cl, T.nB, fs_backers, .int i, rfl, lb, _, _, _, rfl, rfl, SqL.of iv.bl, atI_nat hx, l, rfl, ⟨_, SqL.of e4⟩, fun D hD => ?_⟩
    refine lc_list (K := K) (a := l) (xs := (bof ps os i os.length).map V.int) (fun j H' => H' D = some (.lst ((((bof ps os i os.length).take j).filter (boolAt bs)).map V.int)) ∧ Kp [] H H') ⟨upd_same, Kp.new hD⟩ (fun j H' _ ⟨_, kk⟩ => SqL.of (kk.get (by simp) e4)) ?_ ?_
    · rintro j x H' hx2 ⟨h1, kk⟩
      obtain ⟨m, hm, rfl⟩ := map_ints_get hx2
      obtain ⟨q, rfl, hq⟩ := bof_lt (List.mem_of_getElem? hm)
      have hq2 : q < bs.length := by omega
      have hb : (bs.map V.bl)[q]? = some (.bl bs[q]) := by rw [List.getElem?_map, List.getElem?_eq_getElem hq2]; rfl
      have eb : boolAt bs (q : Int) = bs[q] := by
        unfold boolAt
        rw [show ((q : Int)).toNat = q by omega, List.getD_eq_getElem?_getD, List.getElem?_eq_getElem hq2]
        rfl
      have et : (bof ps os i os.length).take (j + 1) = (bof ps os i os.length).take j ++ [(q : Int)] := by
        have := map_snoc id hm
        simpa using this
      refine ⟨rfl, .ref ts, rfl, .int q, rfl, ts, _, q, _, rfl, rfl, sameT (kz_seq kk) hts, atI_nat hb, _, rfl, ite2 (fun hc => ?_) (fun hc => ?_)⟩
      · have hc : bs[q] = true := hc
        have hlen2 := bof_len (ps := ps) (os := os) (p := i) os.length
        have hfl := List.length_filter_le (boolAt bs) ((bof ps os i os.length).take j)
        have htl := (List.take_sublist j (bof ps os i os.length)).length_le
        refine ⟨.int q, rfl, _, h1, small1000 (by rw [List.length_map]; omega), ?_, kk.fill hD⟩
        rw [upd_same, et, List.filter_append, List.map_append]
        simp [eb, hc]
      · have hc : bs[q] = false := by simpa using hc
        refine ⟨?_, kk⟩
        rw [et, List.filter_append]
        simp [eb, hc]
        exact h1
    · rintro H1 ⟨h1, kk⟩
      rw [List.length_map, List.take_length] at h1
      refine ⟨D, _, rfl, .inl (SqL.of h1), 1, _, rfl, rfl, ?_⟩
      have := k H1 kk
      unfold forceN at this
      rw [List.length_map]
      simpa using this
end
end Kt

set_option Elab.async false
set_option linter.all false
set_option maxRecDepth 100000
set_option maxHeartbeats 4000000
namespace Kt
open PySem PySem.Spec PyProof.Rows L2
theorem gof_lt {os : List Ord} {F : Int} : ∀ {n : Nat} {x : Int}, x ∈ gof os F n → ∃ j : Nat, x = j ∧ j < n ∧ os[j]? = some (.go F)
  | 0, x, h => by cases h
  | n + 1, x, h => by
    rcases List.mem_append.mp h with q | q
    · obtain ⟨j, e, l, g⟩ := gof_lt q
      exact ⟨j, e, by omega, g⟩
    · split at q
      · rename_i g
        exact ⟨n, by simpa using q, by omega, g⟩
      · cases q
def winV (os : List Ord) (bs : List Bool) (F : Int) : V := match (gof os F os.length).find? (boolAt bs) with
  | some g => .int g
  | none => .non
def spWinner (K : PySem.W.Frag) (C : Addr) : Sp := fun vs H Q _ => ∃ (me ts : Addr) (ps : List (Int × Int)) (os : List Ord) (bs : List Bool) (F : Int), vs = [.ref me, .ref ts, .int F] ∧ CA K C H me ps os ∧ SqT K H ts (bs.map V.bl) ∧ bs.length = os.length ∧ ∀ H', Kp [] H H' → Q (winV os bs F) H'
section
variable {P : Program} {w : World} {K : PySem.W.Frag} {mg : Str → Option Value} {base : Heap} {f C : Addr} {fd : FuncData}
theorem scWinner : FnScope ["self", "settlement", "field", "goer"] ["self", "settlement", "field"] (defScope sWinner) := ⟨rfl, rfl, rfl, by decide +kernel, rfl, by decide +kernel, by decide +kernel⟩
theorem ok_winner (F : Fun K "winner_into" "Clash.winner_into" sWinner f fd) (T : ClT K mg C) : FnOk P w K mg base CX0 1 f fd ["self", "settlement", "field"] (spWinner K C) := by
  refine F.ok scWinner (fun vs H Q E h => ?_) (fun cdv A outer s H vs Q E hr h => ?_)
  · obtain ⟨me, ts, ps, os, bs, i, rfl, _⟩ := h
    rfl
  · obtain ⟨me, ts, ps, os, bs, F, rfl, ⟨dx, t, lf, lp, dp, dg, lb, G, B, H0, ys, iv, ht, hy, hlen⟩, hts, hbl, k⟩ := h
    refine ⟨_, pss_cons (ps_for PassesOwn.never rfl (pi_list (pe_dget2 (hu_of hr) (pe_fld (pv 0) rfl) (pv 2) (pe_lst pa_nil) ⟨rfl, rfl, rfl, rfl⟩)) (pg_name (i := 3) scWinner.nd rfl (.inl rfl)) (pss_one (ps_if (pt_val (kt (pv 1) (pv 3))) (pss_one (ps_ret (pv 3))) pss_nil)))
      (pss_one (ps_ret pe_non)), ?_⟩
    obtain ⟨gk, g1, g2, g3⟩ := iv.gk
    refine ⟨.ref me, rfl, me, C, dx, _, _, rfl, iv.me, T.cl, T.nG, fs_goers, dg, rfl, .inl ⟨_, .inl g1⟩, .int F, rfl, Nat.zero_le _, fun z hz => ?_⟩
    have kz : Kp ([] : List Addr) H (upd H z (.lst [])) := Kp.new hz
    have hzz : (upd H z (.lst [])) z = some (.lst []) := upd_same
    have g1' := kz.get (by simp) g1
    have iv' := iv.keep kz
    generalize upd H z (.lst []) = H1 at kz hzz g1' iv'
    have hg := DGet.k (k := .inl F) g1'
    rw [g3 F] at hg
    obtain ⟨l, el, hl⟩ : ∃ l, ((G F).map V.ref).getD (.ref z) = .ref l ∧ H1 l = some (.lst ((gof os F os.length).map V.int)) := by
      cases q : G F with
      | none => exact ⟨z, rfl, by rw [iv.gn F q]; exact hzz⟩
      | some l => exact ⟨l, rfl, (iv'.g F l q).1⟩
    refine ⟨_, hg, ?_⟩
    rw [el]
    refine ⟨l, rfl, ⟨_, SqL.of hl⟩, for_list (K := K) (a := l) (xs := (gof os F os.length).map V.int) (fun j σ H' => ∃ v3, σ = [some (.ref me), some (.ref ts), some (.int F), v3] ∧ Kp [] H1 H' ∧ ((gof os F os.length).take j).find? (boolAt bs) = none)
      ⟨_, rfl, Kp.refl, rfl⟩ (fun j σ H' _ ⟨_, _, kk, _⟩ => SqL.of (kk.get (by simp) hl)) ?_ ?_⟩
    · rintro j x σ H' hx2 ⟨v3, rfl, kk, hn⟩
      obtain ⟨m, hm, rfl⟩ := map_ints_get hx2
      obtain ⟨q, rfl, hq, _⟩ := gof_lt (List.mem_of_getElem? hm)
      have hq2 : q < bs.length := by omega
      have hb : (bs.map V.bl)[q]? = some (.bl bs[q]) := by rw [List.getElem?_map, List.getElem?_eq_getElem hq2]; rfl
      have eb : boolAt bs (q : Int) = bs[q] := by
        unfold boolAt
        rw [show ((q : Int)).toNat = q by omega, List.getD_eq_getElem?_getD, List.getElem?_eq_getElem hq2]
        rfl
      have et : (gof os F os.length).take (j + 1) = (gof os F os.length).take j ++ [(q : Int)] := by
        have := map_snoc id hm
        simpa using this
      refine ⟨.ref ts, rfl, .int q, rfl, ts, _, q, _, rfl, rfl, sameT (kz_seq (kz.trans kk)) hts, atI_nat hb, _, rfl, ite2 (fun hc => ?_) (fun hc => ?_)⟩
      · have hc : bs[q] = true := hc
        have e : (gof os F os.length).find? (boolAt bs) = some (q : Int) := by
          rw [← List.take_append_drop (j + 1) (gof os F os.length), et, List.append_assoc, List.find?_append, hn]
          simp [eb, hc]
        have := k H' (kz.trans kk)
        unfold winV at this
        rw [e] at this
        exact ⟨.int q, rfl, this⟩
      · have hc : bs[q] = false := by simpa using hc
        refine ⟨_, rfl, kk, ?_⟩
        rw [et, List.find?_append, hn]
        simp [eb, hc]
    · rintro σ H' ⟨v3, rfl, kk, hn⟩
      rw [List.length_map, List.take_length] at hn
      have := k H' (kz.trans kk)
      unfold winV at this
      rw [hn] at this
      exact this
end
end Kt

set_option Elab.async false
set_option linter.all false
set_option maxRecDepth 100000
set_option maxHeartbeats 4000000
namespace Kt
open PySem PySem.Spec PyProof.Rows L2
/-- the player at a place -/
def plAt (ps : List (Int × Int)) (x : Int) : Int := (ps.getD x.toNat (0, 0)).2
def thrustN (ps : List (Int × Int)) (os : List Ord) (bs : List Bool) (i b : Nat) : Nat := 1 + (((bof ps os i os.length).filter fun x => !decide (plAt ps x = plAt ps (b : Int))).filter (boolAt bs)).length
def spForeignTo (K : PySem.W.Frag) (C : Addr) : Sp := fun vs H Q _ => ∃ (me : Addr) (ps : List (Int × Int)) (os : List Ord) (i : Nat) (p : Int × Int), vs = [.ref me, .int i] ∧ CA K C H me ps os ∧ ps[i]? = some p ∧ ps.length ≤ 24 ∧
  ∀ (H' : Hp) (r : Addr), H r = none → H' r = some (.lst (((gof os p.1 os.length).filter fun x => !decide (plAt ps x = p.2)).map V.int)) → Kp [] H H' → Q (.ref r) H'
section
variable {P : Program} {w : World} {K : PySem.W.Frag} {mg : Str → Option Value} {base : Heap} {f C fN : Addr} {fd fdN : FuncData}
theorem scForeignTo : FnScope ["self", "place", "goers", "goer"] ["self", "place"] (defScope sForeignTo) := ⟨rfl, rfl, rfl, by decide +kernel, rfl, by decide +kernel, by decide +kernel⟩
theorem ok_foreignTo (F : Fun K "foreign_goers_to" "Clash.foreign_goers_to" sForeignTo f fd) (T : ClT K mg C) (FN : Fun K "is_foreign" "Clash.is_foreign" sForeign fN fdN) (bN : Binds K fdN ["self", "place", "other"] []) (mN : Meth K C "is_foreign" fN) : FnOk P w K mg base CX0 2 f fd ["self", "place"] (spForeignTo K C) := by
  have GN : FnOk P w K mg base CX0 1 fN fdN ["self", "place", "other"] (spForeign K C) := ok_foreign FN T
  refine F.ok scForeignTo (fun vs H Q E h => ?_) (fun cdv A outer s H vs Q E hr h => ?_)
  · obtain ⟨me, ps, os, i, p, rfl, _⟩ := h
    rfl
  · obtain ⟨me, ps, os, i, p, rfl, ⟨dx, t, lf, lp, dp, dg, lb, G, B, H0, ys, iv, ht, hy, hlen⟩, hi, h24, k⟩ := h
    refine ⟨_, pss_cons (ps_set (i := 2) scForeignTo.nd rfl (by first | exact .inl rfl | exact .inr rfl) (pe_dget2 (hu_of hr) (pe_fld (pv 0) rfl) (kl (pe_fld (pv 0) rfl) (pv 1)) (pe_lst pa_nil) ⟨rfl, rfl, rfl, rfl⟩))
      (pss_one (ps_ret (pe_lc (own := [("goer", 3)]) (g := gName 3) rfl scForeignTo.nd (pi_list (pv 2)) (blkOk_by (own := [("goer", 3)]) (N := ["self", "place", "goers", "goer"]) (sc := defScope sForeignTo) (by decide +kernel))
        (fun _ _ _ _ _ => pg_name (i := 3) scForeignTo.nd rfl (.inl rfl)) (fun _ _ _ _ _ => pts_one (pt_val (pe_meth (pv 0) T.cl mN GN hr bN .nil pass0 (pa_cons (pv 3) (pa_cons (pv 1) pa_nil))))) (fun _ _ _ _ _ => pv 3)))), ?_⟩
    obtain ⟨gk, g1, g2, g3⟩ := iv.gk
    have h2 : ((ps.map (·.1)).map V.int)[i]? = some (.int p.1) := by rw [List.getElem?_map, List.getElem?_map, hi]; rfl
    refine ⟨.ref me, rfl, me, C, dx, _, _, rfl, iv.me, T.cl, T.nG, fs_goers, dg, rfl, .inl ⟨_, .inl g1⟩, .ref me, rfl, me, C, dx, _, _, rfl, iv.me, T.cl, T.nF, fs_fields, .int i, rfl, lf, _, i, _, rfl, rfl, SqL.of iv.f, atI_nat h2, Nat.zero_le _, fun z hz => ?_⟩
    have kz : Kp ([] : List Addr) H (upd H z (.lst [])) := Kp.new hz
    have hzz : (upd H z (.lst [])) z = some (.lst []) := upd_same
    have g1' := kz.get (by simp) g1
    have iv' := iv.keep kz
    have ca : CA K C (upd H z (.lst [])) me ps os := CA.keep ⟨dx, t, lf, lp, dp, dg, lb, G, B, H0, ys, iv, ht, hy, hlen⟩ kz
    generalize upd H z (.lst []) = H1 at kz hzz g1' iv' ca
    have hg := DGet.k (k := .inl p.1) g1'
    rw [g3 p.1] at hg
    obtain ⟨l, el, hl⟩ : ∃ l, ((G p.1).map V.ref).getD (.ref z) = .ref l ∧ H1 l = some (.lst ((gof os p.1 os.length).map V.int)) := by
      cases q : G p.1 with
      | none => exact ⟨z, rfl, by rw [iv.gn p.1 q]; exact hzz⟩
      | some l => exact ⟨l, rfl, (iv'.g p.1 l q).1⟩
    refine ⟨_, hg, ?_⟩
    rw [el]
    refine ⟨.ref l, rfl, l, rfl, ⟨_, SqL.of hl⟩, fun D hD => ?_⟩
    have hDH : H D = none := by
      cases e : H D with
      | none => rfl
      | some o => rw [kz.get (by simp) e] at hD; cases hD
    refine lc_list (K := K) (a := l) (xs := (gof os p.1 os.length).map V.int) (fun j H' => H' D = some (.lst ((((gof os p.1 os.length).take j).filter fun x => !decide (plAt ps x = p.2)).map V.int)) ∧ Kp [] H1 H') ⟨upd_same, Kp.new hD⟩ (fun j H' _ ⟨_, kk⟩ => SqL.of (kk.get (by simp) hl)) ?_ ?_
    · rintro j x H' hx2 ⟨h1, kk⟩
      obtain ⟨m, hm, rfl⟩ := map_ints_get hx2
      obtain ⟨q, rfl, hq, _⟩ := gof_lt (List.mem_of_getElem? hm)
      have hq2 : q < ps.length := by omega
      have epl : plAt ps (q : Int) = ps[q].2 := by
        unfold plAt
        rw [show ((q : Int)).toNat = q by omega, List.getD_eq_getElem?_getD, List.getElem?_eq_getElem hq2]
        rfl
      have et : (gof os p.1 os.length).take (j + 1) = (gof os p.1 os.length).take j ++ [(q : Int)] := by
        have := map_snoc id hm
        simpa using this
      refine ⟨rfl, .ref me, rfl, me, dx, _, rfl, kk.get (by simp) iv'.me, fs_no ⟨⟨by decide +kernel, by decide +kernel, by decide +kernel⟩, by decide +kernel, by decide +kernel, by decide +kernel⟩, .int q, rfl, .int i, rfl, me, ps, os, q, i, ps[q], p, rfl, ca.keep kk, List.getElem?_eq_getElem hq2, hi, _, rfl, ite2 (fun hc => ?_) (fun hc => ?_)⟩
      · have hc : (!decide (ps[q].2 = p.2)) = true := hc
        have hgl := gof_len (os := os) (F := p.1) os.length
        have hfl := List.length_filter_le (fun x => !decide (plAt ps x = p.2)) ((gof os p.1 os.length).take j)
        have htl := (List.take_sublist j (gof os p.1 os.length)).length_le
        refine ⟨.int q, rfl, _, h1, small1000 (by rw [List.length_map]; omega), ?_, kk.fill hD⟩
        rw [upd_same, et, List.filter_append, List.map_append, List.filter_cons, epl, hc]
        rfl
      · have hc : (!decide (ps[q].2 = p.2)) = false := by simpa using hc
        refine ⟨?_, kk⟩
        rw [et, List.filter_append, List.filter_cons, epl, hc]
        simpa using h1
    · rintro H2 ⟨h1, kk⟩
      rw [List.length_map, List.take_length] at h1
      exact k H2 D hDH h1 (kz.trans kk)
end
end Kt

set_option Elab.async false
set_option linter.all false
set_option maxRecDepth 100000
set_option maxHeartbeats 4000000
namespace Kt
open PySem PySem.Spec PyProof.Rows L2
def spElse (K : PySem.W.Frag) (C : Addr) : Sp := fun vs H Q _ => ∃ (me : Addr) (ps : List (Int × Int)) (os : List Ord) (i j : Nat) (o : Ord) (p : Int × Int), vs = [.ref me, .int i, .int j] ∧ CA K C H me ps os ∧ os[i]? = some o ∧ ps[j]? = some p ∧ ∀ H', Kp [] H H' → Q (.bl (isGo o && !decide (o = .go p.1))) H'
theorem me_no {m : Str} {t : V} {lf lp dp dg lb : Addr} (h : ((decide (m = "_backers") || decide (m = "_goers")) || (decide (m = "_places") || decide (m = "players")) || (decide (m = "fields") || decide (m = "orders"))) = false) : (FS t lf lp dp dg lb).lookup m = none := by
  simp only [Bool.or_eq_false_iff, decide_eq_false_iff_not] at h
  exact fs_no ⟨⟨h.1.1.1, h.1.1.2, h.1.2.1⟩, h.1.2.2, h.2.1, h.2.2⟩
section
variable {P : Program} {w : World} {K : PySem.W.Frag} {mg : Str → Option Value} {base : Heap} {f C fN fG : Addr} {fd fdN fdG : FuncData}
theorem scElse : FnScope ["self", "place", "other"] ["self", "place", "other"] (defScope sElse) := ⟨rfl, rfl, rfl, by decide +kernel, rfl, by decide +kernel, by decide +kernel⟩
theorem ok_else (F : Fun K "goes_elsewhere" "Clash.goes_elsewhere" sElse f fd) (T : ClT K mg C) (FG : Fun K "is_going" "Clash.is_going" sIsGoing fG fdG) (bG : Binds K fdG ["self", "place"] []) (mG : Meth K C "is_going" fG) (FN : Fun K "goes_against" "Clash.goes_against" sAgainst fN fdN) (bN : Binds K fdN ["self", "place", "other"] []) (mN : Meth K C "goes_against" fN) : FnOk P w K mg base CX0 2 f fd ["self", "place", "other"] (spElse K C) := by
  have GG : FnOk P w K mg base CX0 1 fG fdG ["self", "place"] (spIsGoing K C) := ok_isGoing FG T
  have GN : FnOk P w K mg base CX0 1 fN fdN ["self", "place", "other"] (spAgainst K C) := ok_against FN T
  refine F.ok scElse (fun vs H Q E h => ?_) (fun cdv A outer s H vs Q E hr h => ?_)
  · obtain ⟨me, ps, os, i, j, o, p, rfl, _⟩ := h
    rfl
  · obtain ⟨me, ps, os, i, j, o, p, rfl, ca, ho, hj, k⟩ := h
    obtain ⟨dx, t, lf, lp, dp, dg, lb, G, B, H0, ys, iv, ht, hy, hlen⟩ := id ca
    refine ⟨_, pss_one (ps_ret (pe_and (pe_meth (pv 0) T.cl mG GG hr bG .nil pass0 (pa_cons (pv 1) pa_nil)) (pe_one (pe_not (pe_meth (pv 0) T.cl mN GN hr bN .nil pass0 (pa_cons (pv 1) (pa_cons (pv 2) pa_nil))))))), ?_⟩
    refine ⟨.ref me, rfl, me, dx, _, rfl, iv.me, me_no (by decide +kernel), .int i, rfl, me, ps, os, i, o, rfl, ca, ho, _, rfl, ?_⟩
    refine ite2 (fun hc => ?_) (fun hc => ?_)
    · have hc : isGo o = true := hc
      refine ⟨.ref me, rfl, me, dx, _, rfl, iv.me, me_no (by decide +kernel), .int i, rfl, .int j, rfl, me, ps, os, i, j, o, p, rfl, ca, ho, hj, fun H1 k1 => ⟨_, rfl, ?_⟩⟩
      have := k H1 k1
      rw [hc] at this
      exact this
    · have hc : isGo o = false := by simpa using hc
      have := k H Kp.refl
      rw [hc] at this
      exact this
end
end Kt

set_option Elab.async false
set_option linter.all false
set_option maxRecDepth 100000
set_option maxHeartbeats 4000000
namespace Kt
open PySem PySem.Spec PyProof.Rows L2
/-- by a barrier, or none -/
def thrustO (ps : List (Int × Int)) (os : List Ord) (bs : List Bool) (i : Nat) : Option Nat → Nat
  | none => forceN ps os bs i
  | some b => thrustN ps os bs i b
def oV' : Option Nat → V
  | none => .non
  | some b => .int (b : Nat)
def spThrust (K : PySem.W.Frag) (C : Addr) : Sp := fun vs H Q _ => ∃ (me ts : Addr) (ps : List (Int × Int)) (os : List Ord) (bs : List Bool) (i : Nat) (b : Option Nat), vs = [.ref me, .ref ts, .int i, oV' b] ∧ CA K C H me ps os ∧ SqT K H ts (bs.map V.bl) ∧ bs.length = os.length ∧ i < ps.length ∧ ps.length ≤ 24 ∧ (∀ x, b = some x → x < ps.length) ∧ ∀ H', Kp [] H H' → Q (.int (thrustO ps os bs i b : Nat)) H'
section
variable {P : Program} {w : World} {K : PySem.W.Frag} {mg : Str → Option Value} {base : Heap} {f C fN fG : Addr} {fd fdN fdG : FuncData}
abbrev nThrust : List Str := ["self", "stands", "place", "barrier", "backers", "other"]
theorem scThrust : FnScope nThrust ["self", "stands", "place", "barrier"] (defScope sThrust) := ⟨rfl, rfl, rfl, by decide +kernel, rfl, by decide +kernel, by decide +kernel⟩
theorem ok_thrust (F : Fun K "thrust_of" "Clash.thrust_of" sThrust f fd) (T : ClT K mg C) (FG : Fun K "force_of" "Clash.force_of" sForce fG fdG) (bG : Binds K fdG ["self", "stands", "place"] []) (mG : Meth K C "force_of" fG) (FN : Fun K "is_foreign" "Clash.is_foreign" sForeign fN fdN) (bN : Binds K fdN ["self", "place", "other"] []) (mN : Meth K C "is_foreign" fN) (mL : mg "len" = none) : FnOk P w K mg base CX0 2 f fd ["self", "stands", "place", "barrier"] (spThrust K C) := by
  have GG : FnOk P w K mg base CX0 1 fG fdG ["self", "stands", "place"] (spForce K C) := ok_force FG T mL
  have GN : FnOk P w K mg base CX0 1 fN fdN ["self", "place", "other"] (spForeign K C) := ok_foreign FN T
  refine F.ok scThrust (fun vs H Q E h => ?_) (fun cdv A outer s H vs Q E hr h => ?_)
  · obtain ⟨me, ts, ps, os, bs, i, b, rfl, _⟩ := h
    rfl
  · obtain ⟨me, ts, ps, os, bs, i, b, rfl, ca, hts, hbl, hi, h24, hb, k⟩ := h
    obtain ⟨dx, t, lf, lp, dp, dg, lb, G, B, H0, ys, iv, ht, hy, hlen⟩ := id ca
    refine ⟨_, pss_cons (ps_if (pt_cmpR op_isN (pv 3) pe_non (nomark _)) (pss_one (ps_ret (pe_meth (pv 0) T.cl mG GG hr bG .nil pass0 (pa_cons (pv 1) (pa_cons (pv 2) pa_nil))))) pss_nil)
      (pss_cons (ps_setLc (i := 4) (own := [("other", 5)]) (g := gName 5) rfl scThrust.nd rfl rfl (sw_true rfl rfl rfl (by decide +kernel)) (pi_list (kl (pe_fld (pv 0) rfl) (pv 2))) (blkOk_by (own := [("other", 5)]) (N := nThrust) (sc := defScope sThrust) (by decide +kernel))
        (fun _ _ _ _ _ => pg_name (i := 5) scThrust.nd rfl (.inl rfl)) (fun _ _ _ _ _ => pts_one (pt_val (pe_meth (pv 0) T.cl mN GN hr bN .nil pass0 (pa_cons (pv 5) (pa_cons (pv 3) pa_nil))))) (fun _ _ _ _ _ => pv 5))
      (pss_one (ps_ret (pe_op op_add pe_int (pe_callB call_len_seq (by rfl) mL PySem.boot_len (pa_cons (pe_lc (own := [("other", 5)]) (g := gName 5) rfl scThrust.nd (pi_list (pv 4)) (blkOk_by (own := [("other", 5)]) (N := nThrust) (sc := defScope sThrust) (by decide +kernel))
        (fun _ _ _ _ _ => pg_name (i := 5) scThrust.nd rfl (.inl rfl)) (fun _ _ _ _ _ => pts_one (pt_val (ktK K (pv 1) (pv 5)))) (fun _ _ _ _ _ => pv 5)) pa_nil)))))), ?_⟩
    cases b with
    | none =>
      refine ⟨.non, rfl, rfl, _, rfl, iteT ?_⟩
      exact ⟨.ref me, rfl, me, dx, _, rfl, iv.me, me_no (by decide +kernel), .ref ts, rfl, .int i, rfl, me, ts, ps, os, bs, i, rfl, ca, hts, hbl, hi, h24, k⟩
    | some b =>
      have hb2 := hb b rfl
      refine ⟨.int b, rfl, rfl, _, rfl, iteF ?_⟩
      obtain ⟨l, hl⟩ : ∃ l, B[i]? = some l := ⟨_, List.getElem?_eq_getElem (by have := iv.bn; omega)⟩
      have hx : (B.map V.ref)[i]? = some (V.ref l) := by rw [List.getElem?_map, hl]; rfl
      have e4 := (iv.b i l hl).1
      have epl : ∀ {q : Nat} (h : q < ps.length), plAt ps (q : Int) = ps[q].2 := fun {q} h => by
        unfold plAt
        rw [show ((q : Int)).toNat = q by omega, List.getD_eq_getElem?_getD, List.getElem?_eq_getElem h]
        rfl
      have hbl2 := bof_len (ps := ps) (os := os) (p := i) os.length
      refine ⟨.ref me, rfl, me, C, dx, _, _, rfl, iv.me, T.cl, T.nB, fs_backers, .int i, rfl, lb, _, _, _, rfl, rfl, SqL.of iv.bl, atI_nat hx, l, rfl, ⟨_, SqL.of e4⟩, fun D hD => ?_⟩
      refine lc_list (K := K) (a := l) (xs := (bof ps os i os.length).map V.int) (fun j H' => H' D = some (.lst ((((bof ps os i os.length).take j).filter fun x => !decide (plAt ps x = plAt ps (b : Int))).map V.int)) ∧ Kp [] H H') ⟨upd_same, Kp.new hD⟩ (fun j H' _ ⟨_, kk⟩ => SqL.of (kk.get (by simp) e4)) ?_ ?_
      · rintro j x H' hx2 ⟨h1, kk⟩
        obtain ⟨m, hm, rfl⟩ := map_ints_get hx2
        obtain ⟨q, rfl, hq⟩ := bof_lt (List.mem_of_getElem? hm)
        have hq2 : q < ps.length := by omega
        have et : (bof ps os i os.length).take (j + 1) = (bof ps os i os.length).take j ++ [(q : Int)] := by
          have := map_snoc id hm
          simpa using this
        refine ⟨rfl, .ref me, rfl, me, dx, _, rfl, kk.get (by simp) iv.me, me_no (by decide +kernel), .int q, rfl, .int b, rfl, me, ps, os, q, b, ps[q], ps[b], rfl, ca.keep kk, List.getElem?_eq_getElem hq2, List.getElem?_eq_getElem hb2, _, rfl, ite2 (fun hc => ?_) (fun hc => ?_)⟩
        · have hc : (!decide (ps[q].2 = ps[b].2)) = true := hc
          have hfl := List.length_filter_le (fun x => !decide (plAt ps x = plAt ps (b : Int))) ((bof ps os i os.length).take j)
          have htl := (List.take_sublist j (bof ps os i os.length)).length_le
          refine ⟨.int q, rfl, _, h1, small1000 (by rw [List.length_map]; omega), ?_, kk.fill hD⟩
          rw [upd_same, et, List.filter_append, List.map_append, List.filter_cons, epl hq2, epl hb2, hc]
          rfl
        · have hc : (!decide (ps[q].2 = ps[b].2)) = false := by simpa using hc
          refine ⟨?_, kk⟩
          rw [et, List.filter_append, List.filter_cons, epl hq2, epl hb2, hc]
          simpa [epl hb2] using h1
      · rintro H1 ⟨h1, kk⟩
        rw [List.length_map, List.take_length] at h1
        refine ⟨.ref D, rfl, D, rfl, ⟨_, SqL.of h1⟩, fun D2 hD2 => ?_⟩
        have hD2H : H D2 = none := by
          cases e : H D2 with
          | none => rfl
          | some o => rw [kk.get (by simp) e] at hD2; cases hD2
        generalize hL : (bof ps os i os.length).filter (fun x => !decide (plAt ps x = plAt ps (b : Int))) = L at h1
        have hLm : ∀ x ∈ L, ∃ j : Nat, x = j ∧ j < os.length := fun x hx => by
          rw [← hL] at hx
          exact bof_lt (List.mem_filter.mp hx).1
        have hLl : L.length ≤ 24 := by
          rw [← hL]
          have := List.length_filter_le (fun x => !decide (plAt ps x = plAt ps (b : Int))) (bof ps os i os.length)
          omega
        refine lc_list (K := K) (a := D) (xs := L.map V.int) (fun j H' => H' D2 = some (.lst (((L.take j).filter (boolAt bs)).map V.int)) ∧ Kp [] H1 H') ⟨upd_same, Kp.new hD2⟩ (fun j H' _ ⟨_, kk⟩ => SqL.of (kk.get (by simp) h1)) ?_ ?_
        · rintro j x H' hx2 ⟨h3, kk2⟩
          obtain ⟨m, hm, rfl⟩ := map_ints_get hx2
          obtain ⟨q, rfl, hq⟩ := hLm m (List.mem_of_getElem? hm)
          have hq2 : q < bs.length := by omega
          have hbv : (bs.map V.bl)[q]? = some (.bl bs[q]) := by rw [List.getElem?_map, List.getElem?_eq_getElem hq2]; rfl
          have eb : boolAt bs (q : Int) = bs[q] := by
            unfold boolAt
            rw [show ((q : Int)).toNat = q by omega, List.getD_eq_getElem?_getD, List.getElem?_eq_getElem hq2]
            rfl
          have et : L.take (j + 1) = L.take j ++ [(q : Int)] := by
            have := map_snoc id hm
            simpa using this
          refine ⟨rfl, .ref ts, rfl, .int q, rfl, ts, _, q, _, rfl, rfl, sameT (kz_seq (kk.trans kk2)) hts, atI_nat hbv, _, rfl, ite2 (fun hc => ?_) (fun hc => ?_)⟩
          · have hc : bs[q] = true := hc
            have hfl := List.length_filter_le (boolAt bs) (L.take j)
            have htl := (List.take_sublist j L).length_le
            refine ⟨.int q, rfl, _, h3, small1000 (by rw [List.length_map]; omega), ?_, kk2.fill hD2⟩
            rw [upd_same, et, List.filter_append, List.map_append]
            simp [eb, hc]
          · have hc : bs[q] = false := by simpa using hc
            refine ⟨?_, kk2⟩
            rw [et, List.filter_append]
            simp [eb, hc]
            exact h3
        · rintro H2 ⟨h3, kk2⟩
          rw [List.length_map, List.take_length] at h3
          refine ⟨D2, _, rfl, .inl (SqL.of h3), 1, _, rfl, rfl, ?_⟩
          have := k H2 (kk.trans kk2)
          have e : thrustO ps os bs i (some b) = 1 + (L.filter (boolAt bs)).length := by
            subst hL
            rfl
          rw [e] at this
          rw [List.length_map]
          simpa using this
end
end Kt

set_option Elab.async false
set_option linter.all false
set_option maxRecDepth 100000
set_option maxHeartbeats 4000000
namespace Kt
open PySem PySem.Spec PyProof.Rows L2
abbrev sHolding : Stmt := s_holding_by
abbrev sBarrier : Stmt := s_barrier_to
def elseN (ps : List (Int × Int)) (os : List Ord) (m i : Nat) : Bool := match os[m]?, ps[i]? with
  | some o, some p => isGo o && !decide (o = .go p.1)
  | _, _ => false
def holdN (ps : List (Int × Int)) (os : List Ord) (bs : List Bool) (i b : Nat) : Nat := if elseN ps os b i = true then 1 else forceN ps os bs b
def optN (ps : List (Int × Int)) (F : Int) : Option Nat := if F ∈ ps.map (·.1) then some (spotOf ps F) else none
theorem optV_eq (ps : List (Int × Int)) (F : Int) : optV ps F = oV' (optN ps F) := by
  unfold optV optN
  split <;> rfl
def barrN (ps : List (Int × Int)) (os : List Ord) (bs : List Bool) (i : Nat) (g : Int) : Option Nat := match optN ps g with
  | none => none
  | some m => if (elseN ps os m i && bs.getD m false) = true then none else some m
def spHolding (K : PySem.W.Frag) (C : Addr) : Sp := fun vs H Q _ => ∃ (me ts : Addr) (ps : List (Int × Int)) (os : List Ord) (bs : List Bool) (i b : Nat), vs = [.ref me, .ref ts, .int i, .int b] ∧ CA K C H me ps os ∧ SqT K H ts (bs.map V.bl) ∧ bs.length = os.length ∧ i < ps.length ∧ b < ps.length ∧ ps.length ≤ 24 ∧ ∀ H', Kp [] H H' → Q (.int (holdN ps os bs i b : Nat)) H'
def spBarrier (K : PySem.W.Frag) (C : Addr) : Sp := fun vs H Q _ => ∃ (me ts : Addr) (ps : List (Int × Int)) (os : List Ord) (bs : List Bool) (i : Nat) (g : Int), vs = [.ref me, .ref ts, .int i] ∧ CA K C H me ps os ∧ SqT K H ts (bs.map V.bl) ∧ bs.length = os.length ∧ os[i]? = some (.go g) ∧ ∀ H', Kp [] H H' → Q (oV' (barrN ps os bs i g)) H'
theorem opt_lt {ps : List (Int × Int)} {F : Int} {m : Nat} (h : optN ps F = some m) : m < ps.length := by
  unfold optN at h
  split at h
  · cases h
    exact spot_lt (by assumption)
  · cases h
section
variable {P : Program} {w : World} {K : PySem.W.Frag} {mg : Str → Option Value} {base : Heap} {f C fE fG fM : Addr} {fd fdE fdG fdM : FuncData}
theorem scHolding : FnScope ["clash", "stands", "place", "barrier"] ["clash", "stands", "place", "barrier"] (defScope sHolding) := ⟨rfl, rfl, rfl, by decide +kernel, rfl, by decide +kernel, by decide +kernel⟩
theorem ok_holding (F : Fun K "holding_by" "holding_by" sHolding f fd) (T : ClT K mg C) (FE : Fun K "goes_elsewhere" "Clash.goes_elsewhere" sElse fE fdE) (bE : Binds K fdE ["self", "place", "other"] []) (mE : Meth K C "goes_elsewhere" fE) (GE : FnOk P w K mg base CX0 2 fE fdE ["self", "place", "other"] (spElse K C))
    (bG : Binds K fdG ["self", "stands", "place"] []) (mG : Meth K C "force_of" fG) (GG : FnOk P w K mg base CX0 1 fG fdG ["self", "stands", "place"] (spForce K C)) : FnOk P w K mg base CX0 3 f fd ["clash", "stands", "place", "barrier"] (spHolding K C) := by
  refine F.ok (k := 2) scHolding (fun vs H Q E h => ?_) (fun cdv A outer s H vs Q E hr h => ?_)
  · obtain ⟨me, ts, ps, os, bs, i, b, rfl, _⟩ := h
    rfl
  · obtain ⟨me, ts, ps, os, bs, i, b, rfl, ca, hts, hbl, hi, hb, h24, k⟩ := h
    obtain ⟨dx, t, lf, lp, dp, dg, lb, G, B, H0, ys, iv, ht, hy, hlen⟩ := id ca
    refine ⟨_, pss_cons (ps_if (pt_val (pe_meth (pv 0) T.cl mE GE hr bE .nil pass0 (pa_cons (pv 3) (pa_cons (pv 2) pa_nil)))) (pss_one (ps_ret pe_int)) pss_nil)
      (pss_one (ps_ret (pe_meth (pv 0) T.cl mG GG (hr.mono (by decide)) bG .nil pass0 (pa_cons (pv 1) (pa_cons (pv 3) pa_nil))))), ?_⟩
    have hb2 : b < os.length := by omega
    have eE : elseN ps os b i = (isGo os[b] && !decide (os[b] = .go ps[i].1)) := by
      unfold elseN
      rw [List.getElem?_eq_getElem hb2, List.getElem?_eq_getElem hi]
    refine ⟨.ref me, rfl, me, dx, _, rfl, iv.me, me_no (by decide +kernel), .int b, rfl, .int i, rfl, me, ps, os, b, i, os[b], ps[i], rfl, ca, List.getElem?_eq_getElem hb2, List.getElem?_eq_getElem hi, fun H1 k1 => ⟨_, rfl, ite2 (fun hc => ?_) (fun hc => ?_)⟩⟩
    · have e : holdN ps os bs i b = 1 := by
        unfold holdN
        rw [if_pos (eE.trans hc)]
      have := k H1 k1
      rw [e] at this
      exact this
    · have e : holdN ps os bs i b = forceN ps os bs b := by
        unfold holdN
        rw [if_neg (fun z => hc (eE.symm.trans z))]
      rw [e] at k
      exact ⟨.ref me, rfl, me, dx, _, rfl, k1.get (by simp) iv.me, me_no (by decide +kernel), .ref ts, rfl, .int b, rfl, me, ts, ps, os, bs, b, rfl, ca.keep k1, sameT (kz_seq k1) hts, hbl, hb, h24, fun H2 k2 => k H2 (k1.trans k2)⟩
theorem scBarrier : FnScope ["clash", "settlement", "place", "met"] ["clash", "settlement", "place"] (defScope sBarrier) := ⟨rfl, rfl, rfl, by decide +kernel, rfl, by decide +kernel, by decide +kernel⟩
theorem ok_barrier (F : Fun K "barrier_to" "barrier_to" sBarrier f fd) (T : ClT K mg C) (bE : Binds K fdE ["self", "place", "other"] []) (mE : Meth K C "goes_elsewhere" fE) (GE : FnOk P w K mg base CX0 2 fE fdE ["self", "place", "other"] (spElse K C))
    (bM : Binds K fdM ["self", "place"] []) (mM : Meth K C "met_by" fM) (GM : FnOk P w K mg base CX0 1 fM fdM ["self", "place"] (spMetBy K C)) : FnOk P w K mg base CX0 3 f fd ["clash", "settlement", "place"] (spBarrier K C) := by
  refine F.ok (k := 2) scBarrier (fun vs H Q E h => ?_) (fun cdv A outer s H vs Q E hr h => ?_)
  · obtain ⟨me, ts, ps, os, bs, i, b, rfl, _⟩ := h
    rfl
  · obtain ⟨me, ts, ps, os, bs, i, g, rfl, ca, hts, hbl, ho, k⟩ := h
    obtain ⟨dx, t, lf, lp, dp, dg, lb, G, B, H0, ys, iv, ht, hy, hlen⟩ := id ca
    refine ⟨_, pss_cons (ps_set (i := 3) scBarrier.nd rfl (.inl rfl) (pe_meth (pv 0) T.cl mM GM (hr.mono (by decide)) bM .nil pass0 (pa_cons (pv 2) pa_nil)))
      (pss_cons (ps_if (PW.pt (pw_or (pt_cmpR op_isN (pv 3) pe_non (nomark _)) (pw_or1 (PW.pt (pw_and (pt_val (pe_meth (pv 0) T.cl mE GE hr bE .nil pass0 (pa_cons (pv 3) (pa_cons (pv 2) pa_nil)))) (pw_and1 (pt_val (kt (pv 1) (pv 3))))))))) (pss_one (ps_ret pe_non)) pss_nil)
      (pss_one (ps_ret (pv 3)))), ?_⟩
    refine ⟨.ref me, rfl, me, dx, _, rfl, iv.me, me_no (by decide +kernel), .int i, rfl, me, ps, os, i, g, rfl, ca, ho, ?_⟩
    rw [optV_eq]
    have hi : i < ps.length := by have := (List.getElem?_eq_some_iff.mp ho).1; omega
    unfold barrN at k
    cases em : optN ps g with
    | none =>
      rw [em] at k
      exact ⟨.non, rfl, rfl, _, rfl, iteT (iteT (k H Kp.refl))⟩
    | some m =>
      rw [em] at k
      have hm := opt_lt em
      have hm2 : m < os.length := by omega
      have eE : elseN ps os m i = (isGo os[m] && !decide (os[m] = .go ps[i].1)) := by
        unfold elseN
        rw [List.getElem?_eq_getElem hm2, List.getElem?_eq_getElem hi]
      have hbm : m < bs.length := by omega
      have hbv : (bs.map V.bl)[m]? = some (.bl bs[m]) := by rw [List.getElem?_map, List.getElem?_eq_getElem hbm]; rfl
      have eb : bs.getD m false = bs[m] := by rw [List.getD_eq_getElem?_getD, List.getElem?_eq_getElem hbm]; rfl
      have k : ∀ H', Kp [] H H' → Q (oV' (if (elseN ps os m i && bs.getD m false) = true then none else some m)) H' := k
      rw [eE, eb] at k
      refine ⟨.int m, rfl, rfl, _, rfl, iteF ?_⟩
      refine ⟨.ref me, rfl, me, dx, _, rfl, iv.me, me_no (by decide +kernel), .int m, rfl, .int i, rfl, me, ps, os, m, i, os[m], ps[i], rfl, ca, List.getElem?_eq_getElem hm2, List.getElem?_eq_getElem hi, fun H1 k1 => ⟨_, rfl, ite2 (fun hc => ?_) (fun hc => ?_)⟩⟩
      · refine ⟨.ref ts, rfl, .int m, rfl, ts, _, m, _, rfl, rfl, sameT (kz_seq k1) hts, atI_nat hbv, _, rfl, ?_⟩
        have := k H1 k1
        rw [hc, Bool.true_and] at this
        refine ite2 (fun hd => ?_) (fun hd => ?_)
        · rw [if_pos hd] at this
          exact this
        · rw [if_neg hd] at this
          exact ⟨_, rfl, this⟩
      · have hc : (isGo os[m] && !decide (os[m] = .go ps[i].1)) = false := by simpa using hc
        have := k H1 k1
        rw [hc, Bool.false_and, if_neg Bool.false_ne_true] at this
        exact iteF ⟨_, rfl, this⟩
end
end Kt

set_option Elab.async false
set_option linter.all false
set_option maxRecDepth 100000
set_option maxHeartbeats 4000000
namespace Kt
open PySem PySem.Spec PyProof.Rows L2
abbrev sCutter : Stmt := s_first_cutter
def fdAt (ps : List (Int × Int)) (x : Int) : Int := (ps.getD x.toNat (0, 0)).1
def iV : Option Int → V
  | none => .non
  | some x => .int x
def cutN (ps : List (Int × Int)) (os : List Ord) (p : Int × Int) (g : Int) : Option Int := ((gof os p.1 os.length).filter fun x => !decide (plAt ps x = p.2)).find? fun x => !decide (fdAt ps x = g)
def spCutter (K : PySem.W.Frag) (C : Addr) : Sp := fun vs H Q _ => ∃ (me : Addr) (ps : List (Int × Int)) (os : List Ord) (i : Nat) (f g : Int) (p : Int × Int), vs = [.ref me, .int i] ∧ CA K C H me ps os ∧ os[i]? = some (.back f g) ∧ ps[i]? = some p ∧ ps.length ≤ 24 ∧ ∀ H', Kp [] H H' → Q (iV (cutN ps os p g)) H'
section
variable {P : Program} {w : World} {K : PySem.W.Frag} {mg : Str → Option Value} {base : Heap} {f C fN : Addr} {fd fdN : FuncData}
theorem scCutter : FnScope ["clash", "place", "aim", "goer"] ["clash", "place"] (defScope sCutter) := ⟨rfl, rfl, rfl, by decide +kernel, rfl, by decide +kernel, by decide +kernel⟩
theorem ok_cutter (F : Fun K "first_cutter" "first_cutter" sCutter f fd) (T : ClT K mg C) (bN : Binds K fdN ["self", "place"] []) (mN : Meth K C "foreign_goers_to" fN) (GN : FnOk P w K mg base CX0 2 fN fdN ["self", "place"] (spForeignTo K C)) : FnOk P w K mg base CX0 3 f fd ["clash", "place"] (spCutter K C) := by
  refine F.ok (k := 2) scCutter (fun vs H Q E h => ?_) (fun cdv A outer s H vs Q E hr h => ?_)
  · obtain ⟨me, ps, os, i, f, g, p, rfl, _⟩ := h
    rfl
  · obtain ⟨me, ps, os, i, bf, g, p, rfl, ca, ho, hi, h24, k⟩ := h
    obtain ⟨dx, t, lf, lp, dp, dg, lb, G, B, H0, ys, iv, ht, hy, hlen⟩ := id ca
    refine ⟨_, pss_cons (ps_set (i := 2) scCutter.nd rfl (.inl rfl) (kt (kt (pe_fld (pv 0) rfl) (pv 1)) pe_int))
      (pss_cons (ps_for PassesOwn.never rfl (pi_list (pe_meth (pv 0) T.cl mN GN hr bN .nil pass0 (pa_cons (pv 1) pa_nil))) (pg_name (i := 3) scCutter.nd rfl (.inl rfl)) (pss_one (ps_if (pt_cmpR op_ne (kl (pe_fld (pv 0) rfl) (pv 3)) (pv 2) (nomark _)) (pss_one (ps_ret (pv 3))) pss_nil)))
      (pss_one (ps_ret pe_non))), ?_⟩
    obtain ⟨x, hx⟩ : ∃ x, ys[i]? = some x := ⟨_, List.getElem?_eq_getElem (by have := (List.getElem?_eq_some_iff.mp ho).1; have := hy.len; omega)⟩
    obtain ⟨o', ho', T1, rfl, hT⟩ := hy.at hx
    rw [ho] at ho'
    cases ho'
    refine ⟨.ref me, rfl, me, C, dx, _, _, rfl, iv.me, T.cl, T.nO, fs_orders, .int i, rfl, t, ys, i, _, rfl, rfl, ht, atI_nat hx, T1, _, 2, _, rfl, rfl, SqT.of hT, at2, ?_⟩
    refine ⟨.ref me, rfl, me, dx, _, rfl, iv.me, me_no (by decide +kernel), .int i, rfl, me, ps, os, i, p, rfl, ca, hi, h24, fun H1 l hl0 hl k1 => ?_⟩
    unfold cutN at k
    generalize hL : (gof os p.1 os.length).filter (fun x => !decide (plAt ps x = p.2)) = L at hl k
    have hLm : ∀ x ∈ L, ∃ j : Nat, x = j ∧ j < os.length := fun x hx => by
      rw [← hL] at hx
      obtain ⟨j, e, h, _⟩ := gof_lt (List.mem_filter.mp hx).1
      exact ⟨j, e, h⟩
    have iv1 := iv.keep k1
    refine ⟨l, rfl, ⟨_, SqL.of hl⟩, for_list (K := K) (a := l) (xs := L.map V.int) (fun j σ H' => ∃ v3, σ = [some (.ref me), some (.int i), some (.int g), v3] ∧ Kp [] H1 H' ∧ (L.take j).find? (fun x => !decide (fdAt ps x = g)) = none)
      ⟨_, rfl, Kp.refl, rfl⟩ (fun j σ H' _ ⟨_, _, kk, _⟩ => SqL.of (kk.get (by simp) hl)) ?_ ?_⟩
    · rintro j x σ H' hx2 ⟨v3, rfl, kk, hn⟩
      obtain ⟨m, hm, rfl⟩ := map_ints_get hx2
      obtain ⟨q, rfl, hq⟩ := hLm m (List.mem_of_getElem? hm)
      have hq2 : q < ps.length := by omega
      have hb : ((ps.map (·.1)).map V.int)[q]? = some (.int ps[q].1) := by rw [List.getElem?_map, List.getElem?_map, List.getElem?_eq_getElem hq2]; rfl
      have eb : fdAt ps (q : Int) = ps[q].1 := by
        unfold fdAt
        rw [show ((q : Int)).toNat = q by omega, List.getD_eq_getElem?_getD, List.getElem?_eq_getElem hq2]
        rfl
      have et : L.take (j + 1) = L.take j ++ [(q : Int)] := by
        have := map_snoc id hm
        simpa using this
      have iv2 := iv1.keep kk
      refine ⟨.ref me, rfl, me, C, dx, _, _, rfl, iv2.me, T.cl, T.nF, fs_fields, .int q, rfl, lf, _, q, _, rfl, rfl, SqL.of iv2.f, atI_nat hb, .int g, rfl, rfl, _, rfl, ite2 (fun hc => ?_) (fun hc => ?_)⟩
      · have hc : ¬ ps[q].1 = g := by simpa using hc
        have e : L.find? (fun x => !decide (fdAt ps x = g)) = some (q : Int) := by
          rw [← List.take_append_drop (j + 1) L, et, List.append_assoc, List.find?_append, hn]
          simp [eb, hc]
        have := k H' (k1.trans kk)
        rw [e] at this
        exact ⟨.int q, rfl, this⟩
      · have hc : ps[q].1 = g := by simpa using hc
        refine ⟨_, rfl, kk, ?_⟩
        rw [et, List.find?_append, hn]
        simp [eb, hc]
    · rintro σ H' ⟨v3, rfl, kk, hn⟩
      rw [List.length_map, List.take_length] at hn
      have := k H' (k1.trans kk)
      rw [hn] at this
      exact this
end
end Kt

set_option Elab.async false
set_option linter.all false
set_option maxRecDepth 100000
set_option maxHeartbeats 4000000
namespace Kt
open PySem PySem.Spec PyProof.Rows L2
abbrev sRepel : Stmt := s_repelled_by_met
def repN (ps : List (Int × Int)) (os : List Ord) (bs : List Bool) (g : Int) : Option Nat := match optN ps g with
  | none => none
  | some m => match os[m]? with
    | some (.go h) => if bs.getD m false = true then optN ps h else none
    | _ => none
def spRepel (K : PySem.W.Frag) (C : Addr) : Sp := fun vs H Q _ => ∃ (me ts : Addr) (ps : List (Int × Int)) (os : List Ord) (bs : List Bool) (i : Nat) (g : Int), vs = [.ref me, .ref ts, .int i] ∧ CA K C H me ps os ∧ SqT K H ts (bs.map V.bl) ∧ bs.length = os.length ∧ os[i]? = some (.go g) ∧ Q (oV' (repN ps os bs g)) H
section
variable {P : Program} {w : World} {K : PySem.W.Frag} {mg : Str → Option Value} {base : Heap} {f C fG fM : Addr} {fd fdG fdM : FuncData}
theorem scRepel : FnScope ["clash", "settlement", "place", "met"] ["clash", "settlement", "place"] (defScope sRepel) := ⟨rfl, rfl, rfl, by decide +kernel, rfl, by decide +kernel, by decide +kernel⟩
theorem ok_repel (F : Fun K "repelled_by_met" "repelled_by_met" sRepel f fd) (T : ClT K mg C) (bG : Binds K fdG ["self", "place"] []) (mG : Meth K C "is_going" fG) (GG : FnOk P w K mg base CX0 1 fG fdG ["self", "place"] (spIsGoing K C))
    (bM : Binds K fdM ["self", "place"] []) (mM : Meth K C "met_by" fM) (GM : FnOk P w K mg base CX0 1 fM fdM ["self", "place"] (spMetBy K C)) : FnOk P w K mg base CX0 2 f fd ["clash", "settlement", "place"] (spRepel K C) := by
  refine F.ok scRepel (fun vs H Q E h => ?_) (fun cdv A outer s H vs Q E hr h => ?_)
  · obtain ⟨me, ts, ps, os, bs, i, b, rfl, _⟩ := h
    rfl
  · obtain ⟨me, ts, ps, os, bs, i, g, rfl, ca, hts, hbl, ho, k⟩ := h
    obtain ⟨dx, t, lf, lp, dp, dg, lb, G, B, H0, ys, iv, ht, hy, hlen⟩ := id ca
    refine ⟨_, pss_cons (ps_set (i := 3) scRepel.nd rfl (.inl rfl) (pe_meth (pv 0) T.cl mM GM hr bM .nil pass0 (pa_cons (pv 2) pa_nil)))
      (pss_cons (ps_if (PW.pt (pw_or (pt_cmpR op_isN (pv 3) pe_non (nomark _)) (pw_or (pt_not (pt_val (pe_meth (pv 0) T.cl mG GG hr bG .nil pass0 (pa_cons (pv 3) pa_nil)))) (pw_or1 (pt_not (pt_val (kt (pv 1) (pv 3)))))))) (pss_one (ps_ret pe_non)) pss_nil)
      (pss_one (ps_ret (pe_meth (pv 0) T.cl mM GM hr bM .nil pass0 (pa_cons (pv 3) pa_nil))))), ?_⟩
    refine ⟨.ref me, rfl, me, dx, _, rfl, iv.me, me_no (by decide +kernel), .int i, rfl, me, ps, os, i, g, rfl, ca, ho, ?_⟩
    rw [optV_eq]
    cases em : optN ps g with
    | none =>
      have e : repN ps os bs g = none := by unfold repN; rw [em]
      rw [e] at k
      exact ⟨.non, rfl, rfl, _, rfl, iteT (iteT k)⟩
    | some m =>
      have hm := opt_lt em
      have hm2 : m < os.length := by omega
      have hbm : m < bs.length := by omega
      have hbv : (bs.map V.bl)[m]? = some (.bl bs[m]) := by rw [List.getElem?_map, List.getElem?_eq_getElem hbm]; rfl
      have eb : bs.getD m false = bs[m] := by rw [List.getD_eq_getElem?_getD, List.getElem?_eq_getElem hbm]; rfl
      refine ⟨.int m, rfl, rfl, _, rfl, iteF ?_⟩
      have hom := List.getElem?_eq_getElem hm2
      generalize os[m] = o at hom
      refine ⟨.ref me, rfl, me, dx, _, rfl, iv.me, me_no (by decide +kernel), .int m, rfl, me, ps, os, m, o, rfl, ca, hom, _, rfl, ?_⟩
      cases o with
      | stay =>
        have e : repN ps os bs g = none := by
          unfold repN
          simp only [em, hom]
        rw [e] at k
        exact iteT (iteT k)
      | back _ _ =>
        have e : repN ps os bs g = none := by
          unfold repN
          simp only [em, hom]
        rw [e] at k
        exact iteT (iteT k)
      | go h =>
        have e : repN ps os bs g = if bs[m] = true then optN ps h else none := by
          unfold repN
          simp only [em, hom, eb]
        rw [e] at k
        refine iteF ⟨.ref ts, rfl, .int m, rfl, ts, _, m, _, rfl, rfl, hts, atI_nat hbv, _, rfl, ?_⟩
        cases hb : bs[m] with
        | false =>
          rw [hb, if_neg Bool.false_ne_true] at k
          exact iteT k
        | true =>
          rw [hb, if_pos rfl] at k
          refine iteF ⟨.ref me, rfl, me, dx, _, rfl, iv.me, me_no (by decide +kernel), .int m, rfl, me, ps, os, m, h, rfl, ca, hom, ?_⟩
          rw [optV_eq]
          exact k
end
end Kt

set_option Elab.async false
set_option linter.all false
set_option maxRecDepth 100000
set_option maxHeartbeats 4000000
namespace Kt
open PySem PySem.Spec PyProof.Rows L2
abbrev sRival : Stmt := s_first_rival
def isRival (ps : List (Int × Int)) (os : List Ord) (bs : List Bool) (i : Nat) (th : Int) (rep : Option Nat) (x : Int) : Bool :=
  !decide (x = (i : Int)) && (!decide (V.int x = oV' rep) && decide (th ≤ (forceN ps os bs x.toNat : Nat)))
def spRival (K : PySem.W.Frag) (C : Addr) : Sp := fun vs H Q _ => ∃ (me ts : Addr) (ps : List (Int × Int)) (os : List Ord) (bs : List Bool) (i : Nat) (g th : Int) (rep : Option Nat), vs = [.ref me, .ref ts, .int i, .int th, oV' rep] ∧ CA K C H me ps os ∧ SqT K H ts (bs.map V.bl) ∧ bs.length = os.length ∧ os[i]? = some (.go g) ∧ ps.length ≤ 24 ∧ ∀ H', Kp [] H H' → Q (iV ((gof os g os.length).find? (isRival ps os bs i th rep))) H'
section
variable {P : Program} {w : World} {K : PySem.W.Frag} {mg : Str → Option Value} {base : Heap} {f C fG fM : Addr} {fd fdG fdM : FuncData}
theorem scRival : FnScope ["clash", "stands", "place", "thrust", "repelled", "other"] ["clash", "stands", "place", "thrust", "repelled"] (defScope sRival) := ⟨rfl, rfl, rfl, by decide +kernel, rfl, by decide +kernel, by decide +kernel⟩
theorem ok_rival (F : Fun K "first_rival" "first_rival" sRival f fd) (T : ClT K mg C) (bG : Binds K fdG ["self", "stands", "place"] []) (mG : Meth K C "force_of" fG) (GG : FnOk P w K mg base CX0 1 fG fdG ["self", "stands", "place"] (spForce K C))
    (bM : Binds K fdM ["self", "field"] []) (mM : Meth K C "goers_to" fM) (GM : FnOk P w K mg base CX0 1 fM fdM ["self", "field"] (spGoersTo K C)) : FnOk P w K mg base CX0 2 f fd ["clash", "stands", "place", "thrust", "repelled"] (spRival K C) := by
  refine F.ok scRival (fun vs H Q E h => ?_) (fun cdv A outer s H vs Q E hr h => ?_)
  · obtain ⟨me, ts, ps, os, bs, i, g, th, rep, rfl, _⟩ := h
    rfl
  · obtain ⟨me, ts, ps, os, bs, i, g, th, rep, rfl, ca, hts, hbl, ho, h24, k⟩ := h
    obtain ⟨dx, t, lf, lp, dp, dg, lb, G, B, H0, ys, iv, ht, hy, hlen⟩ := id ca
    refine ⟨_, pss_cons (ps_for PassesOwn.never rfl (pi_list (pe_meth (pv 0) T.cl mM GM hr bM .nil pass0 (pa_cons (kt (kt (pe_fld (pv 0) rfl) (pv 2)) pe_int) pa_nil))) (pg_name (i := 5) scRival.nd rfl (.inl rfl))
        (pss_one (ps_if (PW.pt (pw_and (pt_cmpR op_ne (pv 5) (pv 2) (nomark _)) (pw_and (pt_cmpR op_ne (pv 5) (pv 4) (nomark _)) (pw_and1 (pt_cmpR op_ge (pe_meth (pv 0) T.cl mG GG hr bG .nil pass0 (pa_cons (pv 1) (pa_cons (pv 5) pa_nil))) (pv 3) (nomark _)))))) (pss_one (ps_ret (pv 5))) pss_nil)))
      (pss_one (ps_ret pe_non)), ?_⟩
    obtain ⟨x, hx⟩ : ∃ x, ys[i]? = some x := ⟨_, List.getElem?_eq_getElem (by have := (List.getElem?_eq_some_iff.mp ho).1; have := hy.len; omega)⟩
    obtain ⟨o', ho', T1, rfl, hT⟩ := hy.at hx
    rw [ho] at ho'
    cases ho'
    refine ⟨.ref me, rfl, me, dx, _, rfl, iv.me, me_no (by decide +kernel), .ref me, rfl, me, C, dx, _, _, rfl, iv.me, T.cl, T.nO, fs_orders, .int i, rfl, t, ys, i, _, rfl, rfl, ht, atI_nat hx, T1, _, 1, _, rfl, rfl, SqT.of hT, at1, me, ps, os, g, rfl, ca, fun H1 l hl0 hl k1 => ?_⟩
    have iv1 := iv.keep k1
    refine ⟨l, rfl, ⟨_, SqL.of hl⟩, for_list (K := K) (a := l) (xs := (gof os g os.length).map V.int) (fun j σ H' => ∃ v5, σ = [some (.ref me), some (.ref ts), some (.int i), some (.int th), some (oV' rep), v5] ∧ Kp [] H1 H' ∧ ((gof os g os.length).take j).find? (isRival ps os bs i th rep) = none)
      ⟨_, rfl, Kp.refl, rfl⟩ (fun j σ H' _ ⟨_, _, kk, _⟩ => SqL.of (kk.get (by simp) hl)) ?_ ?_⟩
    · rintro j x σ H' hx2 ⟨v5, rfl, kk, hn⟩
      obtain ⟨m, hm, rfl⟩ := map_ints_get hx2
      obtain ⟨q, rfl, hq, _⟩ := gof_lt (List.mem_of_getElem? hm)
      have hq2 : q < ps.length := by omega
      have et : (gof os g os.length).take (j + 1) = (gof os g os.length).take j ++ [(q : Int)] := by
        have := map_snoc id hm
        simpa using this
      have k2 := k1.trans kk
      have no : ∀ H2, Kp [] H' H2 → isRival ps os bs i th rep (q : Int) = false → ∃ v5, [some (V.ref me), some (.ref ts), some (.int i), some (.int th), some (oV' rep), some (.int (q : Int))] = [some (V.ref me), some (.ref ts), some (.int i), some (.int th), some (oV' rep), v5] ∧ Kp [] H1 H2 ∧ ((gof os g os.length).take (j + 1)).find? (isRival ps os bs i th rep) = none := fun H2 k3 hc => by
        refine ⟨_, rfl, kk.trans k3, ?_⟩
        rw [et, List.find?_append, hn]
        simp [hc]
      have yes : ∀ H2, Kp [] H' H2 → isRival ps os bs i th rep (q : Int) = true → Q (.int (q : Int)) H2 := fun H2 k3 hc => by
        have e : (gof os g os.length).find? (isRival ps os bs i th rep) = some (q : Int) := by
          rw [← List.take_append_drop (j + 1) (gof os g os.length), et, List.append_assoc, List.find?_append, hn]
          simp [hc]
        have := k H2 (k2.trans k3)
        rw [e] at this
        exact this
      have d1 : decide (V.int (q : Int) = V.int (i : Int)) = decide ((q : Int) = (i : Int)) := by by_cases z : (q : Int) = (i : Int) <;> simp [z]
      refine ⟨.int q, rfl, .int i, rfl, rfl, _, rfl, ite2 (fun hc => ?_) (fun hc => ?_)⟩
      · rw [d1] at hc
        refine ⟨.int q, rfl, oV' rep, rfl, by cases rep <;> rfl, _, rfl, ite2 (fun hd => ?_) (fun hd => ?_)⟩
        · refine ⟨.ref me, rfl, me, dx, _, rfl, k2.get (by simp) iv.me, me_no (by decide +kernel), .ref ts, rfl, .int q, rfl, me, ts, ps, os, bs, q, rfl, ca.keep k2, sameT (kz_seq k2) hts, hbl, hq2, h24, fun H3 k3 => ?_⟩
          have ei : isRival ps os bs i th rep (q : Int) = decide (th ≤ (forceN ps os bs q : Nat)) := by
            unfold isRival
            rw [hc, hd, Bool.true_and, Bool.true_and]
            rfl
          refine ⟨.int th, rfl, _, _, rfl, rfl, _, rfl, ite2 (fun he => ?_) (fun he => ?_)⟩
          · exact ⟨.int q, rfl, yes H3 k3 (by rw [ei]; simpa using he)⟩
          · exact no H3 k3 (by rw [ei]; simpa using he)
        · have hd : (!decide (V.int (q : Int) = oV' rep)) = false := by simpa using hd
          exact no H' Kp.refl (by unfold isRival; rw [hd, Bool.false_and, Bool.and_false])
      · rw [d1] at hc
        have hc : (!decide ((q : Int) = (i : Int))) = false := by simpa using hc
        exact iteF (no H' Kp.refl (by unfold isRival; rw [hc, Bool.false_and]))
    · rintro σ H' ⟨v5, rfl, kk, hn⟩
      rw [List.length_map, List.take_length] at hn
      have := k H' (k1.trans kk)
      rw [hn] at this
      exact this
end
end Kt

set_option Elab.async false
set_option linter.all false
set_option maxRecDepth 100000
set_option maxHeartbeats 4000000
namespace Kt
open PySem PySem.Spec PyProof.Rows L2
abbrev sGoWins : Stmt := s_go_wins
def goN (ps : List (Int × Int)) (os : List Ord) (bs : List Bool) (i : Nat) (g : Int) (b rep : Option Nat) : Bool :=
  (match b with
    | none => true
    | some m => !decide (plAt ps (i : Int) = plAt ps (m : Int)) && !decide (((thrustO ps os bs i b : Nat) : Int) ≤ (holdN ps os bs i m : Nat))) && ((gof os g os.length).find? (isRival ps os bs i (thrustO ps os bs i b : Nat) rep)).isNone
def spGoWins (K : PySem.W.Frag) (C : Addr) : Sp := fun vs H Q _ => ∃ (me ts : Addr) (ps : List (Int × Int)) (os : List Ord) (bs : List Bool) (i : Nat) (g : Int) (b rep : Option Nat), vs = [.ref me, .ref ts, .int i, oV' b, oV' rep] ∧ CA K C H me ps os ∧ SqT K H ts (bs.map V.bl) ∧ bs.length = os.length ∧ os[i]? = some (.go g) ∧ ps.length ≤ 24 ∧ (∀ x, b = some x → x < ps.length) ∧ ∀ H', Kp [] H H' → Q (.bl (goN ps os bs i g b rep)) H'
section
variable {P : Program} {w : World} {K : PySem.W.Frag} {mg : Str → Option Value} {base : Heap} {f C fT fN fO fR : Addr} {fd fdT fdN fdO fdR : FuncData}
theorem scGoWins : FnScope ["clash", "stands", "place", "barrier", "repelled", "thrust"] ["clash", "stands", "place", "barrier", "repelled"] (defScope sGoWins) := ⟨rfl, rfl, rfl, by decide +kernel, rfl, by decide +kernel, by decide +kernel⟩
theorem ok_goWins (F : Fun K "go_wins" "go_wins" sGoWins f fd) (T : ClT K mg C) (bT : Binds K fdT ["self", "stands", "place", "barrier"] []) (mT : Meth K C "thrust_of" fT) (GT : FnOk P w K mg base CX0 2 fT fdT ["self", "stands", "place", "barrier"] (spThrust K C))
    (bN : Binds K fdN ["self", "place", "other"] []) (mN : Meth K C "is_foreign" fN) (GN : FnOk P w K mg base CX0 1 fN fdN ["self", "place", "other"] (spForeign K C))
    (FO : Fun K "holding_by" "holding_by" sHolding fO fdO) (bO : Binds K fdO ["clash", "stands", "place", "barrier"] []) (gO : mg "holding_by" = some (.ref fO)) (GO : FnOk P w K mg base CX0 3 fO fdO ["clash", "stands", "place", "barrier"] (spHolding K C))
    (FR : Fun K "first_rival" "first_rival" sRival fR fdR) (bR : Binds K fdR ["clash", "stands", "place", "thrust", "repelled"] []) (gR : mg "first_rival" = some (.ref fR)) (GR : FnOk P w K mg base CX0 2 fR fdR ["clash", "stands", "place", "thrust", "repelled"] (spRival K C)) :
    FnOk P w K mg base CX0 4 f fd ["clash", "stands", "place", "barrier", "repelled"] (spGoWins K C) := by
  refine F.ok (k := 3) scGoWins (fun vs H Q E h => ?_) (fun cdv A outer s H vs Q E hr h => ?_)
  · obtain ⟨me, ts, ps, os, bs, i, g, b, rep, rfl, _⟩ := h
    rfl
  · obtain ⟨me, ts, ps, os, bs, i, g, b, rep, rfl, ca, hts, hbl, ho, h24, hb, k⟩ := h
    have hi : i < ps.length := by
      obtain ⟨dx, t, lf, lp, dp, dg, lb, G, B, H0, ys, iv, ht, hy, hlen⟩ := ca
      have := (List.getElem?_eq_some_iff.mp ho).1
      omega
    have me_at : ∀ {H'}, CA K C H' me ps os → ∃ dx t lf lp dp dg lb, H' me = some (.ins C dx (FS (.ref t) lf lp dp dg lb)) := fun {H'} h => by
      obtain ⟨dx, t, lf, lp, dp, dg, lb, G, B, H0, ys, iv, _⟩ := h
      exact ⟨dx, t, lf, lp, dp, dg, lb, iv.me⟩
    refine ⟨_, pss_cons (ps_set (i := 5) scGoWins.nd rfl (.inl rfl) (pe_meth (pv 0) T.cl mT GT (hr.mono (by decide)) bT .nil pass0 (pa_cons (pv 1) (pa_cons (pv 2) (pa_cons (pv 3) pa_nil)))))
      (Evl.pss_cut (ps_if (pt_cmpR op_notN (pv 3) pe_non (nomark _)) (pss_one (ps_if (PW.pt (pw_or (pt_not (pt_val (pe_meth (pv 0) T.cl mN GN (hr.mono (by decide)) bN .nil pass0 (pa_cons (pv 2) (pa_cons (pv 3) pa_nil))))) (pw_or1 (pt_cmpR op_le (pv 5) (pe_call GO hr (by rfl) gO FO.kp bO .nil pass0 (pa_cons (pv 0) (pa_cons (pv 1) (pa_cons (pv 2) (pa_cons (pv 3) pa_nil))))) (nomark _))))) (pss_one (ps_ret pe_bl)) pss_nil)) pss_nil)
      (pss_one (ps_ret (pe_cmpR op_isN (pe_call GR (hr.mono (by decide)) (by rfl) gR FR.kp bR .nil pass0 (pa_cons (pv 0) (pa_cons (pv 1) (pa_cons (pv 2) (pa_cons (pv 5) (pa_cons (pv 4) pa_nil)))))) pe_non (nomark _))))), ?_⟩
    obtain ⟨dx, t, lf, lp, dp, dg, lb, hm⟩ := me_at ca
    refine ⟨.ref me, rfl, me, dx, _, rfl, hm, me_no (by decide +kernel), .ref ts, rfl, .int i, rfl, oV' b, rfl, me, ts, ps, os, bs, i, b, rfl, ca, hts, hbl, hi, h24, hb, fun H1 k1 => ?_⟩
    refine ⟨fun σ' H2 => σ' = [some (.ref me), some (.ref ts), some (.int i), some (oV' b), some (oV' rep), some (.int (thrustO ps os bs i b : Nat))] ∧ Kp [] H1 H2 ∧ goN ps os bs i g b rep = ((gof os g os.length).find? (isRival ps os bs i (thrustO ps os bs i b : Nat) rep)).isNone, ?_, ?_⟩
    · cases b with
      | none => exact ⟨.non, rfl, rfl, _, rfl, iteF ⟨rfl, Kp.refl, by simp [goN]⟩⟩
      | some m =>
        have hm2 := hb m rfl
        have epl : ∀ {q : Nat} (h : q < ps.length), plAt ps (q : Int) = ps[q].2 := fun {q} h => by
          unfold plAt
          rw [show ((q : Int)).toNat = q by omega, List.getD_eq_getElem?_getD, List.getElem?_eq_getElem h]
          rfl
        have eg : goN ps os bs i g (some m) rep = ((!decide (ps[i].2 = ps[m].2) && !decide (((thrustO ps os bs i (some m) : Nat) : Int) ≤ (holdN ps os bs i m : Nat))) && ((gof os g os.length).find? (isRival ps os bs i (thrustO ps os bs i (some m) : Nat) rep)).isNone) := by
          rw [← epl hi, ← epl hm2]
          rfl
        refine ⟨.int m, rfl, rfl, _, rfl, iteT ?_⟩
        refine ⟨.ref me, rfl, me, dx, _, rfl, k1.get (by simp) hm, me_no (by decide +kernel), .int i, rfl, .int m, rfl, me, ps, os, i, m, ps[i], ps[m], rfl, ca.keep k1, List.getElem?_eq_getElem hi, List.getElem?_eq_getElem hm2, _, rfl, ?_⟩
        cases hs : decide (ps[i].2 = ps[m].2) with
        | true =>
          have := k H1 k1
          rw [eg, hs] at this
          exact iteT (iteT this)
        | false =>
          refine iteF ⟨.int _, rfl, .ref me, rfl, .ref ts, rfl, .int i, rfl, .int m, rfl, me, ts, ps, os, bs, i, m, rfl, ca.keep k1, sameT (kz_seq k1) hts, hbl, hi, hm2, h24, fun H2 k2 => ⟨_, _, rfl, rfl, _, rfl, ite2 (fun hc => ?_) (fun hc => ?_)⟩⟩
          · have := k H2 (k1.trans k2)
            rw [eg, hs, hc] at this
            exact this
          · refine ⟨rfl, k2, ?_⟩
            have hc : decide (((thrustO ps os bs i (some m) : Nat) : Int) ≤ (holdN ps os bs i m : Nat)) = false := by simpa using hc
            rw [eg, hs, hc]
            rfl
    · rintro σ' H2 ⟨rfl, k2, eg⟩
      have k12 := k1.trans k2
      refine ⟨.ref me, rfl, .ref ts, rfl, .int i, rfl, .int _, rfl, oV' rep, rfl, me, ts, ps, os, bs, i, g, _, rep, rfl, ca.keep k12, sameT (kz_seq k12) hts, hbl, ho, h24, fun H3 k3 => ?_⟩
      have := k H3 (k12.trans k3)
      rw [eg] at this
      cases q : (gof os g os.length).find? (isRival ps os bs i (thrustO ps os bs i b : Nat) rep) with
      | none => rw [q] at this; exact ⟨rfl, this⟩
      | some x => rw [q] at this; exact ⟨rfl, this⟩
end
end Kt

set_option Elab.async false
set_option linter.all false
set_option maxRecDepth 100000
set_option maxHeartbeats 4000000
namespace Kt
open PySem PySem.Spec PyProof.Rows L2
abbrev sBackStands : Stmt := s_back_stands
def standN (ps : List (Int × Int)) (os : List Ord) (bs : List Bool) (p : Int × Int) (f g : Int) : Bool :=
  fitF ps os f g && (cutN ps os p g).isNone && decide (winV os bs p.1 = .non)
def spStands (K : PySem.W.Frag) (C : Addr) : Sp := fun vs H Q _ => ∃ (me ts : Addr) (ps : List (Int × Int)) (os : List Ord) (bs : List Bool) (i : Nat) (f g : Int) (p : Int × Int), vs = [.ref me, .ref ts, .int i] ∧ CA K C H me ps os ∧ SqT K H ts (bs.map V.bl) ∧ bs.length = os.length ∧ os[i]? = some (.back f g) ∧ f ∈ ps.map (·.1) ∧ ps[i]? = some p ∧ ps.length ≤ 24 ∧ ∀ H', Kp [] H H' → Q (.bl (standN ps os bs p f g)) H'
section
variable {P : Program} {w : World} {K : PySem.W.Frag} {mg : Str → Option Value} {base : Heap} {f C fF fU fW : Addr} {fd fdF fdU fdW : FuncData}
theorem scStands : FnScope ["clash", "settlement", "place"] ["clash", "settlement", "place"] (defScope sBackStands) := ⟨rfl, rfl, rfl, by decide +kernel, rfl, by decide +kernel, by decide +kernel⟩
theorem ok_stands (F : Fun K "_back_stands" "_back_stands" sBackStands f fd) (T : ClT K mg C) (bF : Binds K fdF ["self", "place"] []) (mF : Meth K C "is_fitting" fF) (GF : FnOk P w K mg base CX0 2 fF fdF ["self", "place"] (spIsFit K C))
    (FU : Fun K "first_cutter" "first_cutter" sCutter fU fdU) (bU : Binds K fdU ["clash", "place"] []) (gU : mg "first_cutter" = some (.ref fU)) (GU : FnOk P w K mg base CX0 3 fU fdU ["clash", "place"] (spCutter K C))
    (bW : Binds K fdW ["self", "settlement", "field"] []) (mW : Meth K C "winner_into" fW) (GW : FnOk P w K mg base CX0 1 fW fdW ["self", "settlement", "field"] (spWinner K C)) :
    FnOk P w K mg base CX0 4 f fd ["clash", "settlement", "place"] (spStands K C) := by
  refine F.ok (k := 3) scStands (fun vs H Q E h => ?_) (fun cdv A outer s H vs Q E hr h => ?_)
  · obtain ⟨me, ts, ps, os, bs, i, f, g, p, rfl, _⟩ := h
    rfl
  · obtain ⟨me, ts, ps, os, bs, i, bf, g, p, rfl, ca, hts, hbl, ho, hf, hi, h24, k⟩ := h
    obtain ⟨dx, t, lf, lp, dp, dg, lb, G, B, H0, ys, iv, ht, hy, hlen⟩ := id ca
    refine ⟨_, pss_cons (ps_if (PW.pt (pw_or (pt_not (pt_val (pe_meth (pv 0) T.cl mF GF (hr.mono (by decide)) bF .nil pass0 (pa_cons (pv 2) pa_nil)))) (pw_or1 (pt_cmpR op_notN (pe_call GU hr (by rfl) gU FU.kp bU .nil pass0 (pa_cons (pv 0) (pa_cons (pv 2) pa_nil))) pe_non (nomark _))))) (pss_one (ps_ret pe_bl)) pss_nil)
      (pss_one (ps_ret (pe_cmpR op_isN (pe_meth (pv 0) T.cl mW GW (hr.mono (by decide)) bW .nil pass0 (pa_cons (pv 1) (pa_cons (kl (pe_fld (pv 0) rfl) (pv 2)) pa_nil))) pe_non (nomark _)))), ?_⟩
    refine ⟨.ref me, rfl, me, dx, _, rfl, iv.me, me_no (by decide +kernel), .int i, rfl, me, dx, t, lf, lp, dp, dg, lb, ys, os, ps, i, bf, g, rfl, iv.me, ht, hy, iv.pl, hlen, ho, hf, fun H1 k1 => ⟨_, rfl, ?_⟩⟩
    unfold standN at k
    cases e1 : fitF ps os bf g with
    | false =>
      have := k H1 k1
      rw [e1] at this
      exact iteT (iteT this)
    | true =>
      rw [e1] at k
      refine iteF ⟨.ref me, rfl, .int i, rfl, me, ps, os, i, bf, g, p, rfl, ca.keep k1, ho, hi, h24, fun H2 k2 => ⟨rfl, _, rfl, ?_⟩⟩
      have k12 := k1.trans k2
      cases e2 : cutN ps os p g with
      | some x =>
        have := k H2 k12
        rw [e2] at this
        exact iteT this
      | none =>
        rw [e2] at k
        have iv2 := iv.keep k12
        have h2 : ((ps.map (·.1)).map V.int)[i]? = some (.int p.1) := by rw [List.getElem?_map, List.getElem?_map, hi]; rfl
        refine iteF ⟨.ref me, rfl, me, dx, _, rfl, iv2.me, me_no (by decide +kernel), .ref ts, rfl, .ref me, rfl, me, C, dx, _, _, rfl, iv2.me, T.cl, T.nF, fs_fields, .int i, rfl, lf, _, i, _, rfl, rfl, SqL.of iv2.f, atI_nat h2, me, ts, ps, os, bs, p.1, rfl, ca.keep k12, sameT (kz_seq k12) hts, hbl, fun H3 k3 => ⟨rfl, ?_⟩⟩
        have := k H3 (k12.trans k3)
        simpa using this
end
end Kt

set_option Elab.async false
set_option linter.all false
set_option maxRecDepth 100000
set_option maxHeartbeats 4000000
namespace Kt
open PySem PySem.Spec PyProof.Rows L2
abbrev sTold : Stmt := s_told
/-- what the rules tell of the order at i -/
def toldN (ps : List (Int × Int)) (os : List Ord) (bs : List Bool) (i : Nat) (p : Int × Int) : Ord → Bool
  | .stay => true
  | .go g => goN ps os bs i g (barrN ps os bs i g) (repN ps os bs g)
  | .back f g => standN ps os bs p f g
def spTold (K : PySem.W.Frag) (C : Addr) : Sp := fun vs H Q _ => ∃ (me ts : Addr) (ps : List (Int × Int)) (os : List Ord) (bs : List Bool) (i : Nat) (o : Ord) (p : Int × Int), vs = [.ref me, .ref ts, .int i, .str (word o)] ∧ CA K C H me ps os ∧ SqT K H ts (bs.map V.bl) ∧ bs.length = os.length ∧ os[i]? = some o ∧ (∀ f g, o = .back f g → f ∈ ps.map (·.1)) ∧ ps[i]? = some p ∧ ps.length ≤ 24 ∧ ∀ H', Kp [] H H' → Q (.bl (toldN ps os bs i p o)) H'
theorem barr_lt {ps : List (Int × Int)} {os : List Ord} {bs : List Bool} {i : Nat} {g : Int} {x : Nat} (h : barrN ps os bs i g = some x) : x < ps.length := by
  unfold barrN at h
  split at h
  · cases h
  · rename_i m e
    split at h
    · cases h
    · cases h
      exact opt_lt e
section
variable {P : Program} {w : World} {K : PySem.W.Frag} {mg : Str → Option Value} {base : Heap} {f C fS fB fG fR : Addr} {fd fdS fdB fdG fdR : FuncData}
theorem scTold : FnScope ["clash", "settlement", "place", "word", "barrier"] ["clash", "settlement", "place", "word"] (defScope sTold) := ⟨rfl, rfl, rfl, by decide +kernel, rfl, by decide +kernel, by decide +kernel⟩
theorem ok_told (F : Fun K "_told" "_told" sTold f fd)
    (FS' : Fun K "_back_stands" "_back_stands" sBackStands fS fdS) (bS : Binds K fdS ["clash", "settlement", "place"] []) (gS : mg "_back_stands" = some (.ref fS)) (GS : FnOk P w K mg base CX0 4 fS fdS ["clash", "settlement", "place"] (spStands K C))
    (FB : Fun K "barrier_to" "barrier_to" sBarrier fB fdB) (bB : Binds K fdB ["clash", "settlement", "place"] []) (gB : mg "barrier_to" = some (.ref fB)) (GB : FnOk P w K mg base CX0 3 fB fdB ["clash", "settlement", "place"] (spBarrier K C))
    (FG : Fun K "go_wins" "go_wins" sGoWins fG fdG) (bG : Binds K fdG ["clash", "stands", "place", "barrier", "repelled"] []) (gG : mg "go_wins" = some (.ref fG)) (GG : FnOk P w K mg base CX0 4 fG fdG ["clash", "stands", "place", "barrier", "repelled"] (spGoWins K C))
    (FR : Fun K "repelled_by_met" "repelled_by_met" sRepel fR fdR) (bR : Binds K fdR ["clash", "settlement", "place"] []) (gR : mg "repelled_by_met" = some (.ref fR)) (GR : FnOk P w K mg base CX0 2 fR fdR ["clash", "settlement", "place"] (spRepel K C)) :
    FnOk P w K mg base CX0 5 f fd ["clash", "settlement", "place", "word"] (spTold K C) := by
  refine F.ok (k := 4) scTold (fun vs H Q E h => ?_) (fun cdv A outer s H vs Q E hr h => ?_)
  · obtain ⟨me, ts, ps, os, bs, i, o, p, rfl, _⟩ := h
    rfl
  · obtain ⟨me, ts, ps, os, bs, i, o, p, rfl, ca, hts, hbl, ho, hbk, hi, h24, k⟩ := h
    refine ⟨_, pss_cons (ps_if (pt_cmpR op_eq (pv 3) pe_str (nomark _)) (pss_one (ps_ret (pe_call GS hr (by rfl) gS FS'.kp bS .nil pass0 (pa_cons (pv 0) (pa_cons (pv 1) (pa_cons (pv 2) pa_nil)))))) pss_nil)
      (pss_cons (ps_if (pt_cmpR op_eq (pv 3) pe_str (nomark _)) (pss_cons (ps_set (i := 4) scTold.nd rfl (.inl rfl) (pe_call GB (hr.mono (by decide)) (by rfl) gB FB.kp bB .nil pass0 (pa_cons (pv 0) (pa_cons (pv 1) (pa_cons (pv 2) pa_nil)))))
        (pss_one (ps_ret (pe_call GG hr (by rfl) gG FG.kp bG .nil pass0 (pa_cons (pv 0) (pa_cons (pv 1) (pa_cons (pv 2) (pa_cons (pv 4) (pa_cons (pe_call GR (hr.mono (by decide)) (by rfl) gR FR.kp bR .nil pass0 (pa_cons (pv 0) (pa_cons (pv 1) (pa_cons (pv 2) pa_nil)))) pa_nil))))))))) pss_nil)
      (pss_one (ps_ret pe_bl))), ?_⟩
    refine ⟨.str (word o), rfl, rfl, _, rfl, ?_⟩
    rw [word_back]
    cases o with
    | back bf g => exact iteT ⟨.ref me, rfl, .ref ts, rfl, .int i, rfl, me, ts, ps, os, bs, i, bf, g, p, rfl, ca, hts, hbl, ho, hbk bf g rfl, hi, h24, k⟩
    | stay =>
      refine iteF ⟨.str (word .stay), rfl, rfl, _, rfl, ?_⟩
      rw [word_go']
      exact iteF (k H Kp.refl)
    | go g =>
      refine iteF ⟨.str (word (.go g)), rfl, rfl, _, rfl, ?_⟩
      rw [word_go']
      refine iteT ⟨.ref me, rfl, .ref ts, rfl, .int i, rfl, me, ts, ps, os, bs, i, g, rfl, ca, hts, hbl, ho, fun H1 k1 => ?_⟩
      refine ⟨.ref me, rfl, .ref ts, rfl, .int i, rfl, oV' (barrN ps os bs i g), rfl, .ref me, rfl, .ref ts, rfl, .int i, rfl, me, ts, ps, os, bs, i, g, rfl, ca.keep k1, sameT (kz_seq k1) hts, hbl, ho, ?_⟩
      exact ⟨me, ts, ps, os, bs, i, g, barrN ps os bs i g, repN ps os bs g, rfl, ca.keep k1, sameT (kz_seq k1) hts, hbl, ho, h24, fun x hx => barr_lt hx, fun H2 k2 => k H2 (k1.trans k2)⟩
end
end Kt

set_option Elab.async false
set_option linter.all false
set_option maxRecDepth 100000
set_option maxHeartbeats 4000000
namespace Kt
open PySem PySem.Spec PyProof.Rows L2
theorem call_isiTold {X : Cx} (K : PySem.W.Frag) (hK : X.K = K := by rfl) : CallR X (.builtin "isinstance") (rIsi K) := by
  subst hK
  exact call_isi
abbrev sSetErr : Stmt := s_settlement_error
def spIsSetM (K : PySem.W.Frag) : Sp := fun vs H Q _ => ∃ (t z : Addr) (ys : List V) (vl : List Bool), vs = [.ref t, .ref z] ∧ H t = some (.tup ys) ∧ H z = some (.tup (vl.map V.bl)) ∧ vl.length ≤ 1000 ∧ ∀ H', Kp [] H H' → Q (.bl (decide (vl.length = ys.length))) H'
/-- the first j places are as the rules tell -/
def asTold (ps : List (Int × Int)) (os : List Ord) (bs : List Bool) (j : Nat) : Prop := ∀ (i : Nat) o p, i < j → os[i]? = some o → ps[i]? = some p → toldN ps os bs i p o = bs.getD i false
def spSetErrM (K : PySem.W.Frag) : Sp := fun vs H Q _ => ∃ (v : V) (t z : Addr) (n : Int) (rs : List (Int × Int)) (cs : List Int) (ps : List (Int × Int)) (ys : List V) (os : List Ord) (bs : List Bool), vs = [v, .ref t, .ref z] ∧ Dp K H v (bdD n rs cs ps) ∧ H t = some (.tup ys) ∧ Ps oV H ys os ∧ H z = some (.tup (bs.map V.bl)) ∧
  os.length = ps.length ∧ bs.length = os.length ∧ ps.length ≤ 24 ∧ (ps.map (·.1)).Nodup ∧ (∀ (j : Nat) (f g : Int), os[j]? = some (.back f g) → f ∈ ps.map (·.1)) ∧
  (∀ H', asTold ps os bs os.length → Kp [] H H' → Q .non H') ∧
  ∀ (H' : Hp) (r : Addr) (j : Nat) (o : Ord) (p : Int × Int), os[j]? = some o → ps[j]? = some p → toldN ps os bs j p o ≠ bs.getD j false → asTold ps os bs j → H' r = some (.tup [.str "order", .int (j : Nat)]) → Kp [] H H' → Q (.ref r) H'
section
variable {P : Program} {w : World} {K : PySem.W.Frag} {mg : Str → Option Value} {base : Heap}
abbrev nIsSetM : List Str := ["orders", "value", "item"]
theorem scIsSetM : FnScope nIsSetM ["orders", "value"] (defScope s_is_settlement) := ⟨rfl, rfl, rfl, by decide +kernel, rfl, by decide +kernel, by decide +kernel⟩
theorem ok_isSetM {f : Addr} {fd : FuncData} (F : Fun K "_is_settlement" "_is_settlement" s_is_settlement f fd) (mIs : mg "isinstance" = none) (mT : mg "tuple" = none) (mL : mg "len" = none) (mA : mg "all" = none) (mB : mg "bool" = none) : FnOk P w K mg base CX0 1 f fd ["orders", "value"] (spIsSetM K) := by
  refine F.ok scIsSetM (fun vs H Q E h => ?_) (fun cdv A outer s H vs Q E hr h => ?_)
  · obtain ⟨t, z, ys, vl, rfl, _⟩ := h
    rfl
  · obtain ⟨t, z, ys, vl, rfl, ht, hz, hl, k⟩ := h
    refine ⟨_, pss_cons (ps_if (PW.pt (pw_or (pt_not (pt_val (pe_callB call_isi (by rfl) mIs PyProof.Rows.boot_isinstance (pa_cons (pv 1) (pa_cons (pe_bltn (v := .ty "tuple") (by rfl) mT PyProof.Rows.boot_tuple rfl) pa_nil)))))
        (pw_or1 (pt_cmpR op_ne (pe_callB call_len_seq (by rfl) mL PySem.boot_len (pa_cons (pv 1) pa_nil)) (pe_callB call_len_seq (by rfl) mL PySem.boot_len (pa_cons (pv 0) pa_nil)) (nomark _))))) (pss_one (ps_ret pe_bl)) pss_nil)
      (pss_one (ps_ret (pe_callB (cr_all rfl) (by rfl) mA PyProof.Rows.boot_all (pa_cons (pe_lc (own := [("item", 2)]) (g := gName 2) rfl scIsSetM.nd (pi_tup (pv 1)) (blkOk_by (own := [("item", 2)]) (N := nIsSetM) (sc := defScope s_is_settlement) (by decide +kernel))
          (fun _ _ _ _ _ => pg_name (i := 2) scIsSetM.nd rfl (.inl rfl)) (fun _ _ _ _ _ => pts_nil)
          (fun _ _ _ _ _ => pe_callB (call_isiTold K) (by rfl) mIs PyProof.Rows.boot_isinstance (pa_cons (pv 2) (pa_cons (pe_bltn (v := .ty "bool") (by rfl) mB PyProof.Rows.boot_bool rfl) pa_nil)))) pa_nil)))), ?_⟩
    refine ⟨.ref z, rfl, .ref z, _, _, _, true, rfl, .ty "tuple", .base (.tup hz), kit_ty (by decide +kernel), true, rfl, iteF ?_⟩
    refine ⟨.ref z, rfl, z, _, rfl, .inr (SqT.of hz), .ref t, rfl, t, ys, rfl, .inr (SqT.of ht), rfl, _, rfl, ?_⟩
    refine ite2 (fun hb => ?_) (fun hb => ?_)
    · have hb : ¬ vl.length = ys.length := fun q => by simp [q] at hb
      have z1 := k H Kp.refl
      rw [decide_eq_false hb] at z1
      exact z1
    · have hb : vl.length = ys.length := by
        by_cases q : vl.length = ys.length
        · exact q
        · exact absurd (by simp; omega) hb
      refine ⟨.ref z, rfl, z, rfl, ⟨_, SqT.of hz⟩, fun D hD => ?_⟩
      refine lc_tup (K := K) (a := z) (xs := vl.map V.bl) (fun j H' => H' D = some (.lst ((List.replicate j true).map V.bl)) ∧ Kp [] H H') ⟨upd_same, Kp.new hD⟩ (fun j H' _ ⟨_, kk⟩ => SqT.of (kk.get (by simp) hz)) ?_ ?_
      · rintro j x H' hx ⟨h1, kk⟩
        have hj := (List.getElem?_eq_some_iff.mp hx).1
        rw [List.length_map] at hj
        rw [List.getElem?_map] at hx
        obtain ⟨y, _, rfl⟩ := Option.map_eq_some_iff.mp hx
        refine ⟨rfl, yesGo ?_⟩
        refine ⟨.bl y, rfl, .bl y, _, _, _, true, rfl, .ty "bool", .base (.bl y), kit_ty (by decide +kernel), _, h1, small1000 (by rw [List.length_map, List.length_replicate]; omega), ?_, kk.fill hD⟩
        rw [upd_same, List.replicate_succ', List.map_append]
        rfl
      · rintro H1 ⟨h1, k1⟩
        refine ⟨D, _, rfl, SqL.of h1, ?_⟩
        have z1 := k H1 k1
        rw [decide_eq_true hb] at z1
        simpa using z1
theorem scSetErrM : FnScope ["board", "orders", "value", "clash", "place", "order"] ["board", "orders", "value"] (defScope sSetErr) := ⟨rfl, rfl, rfl, by decide +kernel, rfl, by decide +kernel, by decide +kernel⟩
theorem ok_setErrM {f C fS fI fT fF : Addr} {fd fdS fdI fdT fdF : FuncData} (F : Fun K "settlement_error" "settlement_error" sSetErr f fd) (T : ClT K mg C) (M : Mk K C fI) (FI : Fun K "__init__" "Clash.__init__" sInit fI fdI) (bI : Binds K fdI ["self", "board", "orders"] []) (GI : FnOk P w K mg base CX0 3 fI fdI ["self", "board", "orders"] (spInitF K C))
    (FS' : Fun K "_is_settlement" "_is_settlement" s_is_settlement fS fdS) (bS : Binds K fdS ["orders", "value"] []) (gS : mg "_is_settlement" = some (.ref fS)) (GS : FnOk P w K mg base CX0 1 fS fdS ["orders", "value"] (spIsSetM K))
    (FT : Fun K "_told" "_told" sTold fT fdT) (bT : Binds K fdT ["clash", "settlement", "place", "word"] []) (gT : mg "_told" = some (.ref fT)) (GT : FnOk P w K mg base CX0 5 fT fdT ["clash", "settlement", "place", "word"] (spTold K C)) (mE : mg "enumerate" = none) :
    FnOk P w K mg base CX0 6 f fd ["board", "orders", "value"] (spSetErrM K) := by
  refine F.ok (k := 5) scSetErrM (fun vs H Q E h => ?_) (fun cdv A outer s H vs Q E hr h => ?_)
  · obtain ⟨v, t, z, n, rs, cs, ps, ys, os, bs, rfl, _⟩ := h
    rfl
  · obtain ⟨v, t, z, n, rs, cs, ps, ys, os, bs, rfl, hv, ht, hy, hz, hlen, hbl, h24, hnd, hbk, kN, kE⟩ := h
    refine ⟨_, pss_cons (ps_if (pt_not (pt_val (pe_call GS (hr.mono (by decide)) (by rfl) gS FS'.kp bS .nil pass0 (pa_cons (pv 1) (pa_cons (pv 2) pa_nil))))) (pss_one (ps_ret pe_str)) pss_nil)
      (pss_cons (ps_set (i := 3) scSetErrM.nd rfl (.inl rfl) (pe_make M GI (hr.mono (by decide)) (by rfl) T.mgC bI .nil pass0 (pa_cons (pv 0) (pa_cons (pv 1) pa_nil))))
      (pss_cons (ps_for PassesOwn.never rfl (pi_enumT (by rfl) mE (pa_cons (pv 1) pa_nil)) (pg_tup rfl (pgs_cons (pg_name (i := 4) scSetErrM.nd rfl (.inl rfl)) (pgs_cons (pg_name (i := 5) scSetErrM.nd rfl (.inl rfl)) pgs_nil)))
        (pss_one (ps_if (pt_cmpR op_ne (kt (pv 2) (pv 4)) (pe_call GT hr (by rfl) gT FT.kp bT .nil pass0 (pa_cons (pv 3) (pa_cons (pv 2) (pa_cons (pv 4) (pa_cons (kt (pv 5) pe_int) pa_nil))))) (nomark _)) (pss_one (ps_ret (pe_tup (pa_cons pe_str (pa_cons (pv 4) pa_nil))))) pss_nil)))
      (pss_one (ps_ret pe_non)))), ?_⟩
    have hyl := hy.len
    refine ⟨.ref t, rfl, .ref z, rfl, t, z, ys, bs, rfl, ht, hz, by omega, fun H1 k1 => ⟨_, rfl, ?_⟩⟩
    rw [decide_eq_true (show bs.length = ys.length by omega)]
    refine iteF ?_
    refine ⟨v, rfl, .ref t, rfl, fun me dx nx ndx nex => ?_⟩
    have s0 : Same H1 (upd (upd H1 dx (.own me)) me (.ins C dx [])) := fun b o e => by
      rw [upd_ne (ne_of_none e nx), upd_ne (ne_of_none e ndx)]
      exact e
    have hy1 := ps_keep hy (kz_seq k1)
    have ht1 := k1.get (by simp) ht
    refine ⟨H1, me, dx, v, t, n, rs, cs, ps, ys, os, rfl, s0, nx, upd_same, Dp.same (kz_seq k1) _ hv, SqT.of ht1, hy1, hlen, h24, hnd, hbk, fun H2 lf lp dp dg lb G B iv => ⟨rfl, ?_⟩⟩
    have k2 : Kp ([] : List Addr) H H2 := k1.trans (Kp.of_same iv.s)
    have ca : CA K C H2 me ps os := ⟨dx, t, lf, lp, dp, dg, lb, G, B, H1, ys, iv, SqT.of (iv.s _ _ ht1), ps_keep hy1 iv.s, hlen⟩
    clear iv
    refine ⟨.ref t, rfl, t, ys, rfl, SqT.of (k2.get (by simp) ht), for_it walk_enumT (fun j σ H' => ∃ v4 v5, σ = [some v, some (.ref t), some (.ref z), some (.ref me), v4, v5] ∧ Kp [] H2 H' ∧ asTold ps os bs j)
      ⟨_, _, rfl, Kp.refl, fun i o p hi => absurd hi (Nat.not_lt_zero _)⟩ (fun j σ H' _ ⟨_, _, _, kk, _⟩ => SqT.of ((k2.trans kk).get (by simp) ht)) ?_ ?_⟩
    · rintro j x σ H' H'' hj ⟨v4, v5, rfl, kk, hin⟩ ⟨Tq, x1, x2, rfl, hTq, rfl, ex1, ex2⟩
      cases ex1
      obtain ⟨o, ho, T1, rfl, hT1⟩ := hy.at ex2
      have hj2 : j < ps.length := by omega
      have hj3 : j < bs.length := by omega
      have kq := kk.trans (Kp.new (o := .tup [.int (j : Nat), .ref T1]) hTq)
      refine ⟨Tq, _, rfl, SqT.of upd_same, rfl, .int (j : Nat), _, rfl, .ref T1, _, rfl, rfl, ?_⟩
      generalize upd H' Tq (.tup [.int (j : Nat), .ref T1]) = H3 at kq
      have k3 := k2.trans kq
      obtain ⟨rr, er⟩ := oV_word o
      have hbv : (bs.map V.bl)[j]? = some (.bl bs[j]) := by rw [List.getElem?_map, List.getElem?_eq_getElem hj3]; rfl
      have eb : bs.getD j false = bs[j] := by rw [List.getD_eq_getElem?_getD, List.getElem?_eq_getElem hj3]; rfl
      refine ⟨.ref z, rfl, .int (j : Nat), rfl, z, _, j, _, rfl, rfl, SqT.of (k3.get (by simp) hz), atI_nat hbv, ?_⟩
      refine ⟨.ref me, rfl, .ref z, rfl, .int (j : Nat), rfl, .ref T1, rfl, T1, _, 0, .str (word o), rfl, rfl, SqT.of (k3.get (by simp) hT1), by rw [er]; exact at0, me, z, ps, os, bs, j, o, ps[j], rfl, ca.keep kq, SqT.of (k3.get (by simp) hz), hbl, ho, fun f g e => hbk j f g (by rw [ho, e]), List.getElem?_eq_getElem hj2, h24, fun H4 k4 => ?_⟩
      refine ⟨rfl, _, rfl, ite2 (fun hc => ?_) (fun hc => ?_)⟩
      · have hc : toldN ps os bs j ps[j] o ≠ bs.getD j false := fun q => by rw [q, eb] at hc; simp at hc
        exact ⟨.int (j : Nat), rfl, by show 2 ≤ sizeLine; decide, fun r hr0 => kE _ r j o ps[j] ho (List.getElem?_eq_getElem hj2) hc hin upd_same ((k3.trans k4).trans (Kp.new hr0))⟩
      · have hc : toldN ps os bs j ps[j] o = bs.getD j false := by
          by_cases q : toldN ps os bs j ps[j] o = bs.getD j false
          · exact q
          · exfalso
            apply hc
            rw [eb] at q
            simpa using fun e => q e.symm
        refine ⟨_, _, rfl, kq.trans k4, fun i o' p' hi ho' hp' => ?_⟩
        by_cases e : i = j
        · subst e
          rw [ho] at ho'
          cases ho'
          rw [List.getElem?_eq_getElem hj2] at hp'
          cases hp'
          exact hc
        · exact hin i o' p' (by omega) ho' hp'
    · rintro σ H' ⟨v4, v5, rfl, kk, hin⟩
      rw [hyl] at hin
      exact kN H' hin (k2.trans kk)
end
end Kt

set_option Elab.async false
set_option linter.all false
set_option maxRecDepth 100000
set_option maxHeartbeats 4000000
namespace Kt
open PySem PySem.Spec PyProof.Rows L2
theorem spot_le {ps : List (Int × Int)} {f : Int} {j : Nat} {p : Int × Int} (hj : ps[j]? = some p) (hp : p.1 = f) : spotOf ps f ≤ j := by
  by_cases h : spotOf ps f ≤ j
  · exact h
  · exfalso
    obtain ⟨hl, e⟩ := List.getElem?_eq_some_iff.mp hj
    have hlt : j < ps.findIdx fun p => decide (p.1 = f) := by unfold spotOf at h; omega
    have := List.not_of_lt_findIdx hlt
    rw [e] at this
    simp [hp] at this
theorem spot_at {ps : List (Int × Int)} {f : Int} {p : Int × Int} (hj : ps[spotOf ps f]? = some p) : p.1 = f := by
  obtain ⟨hl, e⟩ := List.getElem?_eq_some_iff.mp hj
  have := List.findIdx_getElem (w := show ps.findIdx (fun p => decide (p.1 = f)) < ps.length from hl)
  have e2 := of_decide_eq_true this
  rw [← e]
  exact e2
section
variable {P : Program} {w : World} {K : PySem.W.Frag} {mg : Str → Option Value} {base : Heap}
abbrev nBackFits : List Str := ["board", "orders", "place", "word", "field", "goal", "order", "spot", "piece"]
theorem scBackFits : FnScope nBackFits ["board", "orders", "place"] (defScope sBackFits) := ⟨rfl, rfl, rfl, by decide +kernel, rfl, by decide +kernel, by decide +kernel⟩
theorem ok_backFits {f : Addr} {fd : FuncData} (F : Fun K "_law_back_fits" "_law_back_fits" sBackFits f fd) (mE : mg "enumerate" = none) : FnOk P w K mg base CX0 1 f fd ["board", "orders", "place"] (spFits K) := by
  refine F.ok scBackFits (fun vs H Q E h => ?_) (fun cdv A outer s H vs Q E hr h => ?_)
  · obtain ⟨v, n, rs, cs, ps, t, ys, os, i, f, g, rfl, _⟩ := h
    rfl
  · obtain ⟨v, n, rs, cs, ps, t, ys, os, i, f, g, rfl, hv, ht, hy, hlen, hi, hf, hps, k⟩ := h
    refine ⟨_, pss_cons (ps_asg (kt (pv 1) (pv 2)) (pg_tup rfl (pgs_cons (pg_name (i := 3) scBackFits.nd rfl (.inl rfl)) (pgs_cons (pg_name (i := 4) scBackFits.nd rfl (.inr rfl)) (pgs_cons (pg_name (i := 5) scBackFits.nd rfl (.inl rfl)) pgs_nil)))))
      (pss_cons (ps_set (i := 6) scBackFits.nd rfl (.inl rfl) (kt (pv 1) (kl (pe_lc (own := [("spot", 7), ("piece", 8)]) (g := gTup K 2 (gCons (gName 7) (gCons (gName 8) gNil))) rfl scBackFits.nd (pi_enumT (by rfl) mE (pa_cons (kt (pv 0) pe_int) pa_nil))
            (blkOk_by (own := [("spot", 7), ("piece", 8)]) (N := nBackFits) (sc := defScope sBackFits) (by decide +kernel))
            (fun _ _ _ _ _ => pg_tup rfl (pgs_cons (pg_name (i := 7) scBackFits.nd rfl (.inl rfl)) (pgs_cons (pg_name (i := 8) scBackFits.nd rfl (.inl rfl)) pgs_nil)))
            (fun _ _ _ _ _ => pts_one (pt_cmpR op_eq (ktK K (pv 8) pe_int) (pv 4) (nomark _)))
            (fun _ _ _ _ _ => pv 7)) pe_int) (fun _ _ => rfl)))
      (pss_one (ps_ret (pe_ifExp (pt_cmpR op_ne (pv 5) (pv 4) (nomark _)) (pe_cmpR (op_eqD hr.units) (pv 6) (pe_tup (pa_cons pe_str (pa_cons (pv 5) pa_nil))) (nomark _)) (pe_cmpR op_ne (kt (pv 6) pe_int) pe_str (nomark _)))))), ?_⟩
    have hyl := hy.len
    obtain ⟨x, hx⟩ : ∃ x, ys[i]? = some x := ⟨_, List.getElem?_eq_getElem (by have := (List.getElem?_eq_some_iff.mp hi).1; omega)⟩
    obtain ⟨o, ho, T, rfl, hT⟩ := hy.at hx
    rw [hi] at ho
    cases ho
    have hsl := spot_lt hf
    obtain ⟨x2, hx2⟩ : ∃ x, ys[spotOf ps f]? = some x := ⟨_, List.getElem?_eq_getElem (by omega)⟩
    obtain ⟨o, ho, T2, rfl, hT2⟩ := hy.at hx2
    have eF : fitF ps os f g = fitO o f g := by unfold fitF; rw [ho]
    rw [eF] at k
    obtain ⟨ta, tc, tp, xs, rfl, hb, hch, hpt, hpx⟩ := board_inv hv
    have hlx : xs.length = ps.length := by rw [all_len hpx, List.length_map]
    refine ⟨.ref t, rfl, .int i, rfl, t, ys, i, _, rfl, rfl, ht, atI_nat hx, T, _, rfl, SqT.of hT, rfl, .str "back", _, rfl, .int f, _, rfl, .int g, _, rfl, rfl, ?_⟩
    -- order = orders[[..][0]]
    refine ⟨.ref t, rfl, .ref ta, rfl, ta, _, 1, _, rfl, rfl, hb, at1, tp, xs, rfl, hpt, fun D hD => ?_⟩
    refine lc_it walk_enumT (fun j H' => ∃ ns : List Int, H' D = some (.lst (ns.map V.int)) ∧ ns.length ≤ j ∧ (spotOf ps f < j → ∃ r, ns = ((spotOf ps f : Nat) : Int) :: r) ∧ (j ≤ spotOf ps f → ns = []) ∧ Kp [] H H')
      ⟨[], upd_same, Nat.le_refl 0, fun h => absurd h (by simp), fun _ => rfl, Kp.new hD⟩ (fun j H' _ ⟨_, _, _, _, _, kk⟩ => sameT (kz_seq kk) hpt) ?_ ?_
    · rintro j x H' H'' hj ⟨ns, h1, h2, h3, h4, kk⟩ ⟨Tq, x1, x2, rfl, hTq, rfl, ex1, ex2⟩
      cases ex1
      obtain ⟨r, q, hr', rfl, hqt⟩ := pairs_at hpx ex2
      have kN : Kp ([] : List Addr) H' (upd H' Tq (.tup [.int (j : Nat), .ref q])) := Kp.new hTq
      have kq := kk.trans kN
      have h1' := kN.get (by simp) h1
      refine ⟨Tq, _, rfl, SqT.of upd_same, rfl, .int (j : Nat), _, rfl, .ref q, _, rfl, rfl, rfl, .ref q, rfl, q, _, 0, _, rfl, rfl, sameT (kz_seq kq) hqt, at0, .int f, rfl, rfl, _, rfl, ?_⟩
      by_cases he : r.1 = f
      · have hle := spot_le hr' he
        rw [decide_eq_true (by rw [he])]
        refine ⟨.int (j : Nat), rfl, _, h1', by rw [List.length_map]; exact small1000 (by omega), ?_⟩
        refine ⟨ns ++ [(j : Int)], by rw [upd_same, List.map_append]; rfl, by simp; omega, fun _ => ?_, fun h => absurd h (by omega), kq.fill hD⟩
        by_cases e : spotOf ps f = j
        · rw [h4 (by omega), ← e]
          exact ⟨[], rfl⟩
        · obtain ⟨r', e'⟩ := h3 (by omega)
          exact ⟨r' ++ [(j : Int)], by rw [e']; rfl⟩
      · rw [decide_eq_false (fun e => he (V.int.inj e))]
        refine ⟨ns, h1', by omega, fun h => h3 (Nat.lt_of_le_of_ne (by omega) fun e => he ?_), fun h => h4 (by omega), kq⟩
        rw [← e] at hr'
        exact spot_at hr'
    · rintro H1 ⟨ns, h1, h2, h3, h4, k1⟩
      obtain ⟨r, rfl⟩ := h3 (by omega)
      refine ⟨D, _, 0, .int (spotOf ps f : Nat), rfl, rfl, SqL.of h1, at0, ?_⟩
      refine ⟨t, ys, _, _, rfl, rfl, sameT (kz_seq k1) ht, atI_nat hx2, ?_⟩
      have hT3 := k1.get (by simp) hT2
      refine ⟨.int g, rfl, .int f, rfl, rfl, _, rfl, ?_⟩
      refine ite2 (fun he => ?_) (fun he => ?_)
      · have he : ¬ g = f := fun e => by simp [e] at he
        refine ⟨.ref T2, rfl, .int g, rfl, by show 2 ≤ sizeLine; decide, fun Z hZ => ?_⟩
        have kZ : Kp ([] : List Addr) H1 (upd H1 Z (.tup [.str "go", .int g])) := Kp.new hZ
        refine ⟨oD o, .tuple [.str "go", .int g], ord_data ⟨T2, rfl, kZ.get (by simp) hT3⟩, .tup (SqT.of upd_same) (.cons (.str _) (.cons (.int _) .nil)), shaped_ord o, shaped_ord (.go g), ?_⟩
        rw [eqv_go]
        have e : fitO o f g = decide (o = .go g) := by unfold fitO; rw [if_neg he]
        rw [e] at k
        exact k _ (k1.trans kZ)
      · have he : g = f := by
          by_cases e : g = f
          · exact e
          · exact absurd (by simp [e]) he
        obtain ⟨rr, er⟩ := oV_word o
        refine ⟨.ref T2, rfl, T2, _, 0, _, rfl, rfl, SqT.of hT3, by rw [er]; exact at0, rfl, ?_⟩
        rw [word_go']
        have e : fitO o f g = !isGo o := by unfold fitO; rw [if_pos he]
        rw [e] at k
        exact k H1 k1
end
end Kt

set_option Elab.async false
set_option linter.all false
set_option maxHeartbeats 4000000
/-! A settlement that keeps all rules: there is one. n pieces, of fields F and players Y, with orders O. -/
namespace Kt.Stl
structure Bd where
  n : Nat
  F : Nat → Int
  Y : Nat → Int
  O : Nat → Ord
  inj : ∀ i j, i < n → j < n → F i = F j → i = j
variable (b : Bd)
/-- the piece in a field -/
def plc (g : Int) : Option Nat := (List.range b.n).find? fun j => decide (b.F j = g)
theorem plc_at {i : Nat} (h : i < b.n) : plc b (b.F i) = some i := by
  unfold plc
  cases e : (List.range b.n).find? fun j => decide (b.F j = b.F i) with
  | none =>
    have := List.find?_eq_none.mp e i (List.mem_range.mpr h)
    simp at this
  | some j =>
    have h1 := List.mem_range.mp (List.mem_of_find?_eq_some e)
    have h2 := List.find?_some e
    rw [b.inj j i h1 h (of_decide_eq_true h2)]
theorem plc_some {g : Int} {j : Nat} (h : plc b g = some j) : j < b.n ∧ b.F j = g := by
  unfold plc at h
  have h2 := List.find?_some h
  exact ⟨List.mem_range.mp (List.mem_of_find?_eq_some h), of_decide_eq_true h2⟩
def goalOf (i : Nat) : Int := match b.O i with
  | .go g => g
  | _ => b.F i
/-- x backs i, its go or its staying -/
def helps (B : Nat → Bool) (i x : Nat) : Bool := B x && decide (b.O x = .back (b.F i) (goalOf b i))
def nh (B : Nat → Bool) (i : Nat) : Nat := (List.range b.n).countP (helps b B i)
def nhY (B : Nat → Bool) (i : Nat) (y : Int) : Nat := (List.range b.n).countP fun x => helps b B i x && decide (b.Y x = y)
theorem nhY_le (B : Nat → Bool) (i : Nat) (y : Int) : nhY b B i y ≤ nh b B i :=
  List.countP_mono_left fun x _ h => (Bool.and_eq_true_iff.mp h).1
/-- every rival of i at g, but who stands in the field r, is weaker than t -/
def beats (B : Nat → Bool) (i : Nat) (g : Int) (t : Nat) (r : Option Int) : Bool :=
  (List.range b.n).all fun s => decide (s = i) || !decide (b.O s = .go g) || decide (some (b.F s) = r) || decide (1 + nh b B s < t)
/-- where the piece j goes, if that is another field than i's -/
def off (i j : Nat) : Option Int := match b.O j with
  | .go h => if h = b.F i then none else some h
  | _ => none
def wins (B W : Nat → Bool) (i : Nat) : Bool := match b.O i with
  | .go g => match plc b g with
    | none => beats b B i g (1 + nh b B i) none
    | some j => if (off b i j).isSome && W j then beats b B i g (1 + nh b B i) (off b i j)
      else !decide (b.Y j = b.Y i) && decide ((if (off b i j).isSome then 1 else 1 + nh b B j) < 1 + nh b B i - nhY b B i (b.Y j)) && beats b B i g (1 + nh b B i - nhY b B i (b.Y j)) none
  | _ => false
theorem beats_mono {B : Nat → Bool} {i : Nat} {g : Int} {t t' : Nat} {r : Option Int} (ht : t ≤ t') (h : beats b B i g t none = true) : beats b B i g t' r = true := by
  unfold beats at h ⊢
  rw [List.all_eq_true] at h ⊢
  intro s hs
  have := h s hs
  simp only [Bool.or_eq_true, Bool.not_eq_true', decide_eq_false_iff_not, decide_eq_true_eq] at this ⊢
  rcases this with ((h1 | h1) | h1) | h1
  · exact .inl (.inl (.inl h1))
  · exact .inl (.inl (.inr h1))
  · cases h1
  · exact .inr (by omega)
/-- the more others win, the easier it is -/
theorem wins_mono {B W W' : Nat → Bool} (hW : ∀ x, W x = true → W' x = true) {i : Nat} (h : wins b B W i = true) : wins b B W' i = true := by
  unfold wins at h ⊢
  cases hO : b.O i with
  | stay => rw [hO] at h; cases h
  | back f g => rw [hO] at h; cases h
  | go g =>
    rw [hO] at h
    simp only at h ⊢
    cases hp : plc b g with
    | none => rw [hp] at h; exact h
    | some j =>
      rw [hp] at h
      simp only at h ⊢
      cases ho : (off b i j).isSome with
      | false =>
        rw [ho] at h
        simpa using h
      | true =>
        rw [ho] at h
        cases hw : W j with
        | true =>
          rw [hw] at h
          rw [hW j hw]
          simpa using h
        | false =>
          rw [hw] at h
          simp only [Bool.true_and, Bool.false_eq_true, if_false, Bool.and_eq_true] at h
          cases hw' : W' j with
          | false => simpa using h
          | true =>
            simp only [Bool.true_and, if_true]
            exact beats_mono b (by omega) h.2
theorem wins_go {B W : Nat → Bool} {i : Nat} (h : wins b B W i = true) : ∃ g, b.O i = .go g := by
  unfold wins at h
  cases hO : b.O i with
  | stay => rw [hO] at h; cases h
  | back f g => rw [hO] at h; cases h
  | go g => exact ⟨g, rfl⟩
/-! ### the rules, of the bools val -/
def isB : Ord → Bool
  | .back _ _ => true
  | _ => false
def fit (i : Nat) : Bool := match b.O i with
  | .back f g => match plc b f with
    | some k => fitOrd (b.O k) f g
    | none => false
  | _ => false
where fitOrd (o : Ord) (f g : Int) : Bool := match o with
  | .go h => if g = f then false else decide (h = g)
  | _ => decide (g = f)
def aim (i : Nat) : Int := match b.O i with
  | .back _ g => g
  | _ => b.F i
def isG : Ord → Bool
  | .go _ => true
  | _ => false
def holdsBack (W : Nat → Bool) (i : Nat) : Bool := fit b i && (List.range b.n).all fun s => !decide (b.O s = .go (b.F i)) || (!W s && (decide (b.Y s = b.Y i) || decide (b.F s = aim b i)))
def rule (val : Nat → Bool) (i : Nat) : Bool := match b.O i with
  | .stay => true
  | .go _ => wins b (fun x => val x && isB (b.O x)) (fun x => val x && isG (b.O x)) i
  | .back _ _ => holdsBack b (fun x => val x && isG (b.O x)) i
/-! ### the settlement of the law -/
def some_ (i : Nat) : Bool := fit b i && (List.range b.n).all fun s => !decide (b.O s = .go (b.F i)) || (decide (b.Y s = b.Y i) || decide (b.F s = aim b i))
def found (i : Nat) : Bool := some_ b i && match plc b (aim b i) with
  | none => true
  | some j => !decide (b.O j = .go (b.F i)) || !wins b (some_ b) (fun _ => false) j
def step (B : Nat → Bool) (W : Nat → Bool) (i : Nat) : Bool := W i && wins b B W i
def iter (B : Nat → Bool) : Nat → Nat → Bool
  | 0 => fun i => decide (i < b.n) && isG (b.O i)
  | k + 1 => step b B (iter B k)
theorem iter_anti (B : Nat → Bool) (k i : Nat) (h : iter b B (k + 1) i = true) : iter b B k i = true := (Bool.and_eq_true_iff.mp h).1
theorem iter_le (B : Nat → Bool) {j k : Nat} (hjk : j ≤ k) : ∀ i, iter b B k i = true → iter b B j i = true := by
  induction hjk with
  | refl => exact fun i h => h
  | step _ ih => exact fun i h => ih i (iter_anti b B _ i h)
theorem iter_lt (B : Nat → Bool) (k : Nat) {i : Nat} (h : iter b B k i = true) : i < b.n ∧ isG (b.O i) = true := by
  have := iter_le b B (Nat.zero_le k) i h
  simpa [iter] using this
def many (W : Nat → Bool) : Nat := (List.range b.n).countP W
theorem many_lt {W W' : Nat → Bool} (h : ∀ i, W' i = true → W i = true) {i : Nat} (hi : i < b.n) (h1 : W i = true) (h2 : W' i = false) : many b W' < many b W := by
  unfold many
  have key : ∀ l : List Nat, i ∈ l → l.countP W' < l.countP W := by
    intro l
    induction l with
    | nil => intro h; cases h
    | cons x l ih =>
      intro hm
      have hle : l.countP W' ≤ l.countP W := List.countP_mono_left fun y _ hy => h y hy
      rw [List.countP_cons, List.countP_cons]
      by_cases e : i = x
      · subst e
        rw [h1, h2]
        simp
        omega
      · have ih := ih ((List.mem_cons.mp hm).resolve_left e)
        cases hx : W' x with
        | true => rw [h x hx]; simpa using ih
        | false => simp only [Bool.false_eq_true, if_false, Nat.add_zero]; omega
  exact key _ (List.mem_range.mpr hi)
/-- it comes to an end -/
theorem iter_end (B : Nat → Bool) : ∃ k, ∀ i, iter b B (k + 1) i = iter b B k i := by
  have key : ∀ m k, many b (iter b B k) ≤ m → ∃ k, ∀ i, iter b B (k + 1) i = iter b B k i := by
    intro m
    induction m with
    | zero =>
      intro k hm
      refine ⟨k, fun i => ?_⟩
      cases h : iter b B k i with
      | true =>
        exfalso
        have hi := (iter_lt b B k h).1
        have : 0 < many b (iter b B k) := List.countP_pos_iff.mpr ⟨i, List.mem_range.mpr hi, h⟩
        omega
      | false =>
        cases h' : iter b B (k + 1) i with
        | false => rfl
        | true => rw [iter_anti b B k i h'] at h; cases h
    | succ m ih =>
      intro k hm
      by_cases e : ∀ i, iter b B (k + 1) i = iter b B k i
      · exact ⟨k, e⟩
      · have ⟨i, hi⟩ := Classical.not_forall.mp e
        have h1 : iter b B k i = true := by
          cases h : iter b B k i with
          | true => rfl
          | false =>
            cases h' : iter b B (k + 1) i with
            | false => rw [h, h'] at hi; exact absurd rfl hi
            | true => rw [iter_anti b B k i h'] at h; cases h
        have h2 : iter b B (k + 1) i = false := by
          cases h : iter b B (k + 1) i with
          | false => rfl
          | true => rw [h, h1] at hi; exact absurd rfl hi
        have := many_lt b (iter_anti b B k) (iter_lt b B k h1).1 h1 h2
        exact ih (k + 1) (by omega)
  exact key _ 0 (Nat.le_refl _)
/-- what is at its end -/
structure Fin (B W : Nat → Bool) : Prop where
  go : ∀ i, W i = true → i < b.n ∧ isG (b.O i) = true
  fx : ∀ i, W i = true → wins b B W i = true
  mx : ∀ i, i < b.n → wins b B W i = true → W i = true
theorem iter_fin {B : Nat → Bool} {k : Nat} (h : ∀ i, iter b B (k + 1) i = iter b B k i) : Fin b B (iter b B k) := by
  refine ⟨fun i hi => iter_lt b B k hi, fun i hi => ?_, fun i hn hw => ?_⟩
  · have e := h i
    rw [hi] at e
    exact (Bool.and_eq_true_iff.mp e).2
  · have all : ∀ j, j ≤ k → iter b B j i = true := by
      intro j
      induction j with
      | zero =>
        intro _
        obtain ⟨g, hg⟩ := wins_go b hw
        simp [iter, hn, hg, isG]
      | succ j ih =>
        intro hj
        have h1 := ih (by omega)
        have h2 := wins_mono b (iter_le b B (show j ≤ k by omega)) hw
        show step b B (iter b B j) i = true
        unfold step
        rw [h1, h2]
        rfl
    exact all k (Nat.le_refl k)
/-! ### the backs -/
theorem found_some {i : Nat} (h : found b i = true) : some_ b i = true := (Bool.and_eq_true_iff.mp h).1
theorem some_back {i : Nat} (h : some_ b i = true) : ∃ f g, b.O i = .back f g := by
  have h := (Bool.and_eq_true_iff.mp h).1
  unfold fit at h
  cases hO : b.O i with
  | stay => rw [hO] at h; cases h
  | go g => rw [hO] at h; cases h
  | back f g => exact ⟨f, g, rfl⟩
/-- a back that is aimed at the field of a piece that doesn't go stands, if it stands by orders -/
theorem found_eq {x i : Nat} {f : Int} (hi : i < b.n) (hO : isG (b.O i) = false) (hx : b.O x = .back f (b.F i)) : found b x = some_ b x := by
  have ha : aim b x = b.F i := by unfold aim; rw [hx]
  unfold found
  rw [ha, plc_at b hi]
  have : decide (b.O i = .go (b.F x)) = false := by
    refine decide_eq_false fun e => ?_
    rw [e] at hO
    cases hO
  simp only [this, Bool.not_false, Bool.true_or, Bool.and_true]
theorem helps_eq {i y : Nat} (hi : i < b.n) (hO : isG (b.O i) = false) (hy : goalOf b y = b.F i) (x : Nat) : helps b (found b) y x = helps b (some_ b) y x := by
  unfold helps
  rw [hy]
  by_cases e : b.O x = .back (b.F y) (b.F i)
  · rw [found_eq b hi hO e]
  · rw [decide_eq_false e, Bool.and_false, Bool.and_false]
theorem nh_eq {i y : Nat} (hi : i < b.n) (hO : isG (b.O i) = false) (hy : goalOf b y = b.F i) : nh b (found b) y = nh b (some_ b) y := by
  unfold nh
  exact List.countP_congr fun x _ => by rw [helps_eq b hi hO hy]
theorem nhY_eq {i y : Nat} {p : Int} (hi : i < b.n) (hO : isG (b.O i) = false) (hy : goalOf b y = b.F i) : nhY b (found b) y p = nhY b (some_ b) y p := by
  unfold nhY
  exact List.countP_congr fun x _ => by rw [helps_eq b hi hO hy]
theorem beats_eq {i s : Nat} {t : Nat} (hi : i < b.n) (hO : isG (b.O i) = false) : beats b (found b) s (b.F i) t none = beats b (some_ b) s (b.F i) t none := by
  unfold beats
  congr 1
  funext y
  by_cases e : b.O y = .go (b.F i)
  · rw [nh_eq b hi hO (show goalOf b y = b.F i by unfold goalOf; rw [e])]
  · rw [decide_eq_false e]
    simp
/-- whether a piece wins against one that doesn't go -/
theorem wins_eq {i s : Nat} {W : Nat → Bool} (hi : i < b.n) (hO : isG (b.O i) = false) (hs : b.O s = .go (b.F i)) : wins b (found b) W s = wins b (some_ b) (fun _ => false) s := by
  have ho : off b s i = none := by
    unfold off
    cases h : b.O i with
    | go g => rw [h] at hO; cases hO
    | stay => rfl
    | back f g => rfl
  have hg : goalOf b s = b.F i := by unfold goalOf; rw [hs]
  have hgi : goalOf b i = b.F i := by
    unfold goalOf
    cases h : b.O i with
    | go g => rw [h] at hO; cases hO
    | stay => rfl
    | back f g => rfl
  unfold wins
  rw [hs]
  simp only [plc_at b hi, ho, Option.isSome_none, Bool.false_and, Bool.false_eq_true, if_false]
  rw [nh_eq b hi hO hg, nhY_eq b hi hO hg, nh_eq b hi hO hgi, beats_eq b hi hO]
/-- **a settlement keeps all rules** -/
theorem settled_keeps {W : Nat → Bool} (h : Fin b (found b) W) (i : Nat) (hi : i < b.n) : rule b (fun x => decide (b.O x = .stay) || W x || found b x) i = (decide (b.O i = .stay) || W i || found b i) := by
  have hB : (fun x => (decide (b.O x = .stay) || W x || found b x) && isB (b.O x)) = fun x => found b x := by
    funext x
    cases hx : b.O x with
    | stay =>
      have : found b x = false := by
        cases hf : found b x with
        | false => rfl
        | true =>
          obtain ⟨f, g, e⟩ := some_back b (found_some b hf)
          rw [hx] at e
          cases e
      simp [isB, this]
    | go g =>
      have : found b x = false := by
        cases hf : found b x with
        | false => rfl
        | true =>
          obtain ⟨f, g, e⟩ := some_back b (found_some b hf)
          rw [hx] at e
          cases e
      simp [isB, this]
    | back f g =>
      have : W x = false := by
        cases hf : W x with
        | false => rfl
        | true =>
          have := (h.go x hf).2
          rw [hx] at this
          cases this
      simp [isB, this]
  have hW : (fun x => (decide (b.O x = .stay) || W x || found b x) && isG (b.O x)) = fun x => W x := by
    funext x
    cases hx : b.O x with
    | stay =>
      have : W x = false := by
        cases hf : W x with
        | false => rfl
        | true =>
          have := (h.go x hf).2
          rw [hx] at this
          cases this
      simp [isG, this]
    | back f g =>
      have : W x = false := by
        cases hf : W x with
        | false => rfl
        | true =>
          have := (h.go x hf).2
          rw [hx] at this
          cases this
      simp [isG, this]
    | go g =>
      have : found b x = false := by
        cases hf : found b x with
        | false => rfl
        | true =>
          obtain ⟨f, g, e⟩ := some_back b (found_some b hf)
          rw [hx] at e
          cases e
      simp [isG, this]
  have eB := fun x => congrFun hB x
  have eW := fun x => congrFun hW x
  unfold rule
  rw [hB, hW]
  cases hO : b.O i with
  | stay => simp
  | go g =>
    have hf := eB i
    rw [hO] at hf
    simp only [isB, Bool.and_false] at hf
    rw [← hf]
    simp only [reduceCtorEq, decide_false, Bool.false_or, Bool.or_false]
    cases hw : W i with
    | true => exact h.fx i hw
    | false =>
      cases hv : wins b (fun x => found b x) (fun x => W x) i with
      | false => rfl
      | true => rw [h.mx i hi hv] at hw; cases hw
  | back f g =>
    have hw := eW i
    rw [hO] at hw
    simp only [isG, Bool.and_false] at hw
    rw [← hw]
    simp only [reduceCtorEq, decide_false, Bool.false_or]
    have hG : isG (b.O i) = false := by rw [hO]; rfl
    have hai : aim b i = g := by unfold aim; rw [hO]
    cases hf : found b i with
    | true =>
      have hs := found_some b hf
      obtain ⟨s1, s2⟩ := Bool.and_eq_true_iff.mp hs
      unfold holdsBack
      rw [s1, Bool.true_and, List.all_eq_true]
      intro s hsn
      have hsn' := List.mem_range.mp hsn
      have h2 := (List.all_eq_true.mp s2) s hsn
      by_cases e : b.O s = .go (b.F i)
      · rw [decide_eq_true e] at h2 ⊢
        simp only [Bool.not_true, Bool.false_or] at h2 ⊢
        rw [h2, Bool.and_true]
        cases hws : W s with
        | false => rfl
        | true =>
          exfalso
          have hwin := h.fx s hws
          rw [wins_eq b hi hG e] at hwin
          -- the one who wins is a foreigner, and comes from the field aimed at
          have hfor : ¬ b.Y i = b.Y s := by
            intro ey
            have ho : off b s i = none := by
              unfold off
              rw [hO]
            unfold wins at hwin
            rw [e] at hwin
            simp only [plc_at b hi, ho, Option.isSome_none, Bool.false_and, Bool.false_eq_true, if_false, Bool.and_eq_true, Bool.not_eq_true', decide_eq_false_iff_not] at hwin
            exact hwin.1.1 ey
          have hfor' : ¬ b.Y s = b.Y i := fun z => hfor z.symm
          rw [decide_eq_false hfor', Bool.false_or] at h2
          have hfs : b.F s = g := by rw [← hai]; exact of_decide_eq_true h2
          have h3 := (Bool.and_eq_true_iff.mp hf).2
          rw [hai, ← hfs, plc_at b hsn'] at h3
          simp only [decide_eq_true e, Bool.not_true, Bool.false_or, hwin] at h3
          cases h3
      · rw [decide_eq_false e]
        simp
    | false =>
      cases hh : holdsBack b (fun x => W x) i with
      | false => rfl
      | true =>
        exfalso
        obtain ⟨s1, s2⟩ := Bool.and_eq_true_iff.mp hh
        have s2 := List.all_eq_true.mp s2
        have hs : some_ b i = true := by
          unfold some_
          rw [s1, Bool.true_and, List.all_eq_true]
          intro s hsn
          have h2 := s2 s hsn
          by_cases e : b.O s = .go (b.F i)
          · rw [decide_eq_true e] at h2 ⊢
            simp only [Bool.not_true, Bool.false_or, Bool.and_eq_true] at h2 ⊢
            exact h2.2
          · rw [decide_eq_false e]
            simp
        have h3 : found b i = true := by
          unfold found
          rw [hs, Bool.true_and]
          cases hp : plc b (aim b i) with
          | none => rfl
          | some j =>
            obtain ⟨hj, hFj⟩ := plc_some b hp
            simp only
            by_cases e : b.O j = .go (b.F i)
            · cases hw2 : wins b (some_ b) (fun _ => false) j with
              | false => simp
              | true =>
                exfalso
                have hwj := h.mx j hj (by rw [wins_eq b hi hG e]; exact hw2)
                have h2 := s2 j (List.mem_range.mpr hj)
                rw [decide_eq_true e] at h2
                simp only [hwj] at h2
                cases h2
            · rw [decide_eq_false e]
              simp
        rw [hf] at h3
        cases h3
end Kt.Stl

set_option Elab.async false
set_option linter.all false
set_option maxRecDepth 100000
set_option maxHeartbeats 4000000
namespace Kt
open PySem PySem.Spec PyProof.Rows L2
abbrev Fd (ps : List (Int × Int)) (i : Nat) : Int := (ps.getD i (0, 0)).1
abbrev Pl (ps : List (Int × Int)) (i : Nat) : Int := (ps.getD i (0, 0)).2
abbrev Or (os : List Ord) (i : Nat) : Ord := os.getD i .stay
abbrev Vl (vl : List Bool) (i : Nat) : Bool := vl.getD i false
theorem or_at {os : List Ord} {i : Nat} {o : Ord} (h : os[i]? = some o) : Or os i = o := by
  show os.getD i .stay = o
  rw [List.getD_eq_getElem?_getD, h]
  rfl
theorem vl_at {vl : List Bool} {i : Nat} (h : i < vl.length) : vl[i]? = some (Vl vl i) := by
  show vl[i]? = some (vl.getD i false)
  rw [List.getD_eq_getElem?_getD, List.getElem?_eq_getElem h]
  rfl
/-- orders that are such -/
structure VdO (ps : List (Int × Int)) (os : List Ord) : Prop where
  bk : ∀ i f g, i < ps.length → Or os i = .back f g → f ∈ ps.map (·.1) ∧ f ≠ Fd ps i
  go : ∀ i g, i < ps.length → Or os i = .go g → g ≠ Fd ps i
/-- all that a rule is handed -/
theorem fd_at {ps : List (Int × Int)} {i : Nat} (hi : i < ps.length) : ps[i]? = some (Fd ps i, Pl ps i) := by
  rw [List.getElem?_eq_getElem hi]
  simp [Fd, Pl, List.getD_eq_getElem?_getD, List.getElem?_eq_getElem hi]
def bdOf (ps : List (Int × Int)) (os : List Ord) (h : (ps.map (·.1)).Nodup) : Stl.Bd where
  n := ps.length
  F := Fd ps
  Y := Pl ps
  O := Or os
  inj := fun i j hi hj e => by
    have h1 : (ps.map (·.1))[i]? = some (Fd ps i) := by rw [List.getElem?_map, fd_at hi]; rfl
    have h2 : (ps.map (·.1))[j]? = some (Fd ps i) := by rw [List.getElem?_map, fd_at hj, e]; rfl
    have hi' : i < (ps.map (·.1)).length := by rw [List.length_map]; exact hi
    exact (List.getElem?_inj hi' h).mp (h1.trans h2.symm)
/-- places as ints, those of the list's indices that t lets by -/
def idx (n : Nat) (t : Nat → Bool) : List Int := ((List.range n).filter t).map fun (i : Nat) => (i : Int)
theorem idx_snoc {n : Nat} {t : Nat → Bool} : idx (n + 1) t = idx n t ++ (if t n = true then [(n : Int)] else []) := by
  unfold idx
  rw [List.range_succ, List.filter_append, List.map_append]
  congr 1
  by_cases h : t n = true <;> simp [List.filter_cons, h]
theorem idx_len (n : Nat) (t : Nat → Bool) : (idx n t).length ≤ n := by
  unfold idx
  rw [List.length_map]
  exact Nat.le_trans (List.length_filter_le _ _) (by simp)
/-- [i for i, order in enumerate(orders) if t] -/
def Bk (os : List Ord) (vl : List Bool) (x : Nat) : Bool := Vl vl x && Stl.isB (Or os x)
def Wn (os : List Ord) (vl : List Bool) (x : Nat) : Bool := Vl vl x && Stl.isG (Or os x)
theorem idx_mem {n : Nat} {t : Nat → Bool} {z : Int} (h : z ∈ idx n t) : ∃ i : Nat, z = i ∧ i < n ∧ t i = true := by
  unfold idx at h
  obtain ⟨i, hi, rfl⟩ := List.mem_map.mp h
  obtain ⟨h1, h2⟩ := List.mem_filter.mp hi
  exact ⟨i, rfl, List.mem_range.mp h1, h2⟩
theorem idx_filter (n : Nat) (t : Nat → Bool) (u : Int → Bool) : (idx n t).filter u = idx n fun i => t i && u (i : Nat) := by
  unfold idx
  rw [List.filter_map, List.filter_filter]
  congr 1
  refine List.filter_congr fun i _ => ?_
  simp [Bool.and_comm]
theorem idx_congr {n : Nat} {t u : Nat → Bool} (h : ∀ i, i < n → t i = u i) : idx n t = idx n u := by
  unfold idx
  congr 1
  exact List.filter_congr fun i hi => h i (List.mem_range.mp hi)
theorem idx_count (n : Nat) (t : Nat → Bool) : (idx n t).length = (List.range n).countP t := by
  unfold idx
  rw [List.length_map, List.countP_eq_length_filter]
theorem spot_fd {ps : List (Int × Int)} (hnd : (ps.map (·.1)).Nodup) {i : Nat} (hi : i < ps.length) : spotOf ps (Fd ps i) = i := by
  refine spot_eq (fd_at hi) rfl fun j q hj hq e => ?_
  have h1 : (ps.map (·.1))[j]? = some (Fd ps i) := by rw [List.getElem?_map, hq, ← e]; rfl
  have h2 : (ps.map (·.1))[i]? = some (Fd ps i) := by rw [List.getElem?_map, fd_at hi]; rfl
  have hj' : j < (ps.map (·.1)).length := by rw [List.length_map]; exact (List.getElem?_eq_some_iff.mp hq).1
  have := (List.getElem?_inj hj' hnd).mp (h1.trans h2.symm)
  omega
theorem or_get {os : List Ord} {i : Nat} (h : i < os.length) : os[i]? = some (Or os i) := by
  show os[i]? = some (os.getD i .stay)
  rw [List.getD_eq_getElem?_getD, List.getElem?_eq_getElem h]
  rfl
/-- a back of i fits just if it is aimed as i is ordered -/
theorem fit_goal {ps : List (Int × Int)} {os : List Ord} (hnd : (ps.map (·.1)).Nodup) (vd : VdO ps os) (hl : os.length = ps.length) {i : Nat} (hi : i < ps.length) (g : Int) : fitF ps os (Fd ps i) g = decide (g = Stl.goalOf (bdOf ps os hnd) i) := by
  unfold fitF
  rw [spot_fd hnd hi, or_get (by omega)]
  show fitO (Or os i) (Fd ps i) g = _
  have hO : (bdOf ps os hnd).O i = Or os i := rfl
  have hF : (bdOf ps os hnd).F i = Fd ps i := rfl
  unfold fitO Stl.goalOf
  rw [hO, hF]
  cases e : Or os i with
  | stay =>
    by_cases h : g = Fd ps i
    · simp [h, isGo]
    · simp [h]
  | back f z =>
    by_cases h : g = Fd ps i
    · simp [h, isGo]
    · simp [h]
  | go z =>
    have hz := vd.go i z hi e
    by_cases h : g = Fd ps i
    · have h2 : ¬ Fd ps i = z := fun q => hz q.symm
      simp [h, isGo, h2]
    · by_cases h2 : z = g
      · simp [h, h2]
      · have h3 : ¬ g = z := fun q => h2 q.symm
        simp [h, h2, h3]
/-- a rule's arguments -/
def barr (b : Stl.Bd) (W : Nat → Bool) (i : Nat) (g : Int) : Option Nat := match Stl.plc b g with
  | none => none
  | some j => if (Stl.off b i j).isSome && W j then none else some j
def thr (b : Stl.Bd) (B W : Nat → Bool) (i : Nat) (g : Int) : Nat := match barr b W i g with
  | none => 1 + Stl.nh b B i
  | some j => 1 + Stl.nh b B i - Stl.nhY b B i (b.Y j)
theorem count_split (n : Nat) (p q : Nat → Bool) : (List.range n).countP (fun x => p x && !q x) + (List.range n).countP (fun x => p x && q x) = (List.range n).countP p := by
  generalize List.range n = l
  induction l with
  | nil => rfl
  | cons x l ih =>
    rw [List.countP_cons, List.countP_cons, List.countP_cons]
    cases hp : p x <;> cases hq : q x <;> simp <;> omega
def hold (b : Stl.Bd) (B : Nat → Bool) (i j : Nat) : Nat := if (Stl.off b i j).isSome then 1 else 1 + Stl.nh b B j
def repel (b : Stl.Bd) (W : Nat → Bool) (g : Int) : Option Int := match Stl.plc b g with
  | none => none
  | some j => match b.O j with
    | .go h => if W j then some h else none
    | _ => none
def rivT (b : Stl.Bd) (W : Nat → Bool) (i : Nat) (g : Int) (x : Nat) : Bool := decide (b.O x = .go g) && (!decide (x = i) && !decide (some (b.F x) = repel b W g))
def rivW (b : Stl.Bd) (B W : Nat → Bool) (i : Nat) (g : Int) (t : Nat) : Bool := (List.range b.n).all fun x => !rivT b W i g x || decide (1 + Stl.nh b B x < t)
/-- a go wins, as the program has it -/
def winsP (b : Stl.Bd) (B W : Nat → Bool) (i : Nat) (g : Int) : Bool := match barr b W i g with
  | some j => if b.Y j = b.Y i then false else if thr b B W i g ≤ hold b B i j then false else rivW b B W i g (thr b B W i g)
  | none => rivW b B W i g (thr b B W i g)
theorem all_congr_m {α : Type} {f g : α → Bool} : ∀ {l : List α}, (∀ x ∈ l, f x = g x) → l.all f = l.all g
  | [], _ => rfl
  | x :: l, h => by
    rw [List.all_cons, List.all_cons, h x List.mem_cons_self, all_congr_m fun y hy => h y (List.mem_cons_of_mem _ hy)]
theorem rivW_beats {b : Stl.Bd} {B W : Nat → Bool} {i : Nat} {g : Int} {t : Nat} {r : Option Int} (h : ∀ s, s < b.n → s ≠ i → b.O s = .go g → (some (b.F s) = repel b W g ↔ some (b.F s) = r)) : rivW b B W i g t = Stl.beats b B i g t r := by
  unfold rivW Stl.beats
  refine all_congr_m fun s hs => ?_
  have hs := List.mem_range.mp hs
  unfold rivT
  by_cases h1 : s = i
  · simp [h1]
  · by_cases h2 : b.O s = .go g
    · have h0 := h s hs h1 h2
      by_cases h3 : some (b.F s) = r
      · have h5 := h0.mpr h3
        rw [decide_eq_true h3, decide_eq_true h5]
        simp
      · have h4 : ¬ some (b.F s) = repel b W g := fun z => h3 (h0.mp z)
        rw [decide_eq_false h3, decide_eq_false h4]
        simp [h1, h2]
    · simp [h1, h2]
theorem winsP_eq (b : Stl.Bd) (B W : Nat → Bool) {i : Nat} {g : Int} (hi : i < b.n) (hO : b.O i = .go g) : winsP b B W i g = Stl.wins b B W i := by
  unfold winsP Stl.wins thr barr
  rw [hO]
  simp only
  cases e : Stl.plc b g with
  | none =>
    simp only
    refine rivW_beats fun s hs h1 h2 => ?_
    have : repel b W g = none := by unfold repel; rw [e]
    rw [this]
  | some j =>
    simp only
    have hj := (Stl.plc_some b e).1
    cases hl : (Stl.off b i j).isSome && W j with
    | true =>
      simp only [if_true]
      refine rivW_beats fun s hs h1 h2 => ?_
      obtain ⟨l1, l2⟩ := Bool.and_eq_true_iff.mp hl
      have : repel b W g = Stl.off b i j := by
        unfold repel Stl.off
        unfold Stl.off at l1
        rw [e]
        simp only
        cases ho : b.O j with
        | stay => rfl
        | back f z => rfl
        | go z =>
          rw [ho] at l1
          simp only at l1 ⊢
          rw [if_pos l2]
          split at l1
          · cases l1
          · rename_i hz
            rw [if_neg hz]
      rw [this]
    | false =>
      simp only [Bool.false_eq_true, if_false]
      have hr : ∀ s, s < b.n → s ≠ i → b.O s = .go g → (some (b.F s) = repel b W g ↔ some (b.F s) = none) := by
        intro s hs h1 h2
        constructor
        · intro z
          exfalso
          unfold repel at z
          rw [e] at z
          simp only at z
          cases ho : b.O j with
          | stay => rw [ho] at z; cases z
          | back f q => rw [ho] at z; cases z
          | go q =>
            rw [ho] at z
            simp only at z
            cases hw : W j with
            | false => rw [hw] at z; simp at z
            | true =>
              rw [hw] at z hl
              simp only [if_true, Option.some.injEq] at z
              have hoff : Stl.off b i j = if q = b.F i then none else some q := by unfold Stl.off; rw [ho]
              rw [hoff] at hl
              by_cases hq : q = b.F i
              · exact h1 (b.inj s i hs hi (by rw [z, hq]))
              · rw [if_neg hq] at hl
                simp at hl
        · intro z; cases z
      rw [rivW_beats hr]
      unfold hold
      by_cases hy : b.Y j = b.Y i
      · simp [hy]
      · by_cases hh : 1 + Stl.nh b B i - Stl.nhY b B i (b.Y j) ≤ (if (Stl.off b i j).isSome = true then 1 else 1 + Stl.nh b B j)
        · have h2 : ¬ (if (Stl.off b i j).isSome = true then 1 else 1 + Stl.nh b B j) < 1 + Stl.nh b B i - Stl.nhY b B i (b.Y j) := by omega
          simp [hy, hh, h2]
        · have h2 : (if (Stl.off b i j).isSome = true then 1 else 1 + Stl.nh b B j) < 1 + Stl.nh b B i - Stl.nhY b B i (b.Y j) := by omega
          simp [hy, hh, h2]
theorem idx_all (n : Nat) (t u : Nat → Bool) : ((idx n t).all fun z => u z.toNat) = (List.range n).all fun x => !t x || u x := by
  unfold idx
  generalize List.range n = l
  induction l with
  | nil => rfl
  | cons x l ih =>
    rw [List.all_cons, ← ih, List.filter_cons]
    cases h : t x with
    | false => simp
    | true => simp
theorem fit_fits {ps : List (Int × Int)} {os : List Ord} (hnd : (ps.map (·.1)).Nodup) (hl : os.length = ps.length) {i : Nat} {f g : Int} (hi : i < ps.length) (hO : Or os i = .back f g) (hf : f ∈ ps.map (·.1)) : Stl.fit (bdOf ps os hnd) i = fitF ps os f g := by
  have hs := spot_lt hf
  obtain ⟨p, hp, e⟩ := List.mem_map.mp hf
  obtain ⟨j, hj⟩ := List.mem_iff_getElem?.mp hp
  have hjl := (List.getElem?_eq_some_iff.mp hj).1
  have hfj : Fd ps j = f := by
    show (ps.getD j (0, 0)).1 = f
    rw [List.getD_eq_getElem?_getD, hj, ← e]
    rfl
  have hpl : Stl.plc (bdOf ps os hnd) f = some j := by
    rw [← hfj]
    exact Stl.plc_at (bdOf ps os hnd) hjl
  have hb : (bdOf ps os hnd).O i = .back f g := hO
  unfold Stl.fit fitF
  rw [hb]
  simp only [hpl]
  rw [← hfj, spot_fd hnd hjl, or_get (by omega)]
  show Stl.fit.fitOrd (Or os j) (Fd ps j) g = fitO (Or os j) (Fd ps j) g
  unfold Stl.fit.fitOrd fitO
  cases Or os j with
  | stay => by_cases h : g = Fd ps j <;> simp [h, isGo]
  | back x y => by_cases h : g = Fd ps j <;> simp [h, isGo]
  | go h =>
    by_cases h1 : g = Fd ps j
    · simp [h1, isGo]
    · simp [h1]
end Kt

set_option Elab.async false
set_option linter.all false
set_option maxRecDepth 100000
set_option maxHeartbeats 4000000
namespace Kt
open PySem PySem.Spec PyProof.Rows L2
/-! ### the program's words, in the rules' words -/
theorem idx_at {n : Nat} {t : Nat → Bool} {x : Int} : x ∈ idx n t ↔ ∃ i : Nat, x = i ∧ i < n ∧ t i = true := by
  refine ⟨idx_mem, ?_⟩
  rintro ⟨i, rfl, h1, h2⟩
  unfold idx
  exact List.mem_map.mpr ⟨i, List.mem_filter.mpr ⟨List.mem_range.mpr h1, h2⟩, rfl⟩
theorem find_none {α : Type} (p : α → Bool) (l : List α) : (l.find? p).isNone = l.all fun x => !p x := by
  induction l with
  | nil => rfl
  | cons x l ih =>
    rw [List.find?_cons, List.all_cons]
    cases p x with
    | true => rfl
    | false => rw [ih]; rfl
theorem gof_idx {os : List Ord} {F : Int} : ∀ {n : Nat}, n ≤ os.length → gof os F n = idx n fun i => decide (Or os i = .go F)
  | 0, _ => rfl
  | n + 1, h => by
    rw [idx_snoc, ← gof_idx (n := n) (by omega)]
    show gof os F n ++ (if os[n]? = some (.go F) then [(n : Int)] else []) = _
    rw [or_get (show n < os.length by omega)]
    by_cases e : Or os n = .go F <;> simp [e]
theorem bof_idx {ps : List (Int × Int)} {os : List Ord} {p : Nat} : ∀ {n : Nat}, bof ps os p n = idx n (forB ps os p)
  | 0 => rfl
  | n + 1 => by
    rw [idx_snoc, ← bof_idx (n := n)]
    rfl
variable {ps : List (Int × Int)} {os : List Ord} {bs : List Bool} (hnd : (ps.map (·.1)).Nodup) (hl : os.length = ps.length) (vd : VdO ps os)
theorem fd_spot {f : Int} (hf : f ∈ ps.map (·.1)) : Fd ps (spotOf ps f) = f := by
  have := spot_lt hf
  exact spot_at (fd_at this)
include hnd hl vd in
theorem forB_helps {i x : Nat} (hi : i < ps.length) (hx : x < ps.length) : (forB ps os i x && Vl bs x) = Stl.helps (bdOf ps os hnd) (Bk os bs) i x := by
  unfold forB Stl.helps Bk
  rw [or_get (show x < os.length by omega)]
  have hO : (bdOf ps os hnd).O x = Or os x := rfl
  have hF : (bdOf ps os hnd).F i = Fd ps i := rfl
  rw [hO, hF]
  cases e : Or os x with
  | stay => simp
  | go g => simp
  | back f g =>
    have hf := (vd.bk x f g hx e).1
    show (fitF ps os f g && decide (spotOf ps f = i) && Vl bs x) = (Vl bs x && true && decide (Ord.back f g = Ord.back (Fd ps i) (Stl.goalOf (bdOf ps os hnd) i)))
    by_cases e1 : spotOf ps f = i
    · have e2 : f = Fd ps i := by rw [← e1, fd_spot hf]
      subst e2
      rw [fit_goal hnd vd hl hi, decide_eq_true e1]
      by_cases e3 : g = Stl.goalOf (bdOf ps os hnd) i
      · simp [← e3]
      · simp [e3]
    · have e2 : ¬ f = Fd ps i := fun z => e1 (by rw [z, spot_fd hnd hi])
      simp [e1, e2]
include hnd hl vd in
theorem force_eq {i : Nat} (hi : i < ps.length) : forceN ps os bs i = 1 + Stl.nh (bdOf ps os hnd) (Bk os bs) i := by
  unfold forceN Stl.nh
  rw [bof_idx, idx_filter, idx_count, hl]
  congr 1
  refine List.countP_congr fun x hx => ?_
  have hx := List.mem_range.mp hx
  rw [← forB_helps hnd hl vd hi hx]
  have : ((x : Nat) : Int).toNat = x := by omega
  simp [boolAt, this]
include hnd hl vd in
theorem thrust_eq {i j : Nat} (hi : i < ps.length) (hj : j < ps.length) : thrustN ps os bs i j = 1 + Stl.nh (bdOf ps os hnd) (Bk os bs) i - Stl.nhY (bdOf ps os hnd) (Bk os bs) i (Pl ps j) := by
  unfold thrustN
  have hs := count_split ps.length (Stl.helps (bdOf ps os hnd) (Bk os bs) i) fun x => decide ((bdOf ps os hnd).Y x = Pl ps j)
  rw [bof_idx, idx_filter, idx_filter, idx_count, hl]
  have e1 : (List.range ps.length).countP (fun x => (forB ps os i x && !decide (plAt ps (x : Nat) = plAt ps (j : Nat))) && boolAt bs (x : Nat)) = (List.range ps.length).countP fun x => Stl.helps (bdOf ps os hnd) (Bk os bs) i x && !decide ((bdOf ps os hnd).Y x = Pl ps j) := by
    refine List.countP_congr fun x hx => ?_
    have hx := List.mem_range.mp hx
    rw [← forB_helps hnd hl vd hi hx]
    have e1 : ((x : Nat) : Int).toNat = x := by omega
    have e2 : ((j : Nat) : Int).toNat = j := by omega
    have e3 : (bdOf ps os hnd).Y x = Pl ps x := rfl
    rw [e3]
    simp only [plAt, boolAt, e1, e2, Bool.and_eq_true]
    constructor <;> (rintro ⟨⟨h1, h2⟩, h3⟩; exact ⟨⟨h1, h3⟩, h2⟩)
  rw [e1]
  have h1 : Stl.nh (bdOf ps os hnd) (Bk os bs) i = (List.range ps.length).countP (Stl.helps (bdOf ps os hnd) (Bk os bs) i) := rfl
  have h2 : Stl.nhY (bdOf ps os hnd) (Bk os bs) i (Pl ps j) = (List.range ps.length).countP fun x => Stl.helps (bdOf ps os hnd) (Bk os bs) i x && decide ((bdOf ps os hnd).Y x = Pl ps j) := rfl
  rw [h1, h2]
  omega
include hl in
theorem else_eq {i m : Nat} (hi : i < ps.length) (hm : m < ps.length) : elseN ps os m i = (Stl.off (bdOf ps os hnd) i m).isSome := by
  unfold elseN Stl.off
  rw [or_get (show m < os.length by omega), fd_at hi]
  have hO : (bdOf ps os hnd).O m = Or os m := rfl
  have hF : (bdOf ps os hnd).F i = Fd ps i := rfl
  rw [hO, hF]
  cases e : Or os m with
  | stay => rfl
  | back f g => rfl
  | go g =>
    show (true && !decide (Ord.go g = Ord.go (Fd ps i))) = _
    by_cases h : g = Fd ps i <;> simp [h]
theorem opt_eq (g : Int) : optN ps g = Stl.plc (bdOf ps os hnd) g := by
  unfold optN
  by_cases h : g ∈ ps.map (·.1)
  · rw [if_pos h]
    have e := fd_spot h
    have := Stl.plc_at (bdOf ps os hnd) (i := spotOf ps g) (spot_lt h)
    rw [show (bdOf ps os hnd).F (spotOf ps g) = g from e] at this
    exact this.symm
  · rw [if_neg h]
    cases e : Stl.plc (bdOf ps os hnd) g with
    | none => rfl
    | some j =>
      obtain ⟨h1, h2⟩ := Stl.plc_some _ e
      exact absurd (by rw [← h2]; exact List.mem_map.mpr ⟨_, List.mem_of_getElem? (fd_at h1), rfl⟩) h
theorem off_go {b : Stl.Bd} {i j : Nat} (h : (Stl.off b i j).isSome = true) : Stl.isG (b.O j) = true := by
  unfold Stl.off at h
  cases e : b.O j with
  | go g => rfl
  | stay => rw [e] at h; cases h
  | back f g => rw [e] at h; cases h
include hl in
theorem barr_eq {i : Nat} (hi : i < ps.length) (g : Int) : barrN ps os bs i g = barr (bdOf ps os hnd) (Wn os bs) i g := by
  unfold barrN barr
  rw [opt_eq (os := os) hnd g]
  cases e : Stl.plc (bdOf ps os hnd) g with
  | none => rfl
  | some m =>
    have hm := (Stl.plc_some _ e).1
    show (if (elseN ps os m i && bs.getD m false) = true then none else some m) = if ((Stl.off (bdOf ps os hnd) i m).isSome && Wn os bs m) = true then none else some m
    rw [else_eq hnd hl hi hm]
    cases ho : (Stl.off (bdOf ps os hnd) i m).isSome with
    | false => rfl
    | true =>
      have hg : Stl.isG (Or os m) = true := off_go ho
      have : Wn os bs m = bs.getD m false := by unfold Wn; rw [hg, Bool.and_true]
      rw [this]
include hl in
theorem rep_eq (g : Int) {x : Nat} (hx : x < ps.length) : decide (V.int (x : Nat) = oV' (repN ps os bs g)) = decide (some (Fd ps x) = repel (bdOf ps os hnd) (Wn os bs) g) := by
  refine decide_eq_decide.mpr ?_
  unfold repN repel
  rw [opt_eq (os := os) hnd g]
  cases e : Stl.plc (bdOf ps os hnd) g with
  | none => simp [oV']
  | some m =>
    have hm : m < ps.length := (Stl.plc_some _ e).1
    simp only []
    rw [or_get (show m < os.length by omega), show (bdOf ps os hnd).O m = Or os m from rfl]
    cases ho : Or os m with
    | stay => simp [oV']
    | back f z => simp [oV']
    | go h =>
      have hw : Wn os bs m = bs.getD m false := by unfold Wn; rw [ho]; simp [Stl.isG]
      simp only [hw]
      cases hb : bs.getD m false with
      | false => simp [oV']
      | true =>
        simp only [if_true]
        rw [opt_eq (os := os) hnd h]
        cases e2 : Stl.plc (bdOf ps os hnd) h with
        | none =>
          have : ¬ Fd ps x = h := fun z => by
            have := Stl.plc_at (bdOf ps os hnd) (i := x) hx
            rw [show (bdOf ps os hnd).F x = h from z, e2] at this
            cases this
          simp [oV', this]
        | some y =>
          obtain ⟨h1, h2⟩ := Stl.plc_some _ e2
          by_cases hxy : x = y
          · subst hxy
            have h2 : Fd ps x = h := h2
            simp [oV', h2]
          · have h3 : ¬ Fd ps x = h := fun z => hxy ((bdOf ps os hnd).inj x y hx h1 (by rw [h2]; exact z))
            have h4 : ¬ ((x : Nat) : Int) = (y : Nat) := by omega
            simp [oV', h3, h4]
theorem pl_at {j : Nat} : plAt ps (j : Nat) = Pl ps j := by
  have : ((j : Nat) : Int).toNat = j := by omega
  unfold plAt
  rw [this]
theorem all_two {α : Type} (p q : α → Bool) (l : List α) : (l.all p && l.all q) = l.all fun x => p x && q x := by
  induction l with
  | nil => rfl
  | cons x l ih =>
    rw [List.all_cons, List.all_cons, List.all_cons, ← ih]
    cases p x <;> cases q x <;> simp
include hnd hl vd in
theorem go_eq {i : Nat} {g : Int} (hi : i < ps.length) (hO : Or os i = .go g) : goN ps os bs i g (barrN ps os bs i g) (repN ps os bs g) = Stl.wins (bdOf ps os hnd) (Bk os bs) (Wn os bs) i := by
  rw [← winsP_eq (bdOf ps os hnd) (Bk os bs) (Wn os bs) (i := i) (g := g) hi hO, barr_eq hnd hl hi]
  have hriv : ∀ t : Nat, ((gof os g os.length).find? (isRival ps os bs i (t : Nat) (repN ps os bs g))).isNone = rivW (bdOf ps os hnd) (Bk os bs) (Wn os bs) i g t := fun t => by
    rw [find_none, gof_idx (Nat.le_refl _), hl]
    unfold rivW
    have := idx_all ps.length (fun i => decide (Or os i = .go g)) fun x => !isRival ps os bs i (t : Nat) (repN ps os bs g) (x : Nat)
    have e : (idx ps.length fun i => decide (Or os i = .go g)).all (fun x => !isRival ps os bs i (t : Nat) (repN ps os bs g) x) = (idx ps.length fun i => decide (Or os i = .go g)).all fun x => !isRival ps os bs i (t : Nat) (repN ps os bs g) ((x.toNat : Nat) : Int) := by
      refine all_congr_m fun x hx => ?_
      obtain ⟨j, rfl, _, _⟩ := idx_mem hx
      have : ((((j : Nat) : Int).toNat : Nat) : Int) = j := by omega
      rw [this]
    rw [e, this]
    refine all_congr_m fun x hx => ?_
    have hx : x < ps.length := List.mem_range.mp hx
    have hO2 : (bdOf ps os hnd).O x = Or os x := rfl
    have hF2 : (bdOf ps os hnd).F x = Fd ps x := rfl
    unfold rivT isRival
    have hr := rep_eq (os := os) (bs := bs) hnd hl g hx
    have et : ((x : Nat) : Int).toNat = x := by omega
    rw [et, force_eq hnd hl vd hx, hO2, hF2, hr]
    by_cases h1 : Or os x = .go g
    · by_cases h2 : x = i
      · simp [h1, h2]
      · have h3 : ¬ ((x : Nat) : Int) = (i : Nat) := by omega
        by_cases h4 : 1 + Stl.nh (bdOf ps os hnd) (Bk os bs) x < t
        · have h5 : ¬ ((t : Nat) : Int) ≤ ((1 + Stl.nh (bdOf ps os hnd) (Bk os bs) x : Nat) : Int) := by omega
          rw [decide_eq_true h4, decide_eq_false h5]
          simp
        · have h5 : ((t : Nat) : Int) ≤ ((1 + Stl.nh (bdOf ps os hnd) (Bk os bs) x : Nat) : Int) := by omega
          rw [decide_eq_false h4, decide_eq_true h5, decide_eq_true h1, decide_eq_false h2, decide_eq_false h3]
          simp
    · rw [decide_eq_false h1]
      rfl
  unfold goN winsP
  cases e : barr (bdOf ps os hnd) (Wn os bs) i g with
  | none =>
    have ht : thr (bdOf ps os hnd) (Bk os bs) (Wn os bs) i g = thrustO ps os bs i none := by
      unfold thr
      rw [e]
      exact (force_eq hnd hl vd hi).symm
    simp only [Bool.true_and]
    rw [hriv, ht]
  | some m =>
    have hm : m < ps.length := barr_lt' e
    have ht : thr (bdOf ps os hnd) (Bk os bs) (Wn os bs) i g = thrustO ps os bs i (some m) := by
      unfold thr
      rw [e]
      exact (thrust_eq hnd hl vd hi hm).symm
    have hh : hold (bdOf ps os hnd) (Bk os bs) i m = holdN ps os bs i m := by
      unfold hold holdN
      rw [else_eq hnd hl hi hm, force_eq hnd hl vd hm]
    simp only []
    rw [hriv, ht, hh, pl_at, pl_at]
    have hY : ∀ x, (bdOf ps os hnd).Y x = Pl ps x := fun _ => rfl
    rw [hY, hY]
    by_cases h1 : Pl ps m = Pl ps i
    · have h1' : Pl ps i = Pl ps m := h1.symm
      rw [if_pos h1, decide_eq_true h1']
      rfl
    · have h1' : ¬ Pl ps i = Pl ps m := fun z => h1 z.symm
      rw [if_neg h1, decide_eq_false h1']
      by_cases h2 : thrustO ps os bs i (some m) ≤ holdN ps os bs i m
      · have h3 : ((thrustO ps os bs i (some m) : Nat) : Int) ≤ ((holdN ps os bs i m : Nat) : Int) := by omega
        rw [if_pos h2, decide_eq_true h3]
        rfl
      · have h3 : ¬ ((thrustO ps os bs i (some m) : Nat) : Int) ≤ ((holdN ps os bs i m : Nat) : Int) := by omega
        rw [if_neg h2, decide_eq_false h3]
        rfl
where
  barr_lt' {b : Stl.Bd} {W : Nat → Bool} {i : Nat} {g : Int} {j : Nat} (h : barr b W i g = some j) : j < b.n := by
    unfold barr at h
    cases e : Stl.plc b g with
    | none => rw [e] at h; cases h
    | some k =>
      rw [e] at h
      simp only at h
      split at h
      · cases h
      · cases h
        exact (Stl.plc_some b e).1
include hnd hl vd in
theorem stand_eq {i : Nat} {f g : Int} (hi : i < ps.length) (hO : Or os i = .back f g) : standN ps os bs (Fd ps i, Pl ps i) f g = Stl.holdsBack (bdOf ps os hnd) (Wn os bs) i := by
  have hf := (vd.bk i f g hi hO).1
  have ha : Stl.aim (bdOf ps os hnd) i = g := by unfold Stl.aim; rw [show (bdOf ps os hnd).O i = Or os i from rfl, hO]
  unfold standN Stl.holdsBack
  rw [fit_fits hnd hl hi hO hf, ha, Bool.and_assoc]
  congr 1
  have hw : decide (winV os bs (Fd ps i) = .non) = (gof os (Fd ps i) os.length).all fun x => !boolAt bs x := by
    rw [← find_none]
    unfold winV
    cases (gof os (Fd ps i) os.length).find? (boolAt bs) <;> simp
  have hc : (cutN ps os (Fd ps i, Pl ps i) g).isNone = (gof os (Fd ps i) os.length).all fun x => decide (plAt ps x = Pl ps i) || decide (fdAt ps x = g) := by
    unfold cutN
    rw [find_none]
    generalize gof os (Fd ps i) os.length = l
    induction l with
    | nil => rfl
    | cons x l ih =>
      rw [List.filter_cons, List.all_cons, ← ih]
      by_cases h : plAt ps x = Pl ps i
      · simp [h]
      · simp [h]
  show ((cutN ps os (Fd ps i, Pl ps i) g).isNone && decide (winV os bs (Fd ps i) = .non)) = _
  rw [hw, hc, all_two, gof_idx (Nat.le_refl _), hl]
  have e : (idx ps.length fun j => decide (Or os j = .go (Fd ps i))).all (fun x => (decide (plAt ps x = Pl ps i) || decide (fdAt ps x = g)) && !boolAt bs x) = (idx ps.length fun j => decide (Or os j = .go (Fd ps i))).all fun x => (fun s : Nat => (decide (Pl ps s = Pl ps i) || decide (Fd ps s = g)) && !Vl bs s) x.toNat := by
    refine all_congr_m fun x hx => ?_
    obtain ⟨j, rfl, _, _⟩ := idx_mem hx
    have : ((j : Nat) : Int).toNat = j := by omega
    simp only [plAt, fdAt, boolAt, this]
  rw [e]
  refine (idx_all ps.length (fun j => decide (Or os j = .go (Fd ps i))) fun s : Nat => (decide (Pl ps s = Pl ps i) || decide (Fd ps s = g)) && !Vl bs s).trans ?_
  refine all_congr_m fun x hx => ?_
  have hO2 : (bdOf ps os hnd).O x = Or os x := rfl
  have hF2 : (bdOf ps os hnd).F x = Fd ps x := rfl
  have hY2 : ∀ x, (bdOf ps os hnd).Y x = Pl ps x := fun _ => rfl
  have hF3 : (bdOf ps os hnd).F i = Fd ps i := rfl
  rw [hO2, hF2, hY2, hY2, hF3]
  by_cases h : Or os x = .go (Fd ps i)
  · have hW : Wn os bs x = Vl bs x := by unfold Wn; rw [h]; simp [Stl.isG]
    rw [hW, Bool.and_comm]
  · rw [decide_eq_false h]
    rfl
include hnd hl vd in
/-- **what the program tells of a place is what the rules tell** -/
theorem told_rule {i : Nat} (hi : i < ps.length) : toldN ps os bs i (Fd ps i, Pl ps i) (Or os i) = Stl.rule (bdOf ps os hnd) (Vl bs) i := by
  unfold Stl.rule
  rw [show (bdOf ps os hnd).O i = Or os i from rfl]
  cases e : Or os i with
  | stay => rfl
  | go g => exact go_eq hnd hl vd hi e
  | back f g => exact stand_eq hnd hl vd hi e
end Kt

set_option Elab.async false
set_option linter.all false
set_option maxRecDepth 100000
set_option maxHeartbeats 4000000
namespace Dl
open PySem PySem.Spec PyProof.Rows L2 Kt
theorem lc_emb {β : Type} {tn : PyData → (Option PyData → Prop) → Prop} (emb : β → PyData) (g : β → Option PyData) {A : List PyData → Prop} : ∀ {rs : List β} {acc : List PyData}, (∀ r ∈ rs, ∀ B : Option PyData → Prop, B (g r) → tn (emb r) B) → acc.length + rs.length ≤ SZ → A (acc ++ rs.filterMap g) → lcGo tn (rs.map emb) acc A
  | [], acc, _, _, k => by simpa [lcGo] using k
  | d :: ds, acc, hd, hl, k => by
    refine hd d List.mem_cons_self _ ?_
    rw [List.filterMap_cons] at k
    cases e : g d with
    | none =>
      rw [e] at k
      exact lc_emb emb g (fun x hx => hd x (List.mem_cons_of_mem _ hx)) (by simp at hl; omega) k
    | some y =>
      rw [e] at k
      refine ⟨by simp at hl; omega, lc_emb emb g (fun x hx => hd x (List.mem_cons_of_mem _ hx)) (by simp at hl ⊢; omega) (by simpa using k)⟩
structure ChartOk (n : Int) (rs : List (Int × Int)) (cs : List Int) : Prop where
  r : ∀ q ∈ rs, 0 ≤ q.1 ∧ q.1 < q.2 ∧ q.2 < n
  rp : rs.Pairwise fun u v => SrtO.lexB u v = true
  c : ∀ x ∈ cs, 0 ≤ x ∧ x < n
  cp : cs.Pairwise (· < ·)
def chD (n : Int) (rs : List (Int × Int)) (cs : List Int) : PyData := .tuple [.int n, .tuple (rs.map pD), .tuple (cs.map .int)]
structure Gath (n top : Int) (k : Nat) (rs : List (Int × Int)) : Prop where
  r : ∀ q ∈ rs, 0 ≤ q.1 ∧ q.1 < q.2 ∧ q.2 < n
  t : ∀ q ∈ rs, q.2 < top
  nd : rs.Nodup
  l : rs.length ≤ k
theorem Gath.up {n top top' : Int} {k k' : Nat} {rs : List (Int × Int)} (h : Gath n top k rs) (ht : top ≤ top') (hk : k ≤ k') : Gath n top' k' rs :=
  ⟨h.r, fun q hq => Int.lt_of_lt_of_le (h.t q hq) ht, h.nd, Nat.le_trans h.l hk⟩
theorem Gath.add {n top : Int} {k : Nat} {rs : List (Int × Int)} {a b : Int} (h : Gath n top k rs) (h0 : 0 ≤ a) (h1 : a < b) (h2 : b < n) (h3 : b < top) (hn : (a, b) ∉ rs) : Gath n top (k + 1) (rs ++ [(a, b)]) := by
  refine ⟨fun q hq => ?_, fun q hq => ?_, ?_, ?_⟩
  · rcases List.mem_append.mp hq with z | z
    · exact h.r q z
    · rw [List.mem_singleton.mp z]; exact ⟨h0, h1, h2⟩
  · rcases List.mem_append.mp hq with z | z
    · exact h.t q z
    · rw [List.mem_singleton.mp z]; exact h3
  · rw [List.nodup_append]
    refine ⟨h.nd, by simp, fun x hx y hy e => ?_⟩
    rw [List.mem_singleton.mp hy] at e
    subst e
    exact hn hx
  · have := h.l
    rw [List.length_append, List.length_singleton]
    omega
theorem sorted_strict {rs ss : List (Int × Int)} (hn : rs.Nodup) (hp : ss.Perm rs) (hs : ss.Pairwise fun u v => SrtO.lexB v u = false) : ss.Pairwise fun u v => SrtO.lexB u v = true := by
  have hn2 : ss.Pairwise (· ≠ ·) := hp.nodup_iff.mpr hn
  refine (hs.and hn2).imp fun {u v} h => ?_
  have h1 := SrtO.lexB_no.mp h.1
  refine SrtO.lexB_iff.mpr ?_
  have h2 : ¬ (u.1 = v.1 ∧ u.2 = v.2) := fun z => h.2 (Prod.ext z.1 z.2)
  omega
theorem outs_sub {ds rs : List PyData} {Post : PyData → Option PyData → Prop} (h : Outs Post ds rs) (hp : ∀ d y, Post d (some y) → y = d) : rs.Sublist ds := by
  induction h with
  | nil => exact List.Sublist.refl _
  | no _ _ ih => exact ih.cons _
  | yes q _ ih => rw [hp _ _ q]; exact ih.cons₂ _
theorem rng_ints (i : Int) (n : Nat) : ∃ ns : List Int, rngD i n = ns.map PyData.int ∧ ns.Pairwise (· < ·) ∧ (∀ x ∈ ns, i ≤ x ∧ x < i + n) ∧ ns.length = n := by
  refine ⟨(List.range n).map fun (k : Nat) => i + (k : Int), ?_, ?_, ?_, by simp⟩
  · unfold rngD
    rw [List.map_map]
    rfl
  · rw [List.pairwise_map]
    exact List.pairwise_lt_range.imp fun {a b} h => by omega
  · intro x hx
    obtain ⟨k, hk, rfl⟩ := List.mem_map.mp hx
    have := List.mem_range.mp hk
    omega
theorem sub_ints {ns : List Int} {rs : List PyData} (h : rs.Sublist (ns.map PyData.int)) : ∃ cs : List Int, rs = cs.map PyData.int ∧ cs.Sublist ns := by
  obtain ⟨cs, h1, h2⟩ := List.sublist_map_iff.mp h
  exact ⟨cs, h2, h1⟩
theorem rng_at {i : Int} {n k : Nat} {d : PyData} (h : (rngD i n)[k]? = some d) : d = .int (i + k) ∧ k < n := ⟨(rngD_at h).2, (rngD_at h).1⟩
theorem rng_len {i : Int} {n : Nat} : (rngD i n).length = n := by simp [rngD]
structure Fi (k e : Nat) (d : PyData) : Prop where
  s : d.showable = true
  l : d.leavesShort 40 = true
  w : d.weight ≤ k
  d : d.depth ≤ e
structure FiA (k e : Nat) (xs : List PyData) : Prop where
  s : ∀ x ∈ xs, x.showable = true
  l : ∀ x ∈ xs, x.leavesShort 40 = true
  w : PyData.weightAll xs ≤ k
  d : ∀ x ∈ xs, x.depth ≤ e
theorem showAll_iff : ∀ {xs : List PyData}, PyData.showableAll xs = true ↔ ∀ x ∈ xs, x.showable = true
  | [] => by simp [PyData.showableAll]
  | x :: xs => by simp [PyData.showableAll, showAll_iff (xs := xs)]
theorem leavesAll_iff : ∀ {xs : List PyData}, PyData.leavesShortAll 40 xs = true ↔ ∀ x ∈ xs, x.leavesShort 40 = true
  | [] => by simp [PyData.leavesShortAll]
  | x :: xs => by simp [PyData.leavesShortAll, leavesAll_iff (xs := xs)]
theorem depthAll_iff {e : Nat} : ∀ {xs : List PyData}, PyData.depthAll xs ≤ e ↔ ∀ x ∈ xs, x.depth ≤ e
  | [] => by simp [PyData.depthAll]
  | x :: xs => by
    have := depthAll_iff (e := e) (xs := xs)
    simp only [PyData.depthAll, List.forall_mem_cons, ← this]
    omega
theorem weightAll_sum : ∀ {xs : List PyData}, PyData.weightAll xs = (xs.map fun x => x.weight + 1).sum
  | [] => by simp [PyData.weightAll]
  | x :: xs => by simp [PyData.weightAll, weightAll_sum (xs := xs)]
theorem Fi.le {k k' e e' : Nat} {d : PyData} (h : Fi k e d) (hk : k ≤ k') (he : e ≤ e') : Fi k' e' d := ⟨h.s, h.l, Nat.le_trans h.w hk, Nat.le_trans h.d he⟩
theorem Fi.tup {k e : Nat} {xs : List PyData} (h : FiA k e xs) : Fi k (e + 1) (.tuple xs) :=
  ⟨by simpa only [PyData.showable, showAll_iff] using h.s, by simpa only [PyData.leavesShort, leavesAll_iff] using h.l, by simpa only [PyData.weight] using h.w, by simpa only [PyData.depth, Nat.add_le_add_iff_right, depthAll_iff] using h.d⟩
theorem Fi.lst {k e : Nat} {xs : List PyData} (h : FiA k e xs) : Fi k (e + 1) (.list xs) :=
  ⟨by simpa only [PyData.showable, showAll_iff] using h.s, by simpa only [PyData.leavesShort, leavesAll_iff] using h.l, by simpa only [PyData.weight] using h.w, by simpa only [PyData.depth, Nat.add_le_add_iff_right, depthAll_iff] using h.d⟩
theorem Fi.un {k e : Nat} {xs : List PyData} (h : Fi k (e + 1) (.tuple xs)) : FiA k e xs :=
  ⟨by simpa only [PyData.showable, showAll_iff] using h.s, by simpa only [PyData.leavesShort, leavesAll_iff] using h.l, by simpa only [PyData.weight] using h.w, by simpa only [PyData.depth, Nat.add_le_add_iff_right, depthAll_iff] using h.d⟩
theorem FiA.nil {k e : Nat} : FiA k e [] := ⟨by simp, by simp, by simp [PyData.weightAll], by simp⟩
theorem FiA.cons {k k' e e' : Nat} {x : PyData} {xs : List PyData} (h : Fi k e x) (t : FiA k' e' xs) : FiA (k + 1 + k') (max e e') (x :: xs) :=
  ⟨by simpa only [List.forall_mem_cons] using ⟨h.s, t.s⟩, by simpa only [List.forall_mem_cons] using ⟨h.l, t.l⟩, by have := h.w; have := t.w; simp only [PyData.weightAll]; omega,
   by
    rw [List.forall_mem_cons]
    exact ⟨Nat.le_trans h.d (Nat.le_max_left _ _), fun x hx => Nat.le_trans (t.d x hx) (Nat.le_max_right _ _)⟩⟩
theorem FiA.app {k k' e e' : Nat} {xs ys : List PyData} (h : FiA k e xs) (t : FiA k' e' ys) : FiA (k + k') (max e e') (xs ++ ys) :=
  ⟨fun x hx => (List.mem_append.mp hx).elim (h.s x) (t.s x), fun x hx => (List.mem_append.mp hx).elim (h.l x) (t.l x), by
    have h1 := h.w; have h2 := t.w
    rw [weightAll_sum] at *
    rw [List.map_append, List.sum_append]; omega, fun x hx => (List.mem_append.mp hx).elim (fun z => Nat.le_trans (h.d x z) (Nat.le_max_left _ _)) (fun z => Nat.le_trans (t.d x z) (Nat.le_max_right _ _))⟩
theorem FiA.sub {k e : Nat} {xs ys : List PyData} (h : FiA k e xs) (t : ys.Sublist xs) : FiA k e ys :=
  ⟨fun x hx => h.s x (t.subset hx), fun x hx => h.l x (t.subset hx), by
    have h1 := h.w
    rw [weightAll_sum] at *
    have : ∀ {as bs : List Nat}, as.Sublist bs → as.sum ≤ bs.sum := by
      intro as bs h
      induction h with
      | slnil => exact Nat.le_refl _
      | cons _ _ ih => simp; omega
      | cons_cons _ _ ih => simp; omega
    exact Nat.le_trans (this (t.map _)) h1, fun x hx => h.d x (t.subset hx)⟩
theorem FiA.cut {k e : Nat} {xs : List PyData} {lo hi : Option Int} (h : FiA k e xs) : FiA k e (cutD xs lo hi) := h.sub ((List.take_sublist _ _).trans (List.drop_sublist _ _))
theorem FiA.rev {k e : Nat} {xs : List PyData} (h : FiA k e xs) : FiA k e xs.reverse :=
  ⟨fun x hx => h.s x (List.mem_reverse.mp hx), fun x hx => h.l x (List.mem_reverse.mp hx), by
    have h1 := h.w
    rw [weightAll_sum] at *
    rw [List.map_reverse, List.sum_reverse]; exact h1, fun x hx => h.d x (List.mem_reverse.mp hx)⟩
theorem FiA.len {k e : Nat} {xs : List PyData} (h : FiA k e xs) : xs.length ≤ k := by
  have h1 := h.w
  rw [weightAll_sum] at h1
  refine Nat.le_trans ?_ h1
  clear h1 h
  induction xs with
  | nil => simp
  | cons x xs ih => simp only [List.map_cons, List.sum_cons, List.length_cons]; omega
theorem FiA.at {k e : Nat} {xs : List PyData} (h : FiA k e xs) {x : PyData} (hx : x ∈ xs) : Fi k e x := by
  refine ⟨h.s x hx, h.l x hx, ?_, h.d x hx⟩
  have h1 := h.w
  rw [weightAll_sum] at h1
  refine Nat.le_trans ?_ h1
  clear h1 h
  induction xs with
  | nil => cases hx
  | cons y xs ih =>
    simp only [List.map_cons, List.sum_cons]
    rcases List.mem_cons.mp hx with z | z
    · rw [z]; omega
    · have := ih z; omega
theorem Fi.lit {k e : Nat} {d : PyData} (h : (d.showable && d.leavesShort 40 && decide (d.weight ≤ k) && decide (d.depth ≤ e)) = true) : Fi k e d := by
  simp only [Bool.and_eq_true, decide_eq_true_eq] at h
  exact ⟨h.1.1.1, h.1.1.2, h.1.2, h.2⟩
theorem Fi.lits {k e : Nat} {xs : List PyData} (h : (xs.all fun d => d.showable && d.leavesShort 40 && decide (d.weight ≤ k) && decide (d.depth ≤ e)) = true) : ∀ d ∈ xs, Fi k e d := fun d hd => Fi.lit (List.all_eq_true.mp h d hd)
theorem Fi.shw {k e : Nat} {d : PyData} (h : Fi k e d) (hk : k ≤ 100000) (he : e ≤ 60) : Shw d := by
  refine ⟨h.s, ?_, Nat.le_trans h.d he⟩
  have := PyData.shown_le 40 (by decide) d h.l
  have := h.w
  omega
theorem Fi.int {i : Int} (h : -1 ≤ i ∧ i ≤ 30) : Fi 6 0 (.int i) := by
  obtain ⟨j, hj⟩ := Int.eq_ofNat_of_zero_le (show 0 ≤ i + 1 by omega)
  have hj2 : j < 32 := by omega
  have e : i = (j : Int) - 1 := by omega
  subst e
  have : ∀ j : Fin 32, ((PyData.int ((j.val : Int) - 1)).showable && (PyData.int ((j.val : Int) - 1)).leavesShort 40 && decide ((PyData.int ((j.val : Int) - 1)).weight ≤ 6) && decide ((PyData.int ((j.val : Int) - 1)).depth ≤ 0)) = true := by decide +kernel
  exact Fi.lit (this ⟨j, hj2⟩)
theorem fm_nil {P : PyData → Prop} : ∀ d ∈ ([] : List PyData), P d := fun d h => by cases h
theorem fm_cons {P : PyData → Prop} {x : PyData} {xs : List PyData} (h : P x) (t : ∀ d ∈ xs, P d) : ∀ d ∈ x :: xs, P d := fun d hd => by
  rcases List.mem_cons.mp hd with z | z
  · rw [z]; exact h
  · exact t d z
def revD : PyData → PyData
  | .tuple xs => .tuple xs.reverse
  | d => d
theorem Fi.revD {k e : Nat} {d : PyData} (h : Fi k e d) : Fi k e (revD d) ∧ (Dl.revD d).weight = d.weight := by
  cases d with
  | tuple xs =>
    have hw : (PyData.tuple xs.reverse).weight = (PyData.tuple xs).weight := by
      simp only [PyData.weight, weightAll_sum, List.map_reverse, List.sum_reverse]
    refine ⟨⟨?_, ?_, Nat.le_trans (Nat.le_of_eq hw) h.w, ?_⟩, hw⟩
    · have := h.s
      simp only [PyData.showable, showAll_iff, Dl.revD] at this ⊢
      exact fun x hx => this x (List.mem_reverse.mp hx)
    · have := h.l
      simp only [PyData.leavesShort, leavesAll_iff, Dl.revD] at this ⊢
      exact fun x hx => this x (List.mem_reverse.mp hx)
    · have := h.d
      cases e with
      | zero => simp [PyData.depth] at this
      | succ e =>
        simp only [PyData.depth, Nat.add_le_add_iff_right, depthAll_iff, Dl.revD] at this ⊢
        exact fun x hx => this x (List.mem_reverse.mp hx)
  | _ => exact ⟨h, rfl⟩
theorem FiA.revD {k e : Nat} {xs : List PyData} (h : FiA k e xs) : FiA k e (xs.map Dl.revD) := by
  refine ⟨fun x hx => ?_, fun x hx => ?_, ?_, fun x hx => ?_⟩
  · obtain ⟨y, hy, rfl⟩ := List.mem_map.mp hx
    exact (Fi.revD (h.at hy)).1.s
  · obtain ⟨y, hy, rfl⟩ := List.mem_map.mp hx
    exact (Fi.revD (h.at hy)).1.l
  · have h1 := h.w
    rw [weightAll_sum] at *
    rw [List.map_map]
    refine Nat.le_trans (Nat.le_of_eq (congrArg List.sum (List.map_congr_left fun x hx => ?_))) h1
    show (Dl.revD x).weight + 1 = _
    rw [(Fi.revD (h.at hx)).2]
  · obtain ⟨y, hy, rfl⟩ := List.mem_map.mp hx
    exact (Fi.revD (h.at hy)).1.d
theorem cut_len {xs : List PyData} {lo hi : Option Int} : (cutD xs lo hi).length ≤ xs.length := by
  have := ((List.take_sublist (HT.sIx xs.length xs.length hi - HT.sIx xs.length 0 lo) (xs.drop (HT.sIx xs.length 0 lo))).trans (List.drop_sublist _ xs)).length_le
  exact this
theorem cut_mem {xs : List PyData} {lo hi : Option Int} {x : PyData} (h : x ∈ cutD xs lo hi) : x ∈ xs := ((List.take_sublist _ _).trans (List.drop_sublist _ _)).subset h
theorem FiA.of {k e : Nat} : ∀ {xs : List PyData}, (∀ x ∈ xs, Fi k e x) → FiA (xs.length * (k + 1)) e xs
  | [], _ => ⟨by simp, by simp, by simp [PyData.weightAll], by simp⟩
  | x :: xs, h => by
    have h1 := h x List.mem_cons_self
    have h2 := FiA.of fun y hy => h y (List.mem_cons_of_mem _ hy)
    have := FiA.cons h1 h2
    rw [Nat.max_self] at this
    refine ⟨this.s, this.l, Nat.le_trans this.w ?_, this.d⟩
    rw [List.length_cons, Nat.add_mul]
    omega
theorem FiA.ints {ns : List Int} (h : ∀ x ∈ ns, -1 ≤ x ∧ x ≤ 30) : FiA (ns.length * 7) 0 (ns.map PyData.int) := by
  have := FiA.of (k := 6) (e := 0) (xs := ns.map PyData.int) fun x hx => by
    obtain ⟨y, hy, rfl⟩ := List.mem_map.mp hx
    exact Fi.int (h y hy)
  rwa [List.length_map] at this
theorem fi_chart {n : Int} {rs : List (Int × Int)} {cs : List Int} (hn : 1 ≤ n ∧ n ≤ 24) (ok : ChartOk n rs cs) (lr : rs.length ≤ 40) (lc : cs.length ≤ 40) : Fi 950 5 (chD n rs cs) := by
  have f1 : Fi 6 0 (.int n) := Fi.int ⟨by omega, by omega⟩
  have f2 : FiA ((rs.map pD).length * (14 + 1)) 1 (rs.map pD) := FiA.of fun x hx => by
    obtain ⟨q, hq, rfl⟩ := List.mem_map.mp hx
    have := ok.r q hq
    have g1 : Fi 6 0 (.int q.1) := Fi.int ⟨by omega, by omega⟩
    have g2 : Fi 6 0 (.int q.2) := Fi.int ⟨by omega, by omega⟩
    unfold pD
    (apply Fi.le; (· (repeat (first | assumption | exact Fi.int ⟨by omega, by omega⟩ | exact FiA.nil (k := 0) (e := 0) | apply Fi.tup | apply Fi.lst | apply FiA.cons | apply FiA.app | apply FiA.cut | apply FiA.rev | exact Fi.lit (k := 2) (e := 0) (by decide +kernel) | exact Fi.lit (k := 110) (e := 2) (by decide +kernel)))); (· omega); (· omega))
  have f3 : FiA (cs.length * 7) 0 (cs.map PyData.int) := FiA.ints fun x hx => by have := ok.c x hx; omega
  rw [List.length_map] at f2
  unfold chD
  (apply Fi.le; (· (repeat (first | assumption | exact Fi.int ⟨by omega, by omega⟩ | exact FiA.nil (k := 0) (e := 0) | apply Fi.tup | apply Fi.lst | apply FiA.cons | apply FiA.app | apply FiA.cut | apply FiA.rev | exact Fi.lit (k := 2) (e := 0) (by decide +kernel) | exact Fi.lit (k := 110) (e := 2) (by decide +kernel)))); (· omega); (· omega))
theorem firstBad_lt {bad : Nat → Bool} {n i : Nat} (h : firstBad bad n = some i) : i < n := by
  unfold firstBad at h
  exact List.mem_range.mp (List.mem_of_find?_eq_some h)
theorem firstBad_ok {bad : Nat → Bool} {n : Nat} (h : firstBad bad n = none) : ∀ j, j < n → bad j = false := by
  unfold firstBad at h
  intro j hj
  have := List.find?_eq_none.mp h j (List.mem_range.mpr hj)
  simpa using this
structure PcOk (n : Int) (ps : List (Int × Int)) : Prop where
  fld : ∀ p ∈ ps, 0 ≤ p.1 ∧ p.1 < n ∧ 0 ≤ p.2 ∧ p.2 < 6
  asc : ps.Pairwise fun p q => p.1 < q.1
theorem perm_ints2 {ys : List PyData} {ns : List Int} (h : ys.Perm (ns.map PyData.int)) : ∃ ms : List Int, ys = ms.map PyData.int ∧ ms.Perm ns := by
  let toI : PyData → Int := fun d => match d with
    | .int i => i
    | _ => 0
  have e : ∀ zs : List PyData, (∀ z ∈ zs, ∃ n, z = PyData.int n) → zs = (zs.map toI).map PyData.int := fun zs hz => by
    induction zs with
    | nil => rfl
    | cons z zs ih =>
      obtain ⟨n, rfl⟩ := hz z List.mem_cons_self
      rw [List.map_cons, List.map_cons, ← ih fun x hx => hz x (List.mem_cons_of_mem _ hx)]
  refine ⟨ys.map toI, e ys fun z hz => ?_, ?_⟩
  · obtain ⟨n, _, rfl⟩ := List.mem_map.mp (h.mem_iff.mp hz)
    exact ⟨n, rfl⟩
  · have q := h.map toI
    rw [List.map_map] at q
    have : (toI ∘ PyData.int) = id := rfl
    rw [this, List.map_id] at q
    exact q
theorem cut_sub {xs : List PyData} {lo hi : Option Int} : (cutD xs lo hi).Sublist xs := (List.take_sublist _ _).trans (List.drop_sublist _ _)
theorem cut_first {xs : List PyData} {k : Int} (h : 0 < k) (hx : xs ≠ []) : cutD xs none (some k) ≠ [] := by
  unfold cutD
  have e : k = ((k.toNat : Nat) : Int) := by omega
  rw [HT.sIx_none, e, HT.sIx_nat, List.drop_zero, Nat.sub_zero]
  cases xs with
  | nil => exact absurd rfl hx
  | cons x xs =>
    intro z
    have := congrArg List.length z
    simp at this
    omega
theorem outs_pairs {Post : PyData → Option PyData → Prop} {P : Int → Prop} (hp : ∀ f o, Post (.int f) o → ∃ p, o = some (pD (f, p)) ∧ P p) : ∀ {ms : List Int} {rs : List PyData}, Outs Post (ms.map PyData.int) rs → ∃ ps : List (Int × Int), rs = ps.map pD ∧ ps.map (·.1) = ms ∧ ∀ q ∈ ps, P q.2
  | [], rs, h => by cases h; exact ⟨[], rfl, rfl, by simp⟩
  | m :: ms, rs, h => by
    cases h with
    | no q t => obtain ⟨p, e, _⟩ := hp _ _ q; cases e
    | yes q t =>
      obtain ⟨p, e, hP⟩ := hp _ _ q
      cases e
      obtain ⟨ps, e1, e2, e3⟩ := outs_pairs hp t
      exact ⟨(m, p) :: ps, by rw [e1]; rfl, by rw [← e2]; rfl, fun q hq => by
        rcases List.mem_cons.mp hq with z | z
        · rw [z]; exact hP
        · exact e3 q z⟩
theorem int_lay {ns : List Int} : ∀ x ∈ ns.map PyData.int, x.canLay0 = true ∧ x.depth ≤ 60 := fun x hx => by
  obtain ⟨i, _, rfl⟩ := List.mem_map.mp hx
  exact ⟨by simp [PyData.canLay0], by simp [PyData.depth]⟩
theorem cut_len_to {xs : List PyData} {k : Int} (h : 0 ≤ k) : ((cutD xs none (some k)).length : Int) ≤ k := by
  unfold cutD
  have e : k = ((k.toNat : Nat) : Int) := by omega
  rw [HT.sIx_none, e, HT.sIx_nat, List.drop_zero, Nat.sub_zero, List.length_take]
  omega
theorem fi_pieces {n : Int} {ps : List (Int × Int)} (hn : n ≤ 24) (ok : PcOk n ps) : FiA (ps.length * 15) 1 (ps.map pD) := by
  have := FiA.of (k := 14) (e := 1) (xs := ps.map pD) fun x hx => by
    obtain ⟨q, hq, rfl⟩ := List.mem_map.mp hx
    have := ok.fld q hq
    have g1 : Fi 6 0 (.int q.1) := Fi.int ⟨by omega, by omega⟩
    have g2 : Fi 6 0 (.int q.2) := Fi.int ⟨by omega, by omega⟩
    unfold pD
    (apply Fi.le; (· (repeat (first | assumption | exact Fi.int ⟨by omega, by omega⟩ | exact FiA.nil (k := 0) (e := 0) | apply Fi.tup | apply Fi.lst | apply FiA.cons | apply FiA.app | apply FiA.cut | apply FiA.rev | exact Fi.lit (k := 2) (e := 0) (by decide +kernel) | exact Fi.lit (k := 110) (e := 2) (by decide +kernel)))); (· omega); (· omega))
  rwa [List.length_map] at this
theorem fi_board {n : Int} {rs : List (Int × Int)} {cs : List Int} {ps : List (Int × Int)} (hn : 1 ≤ n ∧ n ≤ 24) (ok : ChartOk n rs cs) (lr : rs.length ≤ 40) (lc : cs.length ≤ 40) (op : PcOk n ps) (lp : ps.length ≤ 24) : Fi 1350 6 (.tuple [chD n rs cs, .tuple (ps.map pD)]) := by
  have f1 := fi_chart hn ok lr lc
  have f2 := fi_pieces hn.2 op
  (apply Fi.le; (· (repeat (first | assumption | exact Fi.int ⟨by omega, by omega⟩ | exact FiA.nil (k := 0) (e := 0) | apply Fi.tup | apply Fi.lst | apply FiA.cons | apply FiA.app | apply FiA.cut | apply FiA.rev | exact Fi.lit (k := 2) (e := 0) (by decide +kernel) | exact Fi.lit (k := 110) (e := 2) (by decide +kernel)))); (· omega); (· omega))
theorem bNe_same {s : Str} {A : Bool → Prop} (h : A false) : bNe (.str s) (.str s) A := bNe_str (by rw [decide_eq_true rfl]; exact h)
theorem dGet_t0 {x : PyData} {r : List PyData} {A : PyData → Prop} : dGet (.tuple (x :: r)) (.int 0) A = A x := by
  unfold dGet; simp only [at0]
theorem dGet_t1 {x y : PyData} {r : List PyData} {A : PyData → Prop} : dGet (.tuple (x :: y :: r)) (.int 1) A = A y := by
  unfold dGet; simp only [at1]
theorem dGet_t2 {x y z : PyData} {r : List PyData} {A : PyData → Prop} : dGet (.tuple (x :: y :: z :: r)) (.int 2) A = A z := by
  unfold dGet; simp only [at2]
theorem dGet_l0 {x : PyData} {r : List PyData} {A : PyData → Prop} : dGet (.list (x :: r)) (.int 0) A = A x := by
  unfold dGet; simp only [at0]
theorem dGet_l1 {x y : PyData} {r : List PyData} {A : PyData → Prop} : dGet (.list (x :: y :: r)) (.int 1) A = A y := by
  unfold dGet; simp only [at1]
theorem dGet_tn {xs : List PyData} {j : Nat} {x : PyData} {A : PyData → Prop} (h : xs[j]? = some x) : dGet (.tuple xs) (.int (j : Nat)) A = A x := by
  unfold dGet; simp only [atI_nat h]
theorem dGet_ln {xs : List PyData} {j : Nat} {x : PyData} {A : PyData → Prop} (h : xs[j]? = some x) : dGet (.list xs) (.int (j : Nat)) A = A x := by
  unfold dGet; simp only [atI_nat h]
theorem cut_take {xs : List PyData} {j : Nat} : cutD xs none (some (j : Nat)) = xs.take j := by
  unfold cutD
  rw [HT.sIx_none, HT.sIx_nat, List.drop_zero, Nat.sub_zero]
  by_cases h : j ≤ xs.length
  · rw [Nat.min_eq_left h]
  · rw [Nat.min_eq_right (by omega), List.take_of_length_le (Nat.le_refl _), List.take_of_length_le (by omega)]
theorem cut_drop {xs : List PyData} {j : Nat} : cutD xs (some (j : Nat)) none = xs.drop j := by
  unfold cutD
  rw [HT.sIx_none, HT.sIx_nat]
  by_cases h : j ≤ xs.length
  · rw [Nat.min_eq_left h, List.take_of_length_le (by rw [List.length_drop]; omega)]
  · rw [Nat.min_eq_right (by omega), Nat.sub_self, List.drop_of_length_le (show xs.length ≤ j by omega)]
    rfl
end Dl

set_option Elab.async false
set_option linter.all false
set_option maxRecDepth 100000
set_option maxHeartbeats 4000000
namespace Dl
open PySem PySem.Spec PyProof.Rows L2 Kt
def bdQ (n : Int) (rs : List (Int × Int)) (cs : List Int) (ps : List (Int × Int)) : PyData := .tuple [chD n rs cs, .tuple (ps.map pD)]
theorem bdQ_eq (n : Int) (rs : List (Int × Int)) (cs : List Int) (ps : List (Int × Int)) : bdQ n rs cs ps = Kt.bdD n rs cs ps := rfl
theorem lay_ints : ∀ cs : List Int, PyData.canLayAll0 (cs.map PyData.int) = true
  | [] => by simp [PyData.canLayAll0]
  | c :: cs => by simp [PyData.canLayAll0, PyData.canLay0, lay_ints cs]
theorem lay_bd (n : Int) (rs : List (Int × Int)) (cs : List Int) (ps : List (Int × Int)) : (bdQ n rs cs ps).canLay0 = true := by
  simp [bdQ, chD, PyData.canLay0, PyData.canLayAll0, canLay_pairs, lay_ints]
theorem ord_lay (o : Ord) : (oD o).canLay0 = true := by
  have h := shp_lay (shaped_ord o)
  exact h
section
variable {K : PySem.W.Frag} {S : List Addr} {H H' : Hp}
/-- orders made anew are data: no place left out is one of their tuples -/
theorem ords_dq {a c : Addr} (al : Al S H) (k : Kp [a, c] H H') (hd : DeckAt H' a c) : ∀ {ys : List V} {os : List Ord}, Ps oV H' ys os → DqAll K (Ob S H') ys (os.map oD)
  | _, _, .nil => .nil
  | _, o :: os, .cons h t => by
    obtain ⟨t', rfl, e⟩ := h
    refine .cons ?_ (ords_dq al k hd t)
    have nS : t' ∉ S := fun z => by
      by_cases q : t' ∈ [a, c]
      · obtain ⟨m1, m2⟩ := deck_mu hd
        simp at q
        rcases q with q | q
        · subst q; exact m1.no e
        · subst q; exact m2.no e
      · exact ((al t' z).keep k q).no e
    refine (show Dq K (Ob S H') (.ref t') (oD o) from ?_)
    cases o with
    | stay => exact .tupA (Ob.mk nS e) (.cons (.str _) .nil)
    | go g => exact .tupA (Ob.mk nS e) (.cons (.str _) (.cons (.int _) .nil))
    | back f g => exact .tupA (Ob.mk nS e) (.cons (.str _) (.cons (.int _) (.cons (.int _) .nil)))
/-- .. and read -/
theorem ords_ps : ∀ {ys : List V} {os : List Ord}, DqAll K (Ob S H) ys (os.map oD) → Ps oV H ys os
  | _, [], h => by rw [h.inv_nil]; exact .nil
  | _, o :: os, h => by
    obtain ⟨v, r, rfl, hv, hr⟩ := h.inv_cons
    refine .cons ?_ (ords_ps hr)
    cases o with
    | stay =>
      obtain ⟨a, xs, rfl, ha, ga⟩ := hv.inv_tup
      obtain ⟨v1, r1, rfl, h1, g1⟩ := ga.inv_cons
      obtain rfl := g1.inv_nil
      obtain rfl := h1.inv_str
      exact ⟨a, rfl, (Ob.of ha).2⟩
    | go g =>
      obtain ⟨a, xs, rfl, ha, ga⟩ := hv.inv_tup
      obtain ⟨v1, r1, rfl, h1, g1⟩ := ga.inv_cons
      obtain ⟨v2, r2, rfl, h2, g2⟩ := g1.inv_cons
      obtain rfl := g2.inv_nil
      obtain rfl := h1.inv_str
      obtain rfl := h2.inv_int
      exact ⟨a, rfl, (Ob.of ha).2⟩
    | back f g =>
      obtain ⟨a, xs, rfl, ha, ga⟩ := hv.inv_tup
      obtain ⟨v1, r1, rfl, h1, g1⟩ := ga.inv_cons
      obtain ⟨v2, r2, rfl, h2, g2⟩ := g1.inv_cons
      obtain ⟨v3, r3, rfl, h3, g3⟩ := g2.inv_cons
      obtain rfl := g3.inv_nil
      obtain rfl := h1.inv_str
      obtain rfl := h2.inv_int
      obtain rfl := h3.inv_int
      exact ⟨a, rfl, (Ob.of ha).2⟩
theorem bools_eq : ∀ {ys : List V} {bs : List Bool}, DqAll K (Ob S H) ys (bs.map PyData.bool) → ys = bs.map V.bl
  | _, [], h => by rw [h.inv_nil]; rfl
  | _, b :: bs, h => by
    obtain ⟨v, r, rfl, hv, hr⟩ := h.inv_cons
    obtain rfl := hv.inv_bool
    rw [bools_eq hr]
    rfl
theorem ob_deck {a c : Addr} (ma : a ∈ S) (mc : c ∈ S) : Same (Ob S H) (Ob [a, c] H) := fun b o e => Ob.mk (fun z => (Ob.of e).1 (by
  rcases List.mem_cons.mp z with z | z
  · exact z ▸ ma
  · rw [List.mem_singleton.mp z]; exact mc)) (Ob.of e).2
end
def g_law_orders : RDn := fun ds A => match ds with
  | [d] => ∃ n rs cs ps, d = bdQ n rs cs ps ∧ rs.length ≤ 200 ∧ ps.length ≤ 24 ∧ ∀ os, OrdsOk rs ps os → A (.tuple (os.map oD))
  | _ => False
theorem orders_imp {K : PySem.W.Frag} : ∀ vs H Q E, spK K g_law_orders vs H Q E → spOrders K vs H Q E := by
  intro vs H Q E h
  obtain ⟨S, a, c, ws, ds, A, rfl, hd, ma, mc, al, sy, hx, hg, q⟩ := h
  unfold g_law_orders at hg
  split at hg
  · rename_i d
    obtain ⟨v, r, rfl, hv, hr⟩ := hx.inv_cons
    obtain rfl := hr.inv_nil
    obtain ⟨n, rs, cs, ps, rfl, h1, h2, k⟩ := hg
    refine ⟨a, c, v, n, rs, cs, ps, rfl, hd, ?_, h1, h2, fun H' p ys os ok hp hp' hps hd' kp => ?_⟩
    · exact (hv.same (ob_deck ma mc)).dp (lay_bd n rs cs ps)
    · exact q _ _ H' (k os ok) hd' kp (.tupA (Ob.mk (fun z => al.ne z hp) hp') (ords_dq al kp hd' hps))
  · exact hg.elim
/-- the first place whose bool is not as the rules tell -/
def setErr (b : Stl.Bd) (bs : List Bool) : PyData := match (List.range b.n).find? fun j => Stl.rule b (Vl bs) j != Vl bs j with
  | some j => .tuple [.str "order", .int (j : Nat)]
  | none => .none
def g_settlement_error : RDn := fun ds A => match ds with
  | [b, o, v] => ∃ n rs cs ps os bs, ∃ hnd : (ps.map (·.1)).Nodup, b = bdQ n rs cs ps ∧ o = .tuple (os.map oD) ∧ v = .tuple (bs.map PyData.bool) ∧ os.length = ps.length ∧ bs.length = os.length ∧ ps.length ≤ 24 ∧ VdO ps os ∧ A (setErr (bdOf ps os hnd) bs)
  | _ => False
theorem range_none {n : Nat} {p : Nat → Bool} (h : ∀ j, j < n → p j = false) : (List.range n).find? p = none := by
  rw [List.find?_eq_none]
  intro x hx
  rw [h x (List.mem_range.mp hx)]
  simp
theorem range_some {n j : Nat} {p : Nat → Bool} (hj : j < n) (hp : p j = true) (h : ∀ i, i < j → p i = false) : (List.range n).find? p = some j := by
  rw [List.find?_range_eq_some]
  exact ⟨hp, List.mem_range.mpr hj, fun i hi => by rw [h i hi]; rfl⟩
theorem setErr_imp {K : PySem.W.Frag} : ∀ vs H Q E, spN K g_settlement_error vs H Q E → spSetErrM K vs H Q E := by
  intro vs H Q E h
  obtain ⟨S, ds, A, al, sy, hx, hg, q⟩ := h
  unfold g_settlement_error at hg
  split at hg
  · rename_i b o v
    obtain ⟨n, rs, cs, ps, os, bs, hnd, rfl, rfl, rfl, hl, hbl, h24, vd, k⟩ := hg
    obtain ⟨v1, r1, rfl, h1, g1⟩ := hx.inv_cons
    obtain ⟨v2, r2, rfl, h2, g2⟩ := g1.inv_cons
    obtain ⟨v3, r3, rfl, h3, g3⟩ := g2.inv_cons
    obtain rfl := g3.inv_nil
    obtain ⟨t, ys, rfl, ht, gt⟩ := h2.inv_tup
    obtain ⟨z, zs, rfl, hz, gz⟩ := h3.inv_tup
    rw [bools_eq gz] at hz
    have hO : ∀ j, j < ps.length → os[j]? = some (Or os j) := fun j hj => or_get (by omega)
    refine ⟨v1, t, z, n, rs, cs, ps, ys, os, bs, rfl, obDp h1 (lay_bd n rs cs ps), (Ob.of ht).2, ords_ps gt, (Ob.of hz).2, hl, hbl, h24, hnd, fun j f g hj => ?_, fun H' hin kp => ?_, fun H' r j o p ho hp hne hin hr kp => ?_⟩
    · have hjl : j < ps.length := by have := (List.getElem?_eq_some_iff.mp hj).1; omega
      have e := hO j hjl
      rw [hj] at e
      exact (vd.bk j f g hjl (Option.some.inj e).symm).1
    · have : setErr (bdOf ps os hnd) bs = .none := by
        unfold setErr
        rw [range_none fun j hj => ?_]
        have hj : j < ps.length := hj
        have := hin j _ _ (by omega) (hO j hj) (fd_at hj)
        rw [told_rule hnd hl vd hj] at this
        rw [this]
        simp
      rw [this] at k
      exact q _ _ H' k kp .non
    · have hjl : j < ps.length := by have := (List.getElem?_eq_some_iff.mp ho).1; omega
      have e := hO j hjl
      rw [ho] at e
      have e := Option.some.inj e
      have e2 := fd_at hjl
      rw [hp] at e2
      have e2 := Option.some.inj e2
      subst e e2
      have : setErr (bdOf ps os hnd) bs = .tuple [.str "order", .int (j : Nat)] := by
        unfold setErr
        rw [range_some (n := (bdOf ps os hnd).n) (j := j) hjl ?_ ?_]
        · rw [told_rule hnd hl vd hjl] at hne
          simpa using hne
        · intro i hi
          have hil : i < ps.length := by omega
          have := hin i _ _ hi (hO i hil) (fd_at hil)
          rw [told_rule hnd hl vd hil] at this
          rw [this]
          simp
      rw [this] at k
      have nS : r ∉ S := fun w => ((al r w).keep kp (by simp)).no hr
      exact q _ _ H' k kp (.tupA (Ob.mk nS hr) (.cons (.str _) (.cons (.int _) .nil)))
  · exact hg.elim
end Dl

set_option Elab.async false
set_option linter.all false
set_option maxRecDepth 100000
set_option maxHeartbeats 4000000
namespace Dl
open PySem PySem.Spec PyProof.Rows L2 Kt
def g_law_pick : RDn := fun ds A => match ds with
  | [.list xs] => (0 < xs.length ∧ xs.length < 1073741824) ∧ ∀ d ∈ xs, A d
  | _ => False
theorem rd_law_pick : ∀ ds A, g_law_pick ds A → ds.length + 1 = 2 ∧ t_law_pick g_law_draw (endD A) (startK n_law_pick ds) := by
  intro ds A h
  match ds, h with
  | [.list xs], h =>
    refine ⟨rfl, ?_⟩
    obtain ⟨⟨h0, h1⟩, k⟩ := h
    simp only [sSeq, sCut, sIf, sNext, sRet, sAsg, sPar, sPar3, sDrop, sBreak, sCont, sOwn, sFor, sForI, sWhile, dNot, dB, dAnd, dOr, dAndV, dOrV, dNotV, dIf, dCall, dCallK, dCallP, dv, dc, dOp, dCmp, dCmpT, dUn, dNeg, dIsi, dLst, dTup, dRev, dSlice, dChain, dChainT, dApp, dSortedO, dNotInO, dCnt, sFrz, frzD, sOwnL, sOwnAdd, sParO, List.foldl_cons, List.foldl_nil, dAll, dAny, boolsD_map, dGet_t0, dGet_t1, dGet_t2, dGet_l0, dGet_l1, dLc, dYes, aCons, aNil, aStar, oNo, oIs, tTupD, tsCons, tsNil, tn, iSeq, iEnumD, iRng1D, iRng2D, bI, bIsN, bNotN, dI20, dI2, dLen, dTupF, dListF, dInt1, dII, dRepr, dSorted, isDeck, isOwn, freeSlot, endD, startD, startK, startL, List.map, List.length, List.replicate, List.cons_append, List.nil_append, List.append_nil, List.getElem?_cons_succ, List.getElem?_cons_zero, Nat.reduceAdd, Nat.reduceSub, List.set, Bool.and_true, Bool.true_and, Bool.and_false, Bool.false_and, Bool.not_true, Bool.not_false, Nat.reduceBEq, beq_self_eq_true, reduceIte, reduceCtorEq, isNoneD, wipeD, freeAll, List.all_cons, List.all_nil, Kt.at0, Kt.at1, Kt.at2, true_and, and_true, List.getElem?_cons_succ, t_law_pick, n_law_pick, g_law_draw]
    refine ⟨⟨by omega, by omega⟩, fun r r0 r1 => ?_⟩
    obtain ⟨j, rfl⟩ := Int.eq_ofNat_of_zero_le r0
    have hj : j < xs.length := by omega
    simp only [sSeq, sCut, sIf, sNext, sRet, sAsg, sPar, sPar3, sDrop, sBreak, sCont, sOwn, sFor, sForI, sWhile, dNot, dB, dAnd, dOr, dAndV, dOrV, dNotV, dIf, dCall, dCallK, dCallP, dv, dc, dOp, dCmp, dCmpT, dUn, dNeg, dIsi, dLst, dTup, dRev, dSlice, dChain, dChainT, dApp, dSortedO, dNotInO, dCnt, sFrz, frzD, sOwnL, sOwnAdd, sParO, List.foldl_cons, List.foldl_nil, dAll, dAny, boolsD_map, dGet_t0, dGet_t1, dGet_t2, dGet_l0, dGet_l1, dLc, dYes, aCons, aNil, aStar, oNo, oIs, tTupD, tsCons, tsNil, tn, iSeq, iEnumD, iRng1D, iRng2D, bI, bIsN, bNotN, dI20, dI2, dLen, dTupF, dListF, dInt1, dII, dRepr, dSorted, isDeck, isOwn, freeSlot, endD, startD, startK, startL, List.map, List.length, List.replicate, List.cons_append, List.nil_append, List.append_nil, List.getElem?_cons_succ, List.getElem?_cons_zero, Nat.reduceAdd, Nat.reduceSub, List.set, Bool.and_true, Bool.true_and, Bool.and_false, Bool.false_and, Bool.not_true, Bool.not_false, Nat.reduceBEq, beq_self_eq_true, reduceIte, reduceCtorEq, isNoneD, wipeD, freeAll, List.all_cons, List.all_nil, Kt.at0, Kt.at1, Kt.at2, true_and, and_true, List.getElem?_cons_succ, dGet]
    rw [atI_nat (List.getElem?_eq_getElem hj)]
    exact k _ (List.getElem_mem hj)
def LC1 (n m : Int) (a : Addr) (i : Nat) (ρ : Rho) : Prop := ∃ rs o4, ρ = [some .deck, some (.dat (.int n)), some (.dat (.int m)), some (.own a (rs.map pD)), o4, none, none, none, none] ∧ freeSlot (some o4) = true ∧ Gath n ((i : Int) + 1) i rs
def LC2 (n m : Int) (a : Addr) (i : Nat) (ρ : Rho) : Prop := ∃ rs o4 o5 o6, ρ = [some .deck, some (.dat (.int n)), some (.dat (.int m)), some (.own a (rs.map pD)), o4, o5, o6, none, none] ∧ freeSlot (some o4) = true ∧ freeSlot (some o5) = true ∧ freeSlot (some o6) = true ∧ Gath n n (23 + i) rs
def g_law_chart : RDn := fun ds A => match ds with
  | [.int n, .int m] => (1 ≤ n ∧ n ≤ 24 ∧ 0 ≤ m ∧ m ≤ 6) ∧ ∀ rs cs, ChartOk n rs cs → rs.length ≤ 40 → cs.length ≤ 40 → A (chD n rs cs)
  | _ => False
theorem rd_law_chart : ∀ ds A, g_law_chart ds A → ds.length + 1 = 3 ∧ t_law_chart g_law_draw (endD A) (startK n_law_chart ds) := by
  intro ds A h
  match ds, h with
  | [.int n, .int m], h =>
    refine ⟨rfl, ?_⟩
    obtain ⟨⟨n1, n2, m1, m2⟩, k⟩ := h
    simp only [sSeq, sCut, sIf, sNext, sRet, sAsg, sPar, sPar3, sDrop, sBreak, sCont, sOwn, sFor, sForI, sWhile, dNot, dB, dAnd, dOr, dAndV, dOrV, dNotV, dIf, dCall, dCallK, dCallP, dv, dc, dOp, dCmp, dCmpT, dUn, dNeg, dIsi, dLst, dTup, dRev, dSlice, dChain, dChainT, dApp, dSortedO, dNotInO, dCnt, sFrz, frzD, sOwnL, sOwnAdd, sParO, List.foldl_cons, List.foldl_nil, dAll, dAny, boolsD_map, dGet_t0, dGet_t1, dGet_t2, dGet_l0, dGet_l1, dLc, dYes, aCons, aNil, aStar, oNo, oIs, tTupD, tsCons, tsNil, tn, iSeq, iEnumD, iRng1D, iRng2D, bI, bIsN, bNotN, dI20, dI2, dLen, dTupF, dListF, dInt1, dII, dRepr, dSorted, isDeck, isOwn, freeSlot, endD, startD, startK, startL, List.map, List.length, List.replicate, List.cons_append, List.nil_append, List.append_nil, List.getElem?_cons_succ, List.getElem?_cons_zero, Nat.reduceAdd, Nat.reduceSub, List.set, Bool.and_true, Bool.true_and, Bool.and_false, Bool.false_and, Bool.not_true, Bool.not_false, Nat.reduceBEq, beq_self_eq_true, reduceIte, reduceCtorEq, isNoneD, wipeD, freeAll, List.all_cons, List.all_nil, Kt.at0, Kt.at1, Kt.at2, true_and, and_true, List.getElem?_cons_succ, t_law_chart, n_law_chart, g_law_draw]
    intro a
    refine ⟨by omega, LC1 n m a, ⟨[], none, rfl, rfl, ⟨by simp, by simp, by simp, by simp⟩⟩, ?_, ?_⟩
    · rintro i d ρ hd ⟨rs, o4, rfl, f4, hg⟩
      obtain ⟨hd, hi2⟩ := rng_at hd
      subst hd
      simp only [freeSlot] at f4
      simp only [sSeq, sCut, sIf, sNext, sRet, sAsg, sPar, sPar3, sDrop, sBreak, sCont, sOwn, sFor, sForI, sWhile, dNot, dB, dAnd, dOr, dAndV, dOrV, dNotV, dIf, dCall, dCallK, dCallP, dv, dc, dOp, dCmp, dCmpT, dUn, dNeg, dIsi, dLst, dTup, dRev, dSlice, dChain, dChainT, dApp, dSortedO, dNotInO, dCnt, sFrz, frzD, sOwnL, sOwnAdd, sParO, List.foldl_cons, List.foldl_nil, dAll, dAny, boolsD_map, dGet_t0, dGet_t1, dGet_t2, dGet_l0, dGet_l1, dLc, dYes, aCons, aNil, aStar, oNo, oIs, tTupD, tsCons, tsNil, tn, iSeq, iEnumD, iRng1D, iRng2D, bI, bIsN, bNotN, dI20, dI2, dLen, dTupF, dListF, dInt1, dII, dRepr, dSorted, isDeck, isOwn, freeSlot, endD, startD, startK, startL, List.map, List.length, List.replicate, List.cons_append, List.nil_append, List.append_nil, List.getElem?_cons_succ, List.getElem?_cons_zero, Nat.reduceAdd, Nat.reduceSub, List.set, Bool.and_true, Bool.true_and, Bool.and_false, Bool.false_and, Bool.not_true, Bool.not_false, Nat.reduceBEq, beq_self_eq_true, reduceIte, reduceCtorEq, isNoneD, wipeD, freeAll, List.all_cons, List.all_nil, Kt.at0, Kt.at1, Kt.at2, true_and, and_true, List.getElem?_cons_succ, f4]
      refine ⟨by decide, fun r r0 r9 => ?_⟩
      by_cases h0 : 0 < r
      · simp only [decide_eq_true h0]
        refine ⟨rfl, by decide, fun q q0 q3 => ⟨by decide, ?_, ?_⟩⟩
        · have := hg.l
          rw [List.length_map]
          have : (100 : Nat) ≤ SZ := by decide
          omega
        · refine ⟨rs ++ [((if 1 + (i : Int) - 1 - q > 0 then 1 + (i : Int) - 1 - q else 0), 1 + (i : Int))], _, by rw [List.map_append]; rfl, rfl, ?_⟩
          have hb : ∀ p ∈ rs, p.2 ≠ 1 + (i : Int) := fun p hp => by have := hg.t p hp; omega
          refine (hg.up (by omega) (Nat.le_refl _)).add ?_ ?_ (by omega) (by omega) (fun z => hb _ z rfl) <;> split <;> omega
      · simp only [decide_eq_false h0]
        exact ⟨rs, _, rfl, rfl, hg.up (by omega) (by omega)⟩
    · rintro ρ ⟨rs, o4, rfl, f4, hg⟩
      rw [rng_len] at hg
      simp only [freeSlot] at f4
      simp only [sSeq, sCut, sIf, sNext, sRet, sAsg, sPar, sPar3, sDrop, sBreak, sCont, sOwn, sFor, sForI, sWhile, dNot, dB, dAnd, dOr, dAndV, dOrV, dNotV, dIf, dCall, dCallK, dCallP, dv, dc, dOp, dCmp, dCmpT, dUn, dNeg, dIsi, dLst, dTup, dRev, dSlice, dChain, dChainT, dApp, dSortedO, dNotInO, dCnt, sFrz, frzD, sOwnL, sOwnAdd, sParO, List.foldl_cons, List.foldl_nil, dAll, dAny, boolsD_map, dGet_t0, dGet_t1, dGet_t2, dGet_l0, dGet_l1, dLc, dYes, aCons, aNil, aStar, oNo, oIs, tTupD, tsCons, tsNil, tn, iSeq, iEnumD, iRng1D, iRng2D, bI, bIsN, bNotN, dI20, dI2, dLen, dTupF, dListF, dInt1, dII, dRepr, dSorted, isDeck, isOwn, freeSlot, endD, startD, startK, startL, List.map, List.length, List.replicate, List.cons_append, List.nil_append, List.append_nil, List.getElem?_cons_succ, List.getElem?_cons_zero, Nat.reduceAdd, Nat.reduceSub, List.set, Bool.and_true, Bool.true_and, Bool.and_false, Bool.false_and, Bool.not_true, Bool.not_false, Nat.reduceBEq, beq_self_eq_true, reduceIte, reduceCtorEq, isNoneD, wipeD, freeAll, List.all_cons, List.all_nil, Kt.at0, Kt.at1, Kt.at2, true_and, and_true, List.getElem?_cons_succ, f4]
      refine ⟨by omega, LC2 n m a, ⟨rs, o4, none, none, rfl, f4, rfl, rfl, hg.up (by omega) (by omega)⟩, ?_, ?_⟩
      · rintro i d ρ hd ⟨rs, o4, o5, o6, rfl, f4, f5, f6, hg⟩
        obtain ⟨hd, hi2⟩ := rng_at hd
        subst hd
        simp only [freeSlot] at f4 f5 f6
        simp only [sSeq, sCut, sIf, sNext, sRet, sAsg, sPar, sPar3, sDrop, sBreak, sCont, sOwn, sFor, sForI, sWhile, dNot, dB, dAnd, dOr, dAndV, dOrV, dNotV, dIf, dCall, dCallK, dCallP, dv, dc, dOp, dCmp, dCmpT, dUn, dNeg, dIsi, dLst, dTup, dRev, dSlice, dChain, dChainT, dApp, dSortedO, dNotInO, dCnt, sFrz, frzD, sOwnL, sOwnAdd, sParO, List.foldl_cons, List.foldl_nil, dAll, dAny, boolsD_map, dGet_t0, dGet_t1, dGet_t2, dGet_l0, dGet_l1, dLc, dYes, aCons, aNil, aStar, oNo, oIs, tTupD, tsCons, tsNil, tn, iSeq, iEnumD, iRng1D, iRng2D, bI, bIsN, bNotN, dI20, dI2, dLen, dTupF, dListF, dInt1, dII, dRepr, dSorted, isDeck, isOwn, freeSlot, endD, startD, startK, startL, List.map, List.length, List.replicate, List.cons_append, List.nil_append, List.append_nil, List.getElem?_cons_succ, List.getElem?_cons_zero, Nat.reduceAdd, Nat.reduceSub, List.set, Bool.and_true, Bool.true_and, Bool.and_false, Bool.false_and, Bool.not_true, Bool.not_false, Nat.reduceBEq, beq_self_eq_true, reduceIte, reduceCtorEq, isNoneD, wipeD, freeAll, List.all_cons, List.all_nil, Kt.at0, Kt.at1, Kt.at2, true_and, and_true, List.getElem?_cons_succ, f4, f5, f6]
        refine ⟨by omega, fun r r0 r1 => ⟨by omega, fun q q0 q1 => ?_⟩⟩
        by_cases h1 : r < q
        · simp only [decide_eq_true h1]
          refine ⟨by decide, ⟨shp_pair (r, q), shp_pairs rs⟩, ?_⟩
          rw [show (PyData.tuple [.int r, .int q]) = pD (r, q) from rfl, in_pairs]
          by_cases h2 : (r, q) ∈ rs
          · simp only [decide_eq_true h2, Bool.not_true]
            exact ⟨rs, _, _, _, rfl, rfl, rfl, rfl, hg.up (Int.le_refl _) (by omega)⟩
          · simp only [decide_eq_false h2, Bool.not_false]
            refine ⟨rfl, by decide, ?_, rs ++ [(r, q)], _, _, _, by rw [List.map_append]; rfl, rfl, rfl, rfl, hg.add r0 h1 q1 q1 h2⟩
            have := hg.l
            rw [List.length_map]
            have : (100 : Nat) ≤ SZ := by decide
            omega
        · simp only [decide_eq_false h1]
          exact ⟨rs, _, _, _, rfl, rfl, rfl, rfl, hg.up (Int.le_refl _) (by omega)⟩
      · rintro ρ ⟨rs, o4, o5, o6, rfl, f4, f5, f6, hg⟩
        rw [rng_len] at hg
        simp only [freeSlot] at f4 f5 f6
        simp only [sSeq, sCut, sIf, sNext, sRet, sAsg, sPar, sPar3, sDrop, sBreak, sCont, sOwn, sFor, sForI, sWhile, dNot, dB, dAnd, dOr, dAndV, dOrV, dNotV, dIf, dCall, dCallK, dCallP, dv, dc, dOp, dCmp, dCmpT, dUn, dNeg, dIsi, dLst, dTup, dRev, dSlice, dChain, dChainT, dApp, dSortedO, dNotInO, dCnt, sFrz, frzD, sOwnL, sOwnAdd, sParO, List.foldl_cons, List.foldl_nil, dAll, dAny, boolsD_map, dGet_t0, dGet_t1, dGet_t2, dGet_l0, dGet_l1, dLc, dYes, aCons, aNil, aStar, oNo, oIs, tTupD, tsCons, tsNil, tn, iSeq, iEnumD, iRng1D, iRng2D, bI, bIsN, bNotN, dI20, dI2, dLen, dTupF, dListF, dInt1, dII, dRepr, dSorted, isDeck, isOwn, freeSlot, endD, startD, startK, startL, List.map, List.length, List.replicate, List.cons_append, List.nil_append, List.append_nil, List.getElem?_cons_succ, List.getElem?_cons_zero, Nat.reduceAdd, Nat.reduceSub, List.set, Bool.and_true, Bool.true_and, Bool.and_false, Bool.false_and, Bool.not_true, Bool.not_false, Nat.reduceBEq, beq_self_eq_true, reduceIte, reduceCtorEq, isNoneD, wipeD, freeAll, List.all_cons, List.all_nil, Kt.at0, Kt.at1, Kt.at2, true_and, and_true, List.getElem?_cons_succ, f4, f5, f6]
        refine ⟨by omega, ?_⟩
        refine lc_post (fun d o => o = none ∨ o = some d) (fun d _ B hB => ?_) (by rw [rng_len]; have : (100 : Nat) ≤ SZ := by decide
                                                                                   simp; omega) ?_
        · simp only [sSeq, sCut, sIf, sNext, sRet, sAsg, sPar, sPar3, sDrop, sBreak, sCont, sOwn, sFor, sForI, sWhile, dNot, dB, dAnd, dOr, dAndV, dOrV, dNotV, dIf, dCall, dCallK, dCallP, dv, dc, dOp, dCmp, dCmpT, dUn, dNeg, dIsi, dLst, dTup, dRev, dSlice, dChain, dChainT, dApp, dSortedO, dNotInO, dCnt, sFrz, frzD, sOwnL, sOwnAdd, sParO, List.foldl_cons, List.foldl_nil, dAll, dAny, boolsD_map, dGet_t0, dGet_t1, dGet_t2, dGet_l0, dGet_l1, dLc, dYes, aCons, aNil, aStar, oNo, oIs, tTupD, tsCons, tsNil, tn, iSeq, iEnumD, iRng1D, iRng2D, bI, bIsN, bNotN, dI20, dI2, dLen, dTupF, dListF, dInt1, dII, dRepr, dSorted, isDeck, isOwn, freeSlot, endD, startD, startK, startL, List.map, List.length, List.replicate, List.cons_append, List.nil_append, List.append_nil, List.getElem?_cons_succ, List.getElem?_cons_zero, Nat.reduceAdd, Nat.reduceSub, List.set, Bool.and_true, Bool.true_and, Bool.and_false, Bool.false_and, Bool.not_true, Bool.not_false, Nat.reduceBEq, beq_self_eq_true, reduceIte, reduceCtorEq, isNoneD, wipeD, freeAll, List.all_cons, List.all_nil, Kt.at0, Kt.at1, Kt.at2, true_and, and_true, List.getElem?_cons_succ, turnD]
          refine ⟨by decide, fun r r0 r1 => bEq_int ?_⟩
          by_cases h1 : r = 0
          · simp only [decide_eq_true h1]
            exact hB _ (.inr rfl)
          · simp only [decide_eq_false h1]
            exact hB _ (.inl rfl)
        · intro ys ho
          have hs := outs_sub ho fun d y z => by
            rcases z with z | z
            · cases z
            · cases z; rfl
          obtain ⟨ns, e1, e2, e3, e4⟩ := rng_ints 0 n.toNat
          rw [e1] at hs
          obtain ⟨cs, rfl, hc⟩ := sub_ints hs
          rw [List.nil_append]
          refine .inr ⟨rs, rfl, fun ss hp hs => ?_⟩
          have hl := hp.length_eq
          have hgl := hg.l
          have hcl := hc.length_le
          exact ⟨by decide, k ss cs ⟨fun q hq => hg.r q (hp.mem_iff.mp hq), sorted_strict hg.nd hp hs, fun x hx => by have := e3 x (hc.subset hx); omega, e2.sublist hc⟩ (by omega) (by omega)⟩
def g_law_pieces : RDn := fun ds A => match ds with
  | [.tuple [.int n, _, _], .int m] => (1 ≤ n ∧ n ≤ 24 ∧ 0 ≤ m) ∧ ∀ ps, PcOk n ps → ps.length ≤ 24 → (ps.length : Int) ≤ m → A (.tuple (ps.map pD))
  | _ => False
theorem rd_law_pieces : ∀ ds A, g_law_pieces ds A → ds.length + 1 = 3 ∧ t_law_pieces g_law_mixed g_law_draw g_law_pick (endD A) (startK n_law_pieces ds) := by
  intro ds A h
  match ds, h with
  | [.tuple [.int n, r, c], .int m], h =>
    refine ⟨rfl, ?_⟩
    obtain ⟨⟨n1, n2, m0⟩, k⟩ := h
    simp only [sSeq, sCut, sIf, sNext, sRet, sAsg, sPar, sPar3, sDrop, sBreak, sCont, sOwn, sFor, sForI, sWhile, dNot, dB, dAnd, dOr, dAndV, dOrV, dNotV, dIf, dCall, dCallK, dCallP, dv, dc, dOp, dCmp, dCmpT, dUn, dNeg, dIsi, dLst, dTup, dRev, dSlice, dChain, dChainT, dApp, dSortedO, dNotInO, dCnt, sFrz, frzD, sOwnL, sOwnAdd, sParO, List.foldl_cons, List.foldl_nil, dAll, dAny, boolsD_map, dGet_t0, dGet_t1, dGet_t2, dGet_l0, dGet_l1, dLc, dYes, aCons, aNil, aStar, oNo, oIs, tTupD, tsCons, tsNil, tn, iSeq, iEnumD, iRng1D, iRng2D, bI, bIsN, bNotN, dI20, dI2, dLen, dTupF, dListF, dInt1, dII, dRepr, dSorted, isDeck, isOwn, freeSlot, endD, startD, startK, startL, List.map, List.length, List.replicate, List.cons_append, List.nil_append, List.append_nil, List.getElem?_cons_succ, List.getElem?_cons_zero, Nat.reduceAdd, Nat.reduceSub, List.set, Bool.and_true, Bool.true_and, Bool.and_false, Bool.false_and, Bool.not_true, Bool.not_false, Nat.reduceBEq, beq_self_eq_true, reduceIte, reduceCtorEq, isNoneD, wipeD, freeAll, List.all_cons, List.all_nil, Kt.at0, Kt.at1, Kt.at2, true_and, and_true, List.getElem?_cons_succ, t_law_pieces, n_law_pieces, dGet, dListR, g_law_mixed, g_law_draw, dAdd]
    obtain ⟨ns, e1, e2, e3, e4⟩ := rng_ints 0 (Int.toNat 6)
    rw [e1]
    refine ⟨by decide, ⟨by rw [List.length_map, e4]; decide, int_lay⟩, fun ys hy => ⟨by decide, fun r r0 r1 => ?_⟩⟩
    obtain ⟨pl, rfl, hpl⟩ := perm_ints2 hy
    have hne : cutD (pl.map PyData.int) none (some (2 + r)) ≠ [] := cut_first (by omega) (by
      intro z
      have := congrArg List.length z
      rw [List.length_map, hpl.length_eq, e4] at this
      exact absurd this (by decide))
    have hin : ∀ d ∈ cutD (pl.map PyData.int) none (some (2 + r)), ∃ p, d = .int p ∧ 0 ≤ p ∧ p < 6 := fun d hd => by
      obtain ⟨p, hp, rfl⟩ := List.mem_map.mp (cut_mem hd)
      have := e3 p (hpl.mem_iff.mp hp)
      have s6 : ((Int.toNat 6 : Nat) : Int) = 6 := rfl
      exact ⟨p, rfl, by omega⟩
    have hlp : (cutD (pl.map PyData.int) none (some (2 + r))).length ≤ 6 := by
      have := cut_len (xs := pl.map PyData.int) (lo := none) (hi := some (2 + r))
      rw [List.length_map, hpl.length_eq, e4] at this
      exact this
    generalize cutD (pl.map PyData.int) none (some (2 + r)) = players at hne hin hlp
    obtain ⟨fs, g1, g2, g3, g4⟩ := rng_ints 0 n.toNat
    rw [g1]
    refine ⟨by omega, ⟨by rw [List.length_map, g4]; omega, int_lay⟩, fun ys hy => ?_⟩
    obtain ⟨fl, rfl, hfl⟩ := perm_ints2 hy
    obtain ⟨ms0, q1, q2⟩ := sub_ints (cut_sub (xs := fl.map PyData.int) (lo := none) (hi := some m))
    have hm := cut_len_to (xs := fl.map PyData.int) m0
    rw [q1, List.length_map] at hm
    rw [q1]
    refine .inl ⟨ms0, rfl, fun ms hp hs => ?_⟩
    have nd : ms.Nodup := hp.nodup_iff.mpr (q2.nodup (hfl.nodup_iff.mpr (g2.imp fun h => by omega)))
    have st : ms.Pairwise (· < ·) := (hs.and nd).imp fun {a b} h => by
      have := h.1
      have := h.2
      omega
    have hl1 := hp.length_eq
    have hl2 := q2.length_le
    have hl3 := hfl.length_eq
    have sz : (100 : Nat) ≤ SZ := by decide
    simp only [sSeq, sCut, sIf, sNext, sRet, sAsg, sPar, sPar3, sDrop, sBreak, sCont, sOwn, sFor, sForI, sWhile, dNot, dB, dAnd, dOr, dAndV, dOrV, dNotV, dIf, dCall, dCallK, dCallP, dv, dc, dOp, dCmp, dCmpT, dUn, dNeg, dIsi, dLst, dTup, dRev, dSlice, dChain, dChainT, dApp, dSortedO, dNotInO, dCnt, sFrz, frzD, sOwnL, sOwnAdd, sParO, List.foldl_cons, List.foldl_nil, dAll, dAny, boolsD_map, dGet_t0, dGet_t1, dGet_t2, dGet_l0, dGet_l1, dLc, dYes, aCons, aNil, aStar, oNo, oIs, tTupD, tsCons, tsNil, tn, iSeq, iEnumD, iRng1D, iRng2D, bI, bIsN, bNotN, dI20, dI2, dLen, dTupF, dListF, dInt1, dII, dRepr, dSorted, isDeck, isOwn, freeSlot, endD, startD, startK, startL, List.map, List.length, List.replicate, List.cons_append, List.nil_append, List.append_nil, List.getElem?_cons_succ, List.getElem?_cons_zero, Nat.reduceAdd, Nat.reduceSub, List.set, Bool.and_true, Bool.true_and, Bool.and_false, Bool.false_and, Bool.not_true, Bool.not_false, Nat.reduceBEq, beq_self_eq_true, reduceIte, reduceCtorEq, isNoneD, wipeD, freeAll, List.all_cons, List.all_nil, Kt.at0, Kt.at1, Kt.at2, true_and, and_true, List.getElem?_cons_succ]
    refine lc_post (fun d o => ∀ f, d = .int f → ∃ p, o = some (pD (f, p)) ∧ 0 ≤ p ∧ p < 6) (fun d hd B hB => ?_) (by rw [List.length_map]; simp; omega) fun rs ho => ?_
    · obtain ⟨f, hf, rfl⟩ := List.mem_map.mp hd
      simp only [sSeq, sCut, sIf, sNext, sRet, sAsg, sPar, sPar3, sDrop, sBreak, sCont, sOwn, sFor, sForI, sWhile, dNot, dB, dAnd, dOr, dAndV, dOrV, dNotV, dIf, dCall, dCallK, dCallP, dv, dc, dOp, dCmp, dCmpT, dUn, dNeg, dIsi, dLst, dTup, dRev, dSlice, dChain, dChainT, dApp, dSortedO, dNotInO, dCnt, sFrz, frzD, sOwnL, sOwnAdd, sParO, List.foldl_cons, List.foldl_nil, dAll, dAny, boolsD_map, dGet_t0, dGet_t1, dGet_t2, dGet_l0, dGet_l1, dLc, dYes, aCons, aNil, aStar, oNo, oIs, tTupD, tsCons, tsNil, tn, iSeq, iEnumD, iRng1D, iRng2D, bI, bIsN, bNotN, dI20, dI2, dLen, dTupF, dListF, dInt1, dII, dRepr, dSorted, isDeck, isOwn, freeSlot, endD, startD, startK, startL, List.map, List.length, List.replicate, List.cons_append, List.nil_append, List.append_nil, List.getElem?_cons_succ, List.getElem?_cons_zero, Nat.reduceAdd, Nat.reduceSub, List.set, Bool.and_true, Bool.true_and, Bool.and_false, Bool.false_and, Bool.not_true, Bool.not_false, Nat.reduceBEq, beq_self_eq_true, reduceIte, reduceCtorEq, isNoneD, wipeD, freeAll, List.all_cons, List.all_nil, Kt.at0, Kt.at1, Kt.at2, true_and, and_true, List.getElem?_cons_succ, turnD, g_law_pick]
      have hpos : 0 < players.length := by
        cases players with
        | nil => exact absurd rfl hne
        | cons _ _ => simp
      refine ⟨⟨hpos, by omega⟩, fun p hp => ⟨by decide, hB _ fun f' e => ?_⟩⟩
      cases e
      obtain ⟨p, rfl, h⟩ := hin p hp
      exact ⟨p, rfl, h⟩
    · obtain ⟨ps, rfl, e5, e6⟩ := outs_pairs (P := fun p => 0 ≤ p ∧ p < 6) (fun f o h => h f rfl) ho
      rw [List.nil_append]
      have hlen : ps.length = ms.length := by rw [← e5, List.length_map]
      refine k ps ⟨fun q hq => ?_, ?_⟩ (by omega) (by omega)
      · have h1 : q.1 ∈ ms := by rw [← e5]; exact List.mem_map_of_mem hq
        have h2 := g3 q.1 (hfl.mem_iff.mp (q2.subset (hp.mem_iff.mp h1)))
        have h3 := e6 q hq
        omega
      · rw [← e5, List.pairwise_map] at st
        exact st
def g_law_board : RDn := fun ds A => match ds with
  | [.int n, .int m] => (1 ≤ n ∧ n ≤ 24 ∧ 0 ≤ m) ∧ ∀ rs cs ps, ChartOk n rs cs → rs.length ≤ 40 → cs.length ≤ 40 → PcOk n ps → ps.length ≤ 24 → (ps.length : Int) ≤ m → A (bdQ n rs cs ps)
  | _ => False
theorem rd_law_board : ∀ ds A, g_law_board ds A → ds.length + 1 = 3 ∧ t_law_board g_law_chart g_law_draw g_law_pieces (endD A) (startK n_law_board ds) := by
  intro ds A h
  match ds, h with
  | [.int n, .int m], h =>
    refine ⟨rfl, ?_⟩
    obtain ⟨⟨n1, n2, m0⟩, k⟩ := h
    simp only [sSeq, sCut, sIf, sNext, sRet, sAsg, sPar, sPar3, sDrop, sBreak, sCont, sOwn, sFor, sForI, sWhile, dNot, dB, dAnd, dOr, dAndV, dOrV, dNotV, dIf, dCall, dCallK, dCallP, dv, dc, dOp, dCmp, dCmpT, dUn, dNeg, dIsi, dLst, dTup, dRev, dSlice, dChain, dChainT, dApp, dSortedO, dNotInO, dCnt, sFrz, frzD, sOwnL, sOwnAdd, sParO, List.foldl_cons, List.foldl_nil, dAll, dAny, boolsD_map, dGet_t0, dGet_t1, dGet_t2, dGet_l0, dGet_l1, dLc, dYes, aCons, aNil, aStar, oNo, oIs, tTupD, tsCons, tsNil, tn, iSeq, iEnumD, iRng1D, iRng2D, bI, bIsN, bNotN, dI20, dI2, dLen, dTupF, dListF, dInt1, dII, dRepr, dSorted, isDeck, isOwn, freeSlot, endD, startD, startK, startL, List.map, List.length, List.replicate, List.cons_append, List.nil_append, List.append_nil, List.getElem?_cons_succ, List.getElem?_cons_zero, Nat.reduceAdd, Nat.reduceSub, List.set, Bool.and_true, Bool.true_and, Bool.and_false, Bool.false_and, Bool.not_true, Bool.not_false, Nat.reduceBEq, beq_self_eq_true, reduceIte, reduceCtorEq, isNoneD, wipeD, freeAll, List.all_cons, List.all_nil, Kt.at0, Kt.at1, Kt.at2, true_and, and_true, List.getElem?_cons_succ, t_law_board, n_law_board, g_law_chart, g_law_draw, dAdd]
    refine ⟨by decide, fun r r0 r1 => ⟨⟨n1, n2, by omega, by omega⟩, fun rs cs ok lr lc => ?_⟩⟩
    unfold chD
    simp only [sSeq, sCut, sIf, sNext, sRet, sAsg, sPar, sPar3, sDrop, sBreak, sCont, sOwn, sFor, sForI, sWhile, dNot, dB, dAnd, dOr, dAndV, dOrV, dNotV, dIf, dCall, dCallK, dCallP, dv, dc, dOp, dCmp, dCmpT, dUn, dNeg, dIsi, dLst, dTup, dRev, dSlice, dChain, dChainT, dApp, dSortedO, dNotInO, dCnt, sFrz, frzD, sOwnL, sOwnAdd, sParO, List.foldl_cons, List.foldl_nil, dAll, dAny, boolsD_map, dGet_t0, dGet_t1, dGet_t2, dGet_l0, dGet_l1, dLc, dYes, aCons, aNil, aStar, oNo, oIs, tTupD, tsCons, tsNil, tn, iSeq, iEnumD, iRng1D, iRng2D, bI, bIsN, bNotN, dI20, dI2, dLen, dTupF, dListF, dInt1, dII, dRepr, dSorted, isDeck, isOwn, freeSlot, endD, startD, startK, startL, List.map, List.length, List.replicate, List.cons_append, List.nil_append, List.append_nil, List.getElem?_cons_succ, List.getElem?_cons_zero, Nat.reduceAdd, Nat.reduceSub, List.set, Bool.and_true, Bool.true_and, Bool.and_false, Bool.false_and, Bool.not_true, Bool.not_false, Nat.reduceBEq, beq_self_eq_true, reduceIte, reduceCtorEq, isNoneD, wipeD, freeAll, List.all_cons, List.all_nil, Kt.at0, Kt.at1, Kt.at2, true_and, and_true, List.getElem?_cons_succ, g_law_pieces]
    exact ⟨⟨n1, n2, m0⟩, fun ps op lp lp2 => ⟨by decide, k rs cs ps ok lr lc op lp lp2⟩⟩
end Dl

set_option Elab.async false
set_option linter.all false
set_option maxRecDepth 100000
set_option maxHeartbeats 4000000
namespace Dl
open PySem PySem.Spec PyProof.Rows L2 Kt
theorem at_ps {ps : List (Int × Int)} {j : Nat} (h : j < ps.length) : atI (ps.map pD) ((j : Nat) : Int) = some (pD (Fd ps j, Pl ps j)) :=
  atI_nat (by rw [List.getElem?_map, fd_at h]; rfl)
theorem at_os {os : List Ord} {j : Nat} (h : j < os.length) : atI (os.map oD) ((j : Nat) : Int) = some (oD (Or os j)) :=
  atI_nat (by rw [List.getElem?_map, or_get h]; rfl)
theorem at_bs {bs : List Bool} {j : Nat} (h : j < bs.length) : atI (bs.map PyData.bool) ((j : Nat) : Int) = some (.bool (Vl bs j)) :=
  atI_nat (by rw [List.getElem?_map, vl_at h]; rfl)
theorem get_ps {ps : List (Int × Int)} {j : Nat} {A : PyData → Prop} (h : j < ps.length) : dGet (.tuple (ps.map pD)) (.int (j : Nat)) A = A (.tuple [.int (Fd ps j), .int (Pl ps j)]) :=
  dGet_tn (by rw [List.getElem?_map, fd_at h]; rfl)
theorem get_os {os : List Ord} {j : Nat} {A : PyData → Prop} (h : j < os.length) : dGet (.tuple (os.map oD)) (.int (j : Nat)) A = A (oD (Or os j)) :=
  dGet_tn (by rw [List.getElem?_map, or_get h]; rfl)
theorem get_bs {bs : List Bool} {j : Nat} {A : PyData → Prop} (h : j < bs.length) : dGet (.tuple (bs.map PyData.bool)) (.int (j : Nat)) A = A (.bool (Vl bs j)) :=
  dGet_tn (by rw [List.getElem?_map, vl_at h]; rfl)
def ixD (n : Nat) (t : Nat → Bool) : List PyData := (idx n t).map PyData.int
theorem ixD_eq (n : Nat) (t : Nat → Bool) : ixD n t = ((List.range n).filter t).map fun (i : Nat) => PyData.int (i : Nat) := by
  unfold ixD idx
  rw [List.map_map]
  rfl
def helpL (b : Stl.Bd) (B : Nat → Bool) (i : Nat) : List Int := (idx b.n (Stl.helps b B i)).map fun x => b.Y x.toNat
theorem eqv_back (o : Ord) (f g : Int) : eqD (oD o) (.tuple [.str "back", .int f, .int g]) = decide (o = .back f g) := by
  have h1 : (("stay" : Str) == "back") = false := by decide +kernel
  have h2 : (("go" : Str) == "back") = false := by decide +kernel
  cases o with
  | stay => simp [oD, eqD, PyData.eqv, PyData.eqvAll, h1]
  | go g => simp [oD, eqD, PyData.eqv, PyData.eqvAll, h2]
  | back x y => by_cases h : x = f <;> by_cases h' : y = g <;> simp [oD, eqD, PyData.eqv, PyData.eqvAll, h, h']
theorem eqD_go (o : Ord) (g : Int) : eqD (oD o) (.tuple [.str "go", .int g]) = decide (o = .go g) := by
  have : eqD (oD o) (.tuple [.str "go", .int g]) = PyData.eqv (oD o) (.tuple [.str "go", .int g]) := by cases o <;> rfl
  rw [this, eqv_go]
theorem bEq_back {o : Ord} {f g : Int} {A : Bool → Prop} (h : A (decide (o = .back f g))) : bEq (oD o) (.tuple [.str "back", .int f, .int g]) A := by
  refine ⟨?_, by rw [eqv_back]; exact h⟩
  have := shaped_ord o
  have h2 := shaped_ord (.back f g)
  cases o <;> exact ⟨this, h2⟩
theorem bEq_go {o : Ord} {g : Int} {A : Bool → Prop} (h : A (decide (o = .go g))) : bEq (oD o) (.tuple [.str "go", .int g]) A := by
  refine ⟨?_, by rw [eqD_go]; exact h⟩
  have := shaped_ord o
  have h2 := shaped_ord (.go g)
  cases o <;> exact ⟨this, h2⟩
/-- a test and a value over places -/
def pickI (t : Nat → Bool) (u : Nat → PyData) (x : Int) : Option PyData := if t x.toNat then some (u x.toNat) else none
theorem pick_ix {n : Nat} {B t : Nat → Bool} {u : Nat → PyData} : (idx n B).filterMap (pickI t u) = ((List.range n).filter fun i => B i && t i).map u := by
  unfold idx
  rw [List.filterMap_map]
  generalize List.range n = l
  induction l with
  | nil => rfl
  | cons x l ih =>
    rw [List.filter_cons, List.filter_cons]
    have e : ((x : Nat) : Int).toNat = x := by omega
    cases hB : B x with
    | false => simpa using ih
    | true =>
      cases ht : t x with
      | false => simp [pickI, e, ht, ih]
      | true => simp [pickI, e, ht, ih]
theorem len_ixD {n : Nat} {t : Nat → Bool} : (ixD n t).length ≤ n := by unfold ixD; rw [List.length_map]; exact idx_len n t
def g_law_helpers : RDn := fun ds A => match ds with
  | [b, o, bk, pl] => ∃ n rs cs ps os B i, ∃ hnd : (ps.map (·.1)).Nodup, b = bdQ n rs cs ps ∧ o = .tuple (os.map oD) ∧ bk = .list (ixD ps.length B) ∧ pl = .int (i : Nat) ∧ os.length = ps.length ∧ ps.length ≤ 24 ∧ i < ps.length ∧ A (.list ((helpL (bdOf ps os hnd) B i).map PyData.int))
  | _ => False
theorem helpL_eq {ps : List (Int × Int)} {os : List Ord} (hnd : (ps.map (·.1)).Nodup) (B : Nat → Bool) (i : Nat) : ((List.range ps.length).filter fun x => B x && decide (Or os x = .back (Fd ps i) (Stl.goalOf (bdOf ps os hnd) i))).map (fun x => PyData.int (Pl ps x)) = (helpL (bdOf ps os hnd) B i).map PyData.int := by
  unfold helpL idx
  rw [List.map_map, List.map_map]
  refine List.map_congr_left fun x _ => ?_
  have e : ((x : Nat) : Int).toNat = x := by omega
  simp only [Function.comp_def, e]
  rfl
theorem rd_law_helpers : ∀ ds A, g_law_helpers ds A → ds.length = 4 ∧ t_law_helpers (endD A) (startD n_law_helpers ds) := by
  intro ds A h
  match ds, h with
  | [b, o, bk, pl], h =>
    refine ⟨rfl, ?_⟩
    obtain ⟨n, rs, cs, ps, os, B, i, hnd, rfl, rfl, rfl, rfl, hl, h24, hi, k⟩ := h
    have hO : (bdOf ps os hnd).O i = Or os i := rfl
    have hF : (bdOf ps os hnd).F i = Fd ps i := rfl
    unfold bdQ chD
    have hi2 : i < os.length := by omega
    simp only [sSeq, sCut, sIf, sNext, sRet, sAsg, sPar, sPar3, sDrop, sBreak, sCont, sOwn, sFor, sForI, sWhile, dNot, dB, dAnd, dOr, dAndV, dOrV, dNotV, dIf, dCall, dCallK, dCallP, dv, dc, dOp, dCmp, dCmpT, dUn, dNeg, dIsi, dLst, dTup, dRev, dSlice, dChain, dChainT, dApp, dSortedO, dNotInO, dCnt, sFrz, frzD, sOwnL, sOwnAdd, sParO, List.foldl_cons, List.foldl_nil, dAll, dAny, boolsD_map, dGet_t0, dGet_t1, dGet_t2, dGet_l0, dGet_l1, dLc, dYes, aCons, aNil, aStar, oNo, oIs, tTupD, tsCons, tsNil, tn, iSeq, iEnumD, iRng1D, iRng2D, bI, bIsN, bNotN, dI20, dI2, dLen, dTupF, dListF, dInt1, dII, dRepr, dSorted, isDeck, isOwn, freeSlot, endD, startD, startK, startL, List.map, List.length, List.replicate, List.cons_append, List.nil_append, List.append_nil, List.getElem?_cons_succ, List.getElem?_cons_zero, Nat.reduceAdd, Nat.reduceSub, List.set, Bool.and_true, Bool.true_and, Bool.and_false, Bool.false_and, Bool.not_true, Bool.not_false, Nat.reduceBEq, beq_self_eq_true, reduceIte, reduceCtorEq, isNoneD, wipeD, freeAll, List.all_cons, List.all_nil, Kt.at0, Kt.at1, Kt.at2, true_and, and_true, List.getElem?_cons_succ, t_law_helpers, n_law_helpers, get_ps hi, get_os hi2]
    refine ⟨by decide, ?_⟩
    have key : ∀ g, g = Stl.goalOf (bdOf ps os hnd) i → lcGo (turnD (tn 7) (dCmpT bEq (dOp dGet (dv 1) (dv 7)) (dTup (aCons (dc (.str "back")) (aCons (dv 4) (aCons (dv 6) aNil))))) (dOp dGet (dOp dGet (dOp dGet (dv 0) (dc (.int 1))) (dv 7)) (dc (.int 1))) [7]
        [some (.dat (.tuple [.tuple [.int n, .tuple (rs.map pD), .tuple (cs.map .int)], .tuple (ps.map pD)])), some (.dat (.tuple (os.map oD))), some (.dat (.list (ixD ps.length B))), some (.dat (.int (i : Nat))), some (.dat (.int (Fd ps i))), some (.dat (oD (Or os i))), some (.dat (.int g)), none]) (ixD ps.length B) [] fun acc => A (.list acc) := by
      intro g hg
      refine lc_emb PyData.int (pickI (fun x => decide (Or os x = .back (Fd ps i) g)) fun x => .int (Pl ps x)) (fun x hx B' hB => ?_) ?_ ?_
      · obtain ⟨j, rfl, hj, _⟩ := idx_mem hx
        have ej : ((j : Nat) : Int).toNat = j := by omega
        unfold pickI at hB
        simp only [ej] at hB
        have hj2 : j < os.length := by omega
        simp only [sSeq, sCut, sIf, sNext, sRet, sAsg, sPar, sPar3, sDrop, sBreak, sCont, sOwn, sFor, sForI, sWhile, dNot, dB, dAnd, dOr, dAndV, dOrV, dNotV, dIf, dCall, dCallK, dCallP, dv, dc, dOp, dCmp, dCmpT, dUn, dNeg, dIsi, dLst, dTup, dRev, dSlice, dChain, dChainT, dApp, dSortedO, dNotInO, dCnt, sFrz, frzD, sOwnL, sOwnAdd, sParO, List.foldl_cons, List.foldl_nil, dAll, dAny, boolsD_map, dGet_t0, dGet_t1, dGet_t2, dGet_l0, dGet_l1, dLc, dYes, aCons, aNil, aStar, oNo, oIs, tTupD, tsCons, tsNil, tn, iSeq, iEnumD, iRng1D, iRng2D, bI, bIsN, bNotN, dI20, dI2, dLen, dTupF, dListF, dInt1, dII, dRepr, dSorted, isDeck, isOwn, freeSlot, endD, startD, startK, startL, List.map, List.length, List.replicate, List.cons_append, List.nil_append, List.append_nil, List.getElem?_cons_succ, List.getElem?_cons_zero, Nat.reduceAdd, Nat.reduceSub, List.set, Bool.and_true, Bool.true_and, Bool.and_false, Bool.false_and, Bool.not_true, Bool.not_false, Nat.reduceBEq, beq_self_eq_true, reduceIte, reduceCtorEq, isNoneD, wipeD, freeAll, List.all_cons, List.all_nil, Kt.at0, Kt.at1, Kt.at2, true_and, and_true, List.getElem?_cons_succ, turnD, get_os hj2, get_ps hj]
        refine ⟨by decide, bEq_back ?_⟩
        cases hd : decide (Or os j = .back (Fd ps i) g) with
        | false => rw [hd] at hB; exact hB
        | true =>
          rw [hd] at hB
          exact hB
      · have : (100 : Nat) ≤ SZ := by decide
        have := idx_len ps.length B
        simp
        omega
      · rw [List.nil_append, pick_ix, hg, helpL_eq]
        exact k
    have hg : Stl.goalOf (bdOf ps os hnd) i = match Or os i with | .go g => g | _ => Fd ps i := by unfold Stl.goalOf; rw [hO, hF]; all_goals (cases Or os i <;> rfl)
    cases e : Or os i with
    | stay =>
      rw [e] at key hg
      simp only [sSeq, sCut, sIf, sNext, sRet, sAsg, sPar, sPar3, sDrop, sBreak, sCont, sOwn, sFor, sForI, sWhile, dNot, dB, dAnd, dOr, dAndV, dOrV, dNotV, dIf, dCall, dCallK, dCallP, dv, dc, dOp, dCmp, dCmpT, dUn, dNeg, dIsi, dLst, dTup, dRev, dSlice, dChain, dChainT, dApp, dSortedO, dNotInO, dCnt, sFrz, frzD, sOwnL, sOwnAdd, sParO, List.foldl_cons, List.foldl_nil, dAll, dAny, boolsD_map, dGet_t0, dGet_t1, dGet_t2, dGet_l0, dGet_l1, dLc, dYes, aCons, aNil, aStar, oNo, oIs, tTupD, tsCons, tsNil, tn, iSeq, iEnumD, iRng1D, iRng2D, bI, bIsN, bNotN, dI20, dI2, dLen, dTupF, dListF, dInt1, dII, dRepr, dSorted, isDeck, isOwn, freeSlot, endD, startD, startK, startL, List.map, List.length, List.replicate, List.cons_append, List.nil_append, List.append_nil, List.getElem?_cons_succ, List.getElem?_cons_zero, Nat.reduceAdd, Nat.reduceSub, List.set, Bool.and_true, Bool.true_and, Bool.and_false, Bool.false_and, Bool.not_true, Bool.not_false, Nat.reduceBEq, beq_self_eq_true, reduceIte, reduceCtorEq, isNoneD, wipeD, freeAll, List.all_cons, List.all_nil, Kt.at0, Kt.at1, Kt.at2, true_and, and_true, List.getElem?_cons_succ, oD]
      refine bEq_str ?_
      rw [decide_eq_false (by decide +kernel)]
      exact key _ hg.symm
    | back f g =>
      rw [e] at key hg
      simp only [sSeq, sCut, sIf, sNext, sRet, sAsg, sPar, sPar3, sDrop, sBreak, sCont, sOwn, sFor, sForI, sWhile, dNot, dB, dAnd, dOr, dAndV, dOrV, dNotV, dIf, dCall, dCallK, dCallP, dv, dc, dOp, dCmp, dCmpT, dUn, dNeg, dIsi, dLst, dTup, dRev, dSlice, dChain, dChainT, dApp, dSortedO, dNotInO, dCnt, sFrz, frzD, sOwnL, sOwnAdd, sParO, List.foldl_cons, List.foldl_nil, dAll, dAny, boolsD_map, dGet_t0, dGet_t1, dGet_t2, dGet_l0, dGet_l1, dLc, dYes, aCons, aNil, aStar, oNo, oIs, tTupD, tsCons, tsNil, tn, iSeq, iEnumD, iRng1D, iRng2D, bI, bIsN, bNotN, dI20, dI2, dLen, dTupF, dListF, dInt1, dII, dRepr, dSorted, isDeck, isOwn, freeSlot, endD, startD, startK, startL, List.map, List.length, List.replicate, List.cons_append, List.nil_append, List.append_nil, List.getElem?_cons_succ, List.getElem?_cons_zero, Nat.reduceAdd, Nat.reduceSub, List.set, Bool.and_true, Bool.true_and, Bool.and_false, Bool.false_and, Bool.not_true, Bool.not_false, Nat.reduceBEq, beq_self_eq_true, reduceIte, reduceCtorEq, isNoneD, wipeD, freeAll, List.all_cons, List.all_nil, Kt.at0, Kt.at1, Kt.at2, true_and, and_true, List.getElem?_cons_succ, oD]
      refine bEq_str ?_
      rw [decide_eq_false (by decide +kernel)]
      exact key _ hg.symm
    | go g =>
      rw [e] at key hg
      simp only [sSeq, sCut, sIf, sNext, sRet, sAsg, sPar, sPar3, sDrop, sBreak, sCont, sOwn, sFor, sForI, sWhile, dNot, dB, dAnd, dOr, dAndV, dOrV, dNotV, dIf, dCall, dCallK, dCallP, dv, dc, dOp, dCmp, dCmpT, dUn, dNeg, dIsi, dLst, dTup, dRev, dSlice, dChain, dChainT, dApp, dSortedO, dNotInO, dCnt, sFrz, frzD, sOwnL, sOwnAdd, sParO, List.foldl_cons, List.foldl_nil, dAll, dAny, boolsD_map, dGet_t0, dGet_t1, dGet_t2, dGet_l0, dGet_l1, dLc, dYes, aCons, aNil, aStar, oNo, oIs, tTupD, tsCons, tsNil, tn, iSeq, iEnumD, iRng1D, iRng2D, bI, bIsN, bNotN, dI20, dI2, dLen, dTupF, dListF, dInt1, dII, dRepr, dSorted, isDeck, isOwn, freeSlot, endD, startD, startK, startL, List.map, List.length, List.replicate, List.cons_append, List.nil_append, List.append_nil, List.getElem?_cons_succ, List.getElem?_cons_zero, Nat.reduceAdd, Nat.reduceSub, List.set, Bool.and_true, Bool.true_and, Bool.and_false, Bool.false_and, Bool.not_true, Bool.not_false, Nat.reduceBEq, beq_self_eq_true, reduceIte, reduceCtorEq, isNoneD, wipeD, freeAll, List.all_cons, List.all_nil, Kt.at0, Kt.at1, Kt.at2, true_and, and_true, List.getElem?_cons_succ, oD]
      refine bEq_str ?_
      rw [decide_eq_true rfl]
      exact key _ hg.symm
end Dl

set_option Elab.async false
set_option linter.all false
set_option maxRecDepth 100000
set_option maxHeartbeats 4000000
namespace Dl
open PySem PySem.Spec PyProof.Rows L2 Kt
theorem fmap_if {α β : Type} (t : α → Bool) (u : α → β) (l : List α) : (l.filterMap fun j => if t j then some (u j) else none) = (l.filter t).map u := by
  induction l with
  | nil => rfl
  | cons x l ih =>
    rw [List.filter_cons, List.filterMap_cons]
    cases h : t x <;> simp [h, ih]
theorem enum_at {n : Nat} {xs : List PyData} {u : Nat → PyData} (hl : xs.length = n) (h : ∀ j, j < n → xs[j]? = some (u j)) : enumD xs = (List.range n).map fun (j : Nat) => PyData.tuple [.int (j : Nat), u j] := by
  refine List.ext_getElem? fun j => ?_
  by_cases hj : j < n
  · have hj2 : j < (enumD xs).length := by rw [enumD_len]; omega
    obtain ⟨e, he, hd⟩ := enumD_at (List.getElem?_eq_getElem hj2)
    rw [h j hj] at he
    cases he
    rw [List.getElem?_eq_getElem hj2, hd, List.getElem?_map, List.getElem?_range hj]
    rfl
  · rw [List.getElem?_eq_none (by rw [enumD_len]; omega), List.getElem?_eq_none (by simp; omega)]
theorem enum_ps (ps : List (Int × Int)) : enumD (ps.map pD) = (List.range ps.length).map fun (j : Nat) => PyData.tuple [.int (j : Nat), pD (Fd ps j, Pl ps j)] :=
  enum_at (by simp) fun j hj => by rw [List.getElem?_map, fd_at hj]; rfl
theorem enum_bs (bs : List Bool) : enumD (bs.map PyData.bool) = (List.range bs.length).map fun (j : Nat) => PyData.tuple [.int (j : Nat), .bool (Vl bs j)] :=
  enum_at (by simp) fun j hj => by rw [List.getElem?_map, vl_at hj]; rfl
theorem enum_os (os : List Ord) : enumD (os.map oD) = (List.range os.length).map fun (j : Nat) => PyData.tuple [.int (j : Nat), oD (Or os j)] :=
  enum_at (by simp) fun j hj => by rw [List.getElem?_map, or_get hj]; rfl
theorem shp_ints (ns : List Int) : SeqAt.shaped (.list (ns.map PyData.int)) = true := by
  refine shaped_of (by simp [PyData.canLay0, lay_ints]) ?_
  have : PyData.depthAll (ns.map PyData.int) ≤ 0 := by
    induction ns with
    | nil => simp [PyData.depthAll]
    | cons n ns ih => simp only [List.map_cons, PyData.depthAll, PyData.depth]; omega
  simp only [PyData.depth]
  omega
theorem bNe_nilI {ns : List Int} {A : Bool → Prop} (h : A (!ns.isEmpty)) : bNe (.list (ns.map PyData.int)) (.list []) A := by
  refine ⟨⟨shp_ints ns, shp_nil⟩, ?_⟩
  cases ns with
  | nil => exact h
  | cons n ns => exact h
theorem bLe_int {i j : Int} {A : Bool → Prop} (h : A (decide (i ≤ j))) : bLe (.int i) (.int j) A := h
theorem plc_idx (b : Stl.Bd) (g : Int) : (match Stl.plc b g with | some j => ∃ r, idx b.n (fun j => decide (b.F j = g)) = (j : Int) :: r | none => idx b.n (fun j => decide (b.F j = g)) = []) := by
  have h := List.head?_filter (p := fun j => decide (b.F j = g)) (l := List.range b.n)
  unfold Stl.plc idx
  cases e : (List.range b.n).filter fun j => decide (b.F j = g) with
  | nil =>
    rw [e] at h
    have h2 : (List.range b.n).find? (fun j => decide (b.F j = g)) = none := by rw [← h]; rfl
    rw [h2]
    rfl
  | cons x l =>
    rw [e] at h
    have h2 : (List.range b.n).find? (fun j => decide (b.F j = g)) = some x := by rw [← h]; rfl
    rw [h2]
    exact ⟨_, rfl⟩
theorem mem_idx {n : Nat} {W : Nat → Bool} {j : Nat} (hj : j < n) : decide (((j : Nat) : Int) ∈ idx n W) = W j := by
  cases h : W j with
  | true => exact decide_eq_true (idx_at.mpr ⟨j, rfl, hj, h⟩)
  | false =>
    refine decide_eq_false fun z => ?_
    obtain ⟨i, e, _, hi⟩ := idx_mem z
    have : j = i := by omega
    rw [this, hi] at h
    cases h
theorem bIn_ix {n : Nat} {W : Nat → Bool} {j : Nat} {A : Bool → Prop} (hj : j < n) (h : A (W j)) : bInD (.int (j : Nat)) (.list (ixD n W)) A := by
  have e := in_ints (j : Nat) (idx n W)
  rw [mem_idx hj] at e
  unfold ixD
  refine ⟨⟨shp_int _, shp_ints _⟩, ?_⟩
  rw [e]
  exact h
theorem helpL_len (b : Stl.Bd) (B : Nat → Bool) (i : Nat) : (helpL b B i).length = Stl.nh b B i := by
  unfold helpL
  rw [List.length_map, idx_count]
  rfl
theorem helpL_count (b : Stl.Bd) (B : Nat → Bool) (i : Nat) (y : Int) : (helpL b B i).count y = Stl.nhY b B i y := by
  unfold helpL idx Stl.nhY
  generalize List.range b.n = l
  induction l with
  | nil => rfl
  | cons x l ih =>
    rw [List.countP_cons, ← ih, List.filter_cons]
    cases h : Stl.helps b B i x with
    | false => simp
    | true =>
      have ex : ((x : Nat) : Int).toNat = x := by omega
      by_cases e : b.Y x = y
      · simp [List.count_cons, ex, e]
      · simp [List.count_cons, ex, e]
theorem nh_len (b : Stl.Bd) (B : Nat → Bool) (i : Nat) : ((helpL b B i).map PyData.int).length = Stl.nh b B i := by rw [List.length_map, helpL_len]
def g_law_wins : RDn := fun ds A => match ds with
  | [b, o, bk, wn, pl] => ∃ n rs cs ps os B W i g, ∃ hnd : (ps.map (·.1)).Nodup, b = bdQ n rs cs ps ∧ o = .tuple (os.map oD) ∧ bk = .list (ixD ps.length B) ∧ wn = .list (ixD ps.length W) ∧ pl = .int (i : Nat) ∧ os.length = ps.length ∧ ps.length ≤ 24 ∧ i < ps.length ∧ Or os i = .go g ∧ A (.bool (Stl.wins (bdOf ps os hnd) B W i))
  | _ => False
def optI : Option Int → PyData
  | some h => .int h
  | none => .none
/-- the slots of _law_wins, with a thrust and what is repelled -/
def WL (n : Int) (rs : List (Int × Int)) (cs : List Int) (ps : List (Int × Int)) (os : List Ord) (B W : Nat → Bool) (i : Nat) (g : Int) (hs : PyData) (tv : Nat) (r : Option Int) (o14 o15 o16 : Option Dv) : Rho :=
  [some (.dat (bdQ n rs cs ps)), some (.dat (.tuple (os.map oD))), some (.dat (.list (ixD ps.length B))), some (.dat (.list (ixD ps.length W))), some (.dat (.int (i : Nat))), some (.dat (.tuple (ps.map pD))), some (.dat (.int (Fd ps i))), some (.dat (.int (Pl ps i))), some (.dat (.int g)), some (.dat hs), some (.dat (.int (tv : Nat))), some (.dat (optI r)), none, none, o14, o15, o16]
def WL2 (n : Int) (rs : List (Int × Int)) (cs : List Int) (ps : List (Int × Int)) (os : List Ord) (B W : Nat → Bool) (i : Nat) (g : Int) (hs : PyData) (tv : Nat) (r : Option Int) (o12 o13 o14 o15 o16 : Option Dv) : Rho :=
  [some (.dat (bdQ n rs cs ps)), some (.dat (.tuple (os.map oD))), some (.dat (.list (ixD ps.length B))), some (.dat (.list (ixD ps.length W))), some (.dat (.int (i : Nat))), some (.dat (.tuple (ps.map pD))), some (.dat (.int (Fd ps i))), some (.dat (.int (Pl ps i))), some (.dat (.int g)), some (.dat hs), some (.dat (.int (tv : Nat))), some (.dat (optI r)), o12, o13, o14, o15, o16]
theorem range_at {n i j : Nat} (h : (List.range n)[i]? = some j) : i < n ∧ i = j := by
  obtain ⟨h1, h2⟩ := List.getElem?_eq_some_iff.mp h
  simp at h1 h2
  exact ⟨h1, h2⟩
theorem bNe_optI {i : Int} {r : Option Int} {A : Bool → Prop} (h : A (!decide (some i = r))) : bNe (.int i) (optI r) A := by
  cases r with
  | none => exact ⟨⟨shp_int i, shaped_of (by simp [optI, PyData.canLay0]) (by simp [optI, PyData.depth])⟩, h⟩
  | some j => exact bNe_int (by simpa using h)
theorem rd_law_wins : ∀ ds A, g_law_wins ds A → ds.length = 5 ∧ t_law_wins g_law_helpers (endD A) (startD n_law_wins ds) := by
  intro ds A h
  match ds, h with
  | [b, o, bk, wn, pl], h =>
    refine ⟨rfl, ?_⟩
    obtain ⟨n, rs, cs, ps, os, B, W, i, g, hnd, rfl, rfl, rfl, rfl, rfl, hl, h24, hi, hO, k⟩ := h
    have sz : (100 : Nat) ≤ SZ := by decide
    have hi2 : i < os.length := by omega
    simp only [sSeq, sCut, sIf, sNext, sRet, sAsg, sPar, sPar3, sDrop, sBreak, sCont, sOwn, sFor, sForI, sWhile, dNot, dB, dAnd, dOr, dAndV, dOrV, dNotV, dIf, dCall, dCallK, dCallP, dv, dc, dOp, dCmp, dCmpT, dUn, dNeg, dIsi, dLst, dTup, dRev, dSlice, dChain, dChainT, dApp, dSortedO, dNotInO, dCnt, sFrz, frzD, sOwnL, sOwnAdd, sParO, List.foldl_cons, List.foldl_nil, dAll, dAny, boolsD_map, dGet_t0, dGet_t1, dGet_t2, dGet_l0, dGet_l1, dLc, dYes, aCons, aNil, aStar, oNo, oIs, tTupD, tsCons, tsNil, tn, iSeq, iEnumD, iRng1D, iRng2D, bI, bIsN, bNotN, dI20, dI2, dLen, dTupF, dListF, dInt1, dII, dRepr, dSorted, isDeck, isOwn, freeSlot, endD, startD, startK, startL, List.map, List.length, List.replicate, List.cons_append, List.nil_append, List.append_nil, List.getElem?_cons_succ, List.getElem?_cons_zero, Nat.reduceAdd, Nat.reduceSub, List.set, Bool.and_true, Bool.true_and, Bool.and_false, Bool.false_and, Bool.not_true, Bool.not_false, Nat.reduceBEq, beq_self_eq_true, reduceIte, reduceCtorEq, isNoneD, wipeD, freeAll, List.all_cons, List.all_nil, Kt.at0, Kt.at1, Kt.at2, true_and, and_true, List.getElem?_cons_succ, t_law_wins, n_law_wins, bdQ, get_ps hi, get_os hi2, hO, oD, g_law_helpers, dAdd]
    refine ⟨n, rs, cs, ps, os, B, i, hnd, rfl, rfl, rfl, rfl, hl, h24, hi, ?_⟩
    rw [nh_len, enum_ps]
    obtain ⟨b, hb⟩ : ∃ b, b = bdOf ps os hnd := ⟨_, rfl⟩
    have hbn : b.n = ps.length := by rw [hb]; rfl
    have hbF : ∀ x, b.F x = Fd ps x := fun x => by rw [hb]; rfl
    have hbY : ∀ x, b.Y x = Pl ps x := fun x => by rw [hb]; rfl
    have hbO : ∀ x, b.O x = Or os x := fun x => by rw [hb]; rfl
    rw [← hb] at k ⊢
    refine lc_emb (fun j : Nat => PyData.tuple [.int (j : Nat), pD (Fd ps j, Pl ps j)]) (fun j => if decide (Fd ps j = g) then some (.int (j : Nat)) else none) (fun j hj B' hB => ?_) (by simp; omega) ?_
    · simp only [sSeq, sCut, sIf, sNext, sRet, sAsg, sPar, sPar3, sDrop, sBreak, sCont, sOwn, sFor, sForI, sWhile, dNot, dB, dAnd, dOr, dAndV, dOrV, dNotV, dIf, dCall, dCallK, dCallP, dv, dc, dOp, dCmp, dCmpT, dUn, dNeg, dIsi, dLst, dTup, dRev, dSlice, dChain, dChainT, dApp, dSortedO, dNotInO, dCnt, sFrz, frzD, sOwnL, sOwnAdd, sParO, List.foldl_cons, List.foldl_nil, dAll, dAny, boolsD_map, dGet_t0, dGet_t1, dGet_t2, dGet_l0, dGet_l1, dLc, dYes, aCons, aNil, aStar, oNo, oIs, tTupD, tsCons, tsNil, tn, iSeq, iEnumD, iRng1D, iRng2D, bI, bIsN, bNotN, dI20, dI2, dLen, dTupF, dListF, dInt1, dII, dRepr, dSorted, isDeck, isOwn, freeSlot, endD, startD, startK, startL, List.map, List.length, List.replicate, List.cons_append, List.nil_append, List.append_nil, List.getElem?_cons_succ, List.getElem?_cons_zero, Nat.reduceAdd, Nat.reduceSub, List.set, Bool.and_true, Bool.true_and, Bool.and_false, Bool.false_and, Bool.not_true, Bool.not_false, Nat.reduceBEq, beq_self_eq_true, reduceIte, reduceCtorEq, isNoneD, wipeD, freeAll, List.all_cons, List.all_nil, Kt.at0, Kt.at1, Kt.at2, true_and, and_true, List.getElem?_cons_succ, turnD, pD]
      refine bEq_int ?_
      cases e : decide (Fd ps j = g) with
      | true => rw [e] at hB; exact hB
      | false => rw [e] at hB; exact hB
    rw [List.nil_append, fmap_if, ← ixD_eq]
    have eW : Stl.wins b B W i = (match Stl.plc b g with
        | none => Stl.beats b B i g (1 + Stl.nh b B i) none
        | some j => if (Stl.off b i j).isSome && W j then Stl.beats b B i g (1 + Stl.nh b B i) (Stl.off b i j)
          else !decide (b.Y j = b.Y i) && decide ((if (Stl.off b i j).isSome then 1 else 1 + Stl.nh b B j) < 1 + Stl.nh b B i - Stl.nhY b B i (b.Y j)) && Stl.beats b B i g (1 + Stl.nh b B i - Stl.nhY b B i (b.Y j)) none) := by
      unfold Stl.wins
      rw [hbO, hO]
      all_goals rfl
    refine ⟨fun ρ => ∃ (tv : Nat) (r : Option Int) (o14 o15 o16 : Option Dv), ρ = WL n rs cs ps os B W i g (.list ((helpL b B i).map PyData.int)) tv r o14 o15 o16 ∧ Stl.wins b B W i = Stl.beats b B i g tv r, ⟨Nat.zero_le _, ?_⟩, ?_⟩
    · have hpi := plc_idx b g
      rw [hbn, show (fun j => decide (b.F j = g)) = fun j => decide (Fd ps j = g) from funext fun j => by rw [hbF]] at hpi
      unfold ixD at *
      refine bNe_nilI ?_
      cases e : Stl.plc b g with
      | none =>
        rw [e] at hpi eW
        simp only at hpi eW
        rw [hpi]
        simp only [sSeq, sCut, sIf, sNext, sRet, sAsg, sPar, sPar3, sDrop, sBreak, sCont, sOwn, sFor, sForI, sWhile, dNot, dB, dAnd, dOr, dAndV, dOrV, dNotV, dIf, dCall, dCallK, dCallP, dv, dc, dOp, dCmp, dCmpT, dUn, dNeg, dIsi, dLst, dTup, dRev, dSlice, dChain, dChainT, dApp, dSortedO, dNotInO, dCnt, sFrz, frzD, sOwnL, sOwnAdd, sParO, List.foldl_cons, List.foldl_nil, dAll, dAny, boolsD_map, dGet_t0, dGet_t1, dGet_t2, dGet_l0, dGet_l1, dLc, dYes, aCons, aNil, aStar, oNo, oIs, tTupD, tsCons, tsNil, tn, iSeq, iEnumD, iRng1D, iRng2D, bI, bIsN, bNotN, dI20, dI2, dLen, dTupF, dListF, dInt1, dII, dRepr, dSorted, isDeck, isOwn, freeSlot, endD, startD, startK, startL, List.map, List.length, List.replicate, List.cons_append, List.nil_append, List.append_nil, List.getElem?_cons_succ, List.getElem?_cons_zero, Nat.reduceAdd, Nat.reduceSub, List.set, Bool.and_true, Bool.true_and, Bool.and_false, Bool.false_and, Bool.not_true, Bool.not_false, Nat.reduceBEq, beq_self_eq_true, reduceIte, reduceCtorEq, isNoneD, wipeD, freeAll, List.all_cons, List.all_nil, Kt.at0, Kt.at1, Kt.at2, true_and, and_true, List.getElem?_cons_succ, List.isEmpty_nil]
        exact ⟨1 + Stl.nh b B i, none, _, _, _, rfl, eW⟩
      | some j =>
        rw [e] at hpi eW
        simp only at hpi eW
        obtain ⟨rr, hrr⟩ := hpi
        have hj : j < ps.length := by have := (Stl.plc_some b e).1; omega
        have hj2 : j < os.length := by omega
        rw [hrr]
        simp only [sSeq, sCut, sIf, sNext, sRet, sAsg, sPar, sPar3, sDrop, sBreak, sCont, sOwn, sFor, sForI, sWhile, dNot, dB, dAnd, dOr, dAndV, dOrV, dNotV, dIf, dCall, dCallK, dCallP, dv, dc, dOp, dCmp, dCmpT, dUn, dNeg, dIsi, dLst, dTup, dRev, dSlice, dChain, dChainT, dApp, dSortedO, dNotInO, dCnt, sFrz, frzD, sOwnL, sOwnAdd, sParO, List.foldl_cons, List.foldl_nil, dAll, dAny, boolsD_map, dGet_t0, dGet_t1, dGet_t2, dGet_l0, dGet_l1, dLc, dYes, aCons, aNil, aStar, oNo, oIs, tTupD, tsCons, tsNil, tn, iSeq, iEnumD, iRng1D, iRng2D, bI, bIsN, bNotN, dI20, dI2, dLen, dTupF, dListF, dInt1, dII, dRepr, dSorted, isDeck, isOwn, freeSlot, endD, startD, startK, startL, List.map, List.length, List.replicate, List.cons_append, List.nil_append, List.append_nil, List.getElem?_cons_succ, List.getElem?_cons_zero, Nat.reduceAdd, Nat.reduceSub, List.set, Bool.and_true, Bool.true_and, Bool.and_false, Bool.false_and, Bool.not_true, Bool.not_false, Nat.reduceBEq, beq_self_eq_true, reduceIte, reduceCtorEq, isNoneD, wipeD, freeAll, List.all_cons, List.all_nil, Kt.at0, Kt.at1, Kt.at2, true_and, and_true, List.getElem?_cons_succ, List.isEmpty_cons, get_os hj2]
        have hoff : Stl.off b i j = (match Or os j with | .go h => if h = Fd ps i then none else some h | _ => none) := by
          unfold Stl.off
          rw [hbO, hbF]
          all_goals (cases Or os j <;> rfl)
        cases eo : Or os j with
        | stay =>
          rw [eo] at hoff
          have ho : (Stl.off b i j).isSome = false := by rw [hoff]; rfl
          simp only [sSeq, sCut, sIf, sNext, sRet, sAsg, sPar, sPar3, sDrop, sBreak, sCont, sOwn, sFor, sForI, sWhile, dNot, dB, dAnd, dOr, dAndV, dOrV, dNotV, dIf, dCall, dCallK, dCallP, dv, dc, dOp, dCmp, dCmpT, dUn, dNeg, dIsi, dLst, dTup, dRev, dSlice, dChain, dChainT, dApp, dSortedO, dNotInO, dCnt, sFrz, frzD, sOwnL, sOwnAdd, sParO, List.foldl_cons, List.foldl_nil, dAll, dAny, boolsD_map, dGet_t0, dGet_t1, dGet_t2, dGet_l0, dGet_l1, dLc, dYes, aCons, aNil, aStar, oNo, oIs, tTupD, tsCons, tsNil, tn, iSeq, iEnumD, iRng1D, iRng2D, bI, bIsN, bNotN, dI20, dI2, dLen, dTupF, dListF, dInt1, dII, dRepr, dSorted, isDeck, isOwn, freeSlot, endD, startD, startK, startL, List.map, List.length, List.replicate, List.cons_append, List.nil_append, List.append_nil, List.getElem?_cons_succ, List.getElem?_cons_zero, Nat.reduceAdd, Nat.reduceSub, List.set, Bool.and_true, Bool.true_and, Bool.and_false, Bool.false_and, Bool.not_true, Bool.not_false, Nat.reduceBEq, beq_self_eq_true, reduceIte, reduceCtorEq, isNoneD, wipeD, freeAll, List.all_cons, List.all_nil, Kt.at0, Kt.at1, Kt.at2, true_and, and_true, List.getElem?_cons_succ, oD]
          refine bEq_str ?_
          rw [decide_eq_false (by decide +kernel)]
          simp only [sSeq, sCut, sIf, sNext, sRet, sAsg, sPar, sPar3, sDrop, sBreak, sCont, sOwn, sFor, sForI, sWhile, dNot, dB, dAnd, dOr, dAndV, dOrV, dNotV, dIf, dCall, dCallK, dCallP, dv, dc, dOp, dCmp, dCmpT, dUn, dNeg, dIsi, dLst, dTup, dRev, dSlice, dChain, dChainT, dApp, dSortedO, dNotInO, dCnt, sFrz, frzD, sOwnL, sOwnAdd, sParO, List.foldl_cons, List.foldl_nil, dAll, dAny, boolsD_map, dGet_t0, dGet_t1, dGet_t2, dGet_l0, dGet_l1, dLc, dYes, aCons, aNil, aStar, oNo, oIs, tTupD, tsCons, tsNil, tn, iSeq, iEnumD, iRng1D, iRng2D, bI, bIsN, bNotN, dI20, dI2, dLen, dTupF, dListF, dInt1, dII, dRepr, dSorted, isDeck, isOwn, freeSlot, endD, startD, startK, startL, List.map, List.length, List.replicate, List.cons_append, List.nil_append, List.append_nil, List.getElem?_cons_succ, List.getElem?_cons_zero, Nat.reduceAdd, Nat.reduceSub, List.set, Bool.and_true, Bool.true_and, Bool.and_false, Bool.false_and, Bool.not_true, Bool.not_false, Nat.reduceBEq, beq_self_eq_true, reduceIte, reduceCtorEq, isNoneD, wipeD, freeAll, List.all_cons, List.all_nil, Kt.at0, Kt.at1, Kt.at2, true_and, and_true, List.getElem?_cons_succ, get_ps hj, asInts_map, g_law_helpers, get_os hj2, dAdd, helpL_count]
          refine ⟨n, rs, cs, ps, os, B, j, hnd, rfl, rfl, rfl, rfl, hl, h24, hj, ?_⟩
          rw [← hb, nh_len]
          refine bEq_str ?_
          rw [decide_eq_false (by decide +kernel)]
          simp only [sSeq, sCut, sIf, sNext, sRet, sAsg, sPar, sPar3, sDrop, sBreak, sCont, sOwn, sFor, sForI, sWhile, dNot, dB, dAnd, dOr, dAndV, dOrV, dNotV, dIf, dCall, dCallK, dCallP, dv, dc, dOp, dCmp, dCmpT, dUn, dNeg, dIsi, dLst, dTup, dRev, dSlice, dChain, dChainT, dApp, dSortedO, dNotInO, dCnt, sFrz, frzD, sOwnL, sOwnAdd, sParO, List.foldl_cons, List.foldl_nil, dAll, dAny, boolsD_map, dGet_t0, dGet_t1, dGet_t2, dGet_l0, dGet_l1, dLc, dYes, aCons, aNil, aStar, oNo, oIs, tTupD, tsCons, tsNil, tn, iSeq, iEnumD, iRng1D, iRng2D, bI, bIsN, bNotN, dI20, dI2, dLen, dTupF, dListF, dInt1, dII, dRepr, dSorted, isDeck, isOwn, freeSlot, endD, startD, startK, startL, List.map, List.length, List.replicate, List.cons_append, List.nil_append, List.append_nil, List.getElem?_cons_succ, List.getElem?_cons_zero, Nat.reduceAdd, Nat.reduceSub, List.set, Bool.and_true, Bool.true_and, Bool.and_false, Bool.false_and, Bool.not_true, Bool.not_false, Nat.reduceBEq, beq_self_eq_true, reduceIte, reduceCtorEq, isNoneD, wipeD, freeAll, List.all_cons, List.all_nil, Kt.at0, Kt.at1, Kt.at2, true_and, and_true, List.getElem?_cons_succ]
          refine bEq_int ?_
          have hle := Stl.nhY_le b B i (Pl ps j)
          by_cases hy : Pl ps j = Pl ps i
          · rw [decide_eq_true hy]
            have : Stl.wins b B W i = false := by rw [eW, hbY, hbY, decide_eq_true hy]; simp [ho]
            rw [this] at k
            exact k
          · rw [decide_eq_false hy]
            refine bLe_int ?_
            by_cases ht : 1 + Stl.nh b B j < 1 + Stl.nh b B i - Stl.nhY b B i (Pl ps j)
            · rw [decide_eq_false (by omega)]
              have ec : (1 + (Stl.nh b B i : Int) - (Stl.nhY b B i (Pl ps j) : Int)) = ((1 + Stl.nh b B i - Stl.nhY b B i (Pl ps j) : Nat) : Int) := by omega
              rw [ec]
              exact ⟨1 + Stl.nh b B i - Stl.nhY b B i (Pl ps j), none, _, _, _, rfl, by rw [eW, hbY, hbY, decide_eq_false hy]; simp [ho, ht]⟩
            · rw [decide_eq_true (by omega)]
              have : Stl.wins b B W i = false := by rw [eW, hbY, hbY, decide_eq_false hy]; simp [ho, ht]
              rw [this] at k
              exact k
        | back f2 g2 =>
          rw [eo] at hoff
          have ho : (Stl.off b i j).isSome = false := by rw [hoff]; rfl
          simp only [sSeq, sCut, sIf, sNext, sRet, sAsg, sPar, sPar3, sDrop, sBreak, sCont, sOwn, sFor, sForI, sWhile, dNot, dB, dAnd, dOr, dAndV, dOrV, dNotV, dIf, dCall, dCallK, dCallP, dv, dc, dOp, dCmp, dCmpT, dUn, dNeg, dIsi, dLst, dTup, dRev, dSlice, dChain, dChainT, dApp, dSortedO, dNotInO, dCnt, sFrz, frzD, sOwnL, sOwnAdd, sParO, List.foldl_cons, List.foldl_nil, dAll, dAny, boolsD_map, dGet_t0, dGet_t1, dGet_t2, dGet_l0, dGet_l1, dLc, dYes, aCons, aNil, aStar, oNo, oIs, tTupD, tsCons, tsNil, tn, iSeq, iEnumD, iRng1D, iRng2D, bI, bIsN, bNotN, dI20, dI2, dLen, dTupF, dListF, dInt1, dII, dRepr, dSorted, isDeck, isOwn, freeSlot, endD, startD, startK, startL, List.map, List.length, List.replicate, List.cons_append, List.nil_append, List.append_nil, List.getElem?_cons_succ, List.getElem?_cons_zero, Nat.reduceAdd, Nat.reduceSub, List.set, Bool.and_true, Bool.true_and, Bool.and_false, Bool.false_and, Bool.not_true, Bool.not_false, Nat.reduceBEq, beq_self_eq_true, reduceIte, reduceCtorEq, isNoneD, wipeD, freeAll, List.all_cons, List.all_nil, Kt.at0, Kt.at1, Kt.at2, true_and, and_true, List.getElem?_cons_succ, oD]
          refine bEq_str ?_
          rw [decide_eq_false (by decide +kernel)]
          simp only [sSeq, sCut, sIf, sNext, sRet, sAsg, sPar, sPar3, sDrop, sBreak, sCont, sOwn, sFor, sForI, sWhile, dNot, dB, dAnd, dOr, dAndV, dOrV, dNotV, dIf, dCall, dCallK, dCallP, dv, dc, dOp, dCmp, dCmpT, dUn, dNeg, dIsi, dLst, dTup, dRev, dSlice, dChain, dChainT, dApp, dSortedO, dNotInO, dCnt, sFrz, frzD, sOwnL, sOwnAdd, sParO, List.foldl_cons, List.foldl_nil, dAll, dAny, boolsD_map, dGet_t0, dGet_t1, dGet_t2, dGet_l0, dGet_l1, dLc, dYes, aCons, aNil, aStar, oNo, oIs, tTupD, tsCons, tsNil, tn, iSeq, iEnumD, iRng1D, iRng2D, bI, bIsN, bNotN, dI20, dI2, dLen, dTupF, dListF, dInt1, dII, dRepr, dSorted, isDeck, isOwn, freeSlot, endD, startD, startK, startL, List.map, List.length, List.replicate, List.cons_append, List.nil_append, List.append_nil, List.getElem?_cons_succ, List.getElem?_cons_zero, Nat.reduceAdd, Nat.reduceSub, List.set, Bool.and_true, Bool.true_and, Bool.and_false, Bool.false_and, Bool.not_true, Bool.not_false, Nat.reduceBEq, beq_self_eq_true, reduceIte, reduceCtorEq, isNoneD, wipeD, freeAll, List.all_cons, List.all_nil, Kt.at0, Kt.at1, Kt.at2, true_and, and_true, List.getElem?_cons_succ, get_ps hj, asInts_map, g_law_helpers, get_os hj2, dAdd, helpL_count]
          refine ⟨n, rs, cs, ps, os, B, j, hnd, rfl, rfl, rfl, rfl, hl, h24, hj, ?_⟩
          rw [← hb, nh_len]
          refine bEq_str ?_
          rw [decide_eq_false (by decide +kernel)]
          simp only [sSeq, sCut, sIf, sNext, sRet, sAsg, sPar, sPar3, sDrop, sBreak, sCont, sOwn, sFor, sForI, sWhile, dNot, dB, dAnd, dOr, dAndV, dOrV, dNotV, dIf, dCall, dCallK, dCallP, dv, dc, dOp, dCmp, dCmpT, dUn, dNeg, dIsi, dLst, dTup, dRev, dSlice, dChain, dChainT, dApp, dSortedO, dNotInO, dCnt, sFrz, frzD, sOwnL, sOwnAdd, sParO, List.foldl_cons, List.foldl_nil, dAll, dAny, boolsD_map, dGet_t0, dGet_t1, dGet_t2, dGet_l0, dGet_l1, dLc, dYes, aCons, aNil, aStar, oNo, oIs, tTupD, tsCons, tsNil, tn, iSeq, iEnumD, iRng1D, iRng2D, bI, bIsN, bNotN, dI20, dI2, dLen, dTupF, dListF, dInt1, dII, dRepr, dSorted, isDeck, isOwn, freeSlot, endD, startD, startK, startL, List.map, List.length, List.replicate, List.cons_append, List.nil_append, List.append_nil, List.getElem?_cons_succ, List.getElem?_cons_zero, Nat.reduceAdd, Nat.reduceSub, List.set, Bool.and_true, Bool.true_and, Bool.and_false, Bool.false_and, Bool.not_true, Bool.not_false, Nat.reduceBEq, beq_self_eq_true, reduceIte, reduceCtorEq, isNoneD, wipeD, freeAll, List.all_cons, List.all_nil, Kt.at0, Kt.at1, Kt.at2, true_and, and_true, List.getElem?_cons_succ]
          refine bEq_int ?_
          have hle := Stl.nhY_le b B i (Pl ps j)
          by_cases hy : Pl ps j = Pl ps i
          · rw [decide_eq_true hy]
            have : Stl.wins b B W i = false := by rw [eW, hbY, hbY, decide_eq_true hy]; simp [ho]
            rw [this] at k
            exact k
          · rw [decide_eq_false hy]
            refine bLe_int ?_
            by_cases ht : 1 + Stl.nh b B j < 1 + Stl.nh b B i - Stl.nhY b B i (Pl ps j)
            · rw [decide_eq_false (by omega)]
              have ec : (1 + (Stl.nh b B i : Int) - (Stl.nhY b B i (Pl ps j) : Int)) = ((1 + Stl.nh b B i - Stl.nhY b B i (Pl ps j) : Nat) : Int) := by omega
              rw [ec]
              exact ⟨1 + Stl.nh b B i - Stl.nhY b B i (Pl ps j), none, _, _, _, rfl, by rw [eW, hbY, hbY, decide_eq_false hy]; simp [ho, ht]⟩
            · rw [decide_eq_true (by omega)]
              have : Stl.wins b B W i = false := by rw [eW, hbY, hbY, decide_eq_false hy]; simp [ho, ht]
              rw [this] at k
              exact k
        | go h =>
          rw [eo] at hoff
          simp only [sSeq, sCut, sIf, sNext, sRet, sAsg, sPar, sPar3, sDrop, sBreak, sCont, sOwn, sFor, sForI, sWhile, dNot, dB, dAnd, dOr, dAndV, dOrV, dNotV, dIf, dCall, dCallK, dCallP, dv, dc, dOp, dCmp, dCmpT, dUn, dNeg, dIsi, dLst, dTup, dRev, dSlice, dChain, dChainT, dApp, dSortedO, dNotInO, dCnt, sFrz, frzD, sOwnL, sOwnAdd, sParO, List.foldl_cons, List.foldl_nil, dAll, dAny, boolsD_map, dGet_t0, dGet_t1, dGet_t2, dGet_l0, dGet_l1, dLc, dYes, aCons, aNil, aStar, oNo, oIs, tTupD, tsCons, tsNil, tn, iSeq, iEnumD, iRng1D, iRng2D, bI, bIsN, bNotN, dI20, dI2, dLen, dTupF, dListF, dInt1, dII, dRepr, dSorted, isDeck, isOwn, freeSlot, endD, startD, startK, startL, List.map, List.length, List.replicate, List.cons_append, List.nil_append, List.append_nil, List.getElem?_cons_succ, List.getElem?_cons_zero, Nat.reduceAdd, Nat.reduceSub, List.set, Bool.and_true, Bool.true_and, Bool.and_false, Bool.false_and, Bool.not_true, Bool.not_false, Nat.reduceBEq, beq_self_eq_true, reduceIte, reduceCtorEq, isNoneD, wipeD, freeAll, List.all_cons, List.all_nil, Kt.at0, Kt.at1, Kt.at2, true_and, and_true, List.getElem?_cons_succ, oD]
          refine bEq_str ?_
          rw [decide_eq_true rfl]
          simp only [sSeq, sCut, sIf, sNext, sRet, sAsg, sPar, sPar3, sDrop, sBreak, sCont, sOwn, sFor, sForI, sWhile, dNot, dB, dAnd, dOr, dAndV, dOrV, dNotV, dIf, dCall, dCallK, dCallP, dv, dc, dOp, dCmp, dCmpT, dUn, dNeg, dIsi, dLst, dTup, dRev, dSlice, dChain, dChainT, dApp, dSortedO, dNotInO, dCnt, sFrz, frzD, sOwnL, sOwnAdd, sParO, List.foldl_cons, List.foldl_nil, dAll, dAny, boolsD_map, dGet_t0, dGet_t1, dGet_t2, dGet_l0, dGet_l1, dLc, dYes, aCons, aNil, aStar, oNo, oIs, tTupD, tsCons, tsNil, tn, iSeq, iEnumD, iRng1D, iRng2D, bI, bIsN, bNotN, dI20, dI2, dLen, dTupF, dListF, dInt1, dII, dRepr, dSorted, isDeck, isOwn, freeSlot, endD, startD, startK, startL, List.map, List.length, List.replicate, List.cons_append, List.nil_append, List.append_nil, List.getElem?_cons_succ, List.getElem?_cons_zero, Nat.reduceAdd, Nat.reduceSub, List.set, Bool.and_true, Bool.true_and, Bool.and_false, Bool.false_and, Bool.not_true, Bool.not_false, Nat.reduceBEq, beq_self_eq_true, reduceIte, reduceCtorEq, isNoneD, wipeD, freeAll, List.all_cons, List.all_nil, Kt.at0, Kt.at1, Kt.at2, true_and, and_true, List.getElem?_cons_succ]
          refine bNe_int ?_
          by_cases hh : h = Fd ps i
          · rw [decide_eq_true hh]
            have ho : (Stl.off b i j).isSome = false := by rw [hoff]; simp [hh]
            simp only [sSeq, sCut, sIf, sNext, sRet, sAsg, sPar, sPar3, sDrop, sBreak, sCont, sOwn, sFor, sForI, sWhile, dNot, dB, dAnd, dOr, dAndV, dOrV, dNotV, dIf, dCall, dCallK, dCallP, dv, dc, dOp, dCmp, dCmpT, dUn, dNeg, dIsi, dLst, dTup, dRev, dSlice, dChain, dChainT, dApp, dSortedO, dNotInO, dCnt, sFrz, frzD, sOwnL, sOwnAdd, sParO, List.foldl_cons, List.foldl_nil, dAll, dAny, boolsD_map, dGet_t0, dGet_t1, dGet_t2, dGet_l0, dGet_l1, dLc, dYes, aCons, aNil, aStar, oNo, oIs, tTupD, tsCons, tsNil, tn, iSeq, iEnumD, iRng1D, iRng2D, bI, bIsN, bNotN, dI20, dI2, dLen, dTupF, dListF, dInt1, dII, dRepr, dSorted, isDeck, isOwn, freeSlot, endD, startD, startK, startL, List.map, List.length, List.replicate, List.cons_append, List.nil_append, List.append_nil, List.getElem?_cons_succ, List.getElem?_cons_zero, Nat.reduceAdd, Nat.reduceSub, List.set, Bool.and_true, Bool.true_and, Bool.and_false, Bool.false_and, Bool.not_true, Bool.not_false, Nat.reduceBEq, beq_self_eq_true, reduceIte, reduceCtorEq, isNoneD, wipeD, freeAll, List.all_cons, List.all_nil, Kt.at0, Kt.at1, Kt.at2, true_and, and_true, List.getElem?_cons_succ, get_ps hj, asInts_map, g_law_helpers, get_os hj2, dAdd, helpL_count]
            refine ⟨n, rs, cs, ps, os, B, j, hnd, rfl, rfl, rfl, rfl, hl, h24, hj, ?_⟩
            rw [← hb, nh_len]
            refine bEq_str ?_
            rw [decide_eq_true rfl]
            simp only [sSeq, sCut, sIf, sNext, sRet, sAsg, sPar, sPar3, sDrop, sBreak, sCont, sOwn, sFor, sForI, sWhile, dNot, dB, dAnd, dOr, dAndV, dOrV, dNotV, dIf, dCall, dCallK, dCallP, dv, dc, dOp, dCmp, dCmpT, dUn, dNeg, dIsi, dLst, dTup, dRev, dSlice, dChain, dChainT, dApp, dSortedO, dNotInO, dCnt, sFrz, frzD, sOwnL, sOwnAdd, sParO, List.foldl_cons, List.foldl_nil, dAll, dAny, boolsD_map, dGet_t0, dGet_t1, dGet_t2, dGet_l0, dGet_l1, dLc, dYes, aCons, aNil, aStar, oNo, oIs, tTupD, tsCons, tsNil, tn, iSeq, iEnumD, iRng1D, iRng2D, bI, bIsN, bNotN, dI20, dI2, dLen, dTupF, dListF, dInt1, dII, dRepr, dSorted, isDeck, isOwn, freeSlot, endD, startD, startK, startL, List.map, List.length, List.replicate, List.cons_append, List.nil_append, List.append_nil, List.getElem?_cons_succ, List.getElem?_cons_zero, Nat.reduceAdd, Nat.reduceSub, List.set, Bool.and_true, Bool.true_and, Bool.and_false, Bool.false_and, Bool.not_true, Bool.not_false, Nat.reduceBEq, beq_self_eq_true, reduceIte, reduceCtorEq, isNoneD, wipeD, freeAll, List.all_cons, List.all_nil, Kt.at0, Kt.at1, Kt.at2, true_and, and_true, List.getElem?_cons_succ]
            refine bNe_int ?_
            rw [decide_eq_true hh]
            simp only [sSeq, sCut, sIf, sNext, sRet, sAsg, sPar, sPar3, sDrop, sBreak, sCont, sOwn, sFor, sForI, sWhile, dNot, dB, dAnd, dOr, dAndV, dOrV, dNotV, dIf, dCall, dCallK, dCallP, dv, dc, dOp, dCmp, dCmpT, dUn, dNeg, dIsi, dLst, dTup, dRev, dSlice, dChain, dChainT, dApp, dSortedO, dNotInO, dCnt, sFrz, frzD, sOwnL, sOwnAdd, sParO, List.foldl_cons, List.foldl_nil, dAll, dAny, boolsD_map, dGet_t0, dGet_t1, dGet_t2, dGet_l0, dGet_l1, dLc, dYes, aCons, aNil, aStar, oNo, oIs, tTupD, tsCons, tsNil, tn, iSeq, iEnumD, iRng1D, iRng2D, bI, bIsN, bNotN, dI20, dI2, dLen, dTupF, dListF, dInt1, dII, dRepr, dSorted, isDeck, isOwn, freeSlot, endD, startD, startK, startL, List.map, List.length, List.replicate, List.cons_append, List.nil_append, List.append_nil, List.getElem?_cons_succ, List.getElem?_cons_zero, Nat.reduceAdd, Nat.reduceSub, List.set, Bool.and_true, Bool.true_and, Bool.and_false, Bool.false_and, Bool.not_true, Bool.not_false, Nat.reduceBEq, beq_self_eq_true, reduceIte, reduceCtorEq, isNoneD, wipeD, freeAll, List.all_cons, List.all_nil, Kt.at0, Kt.at1, Kt.at2, true_and, and_true, List.getElem?_cons_succ]
            refine bEq_int ?_
            have hle := Stl.nhY_le b B i (Pl ps j)
            by_cases hy : Pl ps j = Pl ps i
            · rw [decide_eq_true hy]
              have : Stl.wins b B W i = false := by rw [eW, hbY, hbY, decide_eq_true hy]; simp [ho]
              rw [this] at k
              exact k
            · rw [decide_eq_false hy]
              refine bLe_int ?_
              by_cases ht : 1 + Stl.nh b B j < 1 + Stl.nh b B i - Stl.nhY b B i (Pl ps j)
              · rw [decide_eq_false (by omega)]
                have ec : (1 + (Stl.nh b B i : Int) - (Stl.nhY b B i (Pl ps j) : Int)) = ((1 + Stl.nh b B i - Stl.nhY b B i (Pl ps j) : Nat) : Int) := by omega
                rw [ec]
                exact ⟨1 + Stl.nh b B i - Stl.nhY b B i (Pl ps j), none, _, _, _, rfl, by rw [eW, hbY, hbY, decide_eq_false hy]; simp [ho, ht]⟩
              · rw [decide_eq_true (by omega)]
                have : Stl.wins b B W i = false := by rw [eW, hbY, hbY, decide_eq_false hy]; simp [ho, ht]
                rw [this] at k
                exact k
          · rw [decide_eq_false hh]
            have ho2 : Stl.off b i j = some h := by rw [hoff]; simp [hh]
            have ho : (Stl.off b i j).isSome = true := by rw [ho2]; rfl
            simp only [sSeq, sCut, sIf, sNext, sRet, sAsg, sPar, sPar3, sDrop, sBreak, sCont, sOwn, sFor, sForI, sWhile, dNot, dB, dAnd, dOr, dAndV, dOrV, dNotV, dIf, dCall, dCallK, dCallP, dv, dc, dOp, dCmp, dCmpT, dUn, dNeg, dIsi, dLst, dTup, dRev, dSlice, dChain, dChainT, dApp, dSortedO, dNotInO, dCnt, sFrz, frzD, sOwnL, sOwnAdd, sParO, List.foldl_cons, List.foldl_nil, dAll, dAny, boolsD_map, dGet_t0, dGet_t1, dGet_t2, dGet_l0, dGet_l1, dLc, dYes, aCons, aNil, aStar, oNo, oIs, tTupD, tsCons, tsNil, tn, iSeq, iEnumD, iRng1D, iRng2D, bI, bIsN, bNotN, dI20, dI2, dLen, dTupF, dListF, dInt1, dII, dRepr, dSorted, isDeck, isOwn, freeSlot, endD, startD, startK, startL, List.map, List.length, List.replicate, List.cons_append, List.nil_append, List.append_nil, List.getElem?_cons_succ, List.getElem?_cons_zero, Nat.reduceAdd, Nat.reduceSub, List.set, Bool.and_true, Bool.true_and, Bool.and_false, Bool.false_and, Bool.not_true, Bool.not_false, Nat.reduceBEq, beq_self_eq_true, reduceIte, reduceCtorEq, isNoneD, wipeD, freeAll, List.all_cons, List.all_nil, Kt.at0, Kt.at1, Kt.at2, true_and, and_true, List.getElem?_cons_succ]
            refine bIn_ix hj ?_
            cases hw : W j with
            | true =>
              simp only [sSeq, sCut, sIf, sNext, sRet, sAsg, sPar, sPar3, sDrop, sBreak, sCont, sOwn, sFor, sForI, sWhile, dNot, dB, dAnd, dOr, dAndV, dOrV, dNotV, dIf, dCall, dCallK, dCallP, dv, dc, dOp, dCmp, dCmpT, dUn, dNeg, dIsi, dLst, dTup, dRev, dSlice, dChain, dChainT, dApp, dSortedO, dNotInO, dCnt, sFrz, frzD, sOwnL, sOwnAdd, sParO, List.foldl_cons, List.foldl_nil, dAll, dAny, boolsD_map, dGet_t0, dGet_t1, dGet_t2, dGet_l0, dGet_l1, dLc, dYes, aCons, aNil, aStar, oNo, oIs, tTupD, tsCons, tsNil, tn, iSeq, iEnumD, iRng1D, iRng2D, bI, bIsN, bNotN, dI20, dI2, dLen, dTupF, dListF, dInt1, dII, dRepr, dSorted, isDeck, isOwn, freeSlot, endD, startD, startK, startL, List.map, List.length, List.replicate, List.cons_append, List.nil_append, List.append_nil, List.getElem?_cons_succ, List.getElem?_cons_zero, Nat.reduceAdd, Nat.reduceSub, List.set, Bool.and_true, Bool.true_and, Bool.and_false, Bool.false_and, Bool.not_true, Bool.not_false, Nat.reduceBEq, beq_self_eq_true, reduceIte, reduceCtorEq, isNoneD, wipeD, freeAll, List.all_cons, List.all_nil, Kt.at0, Kt.at1, Kt.at2, true_and, and_true, List.getElem?_cons_succ]
              have ec : (1 + (Stl.nh b B i : Int)) = ((1 + Stl.nh b B i : Nat) : Int) := by omega
              rw [ec]
              exact ⟨1 + Stl.nh b B i, some h, _, _, _, rfl, by rw [eW, ho, hw, ho2]; rfl⟩
            | false =>
              simp only [sSeq, sCut, sIf, sNext, sRet, sAsg, sPar, sPar3, sDrop, sBreak, sCont, sOwn, sFor, sForI, sWhile, dNot, dB, dAnd, dOr, dAndV, dOrV, dNotV, dIf, dCall, dCallK, dCallP, dv, dc, dOp, dCmp, dCmpT, dUn, dNeg, dIsi, dLst, dTup, dRev, dSlice, dChain, dChainT, dApp, dSortedO, dNotInO, dCnt, sFrz, frzD, sOwnL, sOwnAdd, sParO, List.foldl_cons, List.foldl_nil, dAll, dAny, boolsD_map, dGet_t0, dGet_t1, dGet_t2, dGet_l0, dGet_l1, dLc, dYes, aCons, aNil, aStar, oNo, oIs, tTupD, tsCons, tsNil, tn, iSeq, iEnumD, iRng1D, iRng2D, bI, bIsN, bNotN, dI20, dI2, dLen, dTupF, dListF, dInt1, dII, dRepr, dSorted, isDeck, isOwn, freeSlot, endD, startD, startK, startL, List.map, List.length, List.replicate, List.cons_append, List.nil_append, List.append_nil, List.getElem?_cons_succ, List.getElem?_cons_zero, Nat.reduceAdd, Nat.reduceSub, List.set, Bool.and_true, Bool.true_and, Bool.and_false, Bool.false_and, Bool.not_true, Bool.not_false, Nat.reduceBEq, beq_self_eq_true, reduceIte, reduceCtorEq, isNoneD, wipeD, freeAll, List.all_cons, List.all_nil, Kt.at0, Kt.at1, Kt.at2, true_and, and_true, List.getElem?_cons_succ, get_ps hj, asInts_map, g_law_helpers, get_os hj2, dAdd, helpL_count]
              refine ⟨n, rs, cs, ps, os, B, j, hnd, rfl, rfl, rfl, rfl, hl, h24, hj, ?_⟩
              rw [← hb, nh_len]
              refine bEq_str ?_
              rw [decide_eq_true rfl]
              simp only [sSeq, sCut, sIf, sNext, sRet, sAsg, sPar, sPar3, sDrop, sBreak, sCont, sOwn, sFor, sForI, sWhile, dNot, dB, dAnd, dOr, dAndV, dOrV, dNotV, dIf, dCall, dCallK, dCallP, dv, dc, dOp, dCmp, dCmpT, dUn, dNeg, dIsi, dLst, dTup, dRev, dSlice, dChain, dChainT, dApp, dSortedO, dNotInO, dCnt, sFrz, frzD, sOwnL, sOwnAdd, sParO, List.foldl_cons, List.foldl_nil, dAll, dAny, boolsD_map, dGet_t0, dGet_t1, dGet_t2, dGet_l0, dGet_l1, dLc, dYes, aCons, aNil, aStar, oNo, oIs, tTupD, tsCons, tsNil, tn, iSeq, iEnumD, iRng1D, iRng2D, bI, bIsN, bNotN, dI20, dI2, dLen, dTupF, dListF, dInt1, dII, dRepr, dSorted, isDeck, isOwn, freeSlot, endD, startD, startK, startL, List.map, List.length, List.replicate, List.cons_append, List.nil_append, List.append_nil, List.getElem?_cons_succ, List.getElem?_cons_zero, Nat.reduceAdd, Nat.reduceSub, List.set, Bool.and_true, Bool.true_and, Bool.and_false, Bool.false_and, Bool.not_true, Bool.not_false, Nat.reduceBEq, beq_self_eq_true, reduceIte, reduceCtorEq, isNoneD, wipeD, freeAll, List.all_cons, List.all_nil, Kt.at0, Kt.at1, Kt.at2, true_and, and_true, List.getElem?_cons_succ]
              refine bNe_int ?_
              rw [decide_eq_false hh]
              simp only [sSeq, sCut, sIf, sNext, sRet, sAsg, sPar, sPar3, sDrop, sBreak, sCont, sOwn, sFor, sForI, sWhile, dNot, dB, dAnd, dOr, dAndV, dOrV, dNotV, dIf, dCall, dCallK, dCallP, dv, dc, dOp, dCmp, dCmpT, dUn, dNeg, dIsi, dLst, dTup, dRev, dSlice, dChain, dChainT, dApp, dSortedO, dNotInO, dCnt, sFrz, frzD, sOwnL, sOwnAdd, sParO, List.foldl_cons, List.foldl_nil, dAll, dAny, boolsD_map, dGet_t0, dGet_t1, dGet_t2, dGet_l0, dGet_l1, dLc, dYes, aCons, aNil, aStar, oNo, oIs, tTupD, tsCons, tsNil, tn, iSeq, iEnumD, iRng1D, iRng2D, bI, bIsN, bNotN, dI20, dI2, dLen, dTupF, dListF, dInt1, dII, dRepr, dSorted, isDeck, isOwn, freeSlot, endD, startD, startK, startL, List.map, List.length, List.replicate, List.cons_append, List.nil_append, List.append_nil, List.getElem?_cons_succ, List.getElem?_cons_zero, Nat.reduceAdd, Nat.reduceSub, List.set, Bool.and_true, Bool.true_and, Bool.and_false, Bool.false_and, Bool.not_true, Bool.not_false, Nat.reduceBEq, beq_self_eq_true, reduceIte, reduceCtorEq, isNoneD, wipeD, freeAll, List.all_cons, List.all_nil, Kt.at0, Kt.at1, Kt.at2, true_and, and_true, List.getElem?_cons_succ]
              refine bEq_int ?_
              have hle := Stl.nhY_le b B i (Pl ps j)
              by_cases hy : Pl ps j = Pl ps i
              · rw [decide_eq_true hy]
                have : Stl.wins b B W i = false := by rw [eW, hbY, hbY, decide_eq_true hy]; simp [ho, hw]
                rw [this] at k
                exact k
              · rw [decide_eq_false hy]
                refine bLe_int ?_
                by_cases ht : 1 < 1 + Stl.nh b B i - Stl.nhY b B i (Pl ps j)
                · rw [decide_eq_false (by omega)]
                  have ec : (1 + (Stl.nh b B i : Int) - (Stl.nhY b B i (Pl ps j) : Int)) = ((1 + Stl.nh b B i - Stl.nhY b B i (Pl ps j) : Nat) : Int) := by omega
                  rw [ec]
                  exact ⟨1 + Stl.nh b B i - Stl.nhY b B i (Pl ps j), none, _, _, _, rfl, by rw [eW, hbY, hbY, decide_eq_false hy]; simp [ho, hw, ht]⟩
                · rw [decide_eq_true (by omega)]
                  have : Stl.wins b B W i = false := by rw [eW, hbY, hbY, decide_eq_false hy]; simp [ho, hw, ht]
                  rw [this] at k
                  exact k
    · rintro ρ ⟨tv, r, o14, o15, o16, rfl, ew⟩
      rw [ew] at k
      unfold WL
      simp only [sSeq, sCut, sIf, sNext, sRet, sAsg, sPar, sPar3, sDrop, sBreak, sCont, sOwn, sFor, sForI, sWhile, dNot, dB, dAnd, dOr, dAndV, dOrV, dNotV, dIf, dCall, dCallK, dCallP, dv, dc, dOp, dCmp, dCmpT, dUn, dNeg, dIsi, dLst, dTup, dRev, dSlice, dChain, dChainT, dApp, dSortedO, dNotInO, dCnt, sFrz, frzD, sOwnL, sOwnAdd, sParO, List.foldl_cons, List.foldl_nil, dAll, dAny, boolsD_map, dGet_t0, dGet_t1, dGet_t2, dGet_l0, dGet_l1, dLc, dYes, aCons, aNil, aStar, oNo, oIs, tTupD, tsCons, tsNil, tn, iSeq, iEnumD, iRng1D, iRng2D, bI, bIsN, bNotN, dI20, dI2, dLen, dTupF, dListF, dInt1, dII, dRepr, dSorted, isDeck, isOwn, freeSlot, endD, startD, startK, startL, List.map, List.length, List.replicate, List.cons_append, List.nil_append, List.append_nil, List.getElem?_cons_succ, List.getElem?_cons_zero, Nat.reduceAdd, Nat.reduceSub, List.set, Bool.and_true, Bool.true_and, Bool.and_false, Bool.false_and, Bool.not_true, Bool.not_false, Nat.reduceBEq, beq_self_eq_true, reduceIte, reduceCtorEq, isNoneD, wipeD, freeAll, List.all_cons, List.all_nil, Kt.at0, Kt.at1, Kt.at2, true_and, and_true, List.getElem?_cons_succ]
      obtain ⟨good, hgood⟩ : ∃ good : Nat → Bool, good = fun s => decide (s = i) || !decide (b.O s = .go g) || decide (some (b.F s) = r) || decide (1 + Stl.nh b B s < tv) := ⟨_, rfl⟩
      have kg : A (.bool ((List.range b.n).all good)) := by
        rw [hgood]
        exact k
      refine ⟨fun j ρ => (∃ o12 o13, ρ = WL2 n rs cs ps os B W i g (.list ((helpL b B i).map PyData.int)) tv r o12 o13 o14 o15 o16 ∧ freeSlot (some o12) = true ∧ freeSlot (some o13) = true) ∧ ∀ s, s < j → good s = true, ⟨⟨none, none, rfl, rfl, rfl⟩, fun s hs => absurd hs (Nat.not_lt_zero _)⟩, ?_, ?_⟩
      · rintro j d ρ hd ⟨⟨o12, o13, rfl, f12, f13⟩, hall⟩
        rw [enum_ps, List.getElem?_map] at hd
        obtain ⟨j', hj', rfl⟩ := Option.map_eq_some_iff.mp hd
        obtain ⟨hj, rfl⟩ := range_at hj'
        have hj2 : j < os.length := by omega
        simp only [freeSlot] at f12 f13
        unfold WL2
        simp only [sSeq, sCut, sIf, sNext, sRet, sAsg, sPar, sPar3, sDrop, sBreak, sCont, sOwn, sFor, sForI, sWhile, dNot, dB, dAnd, dOr, dAndV, dOrV, dNotV, dIf, dCall, dCallK, dCallP, dv, dc, dOp, dCmp, dCmpT, dUn, dNeg, dIsi, dLst, dTup, dRev, dSlice, dChain, dChainT, dApp, dSortedO, dNotInO, dCnt, sFrz, frzD, sOwnL, sOwnAdd, sParO, List.foldl_cons, List.foldl_nil, dAll, dAny, boolsD_map, dGet_t0, dGet_t1, dGet_t2, dGet_l0, dGet_l1, dLc, dYes, aCons, aNil, aStar, oNo, oIs, tTupD, tsCons, tsNil, tn, iSeq, iEnumD, iRng1D, iRng2D, bI, bIsN, bNotN, dI20, dI2, dLen, dTupF, dListF, dInt1, dII, dRepr, dSorted, isDeck, isOwn, freeSlot, endD, startD, startK, startL, List.map, List.length, List.replicate, List.cons_append, List.nil_append, List.append_nil, List.getElem?_cons_succ, List.getElem?_cons_zero, Nat.reduceAdd, Nat.reduceSub, List.set, Bool.and_true, Bool.true_and, Bool.and_false, Bool.false_and, Bool.not_true, Bool.not_false, Nat.reduceBEq, beq_self_eq_true, reduceIte, reduceCtorEq, isNoneD, wipeD, freeAll, List.all_cons, List.all_nil, Kt.at0, Kt.at1, Kt.at2, true_and, and_true, List.getElem?_cons_succ, f12, f13, get_os hj2, pD]
        have bad : good j = false → A (.bool false) := fun e => by
          have : (List.range b.n).all good = false := by
            rw [List.all_eq_false]
            exact ⟨j, List.mem_range.mpr (by omega), by rw [e]; simp⟩
          rw [this] at kg
          exact kg
        have fine : good j = true → ∀ s, s < j + 1 → good s = true := fun e s hs => by
          by_cases z : s = j
          · rw [z]; exact e
          · exact hall s (by omega)
        refine bNe_int ?_
        by_cases h1 : j = i
        · rw [decide_eq_true (show ((j : Nat) : Int) = (i : Nat) by omega)]
          exact ⟨⟨_, _, rfl, rfl, rfl⟩, fine (by rw [hgood]; simp [h1])⟩
        · rw [decide_eq_false (show ¬ ((j : Nat) : Int) = (i : Nat) by omega)]
          simp only [sSeq, sCut, sIf, sNext, sRet, sAsg, sPar, sPar3, sDrop, sBreak, sCont, sOwn, sFor, sForI, sWhile, dNot, dB, dAnd, dOr, dAndV, dOrV, dNotV, dIf, dCall, dCallK, dCallP, dv, dc, dOp, dCmp, dCmpT, dUn, dNeg, dIsi, dLst, dTup, dRev, dSlice, dChain, dChainT, dApp, dSortedO, dNotInO, dCnt, sFrz, frzD, sOwnL, sOwnAdd, sParO, List.foldl_cons, List.foldl_nil, dAll, dAny, boolsD_map, dGet_t0, dGet_t1, dGet_t2, dGet_l0, dGet_l1, dLc, dYes, aCons, aNil, aStar, oNo, oIs, tTupD, tsCons, tsNil, tn, iSeq, iEnumD, iRng1D, iRng2D, bI, bIsN, bNotN, dI20, dI2, dLen, dTupF, dListF, dInt1, dII, dRepr, dSorted, isDeck, isOwn, freeSlot, endD, startD, startK, startL, List.map, List.length, List.replicate, List.cons_append, List.nil_append, List.append_nil, List.getElem?_cons_succ, List.getElem?_cons_zero, Nat.reduceAdd, Nat.reduceSub, List.set, Bool.and_true, Bool.true_and, Bool.and_false, Bool.false_and, Bool.not_true, Bool.not_false, Nat.reduceBEq, beq_self_eq_true, reduceIte, reduceCtorEq, isNoneD, wipeD, freeAll, List.all_cons, List.all_nil, Kt.at0, Kt.at1, Kt.at2, true_and, and_true, List.getElem?_cons_succ]
          refine ⟨by decide, bEq_go ?_⟩
          by_cases h2 : Or os j = .go g
          · rw [decide_eq_true h2]
            simp only [sSeq, sCut, sIf, sNext, sRet, sAsg, sPar, sPar3, sDrop, sBreak, sCont, sOwn, sFor, sForI, sWhile, dNot, dB, dAnd, dOr, dAndV, dOrV, dNotV, dIf, dCall, dCallK, dCallP, dv, dc, dOp, dCmp, dCmpT, dUn, dNeg, dIsi, dLst, dTup, dRev, dSlice, dChain, dChainT, dApp, dSortedO, dNotInO, dCnt, sFrz, frzD, sOwnL, sOwnAdd, sParO, List.foldl_cons, List.foldl_nil, dAll, dAny, boolsD_map, dGet_t0, dGet_t1, dGet_t2, dGet_l0, dGet_l1, dLc, dYes, aCons, aNil, aStar, oNo, oIs, tTupD, tsCons, tsNil, tn, iSeq, iEnumD, iRng1D, iRng2D, bI, bIsN, bNotN, dI20, dI2, dLen, dTupF, dListF, dInt1, dII, dRepr, dSorted, isDeck, isOwn, freeSlot, endD, startD, startK, startL, List.map, List.length, List.replicate, List.cons_append, List.nil_append, List.append_nil, List.getElem?_cons_succ, List.getElem?_cons_zero, Nat.reduceAdd, Nat.reduceSub, List.set, Bool.and_true, Bool.true_and, Bool.and_false, Bool.false_and, Bool.not_true, Bool.not_false, Nat.reduceBEq, beq_self_eq_true, reduceIte, reduceCtorEq, isNoneD, wipeD, freeAll, List.all_cons, List.all_nil, Kt.at0, Kt.at1, Kt.at2, true_and, and_true, List.getElem?_cons_succ]
            refine bNe_optI ?_
            by_cases h3 : some (Fd ps j) = r
            · rw [decide_eq_true h3]
              exact ⟨⟨_, _, rfl, rfl, rfl⟩, fine (by rw [hgood]; simp [hbF, h3])⟩
            · rw [decide_eq_false h3]
              simp only [sSeq, sCut, sIf, sNext, sRet, sAsg, sPar, sPar3, sDrop, sBreak, sCont, sOwn, sFor, sForI, sWhile, dNot, dB, dAnd, dOr, dAndV, dOrV, dNotV, dIf, dCall, dCallK, dCallP, dv, dc, dOp, dCmp, dCmpT, dUn, dNeg, dIsi, dLst, dTup, dRev, dSlice, dChain, dChainT, dApp, dSortedO, dNotInO, dCnt, sFrz, frzD, sOwnL, sOwnAdd, sParO, List.foldl_cons, List.foldl_nil, dAll, dAny, boolsD_map, dGet_t0, dGet_t1, dGet_t2, dGet_l0, dGet_l1, dLc, dYes, aCons, aNil, aStar, oNo, oIs, tTupD, tsCons, tsNil, tn, iSeq, iEnumD, iRng1D, iRng2D, bI, bIsN, bNotN, dI20, dI2, dLen, dTupF, dListF, dInt1, dII, dRepr, dSorted, isDeck, isOwn, freeSlot, endD, startD, startK, startL, List.map, List.length, List.replicate, List.cons_append, List.nil_append, List.append_nil, List.getElem?_cons_succ, List.getElem?_cons_zero, Nat.reduceAdd, Nat.reduceSub, List.set, Bool.and_true, Bool.true_and, Bool.and_false, Bool.false_and, Bool.not_true, Bool.not_false, Nat.reduceBEq, beq_self_eq_true, reduceIte, reduceCtorEq, isNoneD, wipeD, freeAll, List.all_cons, List.all_nil, Kt.at0, Kt.at1, Kt.at2, true_and, and_true, List.getElem?_cons_succ, g_law_helpers, dAdd]
              refine ⟨n, rs, cs, ps, os, B, j, hnd, rfl, rfl, rfl, rfl, hl, h24, hj, ?_⟩
              rw [← hb, nh_len]
              refine bLe_int ?_
              by_cases h4 : 1 + Stl.nh b B j < tv
              · rw [decide_eq_false (by omega)]
                exact ⟨⟨_, _, rfl, rfl, rfl⟩, fine (by rw [hgood]; simp [h4])⟩
              · rw [decide_eq_true (by omega)]
                exact bad (by rw [hgood]; simp only [hbO, hbF]; rw [decide_eq_false h1, decide_eq_true h2, decide_eq_false h3, decide_eq_false h4]; rfl)
          · rw [decide_eq_false h2]
            exact ⟨⟨_, _, rfl, rfl, rfl⟩, fine (by rw [hgood]; simp only [hbO]; rw [decide_eq_false h2]; simp)⟩
      · rintro ρ ⟨_, hall⟩
        rw [enumD_len, List.length_map] at hall
        have : (List.range b.n).all good = true := by
          rw [List.all_eq_true]
          intro s hs
          have := List.mem_range.mp hs
          exact hall s (by omega)
        rw [this] at kg
        exact kg
end Dl

set_option Elab.async false
set_option linter.all false
set_option maxRecDepth 100000
set_option maxHeartbeats 4000000
namespace Dl
open PySem PySem.Spec PyProof.Rows L2 Kt
theorem bNe_go {o : Ord} {g : Int} {A : Bool → Prop} (h : A (!decide (o = .go g))) : bNe (oD o) (.tuple [.str "go", .int g]) A := by
  refine ⟨?_, by rw [eqD_go]; exact h⟩
  have := shaped_ord o
  have h2 := shaped_ord (.go g)
  cases o <;> exact ⟨this, h2⟩
def g_law_back_fits : RDn := fun ds A => match ds with
  | [b, o, pl] => ∃ n rs cs ps os i f g, ∃ hnd : (ps.map (·.1)).Nodup, b = bdQ n rs cs ps ∧ o = .tuple (os.map oD) ∧ pl = .int (i : Nat) ∧ os.length = ps.length ∧ ps.length ≤ 24 ∧ i < ps.length ∧ Or os i = .back f g ∧ f ∈ ps.map (·.1) ∧ A (.bool (Stl.fit (bdOf ps os hnd) i))
  | _ => False
theorem plc_mem {ps : List (Int × Int)} {os : List Ord} (hnd : (ps.map (·.1)).Nodup) {f : Int} (hf : f ∈ ps.map (·.1)) : ∃ k, k < ps.length ∧ Fd ps k = f ∧ Stl.plc (bdOf ps os hnd) f = some k := by
  have h := spot_lt hf
  have e := fd_spot hf
  refine ⟨_, h, e, ?_⟩
  have := Stl.plc_at (bdOf ps os hnd) (i := spotOf ps f) h
  rw [show (bdOf ps os hnd).F (spotOf ps f) = f from e] at this
  exact this
/-- the law's list of the places in a field -/
theorem lc_there {ps : List (Int × Int)} {g : Int} {tn : PyData → (Option PyData → Prop) → Prop} {A : List PyData → Prop} (h24 : ps.length ≤ 24)
    (ht : ∀ j, j < ps.length → ∀ B : Option PyData → Prop, B (if decide (Fd ps j = g) then some (.int (j : Nat)) else none) → tn (.tuple [.int (j : Nat), .tuple [.int (Fd ps j), .int (Pl ps j)]]) B) (k : A (ixD ps.length fun j => decide (Fd ps j = g))) : lcGo tn (enumD (ps.map pD)) [] A := by
  have sz : (100 : Nat) ≤ SZ := by decide
  rw [enum_ps]
  refine lc_emb (fun j : Nat => PyData.tuple [.int (j : Nat), pD (Fd ps j, Pl ps j)]) (fun j => if decide (Fd ps j = g) then some (.int (j : Nat)) else none) (fun j hj B' hB => ht j (List.mem_range.mp hj) B' hB) (by simp; omega) ?_
  rw [List.nil_append, fmap_if, ← ixD_eq]
  exact k
theorem rd_law_back_fits : ∀ ds A, g_law_back_fits ds A → ds.length = 3 ∧ t_law_back_fits (endD A) (startD n_law_back_fits ds) := by
  intro ds A h
  match ds, h with
  | [b, o, pl], h =>
    refine ⟨rfl, ?_⟩
    obtain ⟨n, rs, cs, ps, os, i, f, g, hnd, rfl, rfl, rfl, hl, h24, hi, hO, hf, k⟩ := h
    have hi2 : i < os.length := by omega
    obtain ⟨m, hm, hmf, hp⟩ := plc_mem (os := os) hnd hf
    have hm2 : m < os.length := by omega
    have hb : (bdOf ps os hnd).O i = .back f g := hO
    have hbm : (bdOf ps os hnd).O m = Or os m := rfl
    unfold Stl.fit at k
    rw [hb] at k
    simp only [hp, hbm] at k
    have hpi := plc_idx (bdOf ps os hnd) f
    rw [hp] at hpi
    obtain ⟨rr, hrr⟩ := hpi
    simp only [sSeq, sCut, sIf, sNext, sRet, sAsg, sPar, sPar3, sDrop, sBreak, sCont, sOwn, sFor, sForI, sWhile, dNot, dB, dAnd, dOr, dAndV, dOrV, dNotV, dIf, dCall, dCallK, dCallP, dv, dc, dOp, dCmp, dCmpT, dUn, dNeg, dIsi, dLst, dTup, dRev, dSlice, dChain, dChainT, dApp, dSortedO, dNotInO, dCnt, dGet_t0, dGet_t1, dGet_t2, dGet_l0, dGet_l1, dLc, dYes, aCons, aNil, aStar, oNo, oIs, tTupD, tsCons, tsNil, tn, iSeq, iEnumD, iRng1D, iRng2D, bI, bIsN, bNotN, dI20, dI2, dLen, dTupF, dListF, dInt1, dII, dRepr, dSorted, isDeck, isOwn, freeSlot, endD, startD, startK, startL, List.map, List.length, List.replicate, List.cons_append, List.nil_append, List.append_nil, List.getElem?_cons_succ, List.getElem?_cons_zero, Nat.reduceAdd, Nat.reduceSub, List.set, Bool.and_true, Bool.true_and, Bool.and_false, Bool.false_and, Bool.not_true, Bool.not_false, Nat.reduceBEq, beq_self_eq_true, reduceIte, reduceCtorEq, isNoneD, wipeD, freeAll, List.all_cons, List.all_nil, Kt.at0, Kt.at1, Kt.at2, true_and, and_true, List.getElem?_cons_succ, t_law_back_fits, n_law_back_fits, bdQ, get_os hi2, hO, oD]
    refine lc_there (g := f) h24 (fun j hj B' hB => ?_) ?_
    · simp only [sSeq, sCut, sIf, sNext, sRet, sAsg, sPar, sPar3, sDrop, sBreak, sCont, sOwn, sFor, sForI, sWhile, dNot, dB, dAnd, dOr, dAndV, dOrV, dNotV, dIf, dCall, dCallK, dCallP, dv, dc, dOp, dCmp, dCmpT, dUn, dNeg, dIsi, dLst, dTup, dRev, dSlice, dChain, dChainT, dApp, dSortedO, dNotInO, dCnt, dGet_t0, dGet_t1, dGet_t2, dGet_l0, dGet_l1, dLc, dYes, aCons, aNil, aStar, oNo, oIs, tTupD, tsCons, tsNil, tn, iSeq, iEnumD, iRng1D, iRng2D, bI, bIsN, bNotN, dI20, dI2, dLen, dTupF, dListF, dInt1, dII, dRepr, dSorted, isDeck, isOwn, freeSlot, endD, startD, startK, startL, List.map, List.length, List.replicate, List.cons_append, List.nil_append, List.append_nil, List.getElem?_cons_succ, List.getElem?_cons_zero, Nat.reduceAdd, Nat.reduceSub, List.set, Bool.and_true, Bool.true_and, Bool.and_false, Bool.false_and, Bool.not_true, Bool.not_false, Nat.reduceBEq, beq_self_eq_true, reduceIte, reduceCtorEq, isNoneD, wipeD, freeAll, List.all_cons, List.all_nil, Kt.at0, Kt.at1, Kt.at2, true_and, and_true, List.getElem?_cons_succ, turnD]
      refine bEq_int ?_
      cases e : decide (Fd ps j = f) with
      | true => rw [e] at hB; exact hB
      | false => rw [e] at hB; exact hB
    · have hrr : (idx ps.length fun j => decide (Fd ps j = f)) = (m : Int) :: rr := hrr
      unfold ixD
      rw [hrr]
      simp only [sSeq, sCut, sIf, sNext, sRet, sAsg, sPar, sPar3, sDrop, sBreak, sCont, sOwn, sFor, sForI, sWhile, dNot, dB, dAnd, dOr, dAndV, dOrV, dNotV, dIf, dCall, dCallK, dCallP, dv, dc, dOp, dCmp, dCmpT, dUn, dNeg, dIsi, dLst, dTup, dRev, dSlice, dChain, dChainT, dApp, dSortedO, dNotInO, dCnt, dGet_t0, dGet_t1, dGet_t2, dGet_l0, dGet_l1, dLc, dYes, aCons, aNil, aStar, oNo, oIs, tTupD, tsCons, tsNil, tn, iSeq, iEnumD, iRng1D, iRng2D, bI, bIsN, bNotN, dI20, dI2, dLen, dTupF, dListF, dInt1, dII, dRepr, dSorted, isDeck, isOwn, freeSlot, endD, startD, startK, startL, List.map, List.length, List.replicate, List.cons_append, List.nil_append, List.append_nil, List.getElem?_cons_succ, List.getElem?_cons_zero, Nat.reduceAdd, Nat.reduceSub, List.set, Bool.and_true, Bool.true_and, Bool.and_false, Bool.false_and, Bool.not_true, Bool.not_false, Nat.reduceBEq, beq_self_eq_true, reduceIte, reduceCtorEq, isNoneD, wipeD, freeAll, List.all_cons, List.all_nil, Kt.at0, Kt.at1, Kt.at2, true_and, and_true, List.getElem?_cons_succ, get_os hm2]
      refine bNe_int ?_
      by_cases h : g = f
      · rw [decide_eq_true h]
        simp only [sSeq, sCut, sIf, sNext, sRet, sAsg, sPar, sPar3, sDrop, sBreak, sCont, sOwn, sFor, sForI, sWhile, dNot, dB, dAnd, dOr, dAndV, dOrV, dNotV, dIf, dCall, dCallK, dCallP, dv, dc, dOp, dCmp, dCmpT, dUn, dNeg, dIsi, dLst, dTup, dRev, dSlice, dChain, dChainT, dApp, dSortedO, dNotInO, dCnt, dGet_t0, dGet_t1, dGet_t2, dGet_l0, dGet_l1, dLc, dYes, aCons, aNil, aStar, oNo, oIs, tTupD, tsCons, tsNil, tn, iSeq, iEnumD, iRng1D, iRng2D, bI, bIsN, bNotN, dI20, dI2, dLen, dTupF, dListF, dInt1, dII, dRepr, dSorted, isDeck, isOwn, freeSlot, endD, startD, startK, startL, List.map, List.length, List.replicate, List.cons_append, List.nil_append, List.append_nil, List.getElem?_cons_succ, List.getElem?_cons_zero, Nat.reduceAdd, Nat.reduceSub, List.set, Bool.and_true, Bool.true_and, Bool.and_false, Bool.false_and, Bool.not_true, Bool.not_false, Nat.reduceBEq, beq_self_eq_true, reduceIte, reduceCtorEq, isNoneD, wipeD, freeAll, List.all_cons, List.all_nil, Kt.at0, Kt.at1, Kt.at2, true_and, and_true, List.getElem?_cons_succ]
        cases e : Or os m with
        | stay =>
          rw [e] at k
          simp only [sSeq, sCut, sIf, sNext, sRet, sAsg, sPar, sPar3, sDrop, sBreak, sCont, sOwn, sFor, sForI, sWhile, dNot, dB, dAnd, dOr, dAndV, dOrV, dNotV, dIf, dCall, dCallK, dCallP, dv, dc, dOp, dCmp, dCmpT, dUn, dNeg, dIsi, dLst, dTup, dRev, dSlice, dChain, dChainT, dApp, dSortedO, dNotInO, dCnt, dGet_t0, dGet_t1, dGet_t2, dGet_l0, dGet_l1, dLc, dYes, aCons, aNil, aStar, oNo, oIs, tTupD, tsCons, tsNil, tn, iSeq, iEnumD, iRng1D, iRng2D, bI, bIsN, bNotN, dI20, dI2, dLen, dTupF, dListF, dInt1, dII, dRepr, dSorted, isDeck, isOwn, freeSlot, endD, startD, startK, startL, List.map, List.length, List.replicate, List.cons_append, List.nil_append, List.append_nil, List.getElem?_cons_succ, List.getElem?_cons_zero, Nat.reduceAdd, Nat.reduceSub, List.set, Bool.and_true, Bool.true_and, Bool.and_false, Bool.false_and, Bool.not_true, Bool.not_false, Nat.reduceBEq, beq_self_eq_true, reduceIte, reduceCtorEq, isNoneD, wipeD, freeAll, List.all_cons, List.all_nil, Kt.at0, Kt.at1, Kt.at2, true_and, and_true, List.getElem?_cons_succ, oD]
          refine bNe_str ?_
          rw [decide_eq_false (by decide +kernel)]
          simpa [Stl.fit.fitOrd, h] using k
        | back x y =>
          rw [e] at k
          simp only [sSeq, sCut, sIf, sNext, sRet, sAsg, sPar, sPar3, sDrop, sBreak, sCont, sOwn, sFor, sForI, sWhile, dNot, dB, dAnd, dOr, dAndV, dOrV, dNotV, dIf, dCall, dCallK, dCallP, dv, dc, dOp, dCmp, dCmpT, dUn, dNeg, dIsi, dLst, dTup, dRev, dSlice, dChain, dChainT, dApp, dSortedO, dNotInO, dCnt, dGet_t0, dGet_t1, dGet_t2, dGet_l0, dGet_l1, dLc, dYes, aCons, aNil, aStar, oNo, oIs, tTupD, tsCons, tsNil, tn, iSeq, iEnumD, iRng1D, iRng2D, bI, bIsN, bNotN, dI20, dI2, dLen, dTupF, dListF, dInt1, dII, dRepr, dSorted, isDeck, isOwn, freeSlot, endD, startD, startK, startL, List.map, List.length, List.replicate, List.cons_append, List.nil_append, List.append_nil, List.getElem?_cons_succ, List.getElem?_cons_zero, Nat.reduceAdd, Nat.reduceSub, List.set, Bool.and_true, Bool.true_and, Bool.and_false, Bool.false_and, Bool.not_true, Bool.not_false, Nat.reduceBEq, beq_self_eq_true, reduceIte, reduceCtorEq, isNoneD, wipeD, freeAll, List.all_cons, List.all_nil, Kt.at0, Kt.at1, Kt.at2, true_and, and_true, List.getElem?_cons_succ, oD]
          refine bNe_str ?_
          rw [decide_eq_false (by decide +kernel)]
          simpa [Stl.fit.fitOrd, h] using k
        | go x =>
          rw [e] at k
          simp only [sSeq, sCut, sIf, sNext, sRet, sAsg, sPar, sPar3, sDrop, sBreak, sCont, sOwn, sFor, sForI, sWhile, dNot, dB, dAnd, dOr, dAndV, dOrV, dNotV, dIf, dCall, dCallK, dCallP, dv, dc, dOp, dCmp, dCmpT, dUn, dNeg, dIsi, dLst, dTup, dRev, dSlice, dChain, dChainT, dApp, dSortedO, dNotInO, dCnt, dGet_t0, dGet_t1, dGet_t2, dGet_l0, dGet_l1, dLc, dYes, aCons, aNil, aStar, oNo, oIs, tTupD, tsCons, tsNil, tn, iSeq, iEnumD, iRng1D, iRng2D, bI, bIsN, bNotN, dI20, dI2, dLen, dTupF, dListF, dInt1, dII, dRepr, dSorted, isDeck, isOwn, freeSlot, endD, startD, startK, startL, List.map, List.length, List.replicate, List.cons_append, List.nil_append, List.append_nil, List.getElem?_cons_succ, List.getElem?_cons_zero, Nat.reduceAdd, Nat.reduceSub, List.set, Bool.and_true, Bool.true_and, Bool.and_false, Bool.false_and, Bool.not_true, Bool.not_false, Nat.reduceBEq, beq_self_eq_true, reduceIte, reduceCtorEq, isNoneD, wipeD, freeAll, List.all_cons, List.all_nil, Kt.at0, Kt.at1, Kt.at2, true_and, and_true, List.getElem?_cons_succ, oD]
          refine bNe_str ?_
          rw [decide_eq_true rfl]
          simpa [Stl.fit.fitOrd, h] using k
      · rw [decide_eq_false h]
        simp only [sSeq, sCut, sIf, sNext, sRet, sAsg, sPar, sPar3, sDrop, sBreak, sCont, sOwn, sFor, sForI, sWhile, dNot, dB, dAnd, dOr, dAndV, dOrV, dNotV, dIf, dCall, dCallK, dCallP, dv, dc, dOp, dCmp, dCmpT, dUn, dNeg, dIsi, dLst, dTup, dRev, dSlice, dChain, dChainT, dApp, dSortedO, dNotInO, dCnt, dGet_t0, dGet_t1, dGet_t2, dGet_l0, dGet_l1, dLc, dYes, aCons, aNil, aStar, oNo, oIs, tTupD, tsCons, tsNil, tn, iSeq, iEnumD, iRng1D, iRng2D, bI, bIsN, bNotN, dI20, dI2, dLen, dTupF, dListF, dInt1, dII, dRepr, dSorted, isDeck, isOwn, freeSlot, endD, startD, startK, startL, List.map, List.length, List.replicate, List.cons_append, List.nil_append, List.append_nil, List.getElem?_cons_succ, List.getElem?_cons_zero, Nat.reduceAdd, Nat.reduceSub, List.set, Bool.and_true, Bool.true_and, Bool.and_false, Bool.false_and, Bool.not_true, Bool.not_false, Nat.reduceBEq, beq_self_eq_true, reduceIte, reduceCtorEq, isNoneD, wipeD, freeAll, List.all_cons, List.all_nil, Kt.at0, Kt.at1, Kt.at2, true_and, and_true, List.getElem?_cons_succ]
        refine ⟨by decide, bEq_go ?_⟩
        cases e : Or os m with
        | stay => rw [e] at k; simpa [Stl.fit.fitOrd, h] using k
        | back x y => rw [e] at k; simpa [Stl.fit.fitOrd, h] using k
        | go x => rw [e] at k; simpa [Stl.fit.fitOrd, h] using k
def g_law_rule : RDn := fun ds A => match ds with
  | [b, o, v, pl] => ∃ n rs cs ps os bs i, ∃ hnd : (ps.map (·.1)).Nodup, b = bdQ n rs cs ps ∧ o = .tuple (os.map oD) ∧ v = .tuple (bs.map PyData.bool) ∧ pl = .int (i : Nat) ∧ os.length = ps.length ∧ bs.length = os.length ∧ ps.length ≤ 24 ∧ VdO ps os ∧ i < ps.length ∧ A (.bool (Stl.rule (bdOf ps os hnd) (Vl bs) i))
  | _ => False
theorem lc_bools {os : List Ord} {bs : List Bool} {t : Ord → Bool} {tn : PyData → (Option PyData → Prop) → Prop} {A : List PyData → Prop} (h24 : bs.length ≤ 24)
    (ht : ∀ j, j < bs.length → ∀ B : Option PyData → Prop, B (if (Vl bs j && t (Or os j)) then some (.int (j : Nat)) else none) → tn (.tuple [.int (j : Nat), .bool (Vl bs j)]) B) (k : A (ixD bs.length fun j => Vl bs j && t (Or os j))) : lcGo tn (enumD (bs.map PyData.bool)) [] A := by
  have sz : (100 : Nat) ≤ SZ := by decide
  rw [enum_bs]
  refine lc_emb (fun j : Nat => PyData.tuple [.int (j : Nat), .bool (Vl bs j)]) (fun j => if (Vl bs j && t (Or os j)) then some (.int (j : Nat)) else none) (fun j hj B' hB => ht j (List.mem_range.mp hj) B' hB) (by simp; omega) ?_
  rw [List.nil_append, fmap_if, ← ixD_eq]
  exact k
theorem dGet_w {o : Ord} {A : PyData → Prop} : dGet (oD o) (.int 0) A = A (.str (word o)) := by
  cases o <;> exact dGet_t0
theorem dGet_b2 {f g : Int} {A : PyData → Prop} : dGet (oD (.back f g)) (.int 2) A = A (.int g) := dGet_t2
def isS : Ord → Bool
  | .stay => true
  | _ => false
theorem word_S (o : Ord) : decide (word o = ("stay" : Str)) = isS o := match o with
  | .stay => (by decide +kernel : decide (("stay" : Str) = "stay") = true)
  | .go _ => (by decide +kernel : decide (("go" : Str) = "stay") = false)
  | .back _ _ => (by decide +kernel : decide (("back" : Str) = "stay") = false)
theorem word_G (o : Ord) : decide (word o = ("go" : Str)) = Stl.isG o := match o with
  | .stay => (by decide +kernel : decide (("stay" : Str) = "go") = false)
  | .go _ => (by decide +kernel : decide (("go" : Str) = "go") = true)
  | .back _ _ => (by decide +kernel : decide (("back" : Str) = "go") = false)
theorem word_B (o : Ord) : decide (word o = ("back" : Str)) = Stl.isB o := match o with
  | .stay => (by decide +kernel : decide (("stay" : Str) = "back") = false)
  | .go _ => (by decide +kernel : decide (("go" : Str) = "back") = false)
  | .back _ _ => (by decide +kernel : decide (("back" : Str) = "back") = true)
def RL (n : Int) (rs : List (Int × Int)) (cs : List Int) (ps : List (Int × Int)) (os : List Ord) (bs : List Bool) (i : Nat) (f g : Int) (o6 o8 o11 o12 : Option Dv) : Rho :=
  [some (.dat (bdQ n rs cs ps)), some (.dat (.tuple (os.map oD))), some (.dat (.tuple (bs.map PyData.bool))), some (.dat (.int (i : Nat))), some (.dat (.tuple (ps.map pD))), some (.dat (oD (.back f g))), o6, some (.dat (.list (ixD ps.length fun j => Vl bs j && Stl.isG (Or os j)))), o8, some (.dat (.int (Fd ps i))), some (.dat (.int (Pl ps i))), o11, o12, none]
theorem rd_law_rule : ∀ ds A, g_law_rule ds A → ds.length = 4 ∧ t_law_rule g_law_wins g_law_back_fits (endD A) (startD n_law_rule ds) := by
  intro ds A h
  match ds, h with
  | [b, o, v, pl], h =>
    refine ⟨rfl, ?_⟩
    obtain ⟨n, rs, cs, ps, os, bs, i, hnd, rfl, rfl, rfl, rfl, hl, hbl, h24, vd, hi, k⟩ := h
    have hi2 : i < os.length := by omega
    have hO : (bdOf ps os hnd).O i = Or os i := rfl
    unfold Stl.rule at k
    rw [hO] at k
    have sz : (100 : Nat) ≤ SZ := by decide
    have hbp : bs.length = ps.length := by omega
    simp only [sSeq, sCut, sIf, sNext, sRet, sAsg, sPar, sPar3, sDrop, sBreak, sCont, sOwn, sFor, sForI, sWhile, dNot, dB, dAnd, dOr, dAndV, dOrV, dNotV, dIf, dCall, dCallK, dCallP, dv, dc, dOp, dCmp, dCmpT, dUn, dNeg, dIsi, dLst, dTup, dRev, dSlice, dChain, dChainT, dApp, dSortedO, dNotInO, dCnt, dGet_t0, dGet_t1, dGet_t2, dGet_l0, dGet_l1, dLc, dYes, aCons, aNil, aStar, oNo, oIs, tTupD, tsCons, tsNil, tn, iSeq, iEnumD, iRng1D, iRng2D, bI, bIsN, bNotN, dI20, dI2, dLen, dTupF, dListF, dInt1, dII, dRepr, dSorted, isDeck, isOwn, freeSlot, endD, startD, startK, startL, List.map, List.length, List.replicate, List.cons_append, List.nil_append, List.append_nil, List.getElem?_cons_succ, List.getElem?_cons_zero, Nat.reduceAdd, Nat.reduceSub, List.set, Bool.and_true, Bool.true_and, Bool.and_false, Bool.false_and, Bool.not_true, Bool.not_false, Nat.reduceBEq, beq_self_eq_true, reduceIte, reduceCtorEq, isNoneD, wipeD, freeAll, List.all_cons, List.all_nil, Kt.at0, Kt.at1, Kt.at2, true_and, and_true, List.getElem?_cons_succ, t_law_rule, n_law_rule, bdQ, get_os hi2, dGet_w]
    refine bEq_str ?_
    rw [word_S]
    cases eS : isS (Or os i) with
    | true =>
      cases e : Or os i with
      | stay => rw [e] at k; exact k
      | go g => rw [e] at eS; cases eS
      | back f g => rw [e] at eS; cases eS
    | false =>
      simp only [sSeq, sCut, sIf, sNext, sRet, sAsg, sPar, sPar3, sDrop, sBreak, sCont, sOwn, sFor, sForI, sWhile, dNot, dB, dAnd, dOr, dAndV, dOrV, dNotV, dIf, dCall, dCallK, dCallP, dv, dc, dOp, dCmp, dCmpT, dUn, dNeg, dIsi, dLst, dTup, dRev, dSlice, dChain, dChainT, dApp, dSortedO, dNotInO, dCnt, dGet_t0, dGet_t1, dGet_t2, dGet_l0, dGet_l1, dLc, dYes, aCons, aNil, aStar, oNo, oIs, tTupD, tsCons, tsNil, tn, iSeq, iEnumD, iRng1D, iRng2D, bI, bIsN, bNotN, dI20, dI2, dLen, dTupF, dListF, dInt1, dII, dRepr, dSorted, isDeck, isOwn, freeSlot, endD, startD, startK, startL, List.map, List.length, List.replicate, List.cons_append, List.nil_append, List.append_nil, List.getElem?_cons_succ, List.getElem?_cons_zero, Nat.reduceAdd, Nat.reduceSub, List.set, Bool.and_true, Bool.true_and, Bool.and_false, Bool.false_and, Bool.not_true, Bool.not_false, Nat.reduceBEq, beq_self_eq_true, reduceIte, reduceCtorEq, isNoneD, wipeD, freeAll, List.all_cons, List.all_nil, Kt.at0, Kt.at1, Kt.at2, true_and, and_true, List.getElem?_cons_succ]
      refine lc_bools (os := os) (t := Stl.isG) (by omega) (fun j hj B' hB => ?_) ?_
      · have hj2 : j < os.length := by omega
        simp only [sSeq, sCut, sIf, sNext, sRet, sAsg, sPar, sPar3, sDrop, sBreak, sCont, sOwn, sFor, sForI, sWhile, dNot, dB, dAnd, dOr, dAndV, dOrV, dNotV, dIf, dCall, dCallK, dCallP, dv, dc, dOp, dCmp, dCmpT, dUn, dNeg, dIsi, dLst, dTup, dRev, dSlice, dChain, dChainT, dApp, dSortedO, dNotInO, dCnt, dGet_t0, dGet_t1, dGet_t2, dGet_l0, dGet_l1, dLc, dYes, aCons, aNil, aStar, oNo, oIs, tTupD, tsCons, tsNil, tn, iSeq, iEnumD, iRng1D, iRng2D, bI, bIsN, bNotN, dI20, dI2, dLen, dTupF, dListF, dInt1, dII, dRepr, dSorted, isDeck, isOwn, freeSlot, endD, startD, startK, startL, List.map, List.length, List.replicate, List.cons_append, List.nil_append, List.append_nil, List.getElem?_cons_succ, List.getElem?_cons_zero, Nat.reduceAdd, Nat.reduceSub, List.set, Bool.and_true, Bool.true_and, Bool.and_false, Bool.false_and, Bool.not_true, Bool.not_false, Nat.reduceBEq, beq_self_eq_true, reduceIte, reduceCtorEq, isNoneD, wipeD, freeAll, List.all_cons, List.all_nil, Kt.at0, Kt.at1, Kt.at2, true_and, and_true, List.getElem?_cons_succ, turnD]
        cases ev : Vl bs j with
        | false => rw [ev] at hB; exact hB
        | true =>
          rw [ev] at hB
          simp only [sSeq, sCut, sIf, sNext, sRet, sAsg, sPar, sPar3, sDrop, sBreak, sCont, sOwn, sFor, sForI, sWhile, dNot, dB, dAnd, dOr, dAndV, dOrV, dNotV, dIf, dCall, dCallK, dCallP, dv, dc, dOp, dCmp, dCmpT, dUn, dNeg, dIsi, dLst, dTup, dRev, dSlice, dChain, dChainT, dApp, dSortedO, dNotInO, dCnt, dGet_t0, dGet_t1, dGet_t2, dGet_l0, dGet_l1, dLc, dYes, aCons, aNil, aStar, oNo, oIs, tTupD, tsCons, tsNil, tn, iSeq, iEnumD, iRng1D, iRng2D, bI, bIsN, bNotN, dI20, dI2, dLen, dTupF, dListF, dInt1, dII, dRepr, dSorted, isDeck, isOwn, freeSlot, endD, startD, startK, startL, List.map, List.length, List.replicate, List.cons_append, List.nil_append, List.append_nil, List.getElem?_cons_succ, List.getElem?_cons_zero, Nat.reduceAdd, Nat.reduceSub, List.set, Bool.and_true, Bool.true_and, Bool.and_false, Bool.false_and, Bool.not_true, Bool.not_false, Nat.reduceBEq, beq_self_eq_true, reduceIte, reduceCtorEq, isNoneD, wipeD, freeAll, List.all_cons, List.all_nil, Kt.at0, Kt.at1, Kt.at2, true_and, and_true, List.getElem?_cons_succ, get_os hj2, dGet_w]
          refine bEq_str ?_
          rw [word_G]
          cases eg : Stl.isG (Or os j) with
          | false => rw [eg] at hB; exact hB
          | true => rw [eg] at hB; exact hB
      rw [hbp]
      refine bEq_str ?_
      rw [word_G]
      cases eG : Stl.isG (Or os i) with
      | true =>
        simp only [sSeq, sCut, sIf, sNext, sRet, sAsg, sPar, sPar3, sDrop, sBreak, sCont, sOwn, sFor, sForI, sWhile, dNot, dB, dAnd, dOr, dAndV, dOrV, dNotV, dIf, dCall, dCallK, dCallP, dv, dc, dOp, dCmp, dCmpT, dUn, dNeg, dIsi, dLst, dTup, dRev, dSlice, dChain, dChainT, dApp, dSortedO, dNotInO, dCnt, dGet_t0, dGet_t1, dGet_t2, dGet_l0, dGet_l1, dLc, dYes, aCons, aNil, aStar, oNo, oIs, tTupD, tsCons, tsNil, tn, iSeq, iEnumD, iRng1D, iRng2D, bI, bIsN, bNotN, dI20, dI2, dLen, dTupF, dListF, dInt1, dII, dRepr, dSorted, isDeck, isOwn, freeSlot, endD, startD, startK, startL, List.map, List.length, List.replicate, List.cons_append, List.nil_append, List.append_nil, List.getElem?_cons_succ, List.getElem?_cons_zero, Nat.reduceAdd, Nat.reduceSub, List.set, Bool.and_true, Bool.true_and, Bool.and_false, Bool.false_and, Bool.not_true, Bool.not_false, Nat.reduceBEq, beq_self_eq_true, reduceIte, reduceCtorEq, isNoneD, wipeD, freeAll, List.all_cons, List.all_nil, Kt.at0, Kt.at1, Kt.at2, true_and, and_true, List.getElem?_cons_succ]
        refine lc_bools (os := os) (t := Stl.isB) (by omega) (fun j hj B' hB => ?_) ?_
        · have hj2 : j < os.length := by omega
          simp only [sSeq, sCut, sIf, sNext, sRet, sAsg, sPar, sPar3, sDrop, sBreak, sCont, sOwn, sFor, sForI, sWhile, dNot, dB, dAnd, dOr, dAndV, dOrV, dNotV, dIf, dCall, dCallK, dCallP, dv, dc, dOp, dCmp, dCmpT, dUn, dNeg, dIsi, dLst, dTup, dRev, dSlice, dChain, dChainT, dApp, dSortedO, dNotInO, dCnt, dGet_t0, dGet_t1, dGet_t2, dGet_l0, dGet_l1, dLc, dYes, aCons, aNil, aStar, oNo, oIs, tTupD, tsCons, tsNil, tn, iSeq, iEnumD, iRng1D, iRng2D, bI, bIsN, bNotN, dI20, dI2, dLen, dTupF, dListF, dInt1, dII, dRepr, dSorted, isDeck, isOwn, freeSlot, endD, startD, startK, startL, List.map, List.length, List.replicate, List.cons_append, List.nil_append, List.append_nil, List.getElem?_cons_succ, List.getElem?_cons_zero, Nat.reduceAdd, Nat.reduceSub, List.set, Bool.and_true, Bool.true_and, Bool.and_false, Bool.false_and, Bool.not_true, Bool.not_false, Nat.reduceBEq, beq_self_eq_true, reduceIte, reduceCtorEq, isNoneD, wipeD, freeAll, List.all_cons, List.all_nil, Kt.at0, Kt.at1, Kt.at2, true_and, and_true, List.getElem?_cons_succ, turnD]
          cases ev : Vl bs j with
          | false => rw [ev] at hB; exact hB
          | true =>
            rw [ev] at hB
            simp only [sSeq, sCut, sIf, sNext, sRet, sAsg, sPar, sPar3, sDrop, sBreak, sCont, sOwn, sFor, sForI, sWhile, dNot, dB, dAnd, dOr, dAndV, dOrV, dNotV, dIf, dCall, dCallK, dCallP, dv, dc, dOp, dCmp, dCmpT, dUn, dNeg, dIsi, dLst, dTup, dRev, dSlice, dChain, dChainT, dApp, dSortedO, dNotInO, dCnt, dGet_t0, dGet_t1, dGet_t2, dGet_l0, dGet_l1, dLc, dYes, aCons, aNil, aStar, oNo, oIs, tTupD, tsCons, tsNil, tn, iSeq, iEnumD, iRng1D, iRng2D, bI, bIsN, bNotN, dI20, dI2, dLen, dTupF, dListF, dInt1, dII, dRepr, dSorted, isDeck, isOwn, freeSlot, endD, startD, startK, startL, List.map, List.length, List.replicate, List.cons_append, List.nil_append, List.append_nil, List.getElem?_cons_succ, List.getElem?_cons_zero, Nat.reduceAdd, Nat.reduceSub, List.set, Bool.and_true, Bool.true_and, Bool.and_false, Bool.false_and, Bool.not_true, Bool.not_false, Nat.reduceBEq, beq_self_eq_true, reduceIte, reduceCtorEq, isNoneD, wipeD, freeAll, List.all_cons, List.all_nil, Kt.at0, Kt.at1, Kt.at2, true_and, and_true, List.getElem?_cons_succ, get_os hj2, dGet_w]
            refine bEq_str ?_
            rw [word_B]
            cases eg : Stl.isB (Or os j) with
            | false => rw [eg] at hB; exact hB
            | true => rw [eg] at hB; exact hB
        rw [hbp]
        cases e : Or os i with
        | stay => rw [e] at eG; cases eG
        | back f g => rw [e] at eG; cases eG
        | go g =>
          rw [e] at k
          exact ⟨n, rs, cs, ps, os, _, _, i, g, hnd, rfl, rfl, rfl, rfl, rfl, hl, h24, hi, e, k⟩
      | false =>
        cases e : Or os i with
        | stay => rw [e] at eS; cases eS
        | go g => rw [e] at eG; cases eG
        | back f g =>
          rw [e] at k
          have hf := (vd.bk i f g hi e).1
          simp only [sSeq, sCut, sIf, sNext, sRet, sAsg, sPar, sPar3, sDrop, sBreak, sCont, sOwn, sFor, sForI, sWhile, dNot, dB, dAnd, dOr, dAndV, dOrV, dNotV, dIf, dCall, dCallK, dCallP, dv, dc, dOp, dCmp, dCmpT, dUn, dNeg, dIsi, dLst, dTup, dRev, dSlice, dChain, dChainT, dApp, dSortedO, dNotInO, dCnt, dGet_t0, dGet_t1, dGet_t2, dGet_l0, dGet_l1, dLc, dYes, aCons, aNil, aStar, oNo, oIs, tTupD, tsCons, tsNil, tn, iSeq, iEnumD, iRng1D, iRng2D, bI, bIsN, bNotN, dI20, dI2, dLen, dTupF, dListF, dInt1, dII, dRepr, dSorted, isDeck, isOwn, freeSlot, endD, startD, startK, startL, List.map, List.length, List.replicate, List.cons_append, List.nil_append, List.append_nil, List.getElem?_cons_succ, List.getElem?_cons_zero, Nat.reduceAdd, Nat.reduceSub, List.set, Bool.and_true, Bool.true_and, Bool.and_false, Bool.false_and, Bool.not_true, Bool.not_false, Nat.reduceBEq, beq_self_eq_true, reduceIte, reduceCtorEq, isNoneD, wipeD, freeAll, List.all_cons, List.all_nil, Kt.at0, Kt.at1, Kt.at2, true_and, and_true, List.getElem?_cons_succ, get_ps hi]
          obtain ⟨b, hb⟩ : ∃ b, b = bdOf ps os hnd := ⟨_, rfl⟩
          have hbn : b.n = ps.length := by rw [hb]; rfl
          have hbF : ∀ x, b.F x = Fd ps x := fun x => by rw [hb]; rfl
          have hbY : ∀ x, b.Y x = Pl ps x := fun x => by rw [hb]; rfl
          have hbO : ∀ x, b.O x = Or os x := fun x => by rw [hb]; rfl
          have hai : Stl.aim b i = g := by unfold Stl.aim; rw [hbO, e]
          obtain ⟨good, hgood⟩ : ∃ good : Nat → Bool, good = fun s => !decide (b.O s = .go (b.F i)) || (!(Vl bs s && Stl.isG (Or os s)) && (decide (b.Y s = b.Y i) || decide (b.F s = Stl.aim b i))) := ⟨_, rfl⟩
          have kg : A (.bool (Stl.fit b i && (List.range b.n).all good)) := by
            rw [hgood, hb]
            exact k
          refine ⟨fun j ρ => (∃ o6 o8 o11 o12, ρ = RL n rs cs ps os bs i f g o6 o8 o11 o12 ∧ freeSlot (some o6) = true ∧ freeSlot (some o11) = true ∧ freeSlot (some o12) = true) ∧ ∀ s, s < j → good s = true, ⟨⟨none, none, none, none, rfl, rfl, rfl, rfl⟩, fun s hs => absurd hs (Nat.not_lt_zero _)⟩, ?_, ?_⟩
          · rintro j d ρ hd ⟨⟨o6, o8, o11, o12, rfl, f6, f11, f12⟩, hall⟩
            rw [enum_ps, List.getElem?_map] at hd
            obtain ⟨j', hj', rfl⟩ := Option.map_eq_some_iff.mp hd
            obtain ⟨hj, rfl⟩ := range_at hj'
            have hj2 : j < os.length := by omega
            simp only [freeSlot] at f6 f11 f12
            unfold RL
            simp only [sSeq, sCut, sIf, sNext, sRet, sAsg, sPar, sPar3, sDrop, sBreak, sCont, sOwn, sFor, sForI, sWhile, dNot, dB, dAnd, dOr, dAndV, dOrV, dNotV, dIf, dCall, dCallK, dCallP, dv, dc, dOp, dCmp, dCmpT, dUn, dNeg, dIsi, dLst, dTup, dRev, dSlice, dChain, dChainT, dApp, dSortedO, dNotInO, dCnt, dGet_t0, dGet_t1, dGet_t2, dGet_l0, dGet_l1, dLc, dYes, aCons, aNil, aStar, oNo, oIs, tTupD, tsCons, tsNil, tn, iSeq, iEnumD, iRng1D, iRng2D, bI, bIsN, bNotN, dI20, dI2, dLen, dTupF, dListF, dInt1, dII, dRepr, dSorted, isDeck, isOwn, freeSlot, endD, startD, startK, startL, List.map, List.length, List.replicate, List.cons_append, List.nil_append, List.append_nil, List.getElem?_cons_succ, List.getElem?_cons_zero, Nat.reduceAdd, Nat.reduceSub, List.set, Bool.and_true, Bool.true_and, Bool.and_false, Bool.false_and, Bool.not_true, Bool.not_false, Nat.reduceBEq, beq_self_eq_true, reduceIte, reduceCtorEq, isNoneD, wipeD, freeAll, List.all_cons, List.all_nil, Kt.at0, Kt.at1, Kt.at2, true_and, and_true, List.getElem?_cons_succ, f6, f11, f12, get_os hj2, pD]
            have bad : good j = false → A (.bool false) := fun e => by
              have : (List.range b.n).all good = false := by
                rw [List.all_eq_false]
                exact ⟨j, List.mem_range.mpr (by omega), by rw [e]; simp⟩
              rw [this, Bool.and_false] at kg
              exact kg
            have fine : good j = true → ∀ s, s < j + 1 → good s = true := fun e s hs => by
              by_cases z : s = j
              · rw [z]; exact e
              · exact hall s (by omega)
            refine ⟨by decide, bEq_go ?_⟩
            by_cases h1 : Or os j = .go (Fd ps i)
            · rw [decide_eq_true h1]
              have hG : Stl.isG (Or os j) = true := by rw [h1]; rfl
              simp only [sSeq, sCut, sIf, sNext, sRet, sAsg, sPar, sPar3, sDrop, sBreak, sCont, sOwn, sFor, sForI, sWhile, dNot, dB, dAnd, dOr, dAndV, dOrV, dNotV, dIf, dCall, dCallK, dCallP, dv, dc, dOp, dCmp, dCmpT, dUn, dNeg, dIsi, dLst, dTup, dRev, dSlice, dChain, dChainT, dApp, dSortedO, dNotInO, dCnt, dGet_t0, dGet_t1, dGet_t2, dGet_l0, dGet_l1, dLc, dYes, aCons, aNil, aStar, oNo, oIs, tTupD, tsCons, tsNil, tn, iSeq, iEnumD, iRng1D, iRng2D, bI, bIsN, bNotN, dI20, dI2, dLen, dTupF, dListF, dInt1, dII, dRepr, dSorted, isDeck, isOwn, freeSlot, endD, startD, startK, startL, List.map, List.length, List.replicate, List.cons_append, List.nil_append, List.append_nil, List.getElem?_cons_succ, List.getElem?_cons_zero, Nat.reduceAdd, Nat.reduceSub, List.set, Bool.and_true, Bool.true_and, Bool.and_false, Bool.false_and, Bool.not_true, Bool.not_false, Nat.reduceBEq, beq_self_eq_true, reduceIte, reduceCtorEq, isNoneD, wipeD, freeAll, List.all_cons, List.all_nil, Kt.at0, Kt.at1, Kt.at2, true_and, and_true, List.getElem?_cons_succ]
              refine bIn_ix hj ?_
              rw [hG, Bool.and_true]
              cases hv : Vl bs j with
              | true =>
                simp only [sSeq, sCut, sIf, sNext, sRet, sAsg, sPar, sPar3, sDrop, sBreak, sCont, sOwn, sFor, sForI, sWhile, dNot, dB, dAnd, dOr, dAndV, dOrV, dNotV, dIf, dCall, dCallK, dCallP, dv, dc, dOp, dCmp, dCmpT, dUn, dNeg, dIsi, dLst, dTup, dRev, dSlice, dChain, dChainT, dApp, dSortedO, dNotInO, dCnt, dGet_t0, dGet_t1, dGet_t2, dGet_l0, dGet_l1, dLc, dYes, aCons, aNil, aStar, oNo, oIs, tTupD, tsCons, tsNil, tn, iSeq, iEnumD, iRng1D, iRng2D, bI, bIsN, bNotN, dI20, dI2, dLen, dTupF, dListF, dInt1, dII, dRepr, dSorted, isDeck, isOwn, freeSlot, endD, startD, startK, startL, List.map, List.length, List.replicate, List.cons_append, List.nil_append, List.append_nil, List.getElem?_cons_succ, List.getElem?_cons_zero, Nat.reduceAdd, Nat.reduceSub, List.set, Bool.and_true, Bool.true_and, Bool.and_false, Bool.false_and, Bool.not_true, Bool.not_false, Nat.reduceBEq, beq_self_eq_true, reduceIte, reduceCtorEq, isNoneD, wipeD, freeAll, List.all_cons, List.all_nil, Kt.at0, Kt.at1, Kt.at2, true_and, and_true, List.getElem?_cons_succ]
                exact bad (by rw [hgood]; simp only [hbO, hbF]; rw [decide_eq_true h1, hv, hG]; rfl)
              | false =>
                simp only [sSeq, sCut, sIf, sNext, sRet, sAsg, sPar, sPar3, sDrop, sBreak, sCont, sOwn, sFor, sForI, sWhile, dNot, dB, dAnd, dOr, dAndV, dOrV, dNotV, dIf, dCall, dCallK, dCallP, dv, dc, dOp, dCmp, dCmpT, dUn, dNeg, dIsi, dLst, dTup, dRev, dSlice, dChain, dChainT, dApp, dSortedO, dNotInO, dCnt, dGet_t0, dGet_t1, dGet_t2, dGet_l0, dGet_l1, dLc, dYes, aCons, aNil, aStar, oNo, oIs, tTupD, tsCons, tsNil, tn, iSeq, iEnumD, iRng1D, iRng2D, bI, bIsN, bNotN, dI20, dI2, dLen, dTupF, dListF, dInt1, dII, dRepr, dSorted, isDeck, isOwn, freeSlot, endD, startD, startK, startL, List.map, List.length, List.replicate, List.cons_append, List.nil_append, List.append_nil, List.getElem?_cons_succ, List.getElem?_cons_zero, Nat.reduceAdd, Nat.reduceSub, List.set, Bool.and_true, Bool.true_and, Bool.and_false, Bool.false_and, Bool.not_true, Bool.not_false, Nat.reduceBEq, beq_self_eq_true, reduceIte, reduceCtorEq, isNoneD, wipeD, freeAll, List.all_cons, List.all_nil, Kt.at0, Kt.at1, Kt.at2, true_and, and_true, List.getElem?_cons_succ]
                refine bNe_int ?_
                by_cases h2 : Pl ps j = Pl ps i
                · rw [decide_eq_true h2]
                  exact ⟨⟨_, _, _, _, rfl, rfl, rfl, rfl⟩, fine (by rw [hgood]; simp only [hbO, hbF, hbY]; rw [hv, decide_eq_true h2]; simp)⟩
                · rw [decide_eq_false h2]
                  simp only [sSeq, sCut, sIf, sNext, sRet, sAsg, sPar, sPar3, sDrop, sBreak, sCont, sOwn, sFor, sForI, sWhile, dNot, dB, dAnd, dOr, dAndV, dOrV, dNotV, dIf, dCall, dCallK, dCallP, dv, dc, dOp, dCmp, dCmpT, dUn, dNeg, dIsi, dLst, dTup, dRev, dSlice, dChain, dChainT, dApp, dSortedO, dNotInO, dCnt, dGet_t0, dGet_t1, dGet_t2, dGet_l0, dGet_l1, dLc, dYes, aCons, aNil, aStar, oNo, oIs, tTupD, tsCons, tsNil, tn, iSeq, iEnumD, iRng1D, iRng2D, bI, bIsN, bNotN, dI20, dI2, dLen, dTupF, dListF, dInt1, dII, dRepr, dSorted, isDeck, isOwn, freeSlot, endD, startD, startK, startL, List.map, List.length, List.replicate, List.cons_append, List.nil_append, List.append_nil, List.getElem?_cons_succ, List.getElem?_cons_zero, Nat.reduceAdd, Nat.reduceSub, List.set, Bool.and_true, Bool.true_and, Bool.and_false, Bool.false_and, Bool.not_true, Bool.not_false, Nat.reduceBEq, beq_self_eq_true, reduceIte, reduceCtorEq, isNoneD, wipeD, freeAll, List.all_cons, List.all_nil, Kt.at0, Kt.at1, Kt.at2, true_and, and_true, List.getElem?_cons_succ, dGet_b2]
                  refine bNe_int ?_
                  by_cases h3 : Fd ps j = g
                  · rw [decide_eq_true h3]
                    exact ⟨⟨_, _, _, _, rfl, rfl, rfl, rfl⟩, fine (by rw [hgood]; simp only [hbO, hbF, hbY, hai]; rw [hv, decide_eq_true h3]; simp)⟩
                  · rw [decide_eq_false h3]
                    exact bad (by rw [hgood]; simp only [hbO, hbF, hbY, hai]; rw [decide_eq_true h1, hv, decide_eq_false h2, decide_eq_false h3]; rfl)
            · rw [decide_eq_false h1]
              exact ⟨⟨_, _, _, _, rfl, rfl, rfl, rfl⟩, fine (by rw [hgood]; simp only [hbO, hbF]; rw [decide_eq_false h1]; rfl)⟩
          · rintro ρ ⟨⟨o6, o8, o11, o12, rfl, f6, f11, f12⟩, hall⟩
            rw [enumD_len, List.length_map] at hall
            have : (List.range b.n).all good = true := by
              rw [List.all_eq_true]
              intro s hs
              have := List.mem_range.mp hs
              exact hall s (by omega)
            rw [this, Bool.and_true, hb] at kg
            unfold RL
            simp only [sSeq, sCut, sIf, sNext, sRet, sAsg, sPar, sPar3, sDrop, sBreak, sCont, sOwn, sFor, sForI, sWhile, dNot, dB, dAnd, dOr, dAndV, dOrV, dNotV, dIf, dCall, dCallK, dCallP, dv, dc, dOp, dCmp, dCmpT, dUn, dNeg, dIsi, dLst, dTup, dRev, dSlice, dChain, dChainT, dApp, dSortedO, dNotInO, dCnt, dGet_t0, dGet_t1, dGet_t2, dGet_l0, dGet_l1, dLc, dYes, aCons, aNil, aStar, oNo, oIs, tTupD, tsCons, tsNil, tn, iSeq, iEnumD, iRng1D, iRng2D, bI, bIsN, bNotN, dI20, dI2, dLen, dTupF, dListF, dInt1, dII, dRepr, dSorted, isDeck, isOwn, freeSlot, endD, startD, startK, startL, List.map, List.length, List.replicate, List.cons_append, List.nil_append, List.append_nil, List.getElem?_cons_succ, List.getElem?_cons_zero, Nat.reduceAdd, Nat.reduceSub, List.set, Bool.and_true, Bool.true_and, Bool.and_false, Bool.false_and, Bool.not_true, Bool.not_false, Nat.reduceBEq, beq_self_eq_true, reduceIte, reduceCtorEq, isNoneD, wipeD, freeAll, List.all_cons, List.all_nil, Kt.at0, Kt.at1, Kt.at2, true_and, and_true, List.getElem?_cons_succ, g_law_back_fits]
            exact ⟨n, rs, cs, ps, os, i, f, g, hnd, rfl, rfl, rfl, hl, h24, hi, e, hf, kg⟩
end Dl

set_option Elab.async false
set_option linter.all false
set_option maxRecDepth 100000
set_option maxHeartbeats 4000000
namespace Dl
open PySem PySem.Spec PyProof.Rows L2 Kt
def asBools : List PyData → Option (List Bool)
  | [] => some []
  | .bool b :: ds => (asBools ds).map (b :: ·)
  | _ => none
theorem asBools_map : ∀ bs : List Bool, asBools (bs.map PyData.bool) = some bs
  | [] => rfl
  | b :: bs => by
    show (asBools (bs.map PyData.bool)).map _ = _
    rw [asBools_map bs]
    rfl
theorem asBools_all : ∀ {ds : List PyData}, (∀ d ∈ ds, isBoolD d = true) → ∃ bs : List Bool, ds = bs.map PyData.bool
  | [], _ => ⟨[], rfl⟩
  | d :: ds, h => by
    obtain ⟨bs, e⟩ := asBools_all (ds := ds) fun x hx => h x (List.mem_cons_of_mem _ hx)
    have := h d List.mem_cons_self
    cases d <;> first | (cases this; done) | skip
    rename_i b
    exact ⟨b :: bs, by rw [e]; rfl⟩
theorem asBools_no : ∀ {ds : List PyData} {d : PyData}, d ∈ ds → isBoolD d = false → asBools ds = none
  | e :: ds, d, h, hd => by
    cases e <;> first | rfl | skip
    rename_i b
    rcases List.mem_cons.mp h with z | z
    · subst z; cases hd
    · show (asBools ds).map _ = _
      rw [asBools_no z hd]
      rfl
/-- what is wrong first with any value as a settlement -/
def dueD (b : Stl.Bd) : PyData → PyData
  | .tuple xs => if xs.length = b.n then match asBools xs with
      | some bs => setErr b bs
      | none => .str "form"
    else .str "form"
  | _ => .str "form"
theorem dueD_tup {b : Stl.Bd} {xs : List PyData} : dueD b (.tuple xs) = if xs.length = b.n then match asBools xs with
      | some bs => setErr b bs
      | none => .str "form"
    else .str "form" := rfl
theorem shp_bool (b : Bool) : SeqAt.shaped (.bool b) = true := shaped_of (by simp [PyData.canLay0]) (by simp [PyData.depth])
theorem bNe_bool {a b : Bool} {A : Bool → Prop} (h : A (a != b)) : bNe (.bool a) (.bool b) A := ⟨⟨shp_bool a, shp_bool b⟩, by cases a <;> cases b <;> exact h⟩
theorem dueD_no {b : Stl.Bd} {v : PyData} (h : isTupD v = false) : dueD b v = .str "form" := by cases v <;> first | rfl | (cases h; done)
def g_law_settled_due : RDn := fun ds A => match ds with
  | [b, o, v] => ∃ n rs cs ps os, ∃ hnd : (ps.map (·.1)).Nodup, b = bdQ n rs cs ps ∧ o = .tuple (os.map oD) ∧ os.length = ps.length ∧ ps.length ≤ 24 ∧ VdO ps os ∧ A (dueD (bdOf ps os hnd) v)
  | _ => False
theorem isTup_form {d : PyData} (h : isTupD d = true) : ∃ xs, d = .tuple xs := by
  cases d <;> first | exact ⟨_, rfl⟩ | (cases h; done)
theorem no_bools {ds : List PyData} : ds.filterMap (fun d => if isBoolD d then none else some (.int 1)) = (List.replicate (ds.countP fun d => !isBoolD d) (1 : Int)).map PyData.int := by
  induction ds with
  | nil => rfl
  | cons d ds ih =>
    rw [List.filterMap_cons, List.countP_cons]
    cases h : isBoolD d with
    | true => simpa using ih
    | false => simp [ih, List.replicate_succ]
theorem rd_law_settled_due : ∀ ds A, g_law_settled_due ds A → ds.length = 3 ∧ t_law_settled_due g_law_rule (endD A) (startD n_law_settled_due ds) := by
  intro ds A h
  match ds, h with
  | [b, o, v], h =>
    refine ⟨rfl, ?_⟩
    obtain ⟨n, rs, cs, ps, os, hnd, rfl, rfl, hl, h24, vd, k⟩ := h
    have sz : (100 : Nat) ≤ SZ := by decide
    simp only [sSeq, sCut, sIf, sNext, sRet, sAsg, sPar, sPar3, sDrop, sBreak, sCont, sOwn, sFor, sForI, sWhile, dNot, dB, dAnd, dOr, dAndV, dOrV, dNotV, dIf, dCall, dCallK, dCallP, dv, dc, dOp, dCmp, dCmpT, dUn, dNeg, dIsi, dLst, dTup, dRev, dSlice, dChain, dChainT, dApp, dSortedO, dNotInO, dCnt, dGet_t0, dGet_t1, dGet_t2, dGet_l0, dGet_l1, dLc, dYes, aCons, aNil, aStar, oNo, oIs, tTupD, tsCons, tsNil, tn, iSeq, iEnumD, iRng1D, iRng2D, bI, bIsN, bNotN, dI20, dI2, dLen, dTupF, dListF, dInt1, dII, dRepr, dSorted, isDeck, isOwn, freeSlot, endD, startD, startK, startL, List.map, List.length, List.replicate, List.cons_append, List.nil_append, List.append_nil, List.getElem?_cons_succ, List.getElem?_cons_zero, Nat.reduceAdd, Nat.reduceSub, List.set, Bool.and_true, Bool.true_and, Bool.and_false, Bool.false_and, Bool.not_true, Bool.not_false, Nat.reduceBEq, beq_self_eq_true, reduceIte, reduceCtorEq, isNoneD, wipeD, freeAll, List.all_cons, List.all_nil, Kt.at0, Kt.at1, Kt.at2, true_and, and_true, List.getElem?_cons_succ, t_law_settled_due, n_law_settled_due]
    cases ht : isTupD v with
    | false => rw [dueD_no ht] at k; exact k
    | true =>
      obtain ⟨xs, rfl⟩ := isTup_form ht
      simp only [sSeq, sCut, sIf, sNext, sRet, sAsg, sPar, sPar3, sDrop, sBreak, sCont, sOwn, sFor, sForI, sWhile, dNot, dB, dAnd, dOr, dAndV, dOrV, dNotV, dIf, dCall, dCallK, dCallP, dv, dc, dOp, dCmp, dCmpT, dUn, dNeg, dIsi, dLst, dTup, dRev, dSlice, dChain, dChainT, dApp, dSortedO, dNotInO, dCnt, dGet_t0, dGet_t1, dGet_t2, dGet_l0, dGet_l1, dLc, dYes, aCons, aNil, aStar, oNo, oIs, tTupD, tsCons, tsNil, tn, iSeq, iEnumD, iRng1D, iRng2D, bI, bIsN, bNotN, dI20, dI2, dLen, dTupF, dListF, dInt1, dII, dRepr, dSorted, isDeck, isOwn, freeSlot, endD, startD, startK, startL, List.map, List.length, List.replicate, List.cons_append, List.nil_append, List.append_nil, List.getElem?_cons_succ, List.getElem?_cons_zero, Nat.reduceAdd, Nat.reduceSub, List.set, Bool.and_true, Bool.true_and, Bool.and_false, Bool.false_and, Bool.not_true, Bool.not_false, Nat.reduceBEq, beq_self_eq_true, reduceIte, reduceCtorEq, isNoneD, wipeD, freeAll, List.all_cons, List.all_nil, Kt.at0, Kt.at1, Kt.at2, true_and, and_true, List.getElem?_cons_succ]
      refine bNe_int ?_
      have hbn : (bdOf ps os hnd).n = ps.length := rfl
      by_cases hx : xs.length = ps.length
      · rw [decide_eq_true (show ((xs.length : Nat) : Int) = ((os.map oD).length : Nat) by rw [List.length_map]; omega)]
        have k : A (match asBools xs with | some bs => setErr (bdOf ps os hnd) bs | none => .str "form") := by
          rw [dueD_tup, hbn, if_pos hx] at k
          exact k
        simp only [sSeq, sCut, sIf, sNext, sRet, sAsg, sPar, sPar3, sDrop, sBreak, sCont, sOwn, sFor, sForI, sWhile, dNot, dB, dAnd, dOr, dAndV, dOrV, dNotV, dIf, dCall, dCallK, dCallP, dv, dc, dOp, dCmp, dCmpT, dUn, dNeg, dIsi, dLst, dTup, dRev, dSlice, dChain, dChainT, dApp, dSortedO, dNotInO, dCnt, dGet_t0, dGet_t1, dGet_t2, dGet_l0, dGet_l1, dLc, dYes, aCons, aNil, aStar, oNo, oIs, tTupD, tsCons, tsNil, tn, iSeq, iEnumD, iRng1D, iRng2D, bI, bIsN, bNotN, dI20, dI2, dLen, dTupF, dListF, dInt1, dII, dRepr, dSorted, isDeck, isOwn, freeSlot, endD, startD, startK, startL, List.map, List.length, List.replicate, List.cons_append, List.nil_append, List.append_nil, List.getElem?_cons_succ, List.getElem?_cons_zero, Nat.reduceAdd, Nat.reduceSub, List.set, Bool.and_true, Bool.true_and, Bool.and_false, Bool.false_and, Bool.not_true, Bool.not_false, Nat.reduceBEq, beq_self_eq_true, reduceIte, reduceCtorEq, isNoneD, wipeD, freeAll, List.all_cons, List.all_nil, Kt.at0, Kt.at1, Kt.at2, true_and, and_true, List.getElem?_cons_succ]
        refine lc_fm (fun d => if isBoolD d then none else some (.int 1)) (fun d hd B hB => ?_) (by simp; omega) ?_
        · simp only [sSeq, sCut, sIf, sNext, sRet, sAsg, sPar, sPar3, sDrop, sBreak, sCont, sOwn, sFor, sForI, sWhile, dNot, dB, dAnd, dOr, dAndV, dOrV, dNotV, dIf, dCall, dCallK, dCallP, dv, dc, dOp, dCmp, dCmpT, dUn, dNeg, dIsi, dLst, dTup, dRev, dSlice, dChain, dChainT, dApp, dSortedO, dNotInO, dCnt, dGet_t0, dGet_t1, dGet_t2, dGet_l0, dGet_l1, dLc, dYes, aCons, aNil, aStar, oNo, oIs, tTupD, tsCons, tsNil, tn, iSeq, iEnumD, iRng1D, iRng2D, bI, bIsN, bNotN, dI20, dI2, dLen, dTupF, dListF, dInt1, dII, dRepr, dSorted, isDeck, isOwn, freeSlot, endD, startD, startK, startL, List.map, List.length, List.replicate, List.cons_append, List.nil_append, List.append_nil, List.getElem?_cons_succ, List.getElem?_cons_zero, Nat.reduceAdd, Nat.reduceSub, List.set, Bool.and_true, Bool.true_and, Bool.and_false, Bool.false_and, Bool.not_true, Bool.not_false, Nat.reduceBEq, beq_self_eq_true, reduceIte, reduceCtorEq, isNoneD, wipeD, freeAll, List.all_cons, List.all_nil, Kt.at0, Kt.at1, Kt.at2, true_and, and_true, List.getElem?_cons_succ, turnD]
          cases e : isBoolD d with
          | true => rw [e] at hB; exact hB
          | false => rw [e] at hB; exact hB
        · rw [List.nil_append, no_bools]
          refine ⟨Nat.zero_le _, bNe_nilI ?_⟩
          cases hc : xs.countP fun d => !isBoolD d with
          | succ m =>
            rw [List.replicate_succ]
            simp only [sSeq, sCut, sIf, sNext, sRet, sAsg, sPar, sPar3, sDrop, sBreak, sCont, sOwn, sFor, sForI, sWhile, dNot, dB, dAnd, dOr, dAndV, dOrV, dNotV, dIf, dCall, dCallK, dCallP, dv, dc, dOp, dCmp, dCmpT, dUn, dNeg, dIsi, dLst, dTup, dRev, dSlice, dChain, dChainT, dApp, dSortedO, dNotInO, dCnt, dGet_t0, dGet_t1, dGet_t2, dGet_l0, dGet_l1, dLc, dYes, aCons, aNil, aStar, oNo, oIs, tTupD, tsCons, tsNil, tn, iSeq, iEnumD, iRng1D, iRng2D, bI, bIsN, bNotN, dI20, dI2, dLen, dTupF, dListF, dInt1, dII, dRepr, dSorted, isDeck, isOwn, freeSlot, endD, startD, startK, startL, List.map, List.length, List.replicate, List.cons_append, List.nil_append, List.append_nil, List.getElem?_cons_succ, List.getElem?_cons_zero, Nat.reduceAdd, Nat.reduceSub, List.set, Bool.and_true, Bool.true_and, Bool.and_false, Bool.false_and, Bool.not_true, Bool.not_false, Nat.reduceBEq, beq_self_eq_true, reduceIte, reduceCtorEq, isNoneD, wipeD, freeAll, List.all_cons, List.all_nil, Kt.at0, Kt.at1, Kt.at2, true_and, and_true, List.getElem?_cons_succ, List.isEmpty_cons]
            obtain ⟨d, hd, hn⟩ := List.countP_pos_iff.mp (show 0 < xs.countP fun d => !isBoolD d by omega)
            rw [asBools_no hd (by simpa using hn)] at k
            exact k
          | zero =>
            rw [List.replicate_zero]
            simp only [sSeq, sCut, sIf, sNext, sRet, sAsg, sPar, sPar3, sDrop, sBreak, sCont, sOwn, sFor, sForI, sWhile, dNot, dB, dAnd, dOr, dAndV, dOrV, dNotV, dIf, dCall, dCallK, dCallP, dv, dc, dOp, dCmp, dCmpT, dUn, dNeg, dIsi, dLst, dTup, dRev, dSlice, dChain, dChainT, dApp, dSortedO, dNotInO, dCnt, dGet_t0, dGet_t1, dGet_t2, dGet_l0, dGet_l1, dLc, dYes, aCons, aNil, aStar, oNo, oIs, tTupD, tsCons, tsNil, tn, iSeq, iEnumD, iRng1D, iRng2D, bI, bIsN, bNotN, dI20, dI2, dLen, dTupF, dListF, dInt1, dII, dRepr, dSorted, isDeck, isOwn, freeSlot, endD, startD, startK, startL, List.map, List.length, List.replicate, List.cons_append, List.nil_append, List.append_nil, List.getElem?_cons_succ, List.getElem?_cons_zero, Nat.reduceAdd, Nat.reduceSub, List.set, Bool.and_true, Bool.true_and, Bool.and_false, Bool.false_and, Bool.not_true, Bool.not_false, Nat.reduceBEq, beq_self_eq_true, reduceIte, reduceCtorEq, isNoneD, wipeD, freeAll, List.all_cons, List.all_nil, Kt.at0, Kt.at1, Kt.at2, true_and, and_true, List.getElem?_cons_succ, List.isEmpty_nil]
            obtain ⟨bs, rfl⟩ := asBools_all (ds := xs) fun d hd => by
              have := List.countP_eq_zero.mp hc d hd
              simpa using this
            rw [asBools_map] at k
            have hbl : bs.length = os.length := by rw [List.length_map] at hx; omega
            simp only [] at k
            refine ⟨by rw [List.length_map]; omega, fun j ρ => (∃ o3, ρ = [some (.dat (bdQ n rs cs ps)), some (.dat (.tuple (os.map oD))), some (.dat (.tuple (bs.map PyData.bool))), o3, none] ∧ freeSlot (some o3) = true) ∧ ∀ s, s < j → (Stl.rule (bdOf ps os hnd) (Vl bs) s != Vl bs s) = false, ⟨⟨none, rfl, rfl⟩, fun s hs => absurd hs (Nat.not_lt_zero _)⟩, ?_, ?_⟩
            · rintro j d ρ hd ⟨⟨o3, rfl, f3⟩, hall⟩
              obtain ⟨rfl, hj⟩ := rng_at hd
              have hj : j < ps.length := by rw [List.length_map] at hj; omega
              have hj2 : j < bs.length := by omega
              have ez : (0 : Int) + (j : Nat) = (j : Nat) := by omega
              simp only [freeSlot] at f3
              simp only [sSeq, sCut, sIf, sNext, sRet, sAsg, sPar, sPar3, sDrop, sBreak, sCont, sOwn, sFor, sForI, sWhile, dNot, dB, dAnd, dOr, dAndV, dOrV, dNotV, dIf, dCall, dCallK, dCallP, dv, dc, dOp, dCmp, dCmpT, dUn, dNeg, dIsi, dLst, dTup, dRev, dSlice, dChain, dChainT, dApp, dSortedO, dNotInO, dCnt, dGet_t0, dGet_t1, dGet_t2, dGet_l0, dGet_l1, dLc, dYes, aCons, aNil, aStar, oNo, oIs, tTupD, tsCons, tsNil, tn, iSeq, iEnumD, iRng1D, iRng2D, bI, bIsN, bNotN, dI20, dI2, dLen, dTupF, dListF, dInt1, dII, dRepr, dSorted, isDeck, isOwn, freeSlot, endD, startD, startK, startL, List.map, List.length, List.replicate, List.cons_append, List.nil_append, List.append_nil, List.getElem?_cons_succ, List.getElem?_cons_zero, Nat.reduceAdd, Nat.reduceSub, List.set, Bool.and_true, Bool.true_and, Bool.and_false, Bool.false_and, Bool.not_true, Bool.not_false, Nat.reduceBEq, beq_self_eq_true, reduceIte, reduceCtorEq, isNoneD, wipeD, freeAll, List.all_cons, List.all_nil, Kt.at0, Kt.at1, Kt.at2, true_and, and_true, List.getElem?_cons_succ, f3, g_law_rule, ez, get_bs hj2]
              refine ⟨n, rs, cs, ps, os, bs, j, hnd, rfl, rfl, rfl, rfl, hl, hbl, h24, vd, hj, ?_⟩
              refine bNe_bool ?_
              cases hr : Stl.rule (bdOf ps os hnd) (Vl bs) j != Vl bs j with
              | true =>
                have : setErr (bdOf ps os hnd) bs = .tuple [.str "order", .int (j : Nat)] := by
                  unfold setErr
                  rw [range_some (n := (bdOf ps os hnd).n) (j := j) hj hr hall]
                rw [this] at k
                exact ⟨by decide, k⟩
              | false =>
                refine ⟨⟨_, rfl, rfl⟩, fun s hs => ?_⟩
                by_cases z : s = j
                · rw [z]; exact hr
                · exact hall s (by omega)
            · rintro ρ ⟨_, hall⟩
              rw [rng_len] at hall
              have : setErr (bdOf ps os hnd) bs = .none := by
                unfold setErr
                rw [range_none fun j hj => hall j (by rw [List.length_map]; have : j < ps.length := hj; omega)]
              rw [this] at k
              exact k
      · rw [decide_eq_false (show ¬ ((xs.length : Nat) : Int) = ((os.map oD).length : Nat) by rw [List.length_map]; omega)]
        rw [dueD_tup, hbn, if_neg hx] at k
        exact k
end Dl

set_option Elab.async false
set_option linter.all false
set_option maxRecDepth 100000
set_option maxHeartbeats 4000000
namespace Dl
open PySem PySem.Spec PyProof.Rows L2 Kt
def twoB (x : List Bool) : List (List Bool) := [x ++ [false], x ++ [true]]
def allT : Nat → List (List Bool)
  | 0 => [[]]
  | k + 1 => (allT k).flatMap twoB
def btD (bs : List Bool) : PyData := .tuple (bs.map PyData.bool)
theorem allT_len : ∀ k, (allT k).length = 2 ^ k
  | 0 => rfl
  | k + 1 => by
    have : ∀ l : List (List Bool), (l.flatMap twoB).length = 2 * l.length := fun l => by
      induction l with
      | nil => rfl
      | cons x l ih => rw [List.flatMap_cons, List.length_append, ih]; simp [twoB]; omega
    show ((allT k).flatMap twoB).length = _
    rw [this, allT_len k, Nat.pow_succ]
    omega
theorem allT_item : ∀ {k : Nat} {x : List Bool}, x ∈ allT k → x.length = k
  | 0, x, h => by rw [List.mem_singleton.mp h]; rfl
  | k + 1, x, h => by
    obtain ⟨y, hy, hx⟩ := List.mem_flatMap.mp h
    have := allT_item hy
    unfold twoB at hx
    rcases List.mem_cons.mp hx with z | z
    · rw [z]; simp [this]
    · rw [List.mem_singleton.mp z]; simp [this]
theorem allT_all : ∀ {k : Nat} {x : List Bool}, x.length = k → x ∈ allT k
  | 0, x, h => by rw [List.eq_nil_of_length_eq_zero h]; exact List.mem_singleton.mpr rfl
  | k + 1, x, h => by
    have hne : x ≠ [] := fun z => by rw [z] at h; cases h
    have e := List.dropLast_concat_getLast hne
    refine List.mem_flatMap.mpr ⟨x.dropLast, allT_all (by simp [h]), ?_⟩
    unfold twoB
    rw [← e]
    cases x.getLast hne <;> simp
def g_law_all_tuples : RDn := fun ds A => match ds with
  | [.int m] => (0 ≤ m ∧ m ≤ 16) ∧ A (.list ((allT m.toNat).map btD))
  | _ => False
theorem pow_le16 {k : Nat} (h : k ≤ 16) : 2 ^ k ≤ 65536 := Nat.pow_le_pow_right (n := 2) (by decide) h
theorem rd_law_all_tuples : ∀ ds A, g_law_all_tuples ds A → ds.length = 1 ∧ t_law_all_tuples (endD A) (startD n_law_all_tuples ds) := by
  intro ds A h
  match ds, h with
  | [.int m], h =>
    refine ⟨rfl, ?_⟩
    obtain ⟨⟨m0, m1⟩, k⟩ := h
    have sz : (70000 : Nat) ≤ SZ := by decide
    simp only [sSeq, sCut, sIf, sNext, sRet, sAsg, sPar, sPar3, sDrop, sBreak, sCont, sOwn, sFor, sForI, sWhile, dNot, dB, dAnd, dOr, dAndV, dOrV, dNotV, dIf, dCall, dCallK, dCallP, dv, dc, dOp, dCmp, dCmpT, dUn, dNeg, dIsi, dLst, dTup, dRev, dSlice, dChain, dChainT, dApp, dSortedO, dNotInO, dCnt, sFrz, frzD, sOwnL, sOwnAdd, sParO, List.foldl_cons, List.foldl_nil, dAll, dAny, boolsD_map, dGet_t0, dGet_t1, dGet_t2, dGet_l0, dGet_l1, dLc, dYes, aCons, aNil, aStar, oNo, oIs, tTupD, tsCons, tsNil, tn, iSeq, iEnumD, iRng1D, iRng2D, bI, bIsN, bNotN, dI20, dI2, dLen, dTupF, dListF, dInt1, dII, dRepr, dSorted, isDeck, isOwn, freeSlot, endD, startD, startK, startL, List.map, List.length, List.replicate, List.cons_append, List.nil_append, List.append_nil, List.getElem?_cons_succ, List.getElem?_cons_zero, Nat.reduceAdd, Nat.reduceSub, List.set, Bool.and_true, Bool.true_and, Bool.and_false, Bool.false_and, Bool.not_true, Bool.not_false, Nat.reduceBEq, beq_self_eq_true, reduceIte, reduceCtorEq, isNoneD, wipeD, freeAll, List.all_cons, List.all_nil, Kt.at0, Kt.at1, Kt.at2, true_and, and_true, List.getElem?_cons_succ, t_law_all_tuples, n_law_all_tuples]
    refine ⟨by decide, by decide, by omega, fun j ρ => ∃ o2 o3 o4, ρ = [some (.dat (.int m)), some (.dat (.list ((allT j).map btD))), o2, o3, o4] ∧ freeSlot (some o2) = true ∧ freeSlot (some o3) = true ∧ freeSlot (some o4) = true, ⟨none, none, none, rfl, rfl, rfl, rfl⟩, ?_, ?_⟩
    · rintro j d ρ hd ⟨o2, o3, o4, rfl, f2, f3, f4⟩
      obtain ⟨rfl, hj⟩ := rng_at hd
      simp only [freeSlot] at f2 f3 f4
      simp only [sSeq, sCut, sIf, sNext, sRet, sAsg, sPar, sPar3, sDrop, sBreak, sCont, sOwn, sFor, sForI, sWhile, dNot, dB, dAnd, dOr, dAndV, dOrV, dNotV, dIf, dCall, dCallK, dCallP, dv, dc, dOp, dCmp, dCmpT, dUn, dNeg, dIsi, dLst, dTup, dRev, dSlice, dChain, dChainT, dApp, dSortedO, dNotInO, dCnt, sFrz, frzD, sOwnL, sOwnAdd, sParO, List.foldl_cons, List.foldl_nil, dAll, dAny, boolsD_map, dGet_t0, dGet_t1, dGet_t2, dGet_l0, dGet_l1, dLc, dYes, aCons, aNil, aStar, oNo, oIs, tTupD, tsCons, tsNil, tn, iSeq, iEnumD, iRng1D, iRng2D, bI, bIsN, bNotN, dI20, dI2, dLen, dTupF, dListF, dInt1, dII, dRepr, dSorted, isDeck, isOwn, freeSlot, endD, startD, startK, startL, List.map, List.length, List.replicate, List.cons_append, List.nil_append, List.append_nil, List.getElem?_cons_succ, List.getElem?_cons_zero, Nat.reduceAdd, Nat.reduceSub, List.set, Bool.and_true, Bool.true_and, Bool.and_false, Bool.false_and, Bool.not_true, Bool.not_false, Nat.reduceBEq, beq_self_eq_true, reduceIte, reduceCtorEq, isNoneD, wipeD, freeAll, List.all_cons, List.all_nil, Kt.at0, Kt.at1, Kt.at2, true_and, and_true, List.getElem?_cons_succ, f2, f3, f4]
      refine ⟨by decide, fun i ρ => ∃ o4, ρ = [some (.dat (.int m)), some (.dat (.list ((((allT j).take i).flatMap twoB).map btD))), some (.dat (.int (0 + (j : Nat)))), some (.dat (.list ((allT j).map btD))), o4] ∧ freeSlot (some o4) = true, ⟨_, rfl, f4⟩, ?_, ?_⟩
      · rintro i d ρ hd ⟨o4, rfl, f4⟩
        rw [List.getElem?_map] at hd
        obtain ⟨x, hx, rfl⟩ := Option.map_eq_some_iff.mp hd
        have hi := (List.getElem?_eq_some_iff.mp hx).1
        have hxl := allT_item (List.mem_of_getElem? hx)
        have hp := pow_le16 (k := j) (by omega)
        rw [allT_len] at hi
        simp only [freeSlot] at f4
        have hl : ((((allT j).take i).flatMap twoB).map btD).length ≤ 2 * i := by
          rw [List.length_map]
          have : ∀ l : List (List Bool), (l.flatMap twoB).length = 2 * l.length := fun l => by
            induction l with
            | nil => rfl
            | cons x l ih => rw [List.flatMap_cons, List.length_append, ih]; simp [twoB]; omega
          rw [this]
          have := List.length_take_le i (allT j)
          omega
        have hj2 : 2 ^ (j + 1) ≤ 65536 := pow_le16 (by omega)
        rw [Nat.pow_succ] at hj2
        have e : ((allT j).take (i + 1)).flatMap twoB = ((allT j).take i).flatMap twoB ++ twoB x := by
          rw [List.take_add_one, hx, List.flatMap_append]
          simp
        unfold btD
        simp only [sSeq, sCut, sIf, sNext, sRet, sAsg, sPar, sPar3, sDrop, sBreak, sCont, sOwn, sFor, sForI, sWhile, dNot, dB, dAnd, dOr, dAndV, dOrV, dNotV, dIf, dCall, dCallK, dCallP, dv, dc, dOp, dCmp, dCmpT, dUn, dNeg, dIsi, dLst, dTup, dRev, dSlice, dChain, dChainT, dApp, dSortedO, dNotInO, dCnt, sFrz, frzD, sOwnL, sOwnAdd, sParO, List.foldl_cons, List.foldl_nil, dAll, dAny, boolsD_map, dGet_t0, dGet_t1, dGet_t2, dGet_l0, dGet_l1, dLc, dYes, aCons, aNil, aStar, oNo, oIs, tTupD, tsCons, tsNil, tn, iSeq, iEnumD, iRng1D, iRng2D, bI, bIsN, bNotN, dI20, dI2, dLen, dTupF, dListF, dInt1, dII, dRepr, dSorted, isDeck, isOwn, freeSlot, endD, startD, startK, startL, List.map, List.length, List.replicate, List.cons_append, List.nil_append, List.append_nil, List.getElem?_cons_succ, List.getElem?_cons_zero, Nat.reduceAdd, Nat.reduceSub, List.set, Bool.and_true, Bool.true_and, Bool.and_false, Bool.false_and, Bool.not_true, Bool.not_false, Nat.reduceBEq, beq_self_eq_true, reduceIte, reduceCtorEq, isNoneD, wipeD, freeAll, List.all_cons, List.all_nil, Kt.at0, Kt.at1, Kt.at2, true_and, and_true, List.getElem?_cons_succ, f4, dAdd]
        have hx2 : (x.map PyData.bool).length + 1 ≤ SZ := by rw [List.length_map]; omega
        refine ⟨by decide, hx2, by decide, hx2, by decide, ?_, some (.dat (.tuple (x.map PyData.bool))), ?_, rfl⟩
        · have hl : (List.map (fun bs => PyData.tuple (List.map PyData.bool bs)) (List.flatMap twoB (List.take i (allT j)))).length ≤ 2 * i := hl
          omega
        · rw [e, List.map_append]
          have : (twoB x).map (fun bs => PyData.tuple (bs.map PyData.bool)) = [.tuple (x.map PyData.bool ++ [.bool false]), .tuple (x.map PyData.bool ++ [.bool true])] := by simp [twoB]
          rw [this]
      · rintro ρ ⟨o4, rfl, f4⟩
        rw [List.length_map, List.take_length]
        exact ⟨_, _, _, rfl, rfl, rfl, f4⟩
    · rintro ρ ⟨o2, o3, o4, rfl, f2, f3, f4⟩
      rw [rng_len]
      exact k
end Dl

set_option Elab.async false
set_option linter.all false
set_option maxRecDepth 100000
set_option maxHeartbeats 4000000
/-! the rules look at the places that there are -/
namespace Kt.Stl
variable (b : Bd)
theorem helps_congr {B B' : Nat → Bool} (h : ∀ x, x < b.n → B x = B' x) {i x : Nat} (hx : x < b.n) : helps b B i x = helps b B' i x := by unfold helps; rw [h x hx]
theorem nh_congr {B B' : Nat → Bool} (h : ∀ x, x < b.n → B x = B' x) (i : Nat) : nh b B i = nh b B' i := by
  unfold nh
  exact List.countP_congr fun x hx => by rw [helps_congr b h (List.mem_range.mp hx)]
theorem nhY_congr {B B' : Nat → Bool} (h : ∀ x, x < b.n → B x = B' x) (i : Nat) (y : Int) : nhY b B i y = nhY b B' i y := by
  unfold nhY
  exact List.countP_congr fun x hx => by rw [helps_congr b h (List.mem_range.mp hx)]
theorem beats_congr {B B' : Nat → Bool} (h : ∀ x, x < b.n → B x = B' x) (i : Nat) (g : Int) (t : Nat) (r : Option Int) : beats b B i g t r = beats b B' i g t r := by
  unfold beats
  exact Kt.all_congr_m fun x hx => by rw [nh_congr b h]
theorem wins_congr {B B' W W' : Nat → Bool} (h : ∀ x, x < b.n → B x = B' x) (hw : ∀ x, x < b.n → W x = W' x) (i : Nat) : wins b B W i = wins b B' W' i := by
  unfold wins
  cases b.O i with
  | stay => rfl
  | back f g => rfl
  | go g =>
    simp only
    cases e : plc b g with
    | none => simp only; rw [nh_congr b h, beats_congr b h]
    | some j =>
      simp only
      rw [nh_congr b h i, nh_congr b h j, nhY_congr b h, hw j (plc_some b e).1, beats_congr b h, beats_congr b h]
theorem holds_congr {W W' : Nat → Bool} (hw : ∀ x, x < b.n → W x = W' x) (i : Nat) : holdsBack b W i = holdsBack b W' i := by
  unfold holdsBack
  congr 1
  exact Kt.all_congr_m fun x hx => by rw [hw x (List.mem_range.mp hx)]
theorem rule_congr {v v' : Nat → Bool} (h : ∀ x, x < b.n → v x = v' x) (i : Nat) : rule b v i = rule b v' i := by
  unfold rule
  cases b.O i with
  | stay => rfl
  | go g => exact wins_congr b (fun x hx => by rw [h x hx]) (fun x hx => by rw [h x hx]) i
  | back f g => exact holds_congr b (fun x hx => by rw [h x hx]) i
/-- some bools keep all rules -/
theorem some_keeps : ∃ val : Nat → Bool, ∀ i, i < b.n → rule b val i = val i := by
  obtain ⟨k, hk⟩ := iter_end b (found b)
  exact ⟨_, settled_keeps b (iter_fin b hk)⟩
end Kt.Stl

set_option Elab.async false
set_option linter.all false
set_option maxRecDepth 100000
set_option maxHeartbeats 4000000
namespace Dl
open PySem PySem.Spec PyProof.Rows L2 Kt
theorem some_bools (b : Stl.Bd) : ∃ x : List Bool, x.length = b.n ∧ setErr b x = .none := by
  obtain ⟨val, h⟩ := Stl.some_keeps b
  refine ⟨(List.range b.n).map val, by simp, ?_⟩
  have e : ∀ x, x < b.n → Vl ((List.range b.n).map val) x = val x := fun x hx => by
    show ((List.range b.n).map val).getD x false = val x
    rw [List.getD_eq_getElem?_getD, List.getElem?_map, List.getElem?_range hx]
    rfl
  unfold setErr
  rw [range_none fun j hj => ?_]
  rw [Stl.rule_congr b e, h j hj, e j hj]
  simp
/-- fields near a field -/
theorem bes_fld {n : Int} {rs : List (Int × Int)} {cs : List Int} (ok : ChartOk n rs cs) {f g : Int} (h : g ∈ bes rs f) : (0 ≤ g ∧ g < n) ∧ g ≠ f := by
  obtain ⟨r, hr, h⟩ := bes_mem.mp h
  have := ok.r r hr
  omega
theorem vd_of {n : Int} {rs : List (Int × Int)} {cs : List Int} {ps : List (Int × Int)} {os : List Ord} (ok : ChartOk n rs cs) (oo : OrdsOk rs ps os) : VdO ps os := by
  have hl := oo.1
  refine ⟨fun i f g hi e => ?_, fun i g hi e => ?_⟩
  · have := oo.2 i _ _ (or_get (by omega)) (fd_at hi)
    rw [e] at this
    exact ⟨this.1, this.2.1⟩
  · have := oo.2 i _ _ (or_get (by omega)) (fd_at hi)
    rw [e] at this
    exact (bes_fld ok this).2
theorem fi_ords {n : Int} {rs : List (Int × Int)} {cs : List Int} {ps : List (Int × Int)} {os : List Ord} (hn : n ≤ 24) (ok : ChartOk n rs cs) (op : PcOk n ps) (oo : OrdsOk rs ps os) (h24 : ps.length ≤ 24) : Fi 1000 2 (.tuple (os.map oD)) := by
  have hl := oo.1
  have h1 : FiA ((os.map oD).length * 41) 1 (os.map oD) := FiA.of fun x hx => by
    obtain ⟨o, ho, rfl⟩ := List.mem_map.mp hx
    obtain ⟨i, hi⟩ := List.mem_iff_getElem?.mp ho
    have hil := (List.getElem?_eq_some_iff.mp hi).1
    have hO := oo.2 i o _ hi (fd_at (by omega))
    have s1 : Fi 12 0 (.str "stay") := Fi.lit (by decide +kernel)
    have s2 : Fi 12 0 (.str "go") := Fi.lit (by decide +kernel)
    have s3 : Fi 12 0 (.str "back") := Fi.lit (by decide +kernel)
    cases o with
    | stay =>
      unfold oD
      (apply Fi.le; (· (repeat (first | assumption | exact Fi.int ⟨by omega, by omega⟩ | exact FiA.nil (k := 0) (e := 0) | apply Fi.tup | apply Fi.lst | apply FiA.cons | apply FiA.app | apply FiA.cut | apply FiA.rev | exact Fi.lit (k := 2) (e := 0) (by decide +kernel) | exact Fi.lit (k := 110) (e := 2) (by decide +kernel)))); (· omega); (· omega))
    | go g =>
      have := (bes_fld ok hO).1
      have g1 : Fi 6 0 (.int g) := Fi.int ⟨by omega, by omega⟩
      unfold oD
      (apply Fi.le; (· (repeat (first | assumption | exact Fi.int ⟨by omega, by omega⟩ | exact FiA.nil (k := 0) (e := 0) | apply Fi.tup | apply Fi.lst | apply FiA.cons | apply FiA.app | apply FiA.cut | apply FiA.rev | exact Fi.lit (k := 2) (e := 0) (by decide +kernel) | exact Fi.lit (k := 110) (e := 2) (by decide +kernel)))); (· omega); (· omega))
    | back f g =>
      have h1 := (bes_fld ok hO.2.2.1).1
      obtain ⟨q, hq, hqf⟩ := List.mem_map.mp hO.1
      have h2 := op.fld q hq
      rw [hqf] at h2
      have g1 : Fi 6 0 (.int g) := Fi.int ⟨by omega, by omega⟩
      have g2 : Fi 6 0 (.int f) := Fi.int ⟨by omega, by omega⟩
      unfold oD
      (apply Fi.le; (· (repeat (first | assumption | exact Fi.int ⟨by omega, by omega⟩ | exact FiA.nil (k := 0) (e := 0) | apply Fi.tup | apply Fi.lst | apply FiA.cons | apply FiA.app | apply FiA.cut | apply FiA.rev | exact Fi.lit (k := 2) (e := 0) (by decide +kernel) | exact Fi.lit (k := 110) (e := 2) (by decide +kernel)))); (· omega); (· omega))
  rw [List.length_map] at h1
  exact (Fi.tup h1).le (by omega) (by omega)
theorem nodup_of {n : Int} {ps : List (Int × Int)} (op : PcOk n ps) : (ps.map (·.1)).Nodup := by
  unfold List.Nodup
  rw [List.pairwise_map]
  exact op.asc.imp fun h => by omega
theorem err_shw {b : Stl.Bd} (hb : b.n ≤ 24) (x : List Bool) : Shw (setErr b x) := by
  unfold setErr
  split
  · rename_i j e
    have hj := List.mem_range.mp (List.mem_of_find?_eq_some e)
    have g1 : Fi 6 0 (.int (j : Nat)) := Fi.int ⟨by omega, by omega⟩
    have s1 : Fi 20 0 (.str "order") := Fi.lit (by decide +kernel)
    refine Fi.shw (k := 100) (e := 2) ?_ (by decide) (by decide)
    (apply Fi.le; (· (repeat (first | assumption | exact Fi.int ⟨by omega, by omega⟩ | exact FiA.nil (k := 0) (e := 0) | apply Fi.tup | apply Fi.lst | apply FiA.cons | apply FiA.app | apply FiA.cut | apply FiA.rev | exact Fi.lit (k := 2) (e := 0) (by decide +kernel) | exact Fi.lit (k := 110) (e := 2) (by decide +kernel)))); (· omega); (· omega))
  · exact Fi.shw (k := 0) (e := 0) (Fi.lit (by decide +kernel)) (by decide) (by decide)
def LW (i : Nat) (ρ : Rho) : Prop := ∃ o2 o3 o4 o5 o6 o7 o8 o9 o10 : Option Dv, ρ = [none, some .deck, o2, o3, o4, o5, o6, o7, o8, o9, o10] ∧ freeSlot (some o2) = true ∧ freeSlot (some o3) = true ∧ freeSlot (some o4) = true ∧ freeSlot (some o5) = true ∧ freeSlot (some o6) = true ∧ freeSlot (some o7) = true ∧ freeSlot (some o8) = true ∧ freeSlot (some o9) = true ∧ freeSlot (some o10) = true
def LV (t a o kp : PyData) (b : Stl.Bd) (m : Nat) (i : Nat) (ρ : Rho) : Prop := ∃ (c : Nat) (o7 o8 o9 o10 : Option Dv), (ρ = [none, some .deck, some (.dat t), some (.dat a), some (.dat o), some (.dat kp), some (.dat (.int (c : Nat))), o7, o8, o9, o10] ∧ freeSlot (some o7) = true ∧ freeSlot (some o8) = true ∧ freeSlot (some o9) = true ∧ freeSlot (some o10) = true) ∧ ∀ j x, j < i → (allT m)[j]? = some x → setErr b x = .none → 0 < c
theorem rd_law : t_law g_law_board g_law_draw g_law_orders g_law_all_tuples g_law_settled_due g_settlement_error (endD fun d => d = .bool true) (startL n_law) := by
  simp only [sSeq, sCut, sIf, sNext, sRet, sAsg, sPar, sPar3, sDrop, sBreak, sCont, sOwn, sFor, sForI, sWhile, dNot, dB, dAnd, dOr, dAndV, dOrV, dNotV, dIf, dCall, dCallK, dCallP, dv, dc, dOp, dCmp, dCmpT, dUn, dNeg, dIsi, dLst, dTup, dRev, dSlice, dChain, dChainT, dApp, dSortedO, dNotInO, dCnt, dGet_t0, dGet_t1, dGet_t2, dGet_l0, dGet_l1, dLc, dYes, aCons, aNil, aStar, oNo, oIs, tTupD, tsCons, tsNil, tn, iSeq, iEnumD, iRng1D, iRng2D, bI, bIsN, bNotN, dI20, dI2, dLen, dTupF, dListF, dInt1, dII, dRepr, dSorted, isDeck, isOwn, freeSlot, endD, startD, startK, startL, List.map, List.length, List.replicate, List.cons_append, List.nil_append, List.append_nil, List.getElem?_cons_succ, List.getElem?_cons_zero, Nat.reduceAdd, Nat.reduceSub, List.set, Bool.and_true, Bool.true_and, Bool.and_false, Bool.false_and, Bool.not_true, Bool.not_false, Nat.reduceBEq, beq_self_eq_true, reduceIte, reduceCtorEq, isNoneD, wipeD, freeAll, List.all_cons, List.all_nil, Kt.at0, Kt.at1, Kt.at2, true_and, and_true, List.getElem?_cons_succ, t_law, n_law]
  refine ⟨by decide, LW, ⟨none, none, none, none, none, none, none, none, none, rfl, rfl, rfl, rfl, rfl, rfl, rfl, rfl, rfl, rfl⟩, ?_, ?_⟩
  · rintro turn d ρ hd ⟨o2, o3, o4, o5, o6, o7, o8, o9, o10, rfl, f2, f3, f4, f5, f6, f7, f8, f9, f10⟩
    obtain ⟨hd, ht⟩ := rng_at hd
    subst hd
    simp only [freeSlot] at f2 f3 f4 f5 f6 f7 f8 f9 f10
    simp only [sSeq, sCut, sIf, sNext, sRet, sAsg, sPar, sPar3, sDrop, sBreak, sCont, sOwn, sFor, sForI, sWhile, dNot, dB, dAnd, dOr, dAndV, dOrV, dNotV, dIf, dCall, dCallK, dCallP, dv, dc, dOp, dCmp, dCmpT, dUn, dNeg, dIsi, dLst, dTup, dRev, dSlice, dChain, dChainT, dApp, dSortedO, dNotInO, dCnt, dGet_t0, dGet_t1, dGet_t2, dGet_l0, dGet_l1, dLc, dYes, aCons, aNil, aStar, oNo, oIs, tTupD, tsCons, tsNil, tn, iSeq, iEnumD, iRng1D, iRng2D, bI, bIsN, bNotN, dI20, dI2, dLen, dTupF, dListF, dInt1, dII, dRepr, dSorted, isDeck, isOwn, freeSlot, endD, startD, startK, startL, List.map, List.length, List.replicate, List.cons_append, List.nil_append, List.append_nil, List.getElem?_cons_succ, List.getElem?_cons_zero, Nat.reduceAdd, Nat.reduceSub, List.set, Bool.and_true, Bool.true_and, Bool.and_false, Bool.false_and, Bool.not_true, Bool.not_false, Nat.reduceBEq, beq_self_eq_true, reduceIte, reduceCtorEq, isNoneD, wipeD, freeAll, List.all_cons, List.all_nil, Kt.at0, Kt.at1, Kt.at2, true_and, and_true, List.getElem?_cons_succ, f2, f3, f4, f5, f6, f7, f8, f9, f10, g_law_draw, dAdd]
    refine ⟨by decide, fun r r0 r1 => ⟨by decide, ?_⟩⟩
    have hm : ∀ A : PyData → Prop, (∀ m : Int, 0 ≤ m → m ≤ 6 → A (.int m)) → dGet (.list [.int 3, .int 4, .int 6]) (.int (0 + (turn : Nat))) A := fun A k => by
      have ez : (0 : Int) + (turn : Nat) = (turn : Nat) := by omega
      have h3 : turn < 3 := ht
      rw [ez]
      match turn, h3 with
      | 0, _ => rw [dGet_ln (x := .int 3) rfl]; exact k 3 (by decide) (by decide)
      | 1, _ => rw [dGet_ln (x := .int 4) rfl]; exact k 4 (by decide) (by decide)
      | 2, _ => rw [dGet_ln (x := .int 6) rfl]; exact k 6 (by decide) (by decide)
    refine hm _ fun m m0 m6 => ?_
    simp only [sSeq, sCut, sIf, sNext, sRet, sAsg, sPar, sPar3, sDrop, sBreak, sCont, sOwn, sFor, sForI, sWhile, dNot, dB, dAnd, dOr, dAndV, dOrV, dNotV, dIf, dCall, dCallK, dCallP, dv, dc, dOp, dCmp, dCmpT, dUn, dNeg, dIsi, dLst, dTup, dRev, dSlice, dChain, dChainT, dApp, dSortedO, dNotInO, dCnt, dGet_t0, dGet_t1, dGet_t2, dGet_l0, dGet_l1, dLc, dYes, aCons, aNil, aStar, oNo, oIs, tTupD, tsCons, tsNil, tn, iSeq, iEnumD, iRng1D, iRng2D, bI, bIsN, bNotN, dI20, dI2, dLen, dTupF, dListF, dInt1, dII, dRepr, dSorted, isDeck, isOwn, freeSlot, endD, startD, startK, startL, List.map, List.length, List.replicate, List.cons_append, List.nil_append, List.append_nil, List.getElem?_cons_succ, List.getElem?_cons_zero, Nat.reduceAdd, Nat.reduceSub, List.set, Bool.and_true, Bool.true_and, Bool.and_false, Bool.false_and, Bool.not_true, Bool.not_false, Nat.reduceBEq, beq_self_eq_true, reduceIte, reduceCtorEq, isNoneD, wipeD, freeAll, List.all_cons, List.all_nil, Kt.at0, Kt.at1, Kt.at2, true_and, and_true, List.getElem?_cons_succ, g_law_board]
    refine ⟨⟨by omega, by omega, m0⟩, fun rs cs ps ok lr lc op lp lp2 => ?_⟩
    simp only [sSeq, sCut, sIf, sNext, sRet, sAsg, sPar, sPar3, sDrop, sBreak, sCont, sOwn, sFor, sForI, sWhile, dNot, dB, dAnd, dOr, dAndV, dOrV, dNotV, dIf, dCall, dCallK, dCallP, dv, dc, dOp, dCmp, dCmpT, dUn, dNeg, dIsi, dLst, dTup, dRev, dSlice, dChain, dChainT, dApp, dSortedO, dNotInO, dCnt, dGet_t0, dGet_t1, dGet_t2, dGet_l0, dGet_l1, dLc, dYes, aCons, aNil, aStar, oNo, oIs, tTupD, tsCons, tsNil, tn, iSeq, iEnumD, iRng1D, iRng2D, bI, bIsN, bNotN, dI20, dI2, dLen, dTupF, dListF, dInt1, dII, dRepr, dSorted, isDeck, isOwn, freeSlot, endD, startD, startK, startL, List.map, List.length, List.replicate, List.cons_append, List.nil_append, List.append_nil, List.getElem?_cons_succ, List.getElem?_cons_zero, Nat.reduceAdd, Nat.reduceSub, List.set, Bool.and_true, Bool.true_and, Bool.and_false, Bool.false_and, Bool.not_true, Bool.not_false, Nat.reduceBEq, beq_self_eq_true, reduceIte, reduceCtorEq, isNoneD, wipeD, freeAll, List.all_cons, List.all_nil, Kt.at0, Kt.at1, Kt.at2, true_and, and_true, List.getElem?_cons_succ, g_law_orders]
    refine ⟨4 + r, rs, cs, ps, rfl, by omega, lp, fun os oo => ?_⟩
    have hl := oo.1
    have hnd := nodup_of op
    have vd := vd_of ok oo
    have hbn : (bdOf ps os hnd).n = ps.length := rfl
    have fch : Fi 1350 6 (bdQ (4 + r) rs cs ps) := fi_board ⟨by omega, by omega⟩ ok lr lc op lp
    have fos := fi_ords (n := 4 + r) (by omega) ok op oo lp
    have fall : Shw (.list [bdQ (4 + r) rs cs ps, .tuple (os.map oD)]) := by
      refine Fi.shw (k := 2400) (e := 7) ?_ (by decide) (by decide)
      (apply Fi.le; (· (repeat (first | assumption | exact Fi.int ⟨by omega, by omega⟩ | exact FiA.nil (k := 0) (e := 0) | apply Fi.tup | apply Fi.lst | apply FiA.cons | apply FiA.app | apply FiA.cut | apply FiA.rev | exact Fi.lit (k := 2) (e := 0) (by decide +kernel) | exact Fi.lit (k := 110) (e := 2) (by decide +kernel)))); (· omega); (· omega))
    simp only [sSeq, sCut, sIf, sNext, sRet, sAsg, sPar, sPar3, sDrop, sBreak, sCont, sOwn, sFor, sForI, sWhile, dNot, dB, dAnd, dOr, dAndV, dOrV, dNotV, dIf, dCall, dCallK, dCallP, dv, dc, dOp, dCmp, dCmpT, dUn, dNeg, dIsi, dLst, dTup, dRev, dSlice, dChain, dChainT, dApp, dSortedO, dNotInO, dCnt, dGet_t0, dGet_t1, dGet_t2, dGet_l0, dGet_l1, dLc, dYes, aCons, aNil, aStar, oNo, oIs, tTupD, tsCons, tsNil, tn, iSeq, iEnumD, iRng1D, iRng2D, bI, bIsN, bNotN, dI20, dI2, dLen, dTupF, dListF, dInt1, dII, dRepr, dSorted, isDeck, isOwn, freeSlot, endD, startD, startK, startL, List.map, List.length, List.replicate, List.cons_append, List.nil_append, List.append_nil, List.getElem?_cons_succ, List.getElem?_cons_zero, Nat.reduceAdd, Nat.reduceSub, List.set, Bool.and_true, Bool.true_and, Bool.and_false, Bool.false_and, Bool.not_true, Bool.not_false, Nat.reduceBEq, beq_self_eq_true, reduceIte, reduceCtorEq, isNoneD, wipeD, freeAll, List.all_cons, List.all_nil, Kt.at0, Kt.at1, Kt.at2, true_and, and_true, List.getElem?_cons_succ, g_law_all_tuples]
    refine ⟨by decide, fall, ⟨by omega, by rw [List.length_map]; omega⟩, ?_⟩
    rw [List.length_map, show ((os.length : Nat) : Int).toNat = ps.length by omega]
    refine ⟨LV (.int (0 + (turn : Nat))) (bdQ (4 + r) rs cs ps) (.tuple (os.map oD)) (.str (PyData.list [bdQ (4 + r) rs cs ps, .tuple (os.map oD)]).shown) (bdOf ps os hnd) ps.length, ⟨0, _, _, _, _, ⟨rfl, f7, f8, f9, f10⟩, fun j x hj => absurd hj (Nat.not_lt_zero _)⟩, ?_, ?_⟩
    · rintro i d ρ hd ⟨c, o7, o8, o9, o10, ⟨rfl, f7, f8, f9, f10⟩, hc⟩
      obtain ⟨y, hy, rfl⟩ := enumD_at hd
      rw [List.getElem?_map] at hy
      obtain ⟨x, hx, rfl⟩ := Option.map_eq_some_iff.mp hy
      have hxl := allT_item (List.mem_of_getElem? hx)
      simp only [freeSlot] at f7 f8 f9 f10
      simp only [sSeq, sCut, sIf, sNext, sRet, sAsg, sPar, sPar3, sDrop, sBreak, sCont, sOwn, sFor, sForI, sWhile, dNot, dB, dAnd, dOr, dAndV, dOrV, dNotV, dIf, dCall, dCallK, dCallP, dv, dc, dOp, dCmp, dCmpT, dUn, dNeg, dIsi, dLst, dTup, dRev, dSlice, dChain, dChainT, dApp, dSortedO, dNotInO, dCnt, dGet_t0, dGet_t1, dGet_t2, dGet_l0, dGet_l1, dLc, dYes, aCons, aNil, aStar, oNo, oIs, tTupD, tsCons, tsNil, tn, iSeq, iEnumD, iRng1D, iRng2D, bI, bIsN, bNotN, dI20, dI2, dLen, dTupF, dListF, dInt1, dII, dRepr, dSorted, isDeck, isOwn, freeSlot, endD, startD, startK, startL, List.map, List.length, List.replicate, List.cons_append, List.nil_append, List.append_nil, List.getElem?_cons_succ, List.getElem?_cons_zero, Nat.reduceAdd, Nat.reduceSub, List.set, Bool.and_true, Bool.true_and, Bool.and_false, Bool.false_and, Bool.not_true, Bool.not_false, Nat.reduceBEq, beq_self_eq_true, reduceIte, reduceCtorEq, isNoneD, wipeD, freeAll, List.all_cons, List.all_nil, Kt.at0, Kt.at1, Kt.at2, true_and, and_true, List.getElem?_cons_succ, f7, f8, f9, f10, g_law_settled_due, g_settlement_error, permL]
      have hdue : dueD (bdOf ps os hnd) (btD x) = setErr (bdOf ps os hnd) x := by
        unfold btD
        rw [dueD_tup, if_pos (by rw [List.length_map, hbn]; exact hxl), asBools_map]
      refine ⟨4 + r, rs, cs, ps, os, hnd, rfl, rfl, hl, lp, vd, ?_⟩
      rw [hdue]
      refine ⟨4 + r, rs, cs, ps, os, x, hnd, rfl, rfl, rfl, hl, by omega, lp, vd, ?_⟩
      have hs := err_shw (b := bdOf ps os hnd) (by rw [hbn]; exact lp) x
      generalize hkp : PyData.str (PyData.list [bdQ (4 + r) rs cs ps, .tuple (os.map oD)]).shown = kp at *
      refine ⟨fun ρ => ρ = [none, some .deck, some (.dat (.int (0 + (turn : Nat)))), some (.dat (bdQ (4 + r) rs cs ps)), some (.dat (.tuple (os.map oD))), some (.dat kp), some (.dat (.int (c : Nat))), some (.dat (.int (i : Nat))), some (.dat (btD x)), some (.dat (setErr (bdOf ps os hnd) x)), some (.dat (setErr (bdOf ps os hnd) x))], ?_, ?_⟩
      · refine ⟨by decide, bEq_int ?_⟩
        cases e : decide (((i : Nat) : Int) % 7 = 1) with
        | false => rfl
        | true =>
          simp only [sSeq, sCut, sIf, sNext, sRet, sAsg, sPar, sPar3, sDrop, sBreak, sCont, sOwn, sFor, sForI, sWhile, dNot, dB, dAnd, dOr, dAndV, dOrV, dNotV, dIf, dCall, dCallK, dCallP, dv, dc, dOp, dCmp, dCmpT, dUn, dNeg, dIsi, dLst, dTup, dRev, dSlice, dChain, dChainT, dApp, dSortedO, dNotInO, dCnt, dGet_t0, dGet_t1, dGet_t2, dGet_l0, dGet_l1, dLc, dYes, aCons, aNil, aStar, oNo, oIs, tTupD, tsCons, tsNil, tn, iSeq, iEnumD, iRng1D, iRng2D, bI, bIsN, bNotN, dI20, dI2, dLen, dTupF, dListF, dInt1, dII, dRepr, dSorted, isDeck, isOwn, freeSlot, endD, startD, startK, startL, List.map, List.length, List.replicate, List.cons_append, List.nil_append, List.append_nil, List.getElem?_cons_succ, List.getElem?_cons_zero, Nat.reduceAdd, Nat.reduceSub, List.set, Bool.and_true, Bool.true_and, Bool.and_false, Bool.false_and, Bool.not_true, Bool.not_false, Nat.reduceBEq, beq_self_eq_true, reduceIte, reduceCtorEq, isNoneD, wipeD, freeAll, List.all_cons, List.all_nil, Kt.at0, Kt.at1, Kt.at2, true_and, and_true, List.getElem?_cons_succ]
          exact ⟨4 + r, rs, cs, ps, os, x, hnd, rfl, rfl, rfl, hl, by omega, lp, vd, rfl⟩
      · rintro ρ rfl
        simp only [sSeq, sCut, sIf, sNext, sRet, sAsg, sPar, sPar3, sDrop, sBreak, sCont, sOwn, sFor, sForI, sWhile, dNot, dB, dAnd, dOr, dAndV, dOrV, dNotV, dIf, dCall, dCallK, dCallP, dv, dc, dOp, dCmp, dCmpT, dUn, dNeg, dIsi, dLst, dTup, dRev, dSlice, dChain, dChainT, dApp, dSortedO, dNotInO, dCnt, dGet_t0, dGet_t1, dGet_t2, dGet_l0, dGet_l1, dLc, dYes, aCons, aNil, aStar, oNo, oIs, tTupD, tsCons, tsNil, tn, iSeq, iEnumD, iRng1D, iRng2D, bI, bIsN, bNotN, dI20, dI2, dLen, dTupF, dListF, dInt1, dII, dRepr, dSorted, isDeck, isOwn, freeSlot, endD, startD, startK, startL, List.map, List.length, List.replicate, List.cons_append, List.nil_append, List.append_nil, List.getElem?_cons_succ, List.getElem?_cons_zero, Nat.reduceAdd, Nat.reduceSub, List.set, Bool.and_true, Bool.true_and, Bool.and_false, Bool.false_and, Bool.not_true, Bool.not_false, Nat.reduceBEq, beq_self_eq_true, reduceIte, reduceCtorEq, isNoneD, wipeD, freeAll, List.all_cons, List.all_nil, Kt.at0, Kt.at1, Kt.at2, true_and, and_true, List.getElem?_cons_succ, dAdd]
        refine ⟨hs, hs, bNe_same ?_⟩
        simp only [sSeq, sCut, sIf, sNext, sRet, sAsg, sPar, sPar3, sDrop, sBreak, sCont, sOwn, sFor, sForI, sWhile, dNot, dB, dAnd, dOr, dAndV, dOrV, dNotV, dIf, dCall, dCallK, dCallP, dv, dc, dOp, dCmp, dCmpT, dUn, dNeg, dIsi, dLst, dTup, dRev, dSlice, dChain, dChainT, dApp, dSortedO, dNotInO, dCnt, dGet_t0, dGet_t1, dGet_t2, dGet_l0, dGet_l1, dLc, dYes, aCons, aNil, aStar, oNo, oIs, tTupD, tsCons, tsNil, tn, iSeq, iEnumD, iRng1D, iRng2D, bI, bIsN, bNotN, dI20, dI2, dLen, dTupF, dListF, dInt1, dII, dRepr, dSorted, isDeck, isOwn, freeSlot, endD, startD, startK, startL, List.map, List.length, List.replicate, List.cons_append, List.nil_append, List.append_nil, List.getElem?_cons_succ, List.getElem?_cons_zero, Nat.reduceAdd, Nat.reduceSub, List.set, Bool.and_true, Bool.true_and, Bool.and_false, Bool.false_and, Bool.not_true, Bool.not_false, Nat.reduceBEq, beq_self_eq_true, reduceIte, reduceCtorEq, isNoneD, wipeD, freeAll, List.all_cons, List.all_nil, Kt.at0, Kt.at1, Kt.at2, true_and, and_true, List.getElem?_cons_succ]
        have en : ∀ j, j < i + 1 → j < i ∨ j = i := fun j h => by omega
        by_cases e : setErr (bdOf ps os hnd) x = .none
        · simp only [e]
          refine ⟨c + 1, _, _, _, _, ⟨rfl, rfl, rfl, rfl, rfl⟩, fun j y _ _ _ => Nat.succ_pos _⟩
        · have key : (if isNoneD (setErr (bdOf ps os hnd) x) = true then (1 : Int) else 0) = 0 := by
            cases h : setErr (bdOf ps os hnd) x <;> first | rfl | exact absurd h e
          simp only [isNoneD] at key
          simp only [key]
          refine ⟨c, _, _, _, _, ⟨by rw [Int.add_zero], rfl, rfl, rfl, rfl⟩, fun j y hj hyy hn => ?_⟩
          rcases en j hj with h | h
          · exact hc j y h hyy hn
          · subst h
            rw [hx] at hyy
            rw [← Option.some.inj hyy] at hn
            exact absurd hn e
    · rintro ρ ⟨c, o7, o8, o9, o10, ⟨rfl, f7, f8, f9, f10⟩, hc⟩
      rw [enumD_len, List.length_map] at hc
      have hpos : 0 < c := by
        obtain ⟨x, hx, he⟩ := some_bools (bdOf ps os hnd)
        obtain ⟨j, hj⟩ := List.mem_iff_getElem?.mp (allT_all (k := ps.length) hx)
        exact hc j x (List.getElem?_eq_some_iff.mp hj).1 hj he
      simp only [sSeq, sCut, sIf, sNext, sRet, sAsg, sPar, sPar3, sDrop, sBreak, sCont, sOwn, sFor, sForI, sWhile, dNot, dB, dAnd, dOr, dAndV, dOrV, dNotV, dIf, dCall, dCallK, dCallP, dv, dc, dOp, dCmp, dCmpT, dUn, dNeg, dIsi, dLst, dTup, dRev, dSlice, dChain, dChainT, dApp, dSortedO, dNotInO, dCnt, dGet_t0, dGet_t1, dGet_t2, dGet_l0, dGet_l1, dLc, dYes, aCons, aNil, aStar, oNo, oIs, tTupD, tsCons, tsNil, tn, iSeq, iEnumD, iRng1D, iRng2D, bI, bIsN, bNotN, dI20, dI2, dLen, dTupF, dListF, dInt1, dII, dRepr, dSorted, isDeck, isOwn, freeSlot, endD, startD, startK, startL, List.map, List.length, List.replicate, List.cons_append, List.nil_append, List.append_nil, List.getElem?_cons_succ, List.getElem?_cons_zero, Nat.reduceAdd, Nat.reduceSub, List.set, Bool.and_true, Bool.true_and, Bool.and_false, Bool.false_and, Bool.not_true, Bool.not_false, Nat.reduceBEq, beq_self_eq_true, reduceIte, reduceCtorEq, isNoneD, wipeD, freeAll, List.all_cons, List.all_nil, Kt.at0, Kt.at1, Kt.at2, true_and, and_true, List.getElem?_cons_succ]
      refine bEq_int ?_
      rw [decide_eq_false (show ¬ ((c : Nat) : Int) = 0 by omega)]
      simp only [sSeq, sCut, sIf, sNext, sRet, sAsg, sPar, sPar3, sDrop, sBreak, sCont, sOwn, sFor, sForI, sWhile, dNot, dB, dAnd, dOr, dAndV, dOrV, dNotV, dIf, dCall, dCallK, dCallP, dv, dc, dOp, dCmp, dCmpT, dUn, dNeg, dIsi, dLst, dTup, dRev, dSlice, dChain, dChainT, dApp, dSortedO, dNotInO, dCnt, dGet_t0, dGet_t1, dGet_t2, dGet_l0, dGet_l1, dLc, dYes, aCons, aNil, aStar, oNo, oIs, tTupD, tsCons, tsNil, tn, iSeq, iEnumD, iRng1D, iRng2D, bI, bIsN, bNotN, dI20, dI2, dLen, dTupF, dListF, dInt1, dII, dRepr, dSorted, isDeck, isOwn, freeSlot, endD, startD, startK, startL, List.map, List.length, List.replicate, List.cons_append, List.nil_append, List.append_nil, List.getElem?_cons_succ, List.getElem?_cons_zero, Nat.reduceAdd, Nat.reduceSub, List.set, Bool.and_true, Bool.true_and, Bool.and_false, Bool.false_and, Bool.not_true, Bool.not_false, Nat.reduceBEq, beq_self_eq_true, reduceIte, reduceCtorEq, isNoneD, wipeD, freeAll, List.all_cons, List.all_nil, Kt.at0, Kt.at1, Kt.at2, true_and, and_true, List.getElem?_cons_succ]
      refine ⟨by decide, fall, bNe_same ?_⟩
      exact ⟨_, _, _, _, _, _, _, _, _, rfl, rfl, rfl, rfl, rfl, rfl, f7, f8, f9, f10⟩
  · rintro ρ ⟨o2, o3, o4, o5, o6, o7, o8, o9, o10, rfl, f2, f3, f4, f5, f6, f7, f8, f9, f10⟩
    trivial
end Dl

set_option Elab.async false
set_option linter.all false
set_option maxRecDepth 100000
set_option maxHeartbeats 4000000
namespace Kt
open PySem PySem.Spec PyProof.Rows L2
/-- a def of the text stands in the law's globals -/
def Dat (K : PySem.W.Frag) (mg : Str → Option Value) (x : Str) (st : Stmt) : Prop := ∃ f fd, Fun K x x st f fd ∧ mg x = some (.ref f)
theorem dat_mk {K : PySem.W.Frag} {h : Heap} {mg : Str → Option Value} {x : Str} {st : Stmt} {f : Addr} {od an : Option Addr} {sl : Array (Option Value)} {oc kV dc pm cd ct : Value} (X : K.In h) (G : h.Ns mainGlobals mg)
    (a : PySem.W.nsIn K mainGlobals x = some (some (.ref f))) (l : K.lookup f = some ⟨oc, od, .func (PySem.W.fnOf x x (defArgs st) (defBody st) (defScope st) .none kV dc pm an cd ct), sl⟩) (c : PySem.W.codeIn K cd x = true) (k : PySem.W.keepIn K (.ref f) = true) : Dat K mg x st :=
  ⟨f, _, fun_mk (st := st) l c k, PySem.W.mg_of X G a⟩
/-- a method of a class -/
def MDat (K : PySem.W.Frag) (C : Addr) (m q : Str) (st : Stmt) : Prop := ∃ f fd, Fun K m q st f fd ∧ Meth K C m f
theorem mdat_mk {K : PySem.W.Frag} {C : Addr} {m q : Str} {st : Stmt} {f : Addr} {od an : Option Addr} {sl : Array (Option Value)} {oc kV dc pm cd ct : Value}
    (a : PySem.W.findIn K (.ref C) m = some (some (.ref f))) (n : PySem.W.isFn K (.ref f) = true) (l : K.lookup f = some ⟨oc, od, .func (PySem.W.fnOf m q (defArgs st) (defBody st) (defScope st) .none kV dc pm an cd ct), sl⟩) (c : PySem.W.codeIn K cd q = true) (k : PySem.W.keepIn K (.ref f) = true) : MDat K C m q st :=
  ⟨f, _, fun_mk (st := st) l c k, ⟨a, n, k⟩⟩
/-- the class Clash, whole -/
structure ClAll (K : PySem.W.Frag) (mg : Str → Option Value) (C : Addr) : Prop where
  T : ClT K mg C
  mks : PySem.W.makesIn K C = true
  kc : PySem.W.keepIn K (.ref C) = true
  mI : MDat K C "__init__" "Clash.__init__" sInit
  mFit : MDat K C "is_fitting" "Clash.is_fitting" sIsFit
  mMet : MDat K C "met_by" "Clash.met_by" sMetBy
  mGoers : MDat K C "goers_to" "Clash.goers_to" sGoersTo
  mGoing : MDat K C "is_going" "Clash.is_going" sIsGoing
  mAg : MDat K C "goes_against" "Clash.goes_against" sAgainst
  mElse : MDat K C "goes_elsewhere" "Clash.goes_elsewhere" sElse
  mFor : MDat K C "is_foreign" "Clash.is_foreign" sForeign
  mForTo : MDat K C "foreign_goers_to" "Clash.foreign_goers_to" sForeignTo
  mWin : MDat K C "winner_into" "Clash.winner_into" sWinner
  mForce : MDat K C "force_of" "Clash.force_of" sForce
  mThr : MDat K C "thrust_of" "Clash.thrust_of" sThrust
theorem prog_setErr {P : Program} {w : World} {K : PySem.W.Frag} {mg : Str → Option Value} {base : Heap} {C f : Addr} {fd : FuncData} (A : ClAll K mg C) (F : Fun K "settlement_error" "settlement_error" sSetErr f fd)
    (d0 : Dat K mg "is_fit" s_is_fit) (d1 : Dat K mg "first_cutter" sCutter) (d2 : Dat K mg "barrier_to" sBarrier) (d3 : Dat K mg "repelled_by_met" sRepel) (d4 : Dat K mg "holding_by" sHolding) (d5 : Dat K mg "first_rival" sRival) (d6 : Dat K mg "go_wins" sGoWins) (d7 : Dat K mg "_is_settlement" s_is_settlement) (d8 : Dat K mg "_told" sTold) (d9 : Dat K mg "_back_stands" sBackStands)
    (mE : mg "enumerate" = none) (mIs : mg "isinstance" = none) (mT : mg "tuple" = none) (mL : mg "len" = none) (mA : mg "all" = none) (mB : mg "bool" = none) (mLi : mg "list" = none) :
    FnOk P w K mg base CX0 6 f fd ["board", "orders", "value"] (spSetErrM K) := by
  obtain ⟨T, mks, kc, ⟨i0, e0, F0, M0⟩, ⟨i1, e1, F1, M1⟩, ⟨i2, e2, F2, M2⟩, ⟨i3, e3, F3, M3⟩, ⟨i4, e4, F4, M4⟩, ⟨i5, e5, F5, M5⟩, ⟨i6, e6, F6, M6⟩, ⟨i7, e7, F7, M7⟩, ⟨i8, e8, F8, M8⟩, ⟨i9, e9, F9, M9⟩, ⟨i10, e10, F10, M10⟩, ⟨i11, e11, F11, M11⟩⟩ := A
  obtain ⟨a0, h0, D0, g0⟩ := d0
  obtain ⟨a1, h1, D1, g1⟩ := d1
  obtain ⟨a2, h2, D2, g2⟩ := d2
  obtain ⟨a3, h3, D3, g3⟩ := d3
  obtain ⟨a4, h4, D4, g4⟩ := d4
  obtain ⟨a5, h5, D5, g5⟩ := d5
  obtain ⟨a6, h6, D6, g6⟩ := d6
  obtain ⟨a7, h7, D7, g7⟩ := d7
  obtain ⟨a8, h8, D8, g8⟩ := d8
  obtain ⟨a9, h9, D9, g9⟩ := d9
  have b0 := F0.binds (ps := ["self", "board", "orders"]) fun _ _ _ _ _ _ us hl => match us, hl with | [_, _, _], _ => rfl
  have b1 := F1.binds (ps := ["self", "place"]) fun _ _ _ _ _ _ us hl => match us, hl with | [_, _], _ => rfl
  have b2 := F2.binds (ps := ["self", "place"]) fun _ _ _ _ _ _ us hl => match us, hl with | [_, _], _ => rfl
  have b3 := F3.binds (ps := ["self", "field"]) fun _ _ _ _ _ _ us hl => match us, hl with | [_, _], _ => rfl
  have b4 := F4.binds (ps := ["self", "place"]) fun _ _ _ _ _ _ us hl => match us, hl with | [_, _], _ => rfl
  have b5 := F5.binds (ps := ["self", "place", "other"]) fun _ _ _ _ _ _ us hl => match us, hl with | [_, _, _], _ => rfl
  have b6 := F6.binds (ps := ["self", "place", "other"]) fun _ _ _ _ _ _ us hl => match us, hl with | [_, _, _], _ => rfl
  have b7 := F7.binds (ps := ["self", "place", "other"]) fun _ _ _ _ _ _ us hl => match us, hl with | [_, _, _], _ => rfl
  have b8 := F8.binds (ps := ["self", "place"]) fun _ _ _ _ _ _ us hl => match us, hl with | [_, _], _ => rfl
  have b9 := F9.binds (ps := ["self", "settlement", "field"]) fun _ _ _ _ _ _ us hl => match us, hl with | [_, _, _], _ => rfl
  have b10 := F10.binds (ps := ["self", "stands", "place"]) fun _ _ _ _ _ _ us hl => match us, hl with | [_, _, _], _ => rfl
  have b11 := F11.binds (ps := ["self", "stands", "place", "barrier"]) fun _ _ _ _ _ _ us hl => match us, hl with | [_, _, _, _], _ => rfl
  have c0 := D0.binds (ps := ["back", "backed"]) fun _ _ _ _ _ _ us hl => match us, hl with | [_, _], _ => rfl
  have c1 := D1.binds (ps := ["clash", "place"]) fun _ _ _ _ _ _ us hl => match us, hl with | [_, _], _ => rfl
  have c2 := D2.binds (ps := ["clash", "settlement", "place"]) fun _ _ _ _ _ _ us hl => match us, hl with | [_, _, _], _ => rfl
  have c3 := D3.binds (ps := ["clash", "settlement", "place"]) fun _ _ _ _ _ _ us hl => match us, hl with | [_, _, _], _ => rfl
  have c4 := D4.binds (ps := ["clash", "stands", "place", "barrier"]) fun _ _ _ _ _ _ us hl => match us, hl with | [_, _, _, _], _ => rfl
  have c5 := D5.binds (ps := ["clash", "stands", "place", "thrust", "repelled"]) fun _ _ _ _ _ _ us hl => match us, hl with | [_, _, _, _, _], _ => rfl
  have c6 := D6.binds (ps := ["clash", "stands", "place", "barrier", "repelled"]) fun _ _ _ _ _ _ us hl => match us, hl with | [_, _, _, _, _], _ => rfl
  have c7 := D7.binds (ps := ["orders", "value"]) fun _ _ _ _ _ _ us hl => match us, hl with | [_, _], _ => rfl
  have c8 := D8.binds (ps := ["clash", "settlement", "place", "word"]) fun _ _ _ _ _ _ us hl => match us, hl with | [_, _, _, _], _ => rfl
  have c9 := D9.binds (ps := ["clash", "settlement", "place"]) fun _ _ _ _ _ _ us hl => match us, hl with | [_, _, _], _ => rfl
  have GFit : FnOk P w K mg base CX0 2 i1 e1 ["self", "place"] (spIsFit K C) := ok_isFit F1 T D0 c0 g0
  have GI : FnOk P w K mg base CX0 3 i0 e0 ["self", "board", "orders"] (spInitF K C) := ok_initF F0 T F1 b1 M1 GFit mE
  have GMet : FnOk P w K mg base CX0 1 i2 e2 ["self", "place"] (spMetBy K C) := ok_metBy F2 T
  have GGoers : FnOk P w K mg base CX0 1 i3 e3 ["self", "field"] (spGoersTo K C) := ok_goersTo F3 T mLi
  have GGoing : FnOk P w K mg base CX0 1 i4 e4 ["self", "place"] (spIsGoing K C) := ok_isGoing F4 T
  have GElse : FnOk P w K mg base CX0 2 i6 e6 ["self", "place", "other"] (spElse K C) := ok_else F6 T F4 b4 M4 F5 b5 M5
  have GFor : FnOk P w K mg base CX0 1 i7 e7 ["self", "place", "other"] (spForeign K C) := ok_foreign F7 T
  have GForTo : FnOk P w K mg base CX0 2 i8 e8 ["self", "place"] (spForeignTo K C) := ok_foreignTo F8 T F7 b7 M7
  have GWin : FnOk P w K mg base CX0 1 i9 e9 ["self", "settlement", "field"] (spWinner K C) := ok_winner F9 T
  have GForce : FnOk P w K mg base CX0 1 i10 e10 ["self", "stands", "place"] (spForce K C) := ok_force F10 T mL
  have GThr : FnOk P w K mg base CX0 2 i11 e11 ["self", "stands", "place", "barrier"] (spThrust K C) := ok_thrust F11 T F10 b10 M10 F7 b7 M7 mL
  have H1 : FnOk P w K mg base CX0 3 a1 h1 ["clash", "place"] (spCutter K C) := ok_cutter D1 T b8 M8 GForTo
  have H2 : FnOk P w K mg base CX0 3 a2 h2 ["clash", "settlement", "place"] (spBarrier K C) := ok_barrier D2 T b6 M6 GElse b2 M2 GMet
  have H3 : FnOk P w K mg base CX0 2 a3 h3 ["clash", "settlement", "place"] (spRepel K C) := ok_repel D3 T b4 M4 GGoing b2 M2 GMet
  have H4 : FnOk P w K mg base CX0 3 a4 h4 ["clash", "stands", "place", "barrier"] (spHolding K C) := ok_holding D4 T F6 b6 M6 GElse b10 M10 GForce
  have H5 : FnOk P w K mg base CX0 2 a5 h5 ["clash", "stands", "place", "thrust", "repelled"] (spRival K C) := ok_rival D5 T b10 M10 GForce b3 M3 GGoers
  have H6 : FnOk P w K mg base CX0 4 a6 h6 ["clash", "stands", "place", "barrier", "repelled"] (spGoWins K C) := ok_goWins D6 T b11 M11 GThr b7 M7 GFor D4 c4 g4 H4 D5 c5 g5 H5
  have H9 : FnOk P w K mg base CX0 4 a9 h9 ["clash", "settlement", "place"] (spStands K C) := ok_stands D9 T b1 M1 GFit D1 c1 g1 H1 b9 M9 GWin
  have H8 : FnOk P w K mg base CX0 5 a8 h8 ["clash", "settlement", "place", "word"] (spTold K C) := ok_told D8 D9 c9 g9 H9 D2 c2 g2 H2 D6 c6 g6 H6 D3 c3 g3 H3
  have H7 : FnOk P w K mg base CX0 1 a7 h7 ["orders", "value"] (spIsSetM K) := ok_isSetM D7 mIs mT mL mA mB
  exact ok_setErrM (fF := i1) (fdF := e1) F T ⟨mks, M0.at_, M0.fn, kc⟩ F0 b0 GI D7 c7 g7 H7 D8 c8 g8 H8 mE
end Kt

set_option Elab.async false
set_option linter.all false
set_option maxRecDepth 100000
set_option maxHeartbeats 4000000
namespace Dl
open PySem PySem.Spec PyProof.Rows L2 Kt
theorem mixed_imp {K : PySem.W.Frag} : ∀ vs H Q E, spK K g_law_mixed vs H Q E → spMixed K vs H Q E := by
  intro vs H Q E h
  obtain ⟨S, a, c, ws, ds, A, rfl, hd, ma, mc, al, sy, hx, hg, q⟩ := h
  unfold g_law_mixed at hg
  split at hg
  · rename_i xs
    obtain ⟨v, r, rfl, hv, hr⟩ := hx.inv_cons
    obtain rfl := hr.inv_nil
    obtain ⟨l, us, rfl, hl, g⟩ := hv.inv_list
    refine ⟨a, c, l, us, rfl, hd, .inl (SqL.of (Ob.of hl).2), by rw [g.1]; exact hg.1.1, fun x hx => ?_, fun H' p ys hp hn hp' hd' k => ?_⟩
    · obtain ⟨d, hd2, g2⟩ := mem_dq g hx
      obtain ⟨c1, c2⟩ := hg.1.2 d hd2
      exact ⟨d, Dp.same (ob_deck ma mc) d (g2.dp c1), c1, c2⟩
    · obtain ⟨es, h1, h2⟩ := permDq hp g
      have k2 : Kp S H H' := k.mono fun b z => by rcases List.mem_cons.mp z with z | z; exact z ▸ ma; rw [List.mem_singleton.mp z]; exact mc
      exact q _ _ H' (hg.2 es h1) hd' k (.lstA (Ob.mk (fun z => al.ne z hn) hp') (h2.same k2.same))
  · exact hg.elim
end Dl

set_option Elab.async false
set_option linter.all false
set_option maxRecDepth 100000
set_option maxHeartbeats 4000000
namespace Dl
open PySem PySem.Spec PyProof.Rows L2 Kt
theorem kb_KW_settlement_error210 {K : PySem.W.Frag} {f : Addr} {fd : FuncData} (F : Fun K "settlement_error" "settlement_error" Kt.sSetErr f fd) : KBinds K fd ["board", "orders", "value"] ["value", "orders", "board"] (permL [2, 1, 0]) (permL [2, 1, 0]) := by
  refine ⟨fun s us ws _ hl => ?_, fun r1 r2 => permL_rel r1 r2⟩
  obtain ⟨oc, od, kV, doc, pm, an, cdv, ct, osl, rfl, lk, hcd⟩ := F.ex
  match us, ws, hl with
  | _ :: _, _, hl => simp [permL] at hl
  | [], [], hl => simp [permL] at hl
  | [], [_], hl => simp [permL] at hl
  | [], [_, _], hl => simp [permL] at hl
  | [], w0 :: w1 :: w2 :: _, _ => exact BindsTo.of_eq rfl
theorem all_mk {P : Program} {w : World} {K : PySem.W.Frag} {h : Heap} {mg : Str → Option Value} {fa : Addr} (X : K.In h) (G : h.Ns mainGlobals mg) (hfa : mg "law" = some (.ref fa))
    (d_is_fit : Kt.Dat K mg "is_fit" Kt.s_is_fit)
    (d_deck : Kt.Dat K mg "_law_deck" Kt.sDeck)
    (d_draw : Kt.Dat K mg "_law_draw" Kt.sDraw)
    (d_mixed : Kt.Dat K mg "_law_mixed" Kt.sMixed)
    (d_beside : Kt.Dat K mg "_law_beside" Kt.sBeside)
    (d_orders_of : Kt.Dat K mg "_law_orders_of" Kt.sOrdersOf)
    (d_gos : Kt.Dat K mg "_law_gos" Kt.sGos)
    (d_orders : Kt.Dat K mg "_law_orders" Kt.sOrders)
    (d_first_cutter : Kt.Dat K mg "first_cutter" Kt.sCutter)
    (d_barrier_to : Kt.Dat K mg "barrier_to" Kt.sBarrier)
    (d_repelled_by_met : Kt.Dat K mg "repelled_by_met" Kt.sRepel)
    (d_holding_by : Kt.Dat K mg "holding_by" Kt.sHolding)
    (d_first_rival : Kt.Dat K mg "first_rival" Kt.sRival)
    (d_go_wins : Kt.Dat K mg "go_wins" Kt.sGoWins)
    (d_is_settlement : Kt.Dat K mg "_is_settlement" Kt.s_is_settlement)
    (d_told : Kt.Dat K mg "_told" Kt.sTold)
    (d_back_stands : Kt.Dat K mg "_back_stands" Kt.sBackStands)
    (d_settlement_error : Kt.Dat K mg "settlement_error" Kt.sSetErr)
    (d_law_pick : Kt.Dat K mg "_law_pick" s_law_pick)
    (d_law_chart : Kt.Dat K mg "_law_chart" s_law_chart)
    (d_law_pieces : Kt.Dat K mg "_law_pieces" s_law_pieces)
    (d_law_board : Kt.Dat K mg "_law_board" s_law_board)
    (d_law_helpers : Kt.Dat K mg "_law_helpers" s_law_helpers)
    (d_law_wins : Kt.Dat K mg "_law_wins" s_law_wins)
    (d_law_back_fits : Kt.Dat K mg "_law_back_fits" s_law_back_fits)
    (d_law_rule : Kt.Dat K mg "_law_rule" s_law_rule)
    (d_law_settled_due : Kt.Dat K mg "_law_settled_due" s_law_settled_due)
    (d_law_all_tuples : Kt.Dat K mg "_law_all_tuples" s_law_all_tuples)
    {C : Addr} (aC : PySem.W.nsIn K mainGlobals "Clash" = some (some (.ref C)))
    (mI : MDat K C "__init__" "Clash.__init__" Kt.sInit)
    (mFit : MDat K C "is_fitting" "Clash.is_fitting" Kt.sIsFit)
    (mMet : MDat K C "met_by" "Clash.met_by" Kt.sMetBy)
    (mGoers : MDat K C "goers_to" "Clash.goers_to" Kt.sGoersTo)
    (mGoing : MDat K C "is_going" "Clash.is_going" Kt.sIsGoing)
    (mAg : MDat K C "goes_against" "Clash.goes_against" Kt.sAgainst)
    (mElse : MDat K C "goes_elsewhere" "Clash.goes_elsewhere" Kt.sElse)
    (mFor : MDat K C "is_foreign" "Clash.is_foreign" Kt.sForeign)
    (mForTo : MDat K C "foreign_goers_to" "Clash.foreign_goers_to" Kt.sForeignTo)
    (mWin : MDat K C "winner_into" "Clash.winner_into" Kt.sWinner)
    (mForce : MDat K C "force_of" "Clash.force_of" Kt.sForce)
    (mThr : MDat K C "thrust_of" "Clash.thrust_of" Kt.sThrust)
    (pg : PySem.W.plainGet K C Str.empty = true) (hd : PySem.W.hasDictIn K C = true) (po : PySem.W.plainOver K C = true) (sa : PySem.W.findIn K (.ref C) "__setattr__" = some (some (.builtin "object.__setattr__"))) (mks : PySem.W.makesIn K C = true) (kc : PySem.W.keepIn K (.ref C) = true)
    (nO : PySem.W.findIn K (.ref C) "orders" = some none) (nF : PySem.W.findIn K (.ref C) "fields" = some none) (nP : PySem.W.findIn K (.ref C) "players" = some none) (nL : PySem.W.findIn K (.ref C) "_places" = some none) (nG : PySem.W.findIn K (.ref C) "_goers" = some none) (nB : PySem.W.findIn K (.ref C) "_backers" = some none)
    {f2 : Addr} {od an : Option Addr} {sl : Array (Option Value)} {oc kV dc pm cd ct : Value}
    (a2 : PySem.W.nsIn K mainGlobals "law" = some (some (.ref f2))) (l2 : K.lookup f2 = some ⟨oc, od, .func (PySem.W.fnOf "law" "law" (defArgs s_law) (defBody s_law) (defScope s_law) .none kV dc pm an cd ct), sl⟩) (c2 : PySem.W.codeIn K cd "law" = true) (k2 : PySem.W.keepIn K (.ref f2) = true)
    (z_int : PySem.W.nsIn K mainGlobals "int" = some none)
    (z_len : PySem.W.nsIn K mainGlobals "len" = some none)
    (z_range : PySem.W.nsIn K mainGlobals "range" = some none)
    (z_max : PySem.W.nsIn K mainGlobals "max" = some none)
    (z_tuple : PySem.W.nsIn K mainGlobals "tuple" = some none)
    (z_sorted : PySem.W.nsIn K mainGlobals "sorted" = some none)
    (z_list : PySem.W.nsIn K mainGlobals "list" = some none)
    (z_enumerate : PySem.W.nsIn K mainGlobals "enumerate" = some none)
    (z_isinstance : PySem.W.nsIn K mainGlobals "isinstance" = some none)
    (z_bool : PySem.W.nsIn K mainGlobals "bool" = some none)
    (z_repr : PySem.W.nsIn K mainGlobals "repr" = some none)
    (z_all : PySem.W.nsIn K mainGlobals "all" = some none) :
    ∃ fd : FuncData, (∀ (s : Shared) (v : Value), BindsTo s fd ⟨[v], []⟩ [("script", v)]) ∧ ∀ base : Heap, K.In base → base.Ns mainGlobals mg → (∃ o, base.get? sysModules = some o) → FnG P w K mg base CX0 7 fa fd ["script"] (spLawD K) := by
  have e := hfa.symm.trans (PySem.W.mg_of X G a2)
  cases e
  have m_int := PySem.W.mg_none_of X G z_int
  have m_len := PySem.W.mg_none_of X G z_len
  have m_range := PySem.W.mg_none_of X G z_range
  have m_max := PySem.W.mg_none_of X G z_max
  have m_tuple := PySem.W.mg_none_of X G z_tuple
  have m_sorted := PySem.W.mg_none_of X G z_sorted
  have m_list := PySem.W.mg_none_of X G z_list
  have m_enumerate := PySem.W.mg_none_of X G z_enumerate
  have m_isinstance := PySem.W.mg_none_of X G z_isinstance
  have m_bool := PySem.W.mg_none_of X G z_bool
  have m_repr := PySem.W.mg_none_of X G z_repr
  have m_all := PySem.W.mg_none_of X G z_all
  have CAll : ClAll K mg C := ⟨⟨⟨pg, hd, po, sa⟩, nO, nF, nP, nL, nG, nB, PySem.W.mg_of X G aC⟩, mks, kc, mI, mFit, mMet, mGoers, mGoing, mAg, mElse, mFor, mForTo, mWin, mForce, mThr⟩
  obtain ⟨f_is_fit, fd_is_fit, F_is_fit, q_is_fit⟩ := id d_is_fit
  have b_is_fit := F_is_fit.binds (ps := ["back", "backed"]) fun _ _ _ _ _ _ us hl => match us, hl with | [_, _], _ => rfl
  obtain ⟨f_deck, fd_deck, F_deck, q_deck⟩ := id d_deck
  have b_deck := F_deck.binds (ps := ["script"]) fun _ _ _ _ _ _ us hl => match us, hl with | [_], _ => rfl
  obtain ⟨f_draw, fd_draw, F_draw, q_draw⟩ := id d_draw
  have b_draw := F_draw.binds (ps := ["deck", "many"]) fun _ _ _ _ _ _ us hl => match us, hl with | [_, _], _ => rfl
  obtain ⟨f_mixed, fd_mixed, F_mixed, q_mixed⟩ := id d_mixed
  have b_mixed := F_mixed.binds (ps := ["deck", "items"]) fun _ _ _ _ _ _ us hl => match us, hl with | [_, _], _ => rfl
  obtain ⟨f_beside, fd_beside, F_beside, q_beside⟩ := id d_beside
  have b_beside := F_beside.binds (ps := ["chart", "field"]) fun _ _ _ _ _ _ us hl => match us, hl with | [_, _], _ => rfl
  obtain ⟨f_orders_of, fd_orders_of, F_orders_of, q_orders_of⟩ := id d_orders_of
  have b_orders_of := F_orders_of.binds (ps := ["board", "place"]) fun _ _ _ _ _ _ us hl => match us, hl with | [_, _], _ => rfl
  obtain ⟨f_gos, fd_gos, F_gos, q_gos⟩ := id d_gos
  have b_gos := F_gos.binds (ps := ["deck", "board"]) fun _ _ _ _ _ _ us hl => match us, hl with | [_, _], _ => rfl
  obtain ⟨f_orders, fd_orders, F_orders, q_orders⟩ := id d_orders
  have b_orders := F_orders.binds (ps := ["deck", "board"]) fun _ _ _ _ _ _ us hl => match us, hl with | [_, _], _ => rfl
  obtain ⟨f_first_cutter, fd_first_cutter, F_first_cutter, q_first_cutter⟩ := id d_first_cutter
  have b_first_cutter := F_first_cutter.binds (ps := ["clash", "place"]) fun _ _ _ _ _ _ us hl => match us, hl with | [_, _], _ => rfl
  obtain ⟨f_barrier_to, fd_barrier_to, F_barrier_to, q_barrier_to⟩ := id d_barrier_to
  have b_barrier_to := F_barrier_to.binds (ps := ["clash", "settlement", "place"]) fun _ _ _ _ _ _ us hl => match us, hl with | [_, _, _], _ => rfl
  obtain ⟨f_repelled_by_met, fd_repelled_by_met, F_repelled_by_met, q_repelled_by_met⟩ := id d_repelled_by_met
  have b_repelled_by_met := F_repelled_by_met.binds (ps := ["clash", "settlement", "place"]) fun _ _ _ _ _ _ us hl => match us, hl with | [_, _, _], _ => rfl
  obtain ⟨f_holding_by, fd_holding_by, F_holding_by, q_holding_by⟩ := id d_holding_by
  have b_holding_by := F_holding_by.binds (ps := ["clash", "stands", "place", "barrier"]) fun _ _ _ _ _ _ us hl => match us, hl with | [_, _, _, _], _ => rfl
  obtain ⟨f_first_rival, fd_first_rival, F_first_rival, q_first_rival⟩ := id d_first_rival
  have b_first_rival := F_first_rival.binds (ps := ["clash", "stands", "place", "thrust", "repelled"]) fun _ _ _ _ _ _ us hl => match us, hl with | [_, _, _, _, _], _ => rfl
  obtain ⟨f_go_wins, fd_go_wins, F_go_wins, q_go_wins⟩ := id d_go_wins
  have b_go_wins := F_go_wins.binds (ps := ["clash", "stands", "place", "barrier", "repelled"]) fun _ _ _ _ _ _ us hl => match us, hl with | [_, _, _, _, _], _ => rfl
  obtain ⟨f_is_settlement, fd_is_settlement, F_is_settlement, q_is_settlement⟩ := id d_is_settlement
  have b_is_settlement := F_is_settlement.binds (ps := ["orders", "value"]) fun _ _ _ _ _ _ us hl => match us, hl with | [_, _], _ => rfl
  obtain ⟨f_told, fd_told, F_told, q_told⟩ := id d_told
  have b_told := F_told.binds (ps := ["clash", "settlement", "place", "word"]) fun _ _ _ _ _ _ us hl => match us, hl with | [_, _, _, _], _ => rfl
  obtain ⟨f_back_stands, fd_back_stands, F_back_stands, q_back_stands⟩ := id d_back_stands
  have b_back_stands := F_back_stands.binds (ps := ["clash", "settlement", "place"]) fun _ _ _ _ _ _ us hl => match us, hl with | [_, _, _], _ => rfl
  obtain ⟨f_settlement_error, fd_settlement_error, F_settlement_error, q_settlement_error⟩ := id d_settlement_error
  have b_settlement_error := F_settlement_error.binds (ps := ["board", "orders", "value"]) fun _ _ _ _ _ _ us hl => match us, hl with | [_, _, _], _ => rfl
  obtain ⟨f_law_pick, fd_law_pick, F_law_pick, q_law_pick⟩ := id d_law_pick
  have b_law_pick := F_law_pick.binds (ps := ["deck", "items"]) fun _ _ _ _ _ _ us hl => match us, hl with | [_, _], _ => rfl
  obtain ⟨f_law_chart, fd_law_chart, F_law_chart, q_law_chart⟩ := id d_law_chart
  have b_law_chart := F_law_chart.binds (ps := ["deck", "many", "more"]) fun _ _ _ _ _ _ us hl => match us, hl with | [_, _, _], _ => rfl
  obtain ⟨f_law_pieces, fd_law_pieces, F_law_pieces, q_law_pieces⟩ := id d_law_pieces
  have b_law_pieces := F_law_pieces.binds (ps := ["deck", "chart", "many"]) fun _ _ _ _ _ _ us hl => match us, hl with | [_, _, _], _ => rfl
  obtain ⟨f_law_board, fd_law_board, F_law_board, q_law_board⟩ := id d_law_board
  have b_law_board := F_law_board.binds (ps := ["deck", "fields", "many"]) fun _ _ _ _ _ _ us hl => match us, hl with | [_, _, _], _ => rfl
  obtain ⟨f_law_helpers, fd_law_helpers, F_law_helpers, q_law_helpers⟩ := id d_law_helpers
  have b_law_helpers := F_law_helpers.binds (ps := ["board", "orders", "backs", "place"]) fun _ _ _ _ _ _ us hl => match us, hl with | [_, _, _, _], _ => rfl
  obtain ⟨f_law_wins, fd_law_wins, F_law_wins, q_law_wins⟩ := id d_law_wins
  have b_law_wins := F_law_wins.binds (ps := ["board", "orders", "backs", "wins", "place"]) fun _ _ _ _ _ _ us hl => match us, hl with | [_, _, _, _, _], _ => rfl
  obtain ⟨f_law_back_fits, fd_law_back_fits, F_law_back_fits, q_law_back_fits⟩ := id d_law_back_fits
  have b_law_back_fits := F_law_back_fits.binds (ps := ["board", "orders", "place"]) fun _ _ _ _ _ _ us hl => match us, hl with | [_, _, _], _ => rfl
  obtain ⟨f_law_rule, fd_law_rule, F_law_rule, q_law_rule⟩ := id d_law_rule
  have b_law_rule := F_law_rule.binds (ps := ["board", "orders", "value", "place"]) fun _ _ _ _ _ _ us hl => match us, hl with | [_, _, _, _], _ => rfl
  obtain ⟨f_law_settled_due, fd_law_settled_due, F_law_settled_due, q_law_settled_due⟩ := id d_law_settled_due
  have b_law_settled_due := F_law_settled_due.binds (ps := ["board", "orders", "value"]) fun _ _ _ _ _ _ us hl => match us, hl with | [_, _, _], _ => rfl
  obtain ⟨f_law_all_tuples, fd_law_all_tuples, F_law_all_tuples, q_law_all_tuples⟩ := id d_law_all_tuples
  have b_law_all_tuples := F_law_all_tuples.binds (ps := ["many"]) fun _ _ _ _ _ _ us hl => match us, hl with | [_], _ => rfl
  refine ⟨PySem.W.fnOf "law" "law" (defArgs s_law) (defBody s_law) (defScope s_law) .none kV dc pm an cd ct, fun s v => .of_eq rfl, fun base _ _ hsys => ?_⟩
  have C_law_draw : Cal P w K mg base 1 "_law_draw" ["deck", "many"] (spK K g_law_draw) := ⟨_, _, (ok_draw F_draw m_int).imp draw_imp, F_draw.kp, b_draw, q_draw⟩
  have C_law_mixed : Cal P w K mg base 2 "_law_mixed" ["deck", "items"] (spK K g_law_mixed) := ⟨_, _, (ok_mixed F_mixed F_draw b_draw q_draw m_int m_len m_list).imp mixed_imp, F_mixed.kp, b_mixed, q_mixed⟩
  have K_orders_of : FnOk P w K mg base CX0 2 f_orders_of fd_orders_of ["board", "place"] (spOrdersOf K) := ok_ordersOf F_orders_of F_beside b_beside q_beside m_sorted
  have K_gos : FnOk P w K mg base CX0 3 f_gos fd_gos ["deck", "board"] (spGos K) := ok_gos F_gos F_draw b_draw q_draw F_beside b_beside q_beside F_law_pick b_law_pick q_law_pick m_int m_len m_sorted
  have C_law_orders : Cal P w K mg base 4 "_law_orders" ["deck", "board"] (spK K g_law_orders) := ⟨_, _, (ok_orders F_orders F_draw b_draw q_draw F_gos b_gos q_gos K_gos F_orders_of b_orders_of q_orders_of K_orders_of F_law_pick b_law_pick q_law_pick m_int m_len m_enumerate m_tuple).imp orders_imp, F_orders.kp, b_orders, q_orders⟩
  have G_settlement_error : FnOk P w K mg base CX0 6 f_settlement_error fd_settlement_error ["board", "orders", "value"] (spN K g_settlement_error) := (prog_setErr CAll F_settlement_error d_is_fit d_first_cutter d_barrier_to d_repelled_by_met d_holding_by d_first_rival d_go_wins d_is_settlement d_told d_back_stands m_enumerate m_isinstance m_tuple m_len m_all m_bool m_list).imp setErr_imp
  have C_settlement_error : Cal P w K mg base 6 "settlement_error" ["board", "orders", "value"] (spN K g_settlement_error) := ⟨_, _, G_settlement_error, F_settlement_error.kp, b_settlement_error, q_settlement_error⟩
  have KW_settlement_error210 : CalW P w K mg base 6 "settlement_error" ["board", "orders", "value"] ["value", "orders", "board"] [2, 1, 0] (spN K g_settlement_error) := ⟨_, _, G_settlement_error, F_settlement_error.kp, kb_KW_settlement_error210 F_settlement_error, q_settlement_error⟩
  have G_deck : FnOk P w K mg base CX0 1 f_deck fd_deck ["script"] (spDeckD K) := ok_deck F_deck m_int m_len
  have G_law_helpers : FnOk P w K mg base CX0 1 f_law_helpers fd_law_helpers ["board", "orders", "backs", "place"] (spN K g_law_helpers) := ok_dat F_law_helpers sc_law_helpers (fun cdv A outer s H E hr => tr_law_helpers  cdv A outer s H E hr) rd_law_helpers
  have C_law_helpers : Cal P w K mg base 1 "_law_helpers" ["board", "orders", "backs", "place"] (spN K g_law_helpers) := ⟨_, _, G_law_helpers, F_law_helpers.kp, b_law_helpers, q_law_helpers⟩
  have G_law_back_fits : FnOk P w K mg base CX0 1 f_law_back_fits fd_law_back_fits ["board", "orders", "place"] (spN K g_law_back_fits) := ok_dat F_law_back_fits sc_law_back_fits (fun cdv A outer s H E hr => tr_law_back_fits m_enumerate cdv A outer s H E hr) rd_law_back_fits
  have C_law_back_fits : Cal P w K mg base 1 "_law_back_fits" ["board", "orders", "place"] (spN K g_law_back_fits) := ⟨_, _, G_law_back_fits, F_law_back_fits.kp, b_law_back_fits, q_law_back_fits⟩
  have G_law_all_tuples : FnOk P w K mg base CX0 1 f_law_all_tuples fd_law_all_tuples ["many"] (spN K g_law_all_tuples) := ok_dat F_law_all_tuples sc_law_all_tuples (fun cdv A outer s H E hr => tr_law_all_tuples m_range cdv A outer s H E hr) rd_law_all_tuples
  have C_law_all_tuples : Cal P w K mg base 1 "_law_all_tuples" ["many"] (spN K g_law_all_tuples) := ⟨_, _, G_law_all_tuples, F_law_all_tuples.kp, b_law_all_tuples, q_law_all_tuples⟩
  have G_law_pick : FnOk P w K mg base CX0 2 f_law_pick fd_law_pick ["deck", "items"] (spK K g_law_pick) := ok_deckD F_law_pick sc_law_pick (fun cdv A outer s H E hr => tr_law_pick C_law_draw m_len cdv A outer s H E hr) rd_law_pick
  have C_law_pick : Cal P w K mg base 2 "_law_pick" ["deck", "items"] (spK K g_law_pick) := ⟨_, _, G_law_pick, F_law_pick.kp, b_law_pick, q_law_pick⟩
  have G_law_chart : FnOk P w K mg base CX0 2 f_law_chart fd_law_chart ["deck", "many", "more"] (spK K g_law_chart) := ok_deckD F_law_chart sc_law_chart (fun cdv A outer s H E hr => tr_law_chart C_law_draw m_range m_max m_tuple m_sorted cdv A outer s H E hr) rd_law_chart
  have C_law_chart : Cal P w K mg base 2 "_law_chart" ["deck", "many", "more"] (spK K g_law_chart) := ⟨_, _, G_law_chart, F_law_chart.kp, b_law_chart, q_law_chart⟩
  have G_law_wins : FnOk P w K mg base CX0 2 f_law_wins fd_law_wins ["board", "orders", "backs", "wins", "place"] (spN K g_law_wins) := ok_dat F_law_wins sc_law_wins (fun cdv A outer s H E hr => tr_law_wins C_law_helpers m_len m_enumerate cdv A outer s H E hr) rd_law_wins
  have C_law_wins : Cal P w K mg base 2 "_law_wins" ["board", "orders", "backs", "wins", "place"] (spN K g_law_wins) := ⟨_, _, G_law_wins, F_law_wins.kp, b_law_wins, q_law_wins⟩
  have G_law_pieces : FnOk P w K mg base CX0 3 f_law_pieces fd_law_pieces ["deck", "chart", "many"] (spK K g_law_pieces) := ok_deckD F_law_pieces sc_law_pieces (fun cdv A outer s H E hr => tr_law_pieces C_law_mixed C_law_draw C_law_pick m_list m_range m_sorted m_tuple cdv A outer s H E hr) rd_law_pieces
  have C_law_pieces : Cal P w K mg base 3 "_law_pieces" ["deck", "chart", "many"] (spK K g_law_pieces) := ⟨_, _, G_law_pieces, F_law_pieces.kp, b_law_pieces, q_law_pieces⟩
  have G_law_rule : FnOk P w K mg base CX0 3 f_law_rule fd_law_rule ["board", "orders", "value", "place"] (spN K g_law_rule) := ok_dat F_law_rule sc_law_rule (fun cdv A outer s H E hr => tr_law_rule C_law_wins C_law_back_fits m_enumerate cdv A outer s H E hr) rd_law_rule
  have C_law_rule : Cal P w K mg base 3 "_law_rule" ["board", "orders", "value", "place"] (spN K g_law_rule) := ⟨_, _, G_law_rule, F_law_rule.kp, b_law_rule, q_law_rule⟩
  have G_law_board : FnOk P w K mg base CX0 4 f_law_board fd_law_board ["deck", "fields", "many"] (spK K g_law_board) := ok_deckD F_law_board sc_law_board (fun cdv A outer s H E hr => tr_law_board C_law_chart C_law_draw C_law_pieces cdv A outer s H E hr) rd_law_board
  have C_law_board : Cal P w K mg base 4 "_law_board" ["deck", "fields", "many"] (spK K g_law_board) := ⟨_, _, G_law_board, F_law_board.kp, b_law_board, q_law_board⟩
  have G_law_settled_due : FnOk P w K mg base CX0 4 f_law_settled_due fd_law_settled_due ["board", "orders", "value"] (spN K g_law_settled_due) := ok_dat F_law_settled_due sc_law_settled_due (fun cdv A outer s H E hr => tr_law_settled_due C_law_rule m_isinstance m_tuple m_len m_bool m_range cdv A outer s H E hr) rd_law_settled_due
  have C_law_settled_due : Cal P w K mg base 4 "_law_settled_due" ["board", "orders", "value"] (spN K g_law_settled_due) := ⟨_, _, G_law_settled_due, F_law_settled_due.kp, b_law_settled_due, q_law_settled_due⟩
  refine ok_lawD (fun_mk (st := s_law) l2 c2 k2) sc_law (s1 := (defBody s_law).head!) (rest := (defBody s_law).tail) rfl (fun cdv A outer s H E hr => ?_) (fun cdv A outer s H E hgd hr => tr_law C_law_board C_law_draw C_law_orders C_law_all_tuples C_law_settled_due C_settlement_error KW_settlement_error210 m_range m_repr m_enumerate m_len m_int cdv A outer s H E hsys hgd hr) (by decide) rd_law
  exact ps_set (i := 1) sc_law.nd rfl (by first | exact .inl rfl | exact .inr rfl) (pe_call G_deck (hr.mono (by decide)) (by rfl) q_deck F_deck.kp b_deck .nil pass0 (pa_cons (pv 0) pa_nil))
end Dl

set_option Elab.async false
set_option linter.all false
set_option maxRecDepth 100000
set_option maxHeartbeats 4000000
open PySem PySem.W PyProof.Rows
set_option maxHeartbeats 0 in
theorem PySem.Challenge.cw_whateverothers_k10_whole_all_tuples_of_b_holds : PySem.Challenge.rw_whateverothers_k10_whole_all_tuples_of_b.Holds := by
  w_on; o_law; k_head; (case hw => w_witness2)
  k_fill
  refine Dl.walk_ofS (l := PySem.Challenge.rw_whateverothers_k10_whole_all_tuples_of_b) (n := 63) (k := 7) (x := "script") (sp := fun w => Dl.spLawD _) rfl (by decide) rfl ⟨rfl, by decide, by decide⟩ (by rfl) (fun w h Y => PySem.W.kIn_of Y) ?F (fun _ _ a ns hl _ hS => ⟨a, ns, rfl, hS, hl, fun _ => rfl⟩)
  case F =>
    intro w mg fa h KX G hmg
    refine' Dl.all_mk KX G hmg ?d_is_fit ?d_deck ?d_draw ?d_mixed ?d_beside ?d_orders_of ?d_gos ?d_orders ?d_first_cutter ?d_barrier_to ?d_repelled_by_met ?d_holding_by ?d_first_rival ?d_go_wins ?d_is_settlement ?d_told ?d_back_stands ?d_settlement_error ?d_law_pick ?d_law_chart ?d_law_pieces ?d_law_board ?d_law_helpers ?d_law_wins ?d_law_back_fits ?d_law_rule ?d_law_settled_due ?d_law_all_tuples ?aC ?mI ?mFit ?mMet ?mGoers ?mGoing ?mAg ?mElse ?mFor ?mForTo ?mWin ?mForce ?mThr ?pg ?hd ?po ?sa ?mks ?kc ?nO ?nF ?nP ?nL ?nG ?nB ?a2 ?l2 ?c2 ?k2 ?z_int ?z_len ?z_range ?z_max ?z_tuple ?z_sorted ?z_list ?z_enumerate ?z_isinstance ?z_bool ?z_repr ?z_all
    (case d_is_fit => refine' Kt.dat_mk KX G ?a ?l ?c ?k; (case a => k_is); (case l => k_is); (case c => k_is); (case k => k_is))
    (case d_deck => refine' Kt.dat_mk KX G ?a ?l ?c ?k; (case a => k_is); (case l => k_is); (case c => k_is); (case k => k_is))
    (case d_draw => refine' Kt.dat_mk KX G ?a ?l ?c ?k; (case a => k_is); (case l => k_is); (case c => k_is); (case k => k_is))
    (case d_mixed => refine' Kt.dat_mk KX G ?a ?l ?c ?k; (case a => k_is); (case l => k_is); (case c => k_is); (case k => k_is))
    (case d_beside => refine' Kt.dat_mk KX G ?a ?l ?c ?k; (case a => k_is); (case l => k_is); (case c => k_is); (case k => k_is))
    (case d_orders_of => refine' Kt.dat_mk KX G ?a ?l ?c ?k; (case a => k_is); (case l => k_is); (case c => k_is); (case k => k_is))
    (case d_gos => refine' Kt.dat_mk KX G ?a ?l ?c ?k; (case a => k_is); (case l => k_is); (case c => k_is); (case k => k_is))
    (case d_orders => refine' Kt.dat_mk KX G ?a ?l ?c ?k; (case a => k_is); (case l => k_is); (case c => k_is); (case k => k_is))
    (case d_first_cutter => refine' Kt.dat_mk KX G ?a ?l ?c ?k; (case a => k_is); (case l => k_is); (case c => k_is); (case k => k_is))
    (case d_barrier_to => refine' Kt.dat_mk KX G ?a ?l ?c ?k; (case a => k_is); (case l => k_is); (case c => k_is); (case k => k_is))
    (case d_repelled_by_met => refine' Kt.dat_mk KX G ?a ?l ?c ?k; (case a => k_is); (case l => k_is); (case c => k_is); (case k => k_is))
    (case d_holding_by => refine' Kt.dat_mk KX G ?a ?l ?c ?k; (case a => k_is); (case l => k_is); (case c => k_is); (case k => k_is))
    (case d_first_rival => refine' Kt.dat_mk KX G ?a ?l ?c ?k; (case a => k_is); (case l => k_is); (case c => k_is); (case k => k_is))
    (case d_go_wins => refine' Kt.dat_mk KX G ?a ?l ?c ?k; (case a => k_is); (case l => k_is); (case c => k_is); (case k => k_is))
    (case d_is_settlement => refine' Kt.dat_mk KX G ?a ?l ?c ?k; (case a => k_is); (case l => k_is); (case c => k_is); (case k => k_is))
    (case d_told => refine' Kt.dat_mk KX G ?a ?l ?c ?k; (case a => k_is); (case l => k_is); (case c => k_is); (case k => k_is))
    (case d_back_stands => refine' Kt.dat_mk KX G ?a ?l ?c ?k; (case a => k_is); (case l => k_is); (case c => k_is); (case k => k_is))
    (case d_settlement_error => refine' Kt.dat_mk KX G ?a ?l ?c ?k; (case a => k_is); (case l => k_is); (case c => k_is); (case k => k_is))
    (case d_law_pick => refine' Kt.dat_mk KX G ?a ?l ?c ?k; (case a => k_is); (case l => k_is); (case c => k_is); (case k => k_is))
    (case d_law_chart => refine' Kt.dat_mk KX G ?a ?l ?c ?k; (case a => k_is); (case l => k_is); (case c => k_is); (case k => k_is))
    (case d_law_pieces => refine' Kt.dat_mk KX G ?a ?l ?c ?k; (case a => k_is); (case l => k_is); (case c => k_is); (case k => k_is))
    (case d_law_board => refine' Kt.dat_mk KX G ?a ?l ?c ?k; (case a => k_is); (case l => k_is); (case c => k_is); (case k => k_is))
    (case d_law_helpers => refine' Kt.dat_mk KX G ?a ?l ?c ?k; (case a => k_is); (case l => k_is); (case c => k_is); (case k => k_is))
    (case d_law_wins => refine' Kt.dat_mk KX G ?a ?l ?c ?k; (case a => k_is); (case l => k_is); (case c => k_is); (case k => k_is))
    (case d_law_back_fits => refine' Kt.dat_mk KX G ?a ?l ?c ?k; (case a => k_is); (case l => k_is); (case c => k_is); (case k => k_is))
    (case d_law_rule => refine' Kt.dat_mk KX G ?a ?l ?c ?k; (case a => k_is); (case l => k_is); (case c => k_is); (case k => k_is))
    (case d_law_settled_due => refine' Kt.dat_mk KX G ?a ?l ?c ?k; (case a => k_is); (case l => k_is); (case c => k_is); (case k => k_is))
    (case d_law_all_tuples => refine' Kt.dat_mk KX G ?a ?l ?c ?k; (case a => k_is); (case l => k_is); (case c => k_is); (case k => k_is))
    (case aC => k_is)
    (case mI => refine' Kt.mdat_mk ?a ?n ?l ?c ?k; (case a => k_is); (case n => k_is); (case l => k_is); (case c => k_is); (case k => k_is))
    (case mFit => refine' Kt.mdat_mk ?a ?n ?l ?c ?k; (case a => k_is); (case n => k_is); (case l => k_is); (case c => k_is); (case k => k_is))
    (case mMet => refine' Kt.mdat_mk ?a ?n ?l ?c ?k; (case a => k_is); (case n => k_is); (case l => k_is); (case c => k_is); (case k => k_is))
    (case mGoers => refine' Kt.mdat_mk ?a ?n ?l ?c ?k; (case a => k_is); (case n => k_is); (case l => k_is); (case c => k_is); (case k => k_is))
    (case mGoing => refine' Kt.mdat_mk ?a ?n ?l ?c ?k; (case a => k_is); (case n => k_is); (case l => k_is); (case c => k_is); (case k => k_is))
    (case mAg => refine' Kt.mdat_mk ?a ?n ?l ?c ?k; (case a => k_is); (case n => k_is); (case l => k_is); (case c => k_is); (case k => k_is))
    (case mElse => refine' Kt.mdat_mk ?a ?n ?l ?c ?k; (case a => k_is); (case n => k_is); (case l => k_is); (case c => k_is); (case k => k_is))
    (case mFor => refine' Kt.mdat_mk ?a ?n ?l ?c ?k; (case a => k_is); (case n => k_is); (case l => k_is); (case c => k_is); (case k => k_is))
    (case mForTo => refine' Kt.mdat_mk ?a ?n ?l ?c ?k; (case a => k_is); (case n => k_is); (case l => k_is); (case c => k_is); (case k => k_is))
    (case mWin => refine' Kt.mdat_mk ?a ?n ?l ?c ?k; (case a => k_is); (case n => k_is); (case l => k_is); (case c => k_is); (case k => k_is))
    (case mForce => refine' Kt.mdat_mk ?a ?n ?l ?c ?k; (case a => k_is); (case n => k_is); (case l => k_is); (case c => k_is); (case k => k_is))
    (case mThr => refine' Kt.mdat_mk ?a ?n ?l ?c ?k; (case a => k_is); (case n => k_is); (case l => k_is); (case c => k_is); (case k => k_is))
    (case pg => k_is); (case hd => k_is); (case po => k_is); (case sa => k_is); (case mks => k_is); (case kc => k_is); (case nO => k_is); (case nF => k_is); (case nP => k_is); (case nL => k_is); (case nG => k_is); (case nB => k_is); (case a2 => k_is); (case l2 => k_is); (case c2 => k_is); (case k2 => k_is); (case z_int => k_is); (case z_len => k_is); (case z_range => k_is); (case z_max => k_is); (case z_tuple => k_is); (case z_sorted => k_is); (case z_list => k_is); (case z_enumerate => k_is); (case z_isinstance => k_is); (case z_bool => k_is); (case z_repr => k_is); (case z_all => k_is)
