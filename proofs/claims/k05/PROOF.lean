import PyProof.Rows.All
import Wide.All
import OpenK.AllK
import Wide.FinOn
import HandS.Base
import HandS.Call
import HandS.List
import HandS.Comp
import HandS.Ends
import HandS.Dict
import HandS.Iter
import HandS.Words
import HandS.WordsList
import HandS.Star
import HandS.Defaults
import HandS.SortRule
import HandS.Wide
import KE.GoesEnum
import HandS.Walk
import HandS.RaiseMore
import HandS.ForMost
import HandS.SortInts
import HandS.Deep
import HandS.Conv
import HandS.Evl
import HandS.TupAny
import HandS.TupMul
import HandS.IsInst
import PySem.Challenge.RW_whateverothers_k05_whole_all_orders_of_p
set_option Elab.async false
set_option linter.all false
set_option maxRecDepth 100000
set_option maxHeartbeats 2000000
namespace Kt
open PySem PySem.Spec PyProof.Rows L2

/-! ### what stays: all but the places of S -/
def Ob (S : List Addr) (H : Hp) : Hp := fun b => if b ∈ S then none else H b
theorem Ob.of {S : List Addr} {H : Hp} {b : Addr} {o : HO} (h : Ob S H b = some o) : b ∉ S ∧ H b = some o := by
  unfold Ob at h
  split at h
  · cases h
  · exact ⟨by assumption, h⟩
theorem Ob.mk {S : List Addr} {H : Hp} {b : Addr} {o : HO} (hn : b ∉ S) (h : H b = some o) : Ob S H b = some o := by
  unfold Ob
  rw [if_neg hn]
  exact h
theorem Ob.le (S : List Addr) (H : Hp) : Same (Ob S H) H := fun _ _ h => (Ob.of h).2
/-- all that stands outside of S is as it was -/
def Kp (S : List Addr) (H H' : Hp) : Prop := ∀ b o, b ∉ S → H b = some o → H' b = some o
theorem Kp.refl {S : List Addr} {H : Hp} : Kp S H H := fun _ _ _ h => h
theorem Kp.trans {S : List Addr} {H H1 H2 : Hp} (a : Kp S H H1) (b : Kp S H1 H2) : Kp S H H2 := fun x o n h => b x o n (a x o n h)
theorem Kp.new {S : List Addr} {H : Hp} {p : Addr} {o : HO} (hp : H p = none) : Kp S H (upd H p o) := fun b u _ h => by
  rw [upd_ne (ne_of_none h hp)]
  exact h
theorem Kp.put {S : List Addr} {H : Hp} {p : Addr} {o : HO} (hp : p ∈ S) : Kp S H (upd H p o) := fun b u n h => by
  rw [upd_ne (fun e => n (by rw [e]; exact hp))]
  exact h
theorem Kp.mono {S S' : List Addr} {H H' : Hp} (h : Kp S H H') (s : ∀ b ∈ S, b ∈ S') : Kp S' H H' := fun b o n e => h b o (fun z => n (s b z)) e
theorem Kp.drop {S : List Addr} {H H' : Hp} {l : Addr} (h : Kp (l :: S) H H') (hl : H l = none) : Kp S H H' := fun b o n e => h b o (fun z => by
  rcases List.mem_cons.mp z with z | z
  · rw [z, hl] at e
    cases e
  · exact n z) e
theorem Kp.same {S : List Addr} {H H' : Hp} (h : Kp S H H') : Same (Ob S H) (Ob S H') := fun b o e => Ob.mk (Ob.of e).1 (h b o (Ob.of e).1 (Ob.of e).2)
theorem Kp.of_same {S : List Addr} {H H' : Hp} (h : Same H H') : Kp S H H' := fun b o _ e => h b o e
theorem Kp.get {S : List Addr} {H H' : Hp} (h : Kp S H H') {b : Addr} {o : HO} (n : b ∉ S) (e : H b = some o) : H' b = some o := h b o n e

theorem sameT {K : PySem.W.Frag} {H H' : Hp} {a : Addr} {xs : List V} (e : Same H H') (h : SqT K H a xs) : SqT K H' a xs := by
  rcases h with (h | ⟨o, h⟩) | h
  · exact .inl (.inl (e _ _ h))
  · exact .inl (.inr ⟨o, e _ _ h⟩)
  · exact .inr h
mutual
theorem Dp.same {K : PySem.W.Frag} {H H' : Hp} (e : Same H H') : ∀ (d : PyData) {v : V}, Dp K H v d → Dp K H' v d
  | .none, _, h => by cases h; exact .non
  | .bool b, _, h => by cases h; exact .bl b
  | .int i, _, h => by cases h; exact .int i
  | .str x, _, h => by cases h; exact .str x
  | .list ds, _, h => by
    cases h with
    | lst hs ha => exact .lst (e.seq hs) (DpAll.same e ds ha)
  | .tuple ds, _, h => by
    cases h with
    | tup hs ha => exact .tup (sameT e hs) (DpAll.same e ds ha)
  | .dict _, _, h => by cases h
theorem DpAll.same {K : PySem.W.Frag} {H H' : Hp} (e : Same H H') : ∀ (ds : List PyData) {vs : List V}, DpAll K H vs ds → DpAll K H' vs ds
  | [], _, h => by cases h; exact .nil
  | d :: ds, _, h => by
    cases h with
    | cons h1 h2 => exact .cons (Dp.same e d h1) (DpAll.same e ds h2)
end
/-- data: read outside of S -/
def Da (K : PySem.W.Frag) (S : List Addr) (H : Hp) (v : V) (d : PyData) : Prop := Dp K (Ob S H) v d
def DaAll (K : PySem.W.Frag) (S : List Addr) (H : Hp) (vs : List V) (ds : List PyData) : Prop := DpAll K (Ob S H) vs ds
theorem Da.keep {K : PySem.W.Frag} {S : List Addr} {H H' : Hp} {v : V} {d : PyData} (h : Da K S H v d) (k : Kp S H H') : Da K S H' v d := Dp.same k.same d h
theorem DaAll.keep {K : PySem.W.Frag} {S : List Addr} {H H' : Hp} {vs : List V} {ds : List PyData} (h : DaAll K S H vs ds) (k : Kp S H H') : DaAll K S H' vs ds := DpAll.same k.same ds h
theorem Da.dp {K : PySem.W.Frag} {S : List Addr} {H : Hp} {v : V} {d : PyData} (h : Da K S H v d) : Dp K H v d := Dp.same (Ob.le S H) d h
theorem ob_sub {S S' : List Addr} {H : Hp} (h : ∀ b, b ∈ S → b ∈ S' ) : Same (Ob S' H) (Ob S H) := fun b o e => Ob.mk (fun z => (Ob.of e).1 (h b z)) (Ob.of e).2
theorem Da.less {K : PySem.W.Frag} {S S' : List Addr} {H : Hp} {v : V} {d : PyData} (h : Da K S' H v d) (s : ∀ b, b ∈ S → b ∈ S') : Da K S H v d := Dp.same (ob_sub s) d h
theorem DaAll.less {K : PySem.W.Frag} {S S' : List Addr} {H : Hp} {v : List V} {d : List PyData} (h : DaAll K S' H v d) (s : ∀ b, b ∈ S → b ∈ S') : DaAll K S H v d := DpAll.same (ob_sub s) d h
/-- an address that nothing stands at may be left out, too -/
theorem ob_free {S : List Addr} {H : Hp} {l : Addr} (hl : H l = none) : Same (Ob S H) (Ob (l :: S) H) := fun b o e => Ob.mk (fun z => by
  rcases List.mem_cons.mp z with z | z
  · have q := (Ob.of e).2
    rw [z, hl] at q
    cases q
  · exact (Ob.of e).1 z) (Ob.of e).2
theorem Da.free {K : PySem.W.Frag} {S : List Addr} {H : Hp} {l : Addr} {v : V} {d : PyData} (h : Da K S H v d) (hl : H l = none) : Da K (l :: S) H v d := Dp.same (ob_free hl) d h
theorem DaAll.free {K : PySem.W.Frag} {S : List Addr} {H : Hp} {l : Addr} {v : List V} {d : List PyData} (h : DaAll K S H v d) (hl : H l = none) : DaAll K (l :: S) H v d := DpAll.same (ob_free hl) d h
theorem Dp_all {K : PySem.W.Frag} {S : List Addr} {H : Hp} {vs : List V} {ds : List PyData} (h : DpAll K (Ob S H) vs ds) : DpAll K H vs ds := DpAll.same (Ob.le S H) ds h
end Kt

set_option Elab.async false
set_option linter.all false
set_option maxRecDepth 100000
set_option maxHeartbeats 4000000
/-! enumerate of a tuple -/
namespace Kt
section
open PySem
open Sem (wp)
open AutoSeq1 (wpAny_loadPart')
theorem meets_enumerate_newT (l : Addr) (items : Array Value) (n : Nat) (dct : Option Addr) (sl : Array (Option Value)) :
    Meets (Builtin.«enumerate.__new__» ⟨[.type "enumerate", .ref l], []⟩) (fun _ R s => s.heap.get? l = some { cls := .type "tuple", dict := dct, data := .seq items n, slots := sl } ∧
      R (.ok (.ret (.ref (s.heap.push { cls := .type "tuple_iterator", data := .fields #[.ref l, .int 0 0] }).objs.size)))
        { s with heap := (s.heap.push { cls := .type "tuple_iterator", data := .fields #[.ref l, .int 0 0] }).push { cls := .type "enumerate", data := .fields #[.none, .bool false, .ref s.heap.objs.size, rawInt 0, .none, .none] } }) :=
  .of_wp fun prog w A R s h => by
    obtain ⟨hp, g, d, tk, os⟩ := s; obtain ⟨hl, h⟩ := h
    have hsub := sub_enumerate
    have hL : Heap.IsTuple (Shared.heap ⟨hp, g, d, tk, os⟩) l items := ⟨_, hl, rfl, n, rfl⟩
    wp_walk using wpAny_loadPart' hl
    refine wpAny_stack_any fun st => wpAny_pure ?_
    split
    · rename_i c _ _ _ _ _
      cases (c == Value.type "enumerate")
      · wp_walk using wpAny_loadPart' hl, wpAny_pyIter_tuple hL
        exact ⟨_, rfl, h⟩
      · wp_walk using wpAny_loadPart' hl, wpAny_pyIter_tuple hL
        exact ⟨_, rfl, h⟩
    · wp_walk using wpAny_loadPart' hl, wpAny_pyIter_tuple hL
      exact ⟨_, rfl, h⟩
theorem call_enumerate_tuple {prog : Program} {w : World} {A : Around} {E : Value → Shared → Prop} {s : Shared} {l : Addr} {items : Array Value} {Q : Value → Shared → Prop} (hL : s.heap.IsTuple l items)
    (h : ∀ h', IsEnum h' (s.heap.objs.size + 1) s.heap.objs.size 0 .none → h'.IsTupleIter s.heap.objs.size l 0 → h'.objs.size = s.heap.objs.size + 2 →
      (∀ b o, s.heap.get? b = some o → h'.get? b = some o) → Q (.ref (s.heap.objs.size + 1)) { s with heap := h' }) :
    wpAny (model prog w) A (call (.type "enumerate") [.ref l]) Q E s := by
  obtain ⟨⟨c, dct, dt, sl⟩, hl, hc, n, hd⟩ := hL
  replace hc : c = .type "tuple" := hc
  replace hd : dt = .seq items n := hd
  subst hc hd
  refine callType_new F.called_enumerate (by decide) (F.typeCall_enumerate_1 _) (F.newCall_enumerate_1 _) (fun obj => F.args_object_init_2 obj _) F.entry_enumerate_new
    (meets_enumerate_newT l items n dct sl) ⟨hl, ?_⟩
  have hz : (s.heap.push { cls := .type "tuple_iterator", data := .fields #[.ref l, .int 0 0] }).objs.size = s.heap.objs.size + 1 := Heap.size_push ..
  show _ ∧ _
  rw [hz]
  have he : IsEnum ((s.heap.push { cls := .type "tuple_iterator", data := .fields #[.ref l, .int 0 0] }).push
      { cls := .type "enumerate", data := .fields #[.none, .bool false, .ref s.heap.objs.size, rawInt 0, .none, .none] }) (s.heap.objs.size + 1) s.heap.objs.size 0 .none := by
    have := Heap.get?_push_size (s.heap.push { cls := .type "tuple_iterator", data := .fields #[.ref l, .int 0 0] })
      (o := { cls := .type "enumerate", data := .fields #[.none, .bool false, .ref s.heap.objs.size, rawInt 0, .none, .none] }) rfl
    rw [hz] at this; exact this
  refine ⟨⟨_, he, rfl⟩, h _ he ⟨_, Heap.get?_push_of_some _ (Heap.get?_push_size _ rfl), rfl, rfl⟩ (by rw [Heap.size_push, hz]) fun b o x => Heap.get?_push_of_some _ (Heap.get?_push_of_some _ x)⟩
end
open PySem PySem.Spec PyProof.Rows L2
/-- the tuple at a, each item in a new pair -/
def Iet (K : PySem.W.Frag) (a : Addr) : It :=
  ⟨fun i H => ∃ (xs : List V) (x : V), SqT K H a xs ∧ xs[i]? = some x, fun i H v H' => ∃ T x, v = .ref T ∧ H T = none ∧ H' = upd H T (.tup [.int (i : Nat), x]) ∧ ∀ xs, SqT K H a xs → xs[i]? = some x, fun i H => ∃ xs : List V, SqT K H a xs ∧ xs.length ≤ i⟩
theorem turn_enumT {P : Program} {w : World} {K : PySem.W.Frag} {elts : List Expr} {kk : Nat} {tpos : Pos} (a e it : Addr) :
    Turn P w K (.Tuple elts kk tpos) (Iet K a) [e, it] e (fun i h => (∃ old, IsEnum h e it ((i : Nat) : Int) old) ∧ h.IsTupleIter it a i ∧ e ≠ it ∧ a ≠ e ∧ a ≠ it) where
  mem := by simp
  obj := fun i h st b hb => by
    obtain ⟨⟨old, he⟩, ⟨o, ho, hc, hd⟩, _⟩ := st
    have e' : b = e ∨ b = it := by simpa using hb
    rcases e' with z | z
    · rw [z]; exact ⟨_, he, fun v q => nomatch q⟩
    · rw [z]; exact ⟨o, ho, fun v q => by rw [hd] at q; cases q⟩
  keep := fun i h h' st k => let ⟨⟨old, he⟩, hi, hne⟩ := st; ⟨⟨old, k e (by simp) _ he⟩, hi.at fun o q => k it (by simp) o q, hne⟩
  item := by
    intro X hP hw hK hc i pins s σ H E I hf st hg
    subst hP hw hK
    obtain ⟨⟨old, he⟩, hit, hne, hae, hai⟩ := st
    obtain ⟨xs, x, hq, hx⟩ := hg
    obtain ⟨its, rv, p, hz⟩ := I.tuple hq
    obtain ⟨u, hu, ru⟩ := rv.get hx
    have hel : e < s.heap.objs.size := Heap.lt_size he
    have hil : it < s.heap.objs.size := by obtain ⟨_, q, _⟩ := hit; exact Heap.lt_size q
    have hh : X.A.in1.handled = none := I.ok.hd hc
    have hlt : i < its.toArray.size := by
      have := (List.getElem?_eq_some_iff.mp hu).1
      simpa using this
    have pT : s.heap.IsTuple a its.toArray := p
    refine wpAny_pyNext_enum_itemD (Draws.tuple hh it a hai its.toArray) he ⟨hit, pT⟩ hlt hne (by simp [hne, Ne.symm hae]) fun x' h' tk hP ho hst' hT hsz hk => ?_
    have ex : x' = u := by
      rw [List.getElem?_toArray] at hP
      exact Option.some.inj (hP.symm.trans hu)
    subst ex
    refine ⟨_, rfl, wpAny_letOwnedTupleGo_enum (s := { s with heap := h', toks := tk + 1 }) ho fun h'' he' sb => ?_⟩
    have hT2 : h''.get? s.heap.objs.size = some { cls := .type "tuple", data := .seq #[.int i tk, x'] } := (sb.2 _ (Nat.ne_of_gt hel)).trans hT
    have new : ObjOk X.prog X.w (upd H s.heap.objs.size (.tup [.int (i : Nat), x])) h'' s.heap.objs.size (.tup [.int (i : Nat), x]) :=
      ⟨by show 2 ≤ sizeLine; decide, [.int i tk, x'], .cons ⟨_, rfl⟩ (.cons ru .nil), ⟨_, hT2, rfl, _, rfl⟩⟩
    have I1 : Inv X pins σ (upd H s.heap.objs.size (.tup [.int (i : Nat), x])) { s with heap := h'', toks := tk + 1 } :=
      I.turnedNew (ch := [e, it]) (fun b ob hb q => (sb.2 b (fun z => hb (by simp [z]))).trans (hk b ob (fun z => hb (by simp [z])) (fun z => hb (by simp [z])) q)) hf (Nat.le_refl _) new
    refine ⟨.ref s.heap.objs.size, _, I1, rfl, ⟨_, x, rfl, I.hok.fresh (Nat.le_refl _), rfl, fun ys hy => by rw [I.tuple_inj hy hq]; exact hx⟩, ⟨⟨x', ?_⟩, hst'.1.at fun o q => (sb.2 it (Ne.symm hne)).trans q, hne, hae, hai⟩, fun b hb => ?_⟩
    · have e1 : ((i + 1 : Nat) : Int) = (i : Int) + 1 := by omega
      rw [e1]; exact he'
    · have hb' : b < s.heap.objs.size := by
        have e' : b = e ∨ b = it := by simpa using hb
        rcases e' with z | z
        · rw [z]; exact hel
        · rw [z]; exact hil
      rw [upd_ne (Nat.ne_of_lt hb')]
      exact (hf b hb).1
  done := by
    intro X hP hw hK hc i pins s σ H E I hf st hg
    subst hP hw hK
    obtain ⟨⟨old, he⟩, hit, hne, hae, hai⟩ := st
    obtain ⟨xs, hq, hx⟩ := hg
    obtain ⟨its, rv, p, hz⟩ := I.tuple hq
    obtain ⟨f0, f1, f2, f3, f4, f5⟩ := hf it (by simp)
    have hl := rv.length
    have hh : X.A.in1.handled = none := I.ok.hd hc
    have pT : s.heap.IsTuple a its.toArray := p
    have T : s.TypeIs (.ref e) "enumerate" := ⟨_, he, rfl⟩
    unfold pyNext
    refine wpAny_bind (wpAny_attempt (wpAny_callSpecial?_slot (name := Str.ofString "__next__") T F.slot_enumerate_next
      (wpAny_call_entry F.slot_enumerate_next T F.entry_enumerate_next ?_ (F.args_enumerate_next_1 _))))
    show wpAny _ _ (field (.ref e) 2 >>= _) _ _ _
    refine wpAny_bind (wpAny_field he rfl (x := .ref it) rfl ?_)
    refine wpAny_bind (wpAny_nextOf_tuple_end (items := its.toArray) hh hit pT (by simp; omega) fun h' x he' hx' => ?_)
    obtain ⟨o, ho, hc'⟩ := hx'
    refine wpAny_bind (wpAny_isInstance (T := "StopIteration") (b := true) ⟨o, ho, hc'⟩ isSubtype_stop ?_)
    exact wpAny_pure ⟨rfl, I.turned (t' := s.toks) (fun b o hb q => he' b o hb q) f0 f1 f3 f4 f5⟩
  self := fun A i s Q E st h => let ⟨⟨_, he⟩, _⟩ := st; wpAny_pyIter_enum he h
def iEnumT (K : PySem.W.Frag) (ta : TA) : TI := fun σ H R => ta σ H fun vs H1 => ∃ a xs, vs = [.ref a] ∧ SqT K H1 a xs ∧ R (Iet K a) H1
theorem pi_enumT {X : Cx} {e : Expr} {ta : TA} {p pos tpos : Pos} {elts : List Expr} {kk : Nat} (hg : Gl X "enumerate") (hm : X.mg "enumerate" = none) (ha : PA X [e] ta) (hs : starEach [e] X.env = [(false, eval e X.env)] := by rfl) :
    PI X (.Tuple elts kk tpos) (.Call (.Name "enumerate" p) [e] [] pos) (iEnumT X.K ta) := by
  refine ⟨fun pins s σ H R I h => ?_⟩
  refine Call_ (ld_blt I hg hm boot_enumerate (PyProof.Rows.callWith_type1 (thn (ha.run pos pins s σ H _ I h) fun us s1 ⟨vs, H1, I1, r1, q1⟩ => ?_) hs rfl))
  obtain ⟨a, xs, ex, hq, q⟩ := q1
  subst ex
  cases r1 with
  | cons r rr =>
    cases rr
    cases r
    obtain ⟨its, rv, p', hz⟩ := I1.tuple hq
    have pT : s1.heap.IsTuple a its.toArray := p'
    have hal : a < s1.heap.objs.size := by obtain ⟨_, q, _⟩ := pT; exact Heap.lt_size q
    refine call_enumerate_tuple pT fun h' he hit hsz hk => wpAny_pyIter_enum he ?_
    have I2 : Inv X pins σ H1 { s1 with heap := h' } := I1.kept (t' := s1.toks) hk
    refine ⟨s1.heap.objs.size + 1, [s1.heap.objs.size + 1, s1.heap.objs.size], _, _, H1, rfl, I2, turn_enumT a (s1.heap.objs.size + 1) s1.heap.objs.size, ⟨⟨.none, he⟩, hit, Nat.succ_ne_self _, Nat.ne_of_lt (Nat.lt_succ_of_lt hal), Nat.ne_of_lt hal⟩, fun b hb => ?_, q⟩
    have e' : b = s1.heap.objs.size + 1 ∨ b = s1.heap.objs.size := by simpa using hb
    have hle : s1.heap.objs.size ≤ b := by
      rcases e' with z | z
      · rw [z]; exact Nat.le_add_right _ _
      · rw [z]; exact Nat.le_refl _
    exact I1.fpOk hle (I1.hok.fresh hle)
theorem walk_enumT {K : PySem.W.Frag} {a : Addr} {xs : List V} : Walk (Iet K a) xs.length (fun H => SqT K H a xs) (YPair (fun i => some (.int (i : Nat))) (fun i => xs[i]?)) := by
  refine ⟨fun i H hi h => ⟨xs, xs[i], h, by simp [hi]⟩, fun H h => ⟨xs, h, Nat.le_refl _⟩, fun i H x H' hi h y => ?_⟩
  obtain ⟨T, x, rfl, hn, e, hx⟩ := y
  exact ⟨T, _, x, rfl, hn, e, rfl, hx _ h⟩
end Kt

set_option Elab.async false
set_option linter.all false
set_option maxRecDepth 100000
set_option maxHeartbeats 4000000
/-! defs that run where no repr is under way; repr of data -/
namespace Kt
open PySem PySem.Spec PyProof.Rows L2
abbrev Sl := L2.St
/-- as FnOk, of calls that happen while nothing is being shown -/
structure FnG (P : Program) (w : World) (K : PySem.W.Frag) (mg : Str → Option Value) (base : Heap) (CX : CXT) (k : Nat) (f : Addr) (fd : FuncData) (ps : List Str) (sp : Sp) : Prop where
  ar : ∀ vs H Q E, sp vs H Q E → vs.length = ps.length
  go : ∀ (A : Around), A.guards = some [] → Room k A → ∀ (fr : List Env) (s : Shared) (H : Hp), Env0 P w K mg base A fr s H → ∀ (args : Args) (us : List Value) (vs : List V), BindsTo s fd args (ps.zip us) → Vals vs us →
    ∀ (Q : VK) (E : XK), sp vs H Q E → codeAny (model P w) A (.call (.ref f) args) (CR CX fr P w H s Q E) s
section
variable {P : Program} {w : World} {K : PySem.W.Frag} {mg : Str → Option Value} {base : Heap} {CX : CXT} {k : Nat} {f : Addr} {fd : FuncData} {ps : List Str} {sp : Sp}
theorem FnG.mono {j : Nat} (F : FnG P w K mg base CX j f fd ps sp) (h : j ≤ k) : FnG P w K mg base CX k f fd ps sp :=
  ⟨F.ar, fun A g r => F.go A g (r.mono h)⟩
theorem FnG.of (F : FnOk P w K mg base CX k f fd ps sp) : FnG P w K mg base CX k f fd ps sp :=
  ⟨F.len, fun A _ r fr s H e args us vs b v Q E q => F.run A fr s H args us vs Q E r e b v q⟩
/-- what lies behind the body lies behind the call -/
theorem behind_body {N : List Str} {qual : Str} {sc : Scope} {cd : Value} {A : Around} {fr : List Env} {s s' : Shared} {H : Hp} {Q : VK} {E : XK} {fl : Flow}
    (h : SP (cxOf CX P w K mg base N qual sc f cd A fr s H E) [] { nx := fun _ H' => Q .non H', rt := Q } fl s') : CR CX fr P w H s Q E (.ok (match fl with | .next => .ret .none | o => o)) s' := by
  cases fl with
  | ret u => exact let ⟨v, _, H', J, rv, q⟩ := h; ⟨v, H', J.os, J.bare, J.base, J.hok, rv, q⟩
  | next => exact let ⟨_, H', J, q⟩ := h; ⟨.non, H', J.os, J.bare, J.base, J.hok, rfl, q⟩
  | brk => exact (let ⟨_, _, _, q⟩ := h; q : False).elim
  | cont => exact (let ⟨_, _, _, q⟩ := h; q : False).elim
end
/-- a def of the text, by its body, at such calls -/
theorem okG {P : Program} {w : World} {K : PySem.W.Frag} {mg : Str → Option Value} {base : Heap} {x qual : Str} {st : Stmt} {f : Addr} {fd : FuncData} {N ps : List Str} {k : Nat} {sp : Sp} (F : Fun K x qual st f fd) (S : FnScope N ps (defScope st))
    (ar : ∀ vs H Q E, sp vs H Q E → vs.length = ps.length)
    (body : ∀ (cdv : Value) (A : Around) (fr : List Env) (s : Shared) (H : Hp) (vs : List V) (Q : VK) (E : XK), (A.deeper (envOfC qual (defScope st) s.heap.objs.size f cdv)).guards = some [] → Room k (A.deeper (envOfC qual (defScope st) s.heap.objs.size f cdv)) → sp vs H Q E →
      ∃ t, PSs (cxOf CX0 P w K mg base N qual (defScope st) f cdv A fr s H E).nox (defBody st) t ∧ t { nx := fun _ H' => Q .non H', rt := Q } (start N vs) H) : FnG P w K mg base CX0 (k + 1) f fd ps sp := by
  obtain ⟨_, _, _, _, _, _, cdv, _, _, rfl, hl, hc⟩ := F.ex
  refine ⟨ar, fun A hg hr fr s H e args us vs hb hv Q E hsp => ?_⟩
  have old : ∀ b o, base.get? b = some o → s.heap.get? b = some o := fun b o q => (e.bs b o q).1
  have kin := e.mod.kin.keeps old
  refine codeAny_call_function (hr.depth) (kin _ _ hl) rfl (S.co) (S.gen) rfl (PySem.W.codeRec_of kin hc) (hb _ _ _ _ (wpAny_newFunctionEnv_cells S.kind ?_ ?_))
  · rintro ⟨n, v⟩ hy
    refine (S.par n (List.of_mem_zip hy).1).imp id fun q => ⟨q, PySem.W.cellsFrom_some _ _ _ (.inl q)⟩
  · rintro env rfl s1 x1
    refine ⟨(e.mod.nolimit.keeps old).keeps x1.toInCall.keep, codeAny_func ?_⟩
    obtain ⟨t, ht, hq⟩ := body cdv A fr s H vs Q E hg (hr.deeper _) hsp
    refine wpAny_mono (ht.nox.run [] s1 _ H _ (inv_start S hr.hd e (ar _ _ _ _ hsp) hv x1) hq) (fun fl s' hs => ?_) fun _ _ hs => hs
    have z := behind_body hs
    cases fl with
    | ret u => exact z
    | next => exact z
    | brk => exact False.elim z
    | cont => exact False.elim z
section
variable {X : Cx} {CX : CXT} {k : Nat} {f : Addr} {fd : FuncData} {ps ks : List Str} {sp : Sp} {E : XK} {x : Str} {p pos : Pos} {e : Expr} {es : List Expr} {t tk : TA} {kws : List Keyword}
/-- the callee runs, its arguments bound in any way -/
theorem run_G {pins : List (Addr × Obj)} {σ : Sl} {H : Hp} {s : Shared} {Q : VK} {args : Args} {us : List Value} {vs : List V} (F : FnG X.prog X.w X.K X.mg X.base CX k f fd ps sp) (hgd : X.A.guards = some []) (hr : Room k X.A) (hx : Passes CX X E)
    (I : Inv X pins σ H s) (hb : BindsTo s fd args (ps.zip us)) (r : Vals vs us) (h : sp vs H Q E) : codeAny (model X.prog X.w) X.A (.call (.ref f) args) (fun r s' => match r with
      | .ok (.ret u) => EP X pins σ Q u s'
      | .ok _ => False
      | .error e => X.xe e s') s :=
  codeAny_mono (F.go X.A hgd hr X.stack s H I.env0 args us vs hb r Q E h) fun r s' hq => match r, hq with
    | .error e, hq => hx pins σ H s e s' I hq
    | .ok (.ret _), hq => I.after hq
/-- f(a, ..), f a def of the module, no defaults -/
theorem pe_callG (F : FnG X.prog X.w X.K X.mg X.base CX k f fd ps sp) (hgd : X.A.guards = some []) (hr : Room k X.A) (hg : Gl X x) (hm : X.mg x = some (.ref f)) (hk : PySem.W.keepIn X.K (.ref f) = true) (hb : Binds X.K fd ps []) (hx : Passes CX X E)
    (ha : PA X (e :: es) t) (hdb : (x == ("__debug__" : Str)) = false := by decide) (he : starEach (e :: es) X.env = (false, eval e X.env) :: starEach es X.env := by rfl) (hpl : (backTo pos (starEach es X.env)).any (·.1) = false := by rfl) :
    PE X (.Call (.Name x p) (e :: es) [] pos) (fun σ H Q => t σ H fun vs H1 => sp vs H1 Q E) :=
  ⟨fun pins s σ H Q I h => wpAny_Call_Name_kw (ld_glob I hg hm (PySem.W.callWith_K (h₀ := X.base) I.mod.kin hk (thn (ha.run pos pins s σ H _ I h) fun us s1 ⟨vs, H1, I1, r, q⟩ => ⟨I1.kIn, by
    have hl : (us ++ []).length = ps.length := by
      rw [List.append_nil, ← r.length]
      exact F.ar _ _ _ _ q
    have hbd := hb s1 us I1.kIn hl
    rw [List.append_nil] at hbd
    refine wpAny_call (codeAny_mono (run_G F hgd hr hx I1 hbd r q) fun r' s' hq => ?_)
    cases r' with
    | error e => exact hq
    | ok fl => cases fl <;> exact hq⟩) he hpl) hdb)⟩
/-- a list's or tuple's repr, and any data's -/
def rRepr (K : PySem.W.Frag) : List V → Hp → VK → Prop := fun vs H Q => ∃ v d, vs = [v] ∧ Dp K H v d ∧ d.showable = true ∧ d.hasDict = false ∧ d.shown.length ≤ sizeLine ∧ d.depth ≤ 60 ∧ Q (.str d.shown) H
theorem cr_repr (hgd : X.A.guards = some []) (hu : X.A.units + 64 < cLine) : CallR X (.builtin "repr") (rRepr X.K) := by
  intro pins s σ H xs us Q I r h
  obtain ⟨v, d, rfl, hd, hs, hnd, hsz, hdp, q⟩ := h
  obtain ⟨u, rfl, ru⟩ := vals1 r
  obtain ⟨as, rd⟩ := Dp.reads I d v u hd ru
  have big : ∀ a, u = .ref a → wpAny (model X.prog X.w) X.A (call (.builtin "repr") [u]) (EP X pins σ Q) X.xe s := fun a e => by
    subst e
    exact repr_of_reads' rd hs (PyData.noDict_hsm hnd) hgd (by omega) (fun _ _ e => e) (fun h' t tk hk => ⟨.str d.shown, H, I.kept hk, ⟨t, rfl⟩, q⟩) hsz
  cases hd with
  | non =>
    obtain rfl : u = Value.none := ru
    rw [PyData.shown_none] at q
    exact PySem.P.repr_of_none ⟨.str _, H, I.tok _, ⟨_, rfl⟩, q⟩
  | bl b =>
    obtain rfl : u = Value.bool b := ru
    rw [PyData.shown_bool] at q
    exact PySem.P.repr_of_bool ⟨.str _, H, I.tok _, ⟨_, rfl⟩, q⟩
  | int i =>
    obtain ⟨t, rfl⟩ := ru
    rw [PyData.shown_int] at q
    exact PySem.P.repr_of_int (by simpa [PyData.showable] using hs) ⟨.str _, H, I.tok _, ⟨_, rfl⟩, q⟩
  | str x =>
    obtain ⟨t, rfl⟩ := ru
    rw [PyData.shown_str] at q hsz
    exact PySem.P.repr_of_str ⟨.str _, H, I.tok _, ⟨_, rfl⟩, q⟩ hsz
  | lst _ _ => exact big _ ru
  | tup _ _ => exact big _ ru
end
/-! ### the end: the script's place, and nothing else, is tracked -/
section
variable {K : PySem.W.Frag} {h : Heap} {a b : Addr} {vs : List Value} {ns : List Int}
abbrev scriptObj (vs : List Value) : Obj := { cls := .type "list", data := .seq vs.toArray }
open Classical in
noncomputable def only1 (K : PySem.W.Frag) (a : Addr) (vs : List Value) (ns : List Int) : Hp := fun b => if b = a ∧ K.lookup a = none then some (.frz (scriptObj vs) (.lst (ns.map V.int))) else none
theorem only1_some {u : HO} (q : only1 K a vs ns b = some u) : b = a ∧ K.lookup a = none ∧ u = .frz (scriptObj vs) (.lst (ns.map V.int)) := by
  unfold only1 at q
  split at q
  · rename_i z
    exact ⟨z.1, z.2, (Option.some.inj q).symm⟩
  · cases q
theorem only1_other (q : ¬ (b = a ∧ K.lookup a = none)) : only1 K a vs ns b = none := by
  unfold only1
  rw [if_neg q]
theorem only1_at (q : K.lookup a = none) : only1 K a vs ns a = some (.frz (scriptObj vs) (.lst (ns.map V.int))) := by
  unfold only1
  rw [if_pos ⟨rfl, q⟩]
theorem only1_only : Only (only1 K a vs ns) := fun b => by
  cases q : only1 K a vs ns b with
  | none => exact .inl rfl
  | some u => exact .inr ⟨_, _, by rw [(only1_some q).2.2]⟩
theorem only1_list (KX : K.In h) (ha : h.get? a = some (scriptObj vs)) (hi : IntsAre vs ns) (hl : ns.length ≤ sizeLine) : SqL K (only1 K a vs ns) a (ns.map V.int) := by
  cases q : K.lookup a with
  | none => exact .inl (.inr ⟨_, only1_at q⟩)
  | some o =>
    obtain rfl : scriptObj vs = o := Option.some.inj (ha.symm.trans (KX a o q))
    exact .inr ⟨_, vs.toArray, _, q, rfl, rfl, rfl, by rw [List.size_toArray, hi.length]; exact hl, by simpa using vals_ints hi⟩
theorem only1_held {P : Program} {w : World} (ha : h.get? a = some (scriptObj vs)) (hi : IntsAre vs ns) (hl : ns.length ≤ sizeLine) : HOk P w (only1 K a vs ns) h := fun b u q => by
  obtain ⟨rfl, _, rfl⟩ := only1_some q
  exact ⟨ha, by rw [List.length_map]; exact hl, vs, _, vals_ints hi, ha⟩
/-- the heap without the script, where it is tracked: what is no list stays -/
theorem only1_rest {o : Obj} (q : h.get? b = some o) (ha : h.get? a = some (scriptObj vs)) (n : o ≠ scriptObj vs) : (hidT h (only1 K a vs ns)).get? b = some o :=
  hidT_get q (only1_other fun z => n (by rw [z.1, ha] at q; exact (Option.some.inj q).symm))
theorem only1_ns {m : Str → Option Value} (q : h.Ns b m) (ha : h.get? a = some (scriptObj vs)) : (hidT h (only1 K a vs ns)).Ns b m := by
  obtain ⟨o, es, ep, e, d, r⟩ := q
  exact ⟨o, es, ep, only1_rest e ha (fun z => by rw [z] at d; exact nomatch (d : Data.seq vs.toArray _ = Data.dict es ep)), d, r⟩
theorem only1_kin (KX : K.In h) : K.In (hidT h (only1 K a vs ns)) := fun b o e => hidT_get (KX b o e) (only1_other fun z => by rw [z.1, z.2] at e; cases e)
end
theorem walk_ofG {l : PySem.W.OpenLaw} {n k : Nat} {q : Program} {loose : List Str} {XP : (Str → Option Value) → Heap → Prop} {YP : World → Heap → Prop} {d : DefRec} {K : Params → PySem.W.Frag} {sp : World → Sp} {x : Str}
    (hn : l.most = some n) (hn2 : n ≤ sizeLine) (hdf : d.params.defaults = []) (hr : Room k callerA)
    (hY : ∀ (w : World) (h : Heap), YP w h → (K w.params).In h)
    (F : ∀ (w : World) (mg : Str → Option Value) (fa : Addr) (h : Heap), (K w.params).In h → h.Ns mainGlobals mg → mg d.name = some (.ref fa) →
      ∃ fd : FuncData, (∀ (s : Shared) (u : Value), BindsTo s fd ⟨[u], []⟩ [(x, u)]) ∧
        ∀ base : Heap, (K w.params).In base → base.Ns mainGlobals mg → FnG l.prog w (K w.params) mg base CX0 k fa fd [x] (sp w))
    (hsp : ∀ (w : World) (H : Hp) (a : Addr) (ns : List Int), ns.length ≤ n → Only H → SqL (K w.params) H a (ns.map V.int) → sp w [.ref a] H (fun v _ => v = .bl true) fun _ _ _ => False) :
    PySem.W.WalkO q loose XP YP l.row.toRowW d [] (fun f vs => PySem.call f vs) := by
  refine Att.attach_call hn hdf fun w s₀ s mg mb fa o pm cd doc a vs ns G Y ho hd hcd hmg ha hi hlen hg => ?_
  have KX := hY w _ Y
  have hz : ns.length ≤ sizeLine := Nat.le_trans hlen hn2
  obtain ⟨fd, hb, hF⟩ := F w mg fa _ KX G.T.g hmg
  obtain ⟨mc, hc1, hc2⟩ := G.T.nolimit
  have hM : Mod (K w.params) mg (hidT s.heap (only1 (K w.params) a vs ns)) := ⟨only1_kin KX, only1_ns G.T.g ha, ⟨mb, only1_ns G.T.b ha, G.T.builtins⟩, ⟨mc, only1_ns hc1 ha, hc2⟩⟩
  have e0 : Env0 l.prog w (K w.params) mg (hidT s.heap (only1 (K w.params) a vs ns)) callerA [] s (only1 (K w.params) a vs ns) :=
    ⟨rfl, hM, fun _ _ => of_hidT, Nat.le_of_eq (hidT_size _ _), trivial, fun _ z => (List.not_mem_nil z).elim, only1_held ha hi hz, .of_eq hg⟩
  have R := (hF _ hM.kin hM.glob).go callerA rfl hr [] s _ e0 ⟨[.ref a], []⟩ [.ref a] [.ref a] (hb s (.ref a)) (.cons rfl .nil) _ _ (hsp w _ a ns hlen only1_only (only1_list KX ha hi hz))
  refine codeAny_mono R fun r s' z => ?_
  cases r with
  | error e => exact False.elim z
  | ok fl =>
    cases fl with
    | next => exact False.elim z
    | brk => exact False.elim z
    | cont => exact False.elim z
    | ret u =>
      obtain ⟨v, H', os, bare, un, hok, rv, rfl⟩ := z
      obtain rfl : u = Value.bool true := rv
      refine ⟨rfl, OldK.of_keep fun b o e => ?_, os, bare⟩
      cases q : only1 (K w.params) a vs ns b with
      | none => exact un.keep b o e q (List.not_mem_nil) (List.not_mem_nil)
      | some u =>
        obtain ⟨rfl, _, rfl⟩ := only1_some q
        rw [ha] at e
        cases e
        exact (hok _ _ (un.frzs _ _ _ q)).1
end Kt

set_option Elab.async false
set_option linter.all false
set_option maxRecDepth 100000
set_option maxHeartbeats 4000000
/-! the deck of draws -/
namespace Kt
open PySem PySem.Spec PyProof.Rows L2
/-- the deck at a, its great numbers' list at c -/
def DeckAt (H : Hp) (a c : Addr) : Prop := ∃ (cells : List Int) (s n : Int), H a = some (.lst [.ref c, .int s, .int n]) ∧ H c = some (.lst (cells.map V.int)) ∧ a ≠ c
theorem DeckAt.new {H : Hp} {a c p : Addr} {o : HO} (h : DeckAt H a c) (hp : H p = none) : DeckAt (upd H p o) a c := by
  obtain ⟨cs, s, n, h1, h2, h3⟩ := h
  exact ⟨cs, s, n, by rw [upd_ne (ne_of_none h1 hp)]; exact h1, by rw [upd_ne (ne_of_none h2 hp)]; exact h2, h3⟩
theorem DeckAt.put {H : Hp} {a c p : Addr} {o : HO} (h : DeckAt H a c) (h1 : p ≠ a) (h2 : p ≠ c) : DeckAt (upd H p o) a c := by
  obtain ⟨cs, s, n, e1, e2, e3⟩ := h
  exact ⟨cs, s, n, by rw [upd_ne h1.symm]; exact e1, by rw [upd_ne h2.symm]; exact e2, e3⟩
theorem DeckAt.keep {H H' : Hp} {a c : Addr} {S : List Addr} (h : DeckAt H a c) (k : Kp S H H') (na : a ∉ S) (nc : c ∉ S) : DeckAt H' a c := by
  obtain ⟨cs, s, n, e1, e2, e3⟩ := h
  exact ⟨cs, s, n, k.get na e1, k.get nc e2, e3⟩
theorem DeckAt.some {H : Hp} {a c : Addr} (h : DeckAt H a c) : ∃ o u, H a = some o ∧ H c = some u ∧ a ≠ c := let ⟨_, _, _, e1, e2, e3⟩ := h; ⟨_, _, e1, e2, e3⟩
theorem DeckAt.ne {H : Hp} {a c p : Addr} (h : DeckAt H a c) (hp : H p = none) : p ≠ a ∧ p ≠ c := by
  obtain ⟨cs, s, n, e1, e2, e3⟩ := h
  exact ⟨(ne_of_none e1 hp).symm, (ne_of_none e2 hp).symm⟩
def spDraw : Sp := fun vs H Q _ => ∃ (a c : Addr) (many : Int), vs = [.ref a, .int many] ∧ DeckAt H a c ∧ 0 < many ∧ many < 1073741824 ∧ ∀ (H' : Hp) (r : Int), 0 ≤ r → r < many → DeckAt H' a c → Kp [a, c] H H' → Q (.int r) H'

theorem at0 {α : Type} {x : α} {r : List α} : atI (x :: r) 0 = some x := atI_nat (j := 0) rfl
theorem at1 {α : Type} {x y : α} {r : List α} : atI (x :: y :: r) 1 = some y := atI_nat (j := 1) rfl
theorem at2 {α : Type} {x y z : α} {r : List α} : atI (x :: y :: z :: r) 2 = some z := atI_nat (j := 2) rfl
theorem ix0 {n : Nat} (h : 0 < n) : ixN n 0 = some 0 := by
  unfold ixN
  rw [if_pos (Int.le_refl 0), if_pos (by omega)]
  rfl
theorem ix2 : ixN 3 2 = some 2 := by decide
theorem seq0 {n : Nat} (h : 0 < n) : seqIndex? 0 n = some 0 := (ixN_seq (ix0 h)).1
theorem small {n : Nat} (h : n ≤ 1000) : n ≤ sizeLine := Nat.le_trans h (by decide)
section
variable {X : Cx}
/-- xs[i] of a list; of a tuple -/
theorem kl {a b : Expr} {ta tb : TE} {pos : Pos} (ha : PE X a ta) (hb : PE X b tb) (hs : PlainIx b := by exact fun _ _ => rfl) : PE X (.Subscript a b pos) (tOp (rIxL X.K) ta tb) := pe_ix ix_list ha hb hs
theorem kt {a b : Expr} {ta tb : TE} {pos : Pos} (ha : PE X a ta) (hb : PE X b tb) (hs : PlainIx b := by exact fun _ _ => rfl) : PE X (.Subscript a b pos) (tOp (rIxT X.K) ta tb) := pe_ix ix_tup ha hb hs
end
theorem dp_ints {K : PySem.W.Frag} {H : Hp} : ∀ (ns : List Int), DpAll K H (ns.map V.int) (ns.map PyData.int)
  | [] => .nil
  | n :: ns => .cons (.int n) (dp_ints ns)
theorem canLay_ints : ∀ ns : List Int, PyData.canLayAll0 (ns.map PyData.int) = true
  | [] => by simp [PyData.canLayAll0]
  | n :: ns => by simp [PyData.canLayAll0, PyData.canLay0, canLay_ints ns]
theorem depth_ints : ∀ ns : List Int, PyData.depthAll (ns.map PyData.int) ≤ 1
  | [] => by simp [PyData.depthAll]
  | n :: ns => by
    have := depth_ints ns
    simp only [List.map_cons, PyData.depthAll, PyData.depth]
    omega
theorem shaped_of {d : PyData} (h1 : d.canLay0 = true) (h2 : d.depth ≤ 64) : SeqAt.shaped d = true := by
  unfold SeqAt.shaped
  rw [h1, decide_eq_true h2]
  rfl
theorem shaped_ints (ns : List Int) : SeqAt.shaped (.list (ns.map PyData.int)) = true := by
  refine shaped_of (by simp [PyData.canLay0, canLay_ints]) ?_
  have := depth_ints ns
  simp only [PyData.depth]
  omega
theorem eqv_nil (ns : List PyData) : PyData.eqv (.list ns) (.list []) = ns.isEmpty := by
  cases ns <;> simp [PyData.eqv, PyData.eqvAll]
/-- a comprehension without an if -/
theorem yesGo {σ : Sl} {H : Hp} {X Y : Hp → Prop} (h : X H) : tYes σ H (fun b H3 => if b = true then X H3 else Y H3) := by
  show (if true = true then X H else Y H)
  rw [if_pos rfl]
  exact h
/-! the same where one stands within a comprehension: the written part is told -/
section
variable {X : Cx} {a b : Expr} {ta tb : TE} {pos : Pos}
theorem klK (K : PySem.W.Frag) (ha : PE X a ta) (hb : PE X b tb) (hK : X.K = K := by rfl) (hs : PlainIx b := by exact fun _ _ => rfl) : PE X (.Subscript a b pos) (tOp (rIxL K) ta tb) := by
  subst hK
  exact pe_ix ix_list ha hb hs
theorem ktK (K : PySem.W.Frag) (ha : PE X a ta) (hb : PE X b tb) (hK : X.K = K := by rfl) (hs : PlainIx b := by exact fun _ _ => rfl) : PE X (.Subscript a b pos) (tOp (rIxT K) ta tb) := by
  subst hK
  exact pe_ix ix_tup ha hb hs
theorem op_inK (K : PySem.W.Frag) (hK : X.K = K := by rfl) : OpR X (compareOp .In) (rIn K false) := by
  subst hK
  exact op_in_seq
theorem op_notInK (K : PySem.W.Frag) (hK : X.K = K := by rfl) : OpR X (compareOp .NotIn) (rIn K true) := by
  subst hK
  exact op_notIn_seq
theorem op_eqK (K : PySem.W.Frag) (hu : X.A.units + 64 < cLine) (hK : X.K = K := by rfl) : OpR X (compareOp .Eq) (rEqD K) := by
  subst hK
  exact op_eqD hu
theorem op_neK (K : PySem.W.Frag) (hu : X.A.units + 64 < cLine) (hK : X.K = K := by rfl) : OpR X (compareOp .NotEq) (rNeD K) := by
  subst hK
  exact op_neD hu
end
end Kt

namespace Kt
open PySem PySem.Spec PyProof.Rows L2
def topS (i : Nat) : Stmt := PySem.Challenge.pw_whateverothers_k05_whole_all_orders_of_p.main.body.getD i (.Pass ⟨0, 0, 0, 0⟩)
abbrev sIsInt : Stmt := topS 1
abbrev sIsTup : Stmt := topS 2
abbrev sNear : Stmt := topS 4
abbrev sFieldOf : Stmt := topS 6
abbrev sOrdErr : Stmt := topS 8
abbrev sIsOrder : Stmt := topS 9
abbrev sOrdersP : Stmt := topS 10
abbrev sShared : Stmt := topS 11
abbrev sDeck : Stmt := topS 13
abbrev sDraw : Stmt := topS 14
abbrev sPick : Stmt := topS 15
abbrev sMixed : Stmt := topS 16
abbrev sBeside : Stmt := topS 17
abbrev sChart : Stmt := topS 18
abbrev sPieces : Stmt := topS 19
abbrev sOrdersOf : Stmt := topS 20
abbrev sBoard : Stmt := topS 21
abbrev sWide : Stmt := topS 22
abbrev sWideRight : Stmt := topS 23
abbrev sLaw : Stmt := topS 24
end Kt

set_option Elab.async false
set_option linter.all false
set_option maxRecDepth 100000
set_option maxHeartbeats 4000000
namespace Kt
open PySem PySem.Spec PyProof.Rows L2
section
variable {P : Program} {w : World} {K : PySem.W.Frag} {mg : Str → Option Value} {base : Heap}
theorem scDraw : FnScope ["deck", "many", "cell", "mixed"] ["deck", "many"] (defScope sDraw) := ⟨rfl, rfl, rfl, by decide +kernel, rfl, by decide +kernel, by decide +kernel⟩
theorem ok_draw {f : Addr} {fd : FuncData} (F : Fun K "_law_draw" "_law_draw" sDraw f fd) (mI : mg "int" = none) : FnOk P w K mg base CX0 1 f fd ["deck", "many"] spDraw := by
  refine F.ok scDraw (fun vs H Q E h => ?_) (fun cdv A outer s H vs Q E hr h => ?_)
  · obtain ⟨a, c, m, rfl, _⟩ := h
    rfl
  · obtain ⟨a, c, m, rfl, ⟨cells, st, n, h1, h2, nac⟩, hm0, hm1, k⟩ := h
    refine ⟨_, pss_cons (ps_if (pt_cmpR (op_neD hr.units) (kl (pv 0) pe_int) (pe_lst pa_nil) (nomark _))
        (pss_cons (ps_set (i := 2) scDraw.nd rfl (.inl rfl) (kl (kl (pv 0) pe_int) pe_int))
        (pss_cons (ps_asg (pe_op op_fdiv (pv 2) (pv 1)) (pg_sub (kl (pv 0) pe_int) pe_int set_list))
        (pss_cons (ps_if (pt_cmpR op_lt (pv 2) (pv 1) (nomark _)) (pss_one (ps_expr (pe_bm PySem.F.plainAttrs_list PySem.F.slot_list_pop PySem.F.type_list_pop mt_popAt (kl (pv 0) pe_int) (pa_cons pe_int pa_nil)))) pss_nil)
        (pss_one (ps_ret (pe_op op_mod (pe_callTy call_int1 (by rfl) mI PyProof.Rows.boot_int (pa_cons (pv 2) pa_nil)) (pv 1))))))) pss_nil)
      (pss_cons (ps_asg (pe_op op_add (kl (pv 0) pe_int) pe_int) (pg_sub (pv 0) pe_int set_list))
      (pss_cons (ps_set (i := 3) scDraw.nd rfl (.inl rfl) (pe_op op_mod (pe_callTy call_int1 (by rfl) mI PyProof.Rows.boot_int (pa_cons (pe_op op_add (kl (pv 0) pe_int) (pe_op op_mul pe_int (kl (pv 0) pe_int))) pa_nil)) pe_int))
      (pss_cons (ps_set (i := 3) scDraw.nd rfl (.inl rfl) (pe_op op_mod (pe_callTy call_int1 (by rfl) mI PyProof.Rows.boot_int (pa_cons (pe_op op_add (pe_op op_add (pe_op op_mul (pv 3) (pv 3)) (pe_op op_mul pe_int (kl (pv 0) pe_int))) pe_int) pa_nil)) pe_int))
      (pss_cons (ps_set (i := 3) scDraw.nd rfl (.inl rfl) (pe_op op_mod (pe_callTy call_int1 (by rfl) mI PyProof.Rows.boot_int (pa_cons (pe_op op_add (pe_op op_mul (pv 3) (pv 3)) (kl (pv 0) pe_int)) pa_nil)) pe_int))
      (pss_one (ps_ret (pe_op op_mod (pe_callTy call_int1 (by rfl) mI PyProof.Rows.boot_int (pa_cons (pe_op op_fdiv (pv 3) pe_int) pa_nil)) (pv 1)))))))), ?_⟩
    refine ⟨.ref a, rfl, a, _, 0, _, rfl, rfl, SqL.of h1, at0, Nat.zero_le _, fun e he => ?_⟩
    have ne1 := ne_of_none h1 he
    have ne2 := ne_of_none h2 he
    have h1' : (upd H e (.lst [])) a = some (.lst [.ref c, .int st, .int n]) := by rw [upd_ne ne1]; exact h1
    have h2' : (upd H e (.lst [])) c = some (.lst (cells.map V.int)) := by rw [upd_ne ne2]; exact h2
    have k0 : Kp [a, c] H (upd H e (.lst [])) := Kp.new he
    refine ⟨_, _, .lst (SqL.of h2') (dp_ints cells), .lst (SqL.of upd_same) .nil, shaped_ints cells, shaped_ints [], _, rfl, ?_⟩
    generalize upd H e (.lst []) = H1 at h1' h2' k0
    rw [eqv_nil]
    cases cells with
    | nil =>
      refine iteF ?_
      -- deck[2] = deck[2] + 1
      refine ⟨.ref a, rfl, a, _, 2, _, rfl, rfl, SqL.of h1', at2, n, 1, rfl, rfl, .ref a, rfl, a, _, 2, 2, rfl, rfl, h1', ix2, ?_⟩
      have h1n : (upd H1 a (.lst [.ref c, .int st, .int (n + 1)])) a = some (.lst [.ref c, .int st, .int (n + 1)]) := upd_same
      have k1 : Kp [a, c] H (upd H1 a (.lst [.ref c, .int st, .int (n + 1)])) := k0.trans (Kp.put (by simp))
      have h2n : (upd H1 a (.lst [.ref c, .int st, .int (n + 1)])) c = some (.lst []) := by rw [upd_ne nac.symm]; exact h2'
      show tSeq _ _ _ _ (upd H1 a (.lst [.ref c, .int st, .int (n + 1)]))
      generalize upd H1 a (.lst [.ref c, .int st, .int (n + 1)]) = H2 at h1n h2n k1
      refine ⟨.ref a, rfl, a, _, 1, _, rfl, rfl, SqL.of h1n, at1, .ref a, rfl, a, _, 2, _, rfl, rfl, SqL.of h1n, at2, _, _, rfl, rfl, .inl ⟨by decide, by decide⟩, _, _, rfl, rfl, .inl ⟨_, rfl, _, _, rfl, rfl, (by show (0 : Int) < 4294967291; decide), ?_⟩⟩
      generalize hx : (st + 2654435761 * (n + 1)) % 4294967291 = x
      have hx0 : 0 ≤ x ∧ x < 4294967291 := by omega
      refine ⟨_, rfl, _, rfl, _, _, rfl, rfl, .inl ⟨by omega, by omega⟩, .ref a, rfl, a, _, 2, _, rfl, rfl, SqL.of h1n, at2, _, _, rfl, rfl, .inl ⟨by decide, by decide⟩, _, _, rfl, rfl, _, _, rfl, rfl, .inl ⟨_, rfl, _, _, rfl, rfl, (by show (0 : Int) < 4294967279; decide), ?_⟩⟩
      generalize hy : (x * x + 40503 * (n + 1) + 11) % 4294967279 = y
      have hy0 : 0 ≤ y ∧ y < 4294967279 := by omega
      refine ⟨_, rfl, _, rfl, _, _, rfl, rfl, .inl ⟨by omega, by omega⟩, .ref a, rfl, a, _, 1, _, rfl, rfl, SqL.of h1n, at1, _, _, rfl, rfl, .inl ⟨_, rfl, _, _, rfl, rfl, (by show (0 : Int) < 4294967231; decide), ?_⟩⟩
      refine ⟨_, rfl, _, _, rfl, rfl, ⟨by decide, by decide⟩, .inl ⟨_, rfl, .int m, rfl, _, _, rfl, rfl, hm0, ?_⟩⟩
      exact k H2 _ (Int.emod_nonneg _ (by omega)) (Int.emod_lt_of_pos _ hm0) ⟨[], st, n + 1, h1n, h2n, nac⟩ k1
    | cons x cells =>
      refine iteT ?_
      -- cell = deck[0][0]
      refine ⟨.ref a, rfl, a, _, 0, _, rfl, rfl, SqL.of h1', at0, c, _, 0, _, rfl, rfl, SqL.of h2', at0, ?_⟩
      -- deck[0][0] = cell // many
      refine ⟨_, rfl, _, rfl, _, _, rfl, rfl, ⟨hm0, hm1⟩, .ref a, rfl, a, _, 0, _, rfl, rfl, SqL.of h1', at0, c, _, 0, 0, rfl, rfl, h2', ix0 (by simp), ?_⟩
      have e3 : ((x :: cells).map V.int).set 0 (.int (x / m)) = (x / m :: cells).map V.int := rfl
      rw [e3]
      have h1n : (upd H1 c (.lst ((x / m :: cells).map V.int))) a = some (.lst [.ref c, .int st, .int n]) := by rw [upd_ne nac]; exact h1'
      have h2n : (upd H1 c (.lst ((x / m :: cells).map V.int))) c = some (.lst ((x / m :: cells).map V.int)) := upd_same
      have k1 : Kp [a, c] H (upd H1 c (.lst ((x / m :: cells).map V.int))) := k0.trans (Kp.put (by simp))
      generalize upd H1 c (.lst ((x / m :: cells).map V.int)) = H2 at h1n h2n k1
      -- if cell < many
      refine ⟨_, rfl, _, rfl, _, _, rfl, rfl, _, rfl, ite2 (fun _ => ?_) (fun _ => ?_)⟩
      · refine ⟨.ref a, rfl, a, _, 0, _, rfl, rfl, SqL.of h1n, at0, .inl ⟨rfl, _, SqL.of h2n⟩, c, _, 0, 0, _, rfl, rfl, h2n, by decide, by decide, seq0 (by simp), rfl, ?_⟩
        refine ⟨_, rfl, .inl ⟨_, rfl, .int m, rfl, _, _, rfl, rfl, hm0, ?_⟩⟩
        refine k _ _ (Int.emod_nonneg _ (by omega)) (Int.emod_lt_of_pos _ hm0) ⟨cells, st, n, by rw [upd_ne nac]; exact h1n, upd_same, nac⟩ (k1.trans (Kp.put (by simp)))
      · refine ⟨_, rfl, .inl ⟨_, rfl, .int m, rfl, _, _, rfl, rfl, hm0, ?_⟩⟩
        exact k _ _ (Int.emod_nonneg _ (by omega)) (Int.emod_lt_of_pos _ hm0) ⟨_, st, n, h1n, h2n, nac⟩ k1
end
end Kt

set_option Elab.async false
set_option linter.all false
set_option maxRecDepth 100000
set_option maxHeartbeats 4000000
namespace Kt
open PySem PySem.Spec PyProof.Rows L2
theorem map_ints_get {ns : List Int} {i : Nat} {y : V} (h : (ns.map V.int)[i]? = some y) : ∃ n, ns[i]? = some n ∧ y = .int n := by
  rw [List.getElem?_map] at h
  cases e : ns[i]? with
  | none => rw [e] at h; cases h
  | some n => rw [e] at h; exact ⟨n, rfl, (Option.some.inj h).symm⟩
theorem cutV_ints (ns : List Int) (lo hi : Option Int) : ∃ ms : List Int, cutV (ns.map V.int) lo hi = ms.map V.int ∧ ms.length ≤ ns.length := by
  refine ⟨(ns.drop (HT.sIx (ns.map V.int).length 0 lo)).take (HT.sIx (ns.map V.int).length (ns.map V.int).length hi - HT.sIx (ns.map V.int).length 0 lo), ?_, ?_⟩
  · unfold cutV
    rw [List.map_take, List.map_drop]
  · rw [List.length_take, List.length_drop]
    omega
theorem kz_seq {H H' : Hp} (h : Kp [] H H') : Same H H' := fun b o e => h b o (by simp) e
def spDeck (K : PySem.W.Frag) : Sp := fun vs H Q _ => ∃ (p : Addr) (ns : List Int), vs = [.ref p] ∧ SqL K H p (ns.map V.int) ∧ ns.length ≤ 63 ∧ ∀ (H' : Hp) (a c : Addr), DeckAt H' a c → Kp [] H H' → H a = none → H c = none → Q (.ref a) H'
section
variable {P : Program} {w : World} {K : PySem.W.Frag} {mg : Str → Option Value} {base : Heap}
theorem scDeck : FnScope ["script", "cell", "cells", "stirred"] ["script"] (defScope sDeck) := ⟨rfl, rfl, rfl, by decide +kernel, rfl, by decide +kernel, by decide +kernel⟩
theorem ok_deck {f : Addr} {fd : FuncData} (F : Fun K "_law_deck" "_law_deck" sDeck f fd) (mI : mg "int" = none) (mL : mg "len" = none) : FnOk P w K mg base CX0 1 f fd ["script"] (spDeck K) := by
  refine F.ok scDeck (fun vs H Q E h => ?_) (fun cdv A outer s H vs Q E hr h => ?_)
  · obtain ⟨p, ns, rfl, _⟩ := h
    rfl
  · obtain ⟨p, ns, rfl, hp, hlen, k⟩ := h
    refine ⟨_, pss_cons (ps_par (i := 2) (j := 3) rfl scDeck.nd rfl rfl (by decide) rfl rfl
        (pa_cons (pe_lc (own := [("cell", 1)]) (g := gName 1) rfl scDeck.nd (pi_list (pe_slice sl_list (pv 0) po_none (po_some pe_int))) (blkOk_by (own := [("cell", 1)]) (N := ["script", "cell", "cells", "stirred"]) (sc := defScope sDeck) (by decide +kernel))
            (fun _ _ _ _ _ => pg_name (i := 1) scDeck.nd rfl (.inl rfl)) (fun _ _ _ _ _ => pts_nil)
            (fun _ _ _ _ _ => pe_ifExp (pt_cmpR op_ge (pv 1) pe_int (nomark _)) (pe_op op_mul pe_int (pv 1)) (pe_op op_sub (pe_op op_mul (pe_un un_neg pe_int) (pv 1)) pe_int)))
          (pa_cons (pe_op op_add pe_int (pe_callB call_len_seq (by rfl) mL PySem.boot_len (pa_cons (pv 0) pa_nil))) pa_nil)) (by rfl))
      (pss_cons (ps_for PassesOwn.never rfl (pi_list (pv 2)) (pg_name (i := 1) scDeck.nd rfl (.inl rfl))
        (pss_one (ps_set (i := 3) scDeck.nd rfl (.inl rfl) (pe_op op_mod (pe_callTy call_int1 (by rfl) mI PyProof.Rows.boot_int (pa_cons (pe_op op_add (pe_op op_mul (pv 3) pe_int) (pv 1)) pa_nil)) pe_int))))
      (pss_one (ps_ret (pe_lst (pa_cons (pe_lc (own := [("cell", 1)]) (g := gName 1) rfl scDeck.nd (pi_list (pv 2)) (blkOk_by (own := [("cell", 1)]) (N := ["script", "cell", "cells", "stirred"]) (sc := defScope sDeck) (by decide +kernel))
            (fun _ _ _ _ _ => pg_name (i := 1) scDeck.nd rfl (.inl rfl)) (fun _ _ _ _ _ => pts_one (pt_cmpR op_ge (pv 1) (pe_op op_pow pe_int pe_int) (nomark _)))
            (fun _ _ _ _ _ => pv 1)) (pa_cons (pv 3) (pa_cons pe_int pa_nil))))))), ?_⟩
    obtain ⟨ms, ems, hms⟩ := cutV_ints ns none (some 63)
    refine ⟨.ref p, rfl, 63, rfl, p, _, rfl, hp, fun z hz => ?_⟩
    rw [ems]
    have kz : Kp [] H (upd H z (.lst (ms.map V.int))) := Kp.new hz
    have hz1 : (upd H z (.lst (ms.map V.int))) z = some (.lst (ms.map V.int)) := upd_same
    generalize upd H z (.lst (ms.map V.int)) = H0 at kz hz1
    refine ⟨z, rfl, ⟨_, SqL.of hz1⟩, fun D hD => ?_⟩
    have nzD : z ≠ D := ne_of_none hz1 hD
    have hDH : H D = none := by
      cases e : H D with
      | none => rfl
      | some o => exact absurd (kz _ _ (by simp) e) (by rw [hD]; simp)
    refine lc_list (K := K) (a := z) (xs := ms.map V.int) (fun i H' => ∃ ls : List Int, H' D = some (.lst (ls.map V.int)) ∧ ls.length ≤ i ∧ H' z = some (.lst (ms.map V.int)) ∧ Kp [] H H')
      ⟨[], upd_same, Nat.zero_le _, by rw [upd_ne nzD]; exact hz1, kz.trans (Kp.new hD)⟩ (fun i H' _ ⟨_, _, _, e, _⟩ => SqL.of e) ?_ ?_
    · rintro i x H' hx ⟨ls, e1, e2, e3, e4⟩
      obtain ⟨n, hn, rfl⟩ := map_ints_get hx
      have hi : i < ms.length := (List.getElem?_eq_some_iff.mp hn).1
      have fin : ∀ y : Int, ∃ acc, H' D = some (.lst acc) ∧ acc.length < sizeLine ∧ ∃ ls : List Int, (upd H' D (.lst (acc ++ [.int y]))) D = some (.lst (ls.map V.int)) ∧ ls.length ≤ i + 1 ∧ (upd H' D (.lst (acc ++ [.int y]))) z = some (.lst (ms.map V.int)) ∧ Kp [] H (upd H' D (.lst (acc ++ [.int y]))) := fun y => by
        refine ⟨_, e1, ?_, ls ++ [y], ?_, ?_, ?_, ?_⟩
        · rw [List.length_map]
          exact small1000 (by omega)
        · rw [upd_same, List.map_append]
          rfl
        · rw [List.length_append]
          simpa using e2
        · rw [upd_ne nzD]
          exact e3
        · exact (e4.mono (S' := [D]) (by simp)).trans (Kp.put (by simp)) |>.drop hDH
      refine ⟨rfl, yesGo ?_⟩
      refine ⟨_, rfl, _, _, rfl, rfl, _, rfl, ite2 (fun _ => ?_) (fun _ => ?_)⟩
      · exact ⟨_, rfl, _, _, rfl, rfl, .inl ⟨by decide, by decide⟩, fin _⟩
      · exact ⟨_, rfl, _, rfl, _, _, rfl, rfl, .inl ⟨by decide, by decide⟩, _, _, rfl, rfl, fin _⟩
    · rintro H' ⟨ls, e1, e2, e3, e4⟩
      rw [List.length_map] at e2
      -- 48009 + len(script); cells, stirred
      refine ⟨.ref p, rfl, p, _, rfl, .inl ((kz_seq e4).seq hp), _, _, rfl, rfl, _, _, rfl, ?_⟩
      -- for cell in cells
      refine ⟨_, rfl, D, rfl, ⟨_, SqL.of e1⟩, for_list (K := K) (a := D) (xs := ls.map V.int) (fun i σ H2 => H2 = H' ∧ ∃ (v : Option V) (st : Int), σ = [some (.ref p), v, some (.ref D), some (.int st)])
        ⟨rfl, _, _, rfl⟩ (fun i σ H2 _ ⟨e, _⟩ => by rw [e]; exact SqL.of e1) ?_ ?_⟩
      · rintro i y σ H2 hy ⟨rfl, v, st, rfl⟩
        obtain ⟨n, hn, rfl⟩ := map_ints_get hy
        refine ⟨_, rfl, _, _, rfl, rfl, .inr ⟨by decide, by decide⟩, _, rfl, _, _, rfl, rfl, .inl ⟨_, rfl, _, _, rfl, rfl, (by show (0 : Int) < 4294967291; decide), ?_⟩⟩
        exact ⟨rfl, _, _, rfl⟩
      · rintro σ H2 ⟨rfl, v, st, rfl⟩
        -- return [[..], stirred, 0]
        refine ⟨_, rfl, D, rfl, ⟨_, SqL.of e1⟩, fun C hC => ?_⟩
        have nDC : D ≠ C := ne_of_none e1 hC
        have hCH : H C = none := by
          cases e : H C with
          | none => rfl
          | some o => exact absurd (e4 _ _ (by simp) e) (by rw [hC]; simp)
        refine lc_list (K := K) (a := D) (xs := ls.map V.int) (fun i H3 => ∃ cs : List Int, H3 C = some (.lst (cs.map V.int)) ∧ cs.length ≤ i ∧ H3 D = some (.lst (ls.map V.int)) ∧ Kp [] H H3)
          ⟨[], upd_same, Nat.zero_le _, by rw [upd_ne nDC]; exact e1, e4.trans (Kp.new hC)⟩ (fun i H3 _ ⟨_, _, _, e, _⟩ => SqL.of e) ?_ ?_
        · rintro i x H3 hx ⟨cs, f1, f2, f3, f4⟩
          obtain ⟨n, hn, rfl⟩ := map_ints_get hx
          have hi : i < ls.length := (List.getElem?_eq_some_iff.mp hn).1
          refine ⟨rfl, _, rfl, _, _, rfl, rfl, ⟨by decide, by decide, by decide⟩, _, _, rfl, rfl, _, rfl, ite2 (fun _ => ?_) (fun _ => ?_)⟩
          · refine ⟨_, rfl, _, f1, ?_, cs ++ [n], ?_, ?_, ?_, ?_⟩
            · rw [List.length_map]
              exact small1000 (by omega)
            · rw [upd_same, List.map_append]
              rfl
            · rw [List.length_append]
              simpa using f2
            · rw [upd_ne nDC]
              exact f3
            · exact (f4.mono (S' := [C]) (by simp)).trans (Kp.put (by simp)) |>.drop hCH
          · exact ⟨cs, f1, Nat.le_succ_of_le f2, f3, f4⟩
        · rintro H3 ⟨cs, f1, f2, f3, f4⟩
          refine ⟨_, rfl, by show 3 ≤ sizeLine; decide, fun a ha => ?_⟩
          have nCa : C ≠ a := ne_of_none f1 ha
          have haH : H a = none := by
            cases e : H a with
            | none => rfl
            | some o => exact absurd (f4 _ _ (by simp) e) (by rw [ha]; simp)
          exact k _ a C ⟨cs, st, 0, upd_same, by rw [upd_ne nCa]; exact f1, nCa.symm⟩ (f4.trans (Kp.new ha)) haH hCH
end
end Kt

set_option Elab.async false
set_option linter.all false
set_option maxRecDepth 100000
set_option maxHeartbeats 4000000
namespace Kt
open PySem PySem.Spec PyProof.Rows L2
theorem erase_perm {α : Type} : ∀ (l : List α) (i : Nat) (h : i < l.length), (l[i] :: l.eraseIdx i).Perm l
  | x :: l, 0, _ => List.Perm.refl _
  | x :: l, i + 1, h => (List.Perm.swap x _ _).trans (List.Perm.cons x (erase_perm l i (Nat.lt_of_succ_lt_succ h)))
/-- some data that may be compared -/
def Sh (K : PySem.W.Frag) (H : Hp) (x : V) : Prop := ∃ d, Dp K H x d ∧ d.canLay0 = true ∧ d.depth ≤ 60
theorem Sh.same {K : PySem.W.Frag} {H H' : Hp} {x : V} (h : Sh K H x) (e : Same H H') : Sh K H' x := let ⟨d, h1, h2, h3⟩ := h; ⟨d, Dp.same e d h1, h2, h3⟩
theorem sh_all {K : PySem.W.Frag} {H : Hp} : ∀ {xs : List V}, (∀ x ∈ xs, Sh K H x) → ∃ ds, DpAll K H xs ds ∧ PyData.canLayAll0 ds = true ∧ PyData.depthAll ds ≤ 60 ∧ ds.isEmpty = xs.isEmpty
  | [], _ => ⟨[], .nil, by simp [PyData.canLayAll0], by simp [PyData.depthAll], rfl⟩
  | x :: xs, h => by
    obtain ⟨d, h1, h2, h3⟩ := h x List.mem_cons_self
    obtain ⟨ds, g1, g2, g3, _⟩ := sh_all (xs := xs) fun y hy => h y (List.mem_cons_of_mem _ hy)
    exact ⟨d :: ds, .cons h1 g1, by simp [PyData.canLayAll0, h2, g2], by simp only [PyData.depthAll]; omega, rfl⟩
/-- xs != [] -/
theorem ne_nil {K : PySem.W.Frag} {H : Hp} {p q : Addr} {xs : List V} {Q : VK} (hp : SqL K H p xs) (hx : ∀ x ∈ xs, Sh K H x) (hq : H q = some (.lst [])) (k : Q (.bl (!xs.isEmpty)) H) : rNeD K (.ref p) (.ref q) H Q := by
  obtain ⟨ds, g1, g2, g3, g4⟩ := sh_all hx
  refine ⟨_, _, .lst hp g1, .lst (SqL.of hq) .nil, shaped_of (by simpa [PyData.canLay0] using g2) (by simp only [PyData.depth]; omega), shaped_of (by simp [PyData.canLay0, PyData.canLayAll0]) (by simp [PyData.depth, PyData.depthAll]), ?_⟩
  rw [eqv_nil, g4]
  exact k
def spPick (K : PySem.W.Frag) : Sp := fun vs H Q _ => ∃ (a c l : Addr) (xs : List V), vs = [.ref a, .ref l] ∧ DeckAt H a c ∧ l ≠ a ∧ l ≠ c ∧ SqL K H l xs ∧ xs ≠ [] ∧ xs.length ≤ 100000 ∧
  ∀ (H' : Hp) (x : V), x ∈ xs → DeckAt H' a c → Kp [a, c] H H' → Q x H'
def spMixed (K : PySem.W.Frag) : Sp := fun vs H Q _ => ∃ (a c l : Addr) (xs : List V), vs = [.ref a, .ref l] ∧ DeckAt H a c ∧ (SqL K H l xs ∨ SqT K H l xs) ∧ xs.length ≤ 100000 ∧ (∀ x ∈ xs, Sh K (Ob [a, c] H) x) ∧
  ∀ (H' : Hp) (p : Addr) (ys : List V), ys.Perm xs → H p = none → H' p = some (.lst ys) → DeckAt H' a c → Kp [a, c] H H' → Q (.ref p) H'
section
variable {P : Program} {w : World} {K : PySem.W.Frag} {mg : Str → Option Value} {base : Heap}
theorem scPick : FnScope ["deck", "items"] ["deck", "items"] (defScope sPick) := ⟨rfl, rfl, rfl, by decide +kernel, rfl, by decide +kernel, by decide +kernel⟩
theorem mg_lst {H H' : Hp} {a c l : Addr} {xs : List V} (h : SqL K H l xs) (k : Kp [a, c] H H') (h1 : l ≠ a) (h2 : l ≠ c) : SqL K H' l xs := by
  rcases h with (h | ⟨o, h⟩) | h
  · exact .inl (.inl (k.get (by simp [h1, h2]) h))
  · exact .inl (.inr ⟨o, k.get (by simp [h1, h2]) h⟩)
  · exact .inr h
theorem ok_pick {f fD : Addr} {fd fdD : FuncData} (F : Fun K "_law_pick" "_law_pick" sPick f fd) (FD : Fun K "_law_draw" "_law_draw" sDraw fD fdD) (bD : Binds K fdD ["deck", "many"] []) (gD : mg "_law_draw" = some (.ref fD)) (mI : mg "int" = none) (mL : mg "len" = none) :
    FnOk P w K mg base CX0 2 f fd ["deck", "items"] (spPick K) := by
  have GD : FnOk P w K mg base CX0 1 fD fdD ["deck", "many"] spDraw := ok_draw FD mI
  refine F.ok scPick (fun vs H Q E h => ?_) (fun cdv A outer s H vs Q E hr h => ?_)
  · obtain ⟨a, c, l, xs, rfl, _⟩ := h
    rfl
  · obtain ⟨a, c, l, xs, rfl, hD, n1, n2, hl, hne, hlen, k⟩ := h
    refine ⟨_, pss_one (ps_ret (kl (pv 1) (pe_call GD hr (by rfl) gD FD.kp bD .nil pass0 (pa_cons (pv 0) (pa_cons (pe_callB call_len_seq (by rfl) mL PySem.boot_len (pa_cons (pv 1) pa_nil)) pa_nil))) (fun _ _ => rfl))), ?_⟩
    have hpos : 0 < xs.length := by
      cases xs with
      | nil => exact absurd rfl hne
      | cons x r => simp
    refine ⟨.ref l, rfl, .ref a, rfl, .ref l, rfl, l, _, rfl, .inl hl, a, c, _, rfl, hD, by omega, by omega, fun H' r r0 r1 hD' k' => ?_⟩
    have hi : r.toNat < xs.length := by omega
    have e : xs[r.toNat]? = some xs[r.toNat] := List.getElem?_eq_getElem hi
    exact ⟨l, xs, r, xs[r.toNat], rfl, rfl, mg_lst hl k' n1 n2, at_of (j := r.toNat) (by omega) e, k H' _ (List.getElem_mem hi) hD' k'⟩
theorem scMixed : FnScope ["deck", "items", "rest", "got"] ["deck", "items"] (defScope sMixed) := ⟨rfl, rfl, rfl, by decide +kernel, rfl, by decide +kernel, by decide +kernel⟩
theorem ok_mixed {f fD : Addr} {fd fdD : FuncData} (F : Fun K "_law_mixed" "_law_mixed" sMixed f fd) (FD : Fun K "_law_draw" "_law_draw" sDraw fD fdD) (bD : Binds K fdD ["deck", "many"] []) (gD : mg "_law_draw" = some (.ref fD)) (mI : mg "int" = none) (mL : mg "len" = none) (mT : mg "list" = none) :
    FnOk P w K mg base CX0 2 f fd ["deck", "items"] (spMixed K) := by
  have GD : FnOk P w K mg base CX0 1 fD fdD ["deck", "many"] spDraw := ok_draw FD mI
  refine F.ok scMixed (fun vs H Q E h => ?_) (fun cdv A outer s H vs Q E hr h => ?_)
  · obtain ⟨a, c, l, xs, rfl, _⟩ := h
    rfl
  · obtain ⟨a, c, l, xs, rfl, hD, hl, hlen, hsh, k⟩ := h
    refine ⟨_, pss_cons (ps_par (i := 2) (j := 3) rfl scMixed.nd rfl rfl (by decide) rfl rfl (pa_cons (pe_callTy call_list_of (by rfl) mT PyProof.Rows.boot_list (pa_cons (pv 1) pa_nil)) (pa_cons (pe_lst pa_nil) pa_nil)) (by rfl))
      (pss_cons (ps_while PassesOwn.never (pt_cmpR (op_neD hr.units) (pv 2) (pe_lst pa_nil) (nomark _))
        (pss_one (ps_expr (pe_bm PySem.F.plainAttrs_list PySem.F.slot_list_append PySem.F.type_list_append mt_append (pv 3)
          (pa_cons (pe_bm PySem.F.plainAttrs_list PySem.F.slot_list_pop PySem.F.type_list_pop mt_popAt (pv 2) (pa_cons (pe_call GD hr (by rfl) gD FD.kp bD .nil pass0 (pa_cons (pv 0) (pa_cons (pe_callB call_len_seq (by rfl) mL PySem.boot_len (pa_cons (pv 2) pa_nil)) pa_nil))) pa_nil)) pa_nil)))))
      (pss_one (ps_ret (pv 3)))), ?_⟩
    have na := fun {p : Addr} (hp : H p = none) => hD.ne hp
    refine ⟨.ref l, rfl, l, xs, rfl, hl, fun r hr0 => ⟨Nat.zero_le _, fun g hg0 => ?_⟩⟩
    obtain ⟨ra, rc⟩ := na hr0
    have hg : H g = none := by
      by_cases e : g = r
      · rw [e]; exact hr0
      · rw [upd_ne e] at hg0; exact hg0
    have rg : r ≠ g := fun e => by rw [← e, upd_same] at hg0; cases hg0
    obtain ⟨ga, gc⟩ := na hg
    have back : ∀ H', Kp [r, g, a, c] H H' → Kp [a, c] H H' := fun H' z => Kp.drop (Kp.drop z hr0) hg
    refine ⟨_, _, rfl, fun m σ H' => ∃ rs gs, m = rs.length ∧ σ = [some (.ref a), some (.ref l), some (.ref r), some (.ref g)] ∧ (gs ++ rs).Perm xs ∧ H' r = some (.lst rs) ∧ H' g = some (.lst gs) ∧ DeckAt H' a c ∧ Kp [r, g, a, c] H H',
      ⟨_, xs, [], rfl, rfl, List.Perm.refl _, by rw [upd_ne rg, upd_same], upd_same, (hD.new hr0).new hg0, (Kp.new hr0).trans (Kp.new hg0)⟩, ?_⟩
    rintro m σ H' ⟨rs, gs, rfl, rfl, hp, h1, h2, hD', kk⟩
    refine ⟨.ref r, rfl, Nat.zero_le _, fun e he => ?_⟩
    have kE : Kp [r, g, a, c] H (upd H' e (.lst [])) := kk.trans (Kp.new he)
    have h1e : (upd H' e (.lst [])) r = some (.lst rs) := by rw [upd_ne (ne_of_none h1 he)]; exact h1
    have h2e : (upd H' e (.lst [])) g = some (.lst gs) := by rw [upd_ne (ne_of_none h2 he)]; exact h2
    have hDe : DeckAt (upd H' e (.lst [])) a c := hD'.new he
    refine ne_nil (SqL.of h1e) (fun x hx => ((hsh x (hp.mem_iff.mp (List.mem_append_right _ hx))).same (back _ kE).same).same (Ob.le _ _)) upd_same ⟨_, rfl, ?_⟩
    generalize upd H' e (.lst []) = H1 at kE h1e h2e hDe
    have hlen2 : gs.length + rs.length = xs.length := by rw [← List.length_append]; exact hp.length_eq
    cases rs with
    | nil =>
      refine iteF ⟨.ref g, rfl, ?_⟩
      rw [List.append_nil] at hp
      exact k H1 g gs hp hg h2e hDe (back _ kE)
    | cons x rs =>
      refine iteT ⟨fun σ' H2 => ∃ rs1 gs1, rs1.length = rs.length ∧ σ' = [some (.ref a), some (.ref l), some (.ref r), some (.ref g)] ∧ (gs1 ++ rs1).Perm xs ∧ H2 r = some (.lst rs1) ∧ H2 g = some (.lst gs1) ∧ DeckAt H2 a c ∧ Kp [r, g, a, c] H H2, ?_, ?_⟩
      · rintro σ' H2 ⟨rs1, gs1, e1, e2, e3⟩
        exact ⟨rs1.length, by rw [e1]; simp, rs1, gs1, rfl, e2, e3⟩
      · refine ⟨.ref g, rfl, .inl ⟨rfl, _, SqL.of h2e⟩, .ref r, rfl, .inl ⟨rfl, _, SqL.of h1e⟩, .ref a, rfl, .ref r, rfl, r, _, rfl, .inl (SqL.of h1e), a, c, _, rfl, hDe, by simp, by simp at hlen2 ⊢; omega, fun H2 i i0 i1 hD2 k2 => ?_⟩
        have hi : i.toNat < (x :: rs).length := by omega
        have h1n : H2 r = some (.lst (x :: rs)) := k2.get (by simp [ra, rc]) h1e
        have h2n : H2 g = some (.lst gs) := k2.get (by simp [ga, gc]) h2e
        have e := List.getElem?_eq_getElem hi
        refine ⟨r, _, i, i.toNat, _, rfl, rfl, h1n, by omega, by simp at i1 hlen2; omega, ?_, e, ?_⟩
        · have q := (ixN_seq (n := (x :: rs).length) (i := i) (j := i.toNat) (by unfold ixN; rw [if_pos i0, if_pos i1])).1
          exact q
        · refine ⟨g, _, _, rfl, rfl, by rw [upd_ne rg.symm]; exact h2n, Nat.lt_of_le_of_lt (show gs.length ≤ 100000 by omega) (by decide), ?_⟩
          refine ⟨(x :: rs).eraseIdx i.toNat, gs ++ [(x :: rs)[i.toNat]], by rw [List.length_eraseIdx_of_lt hi]; simp, rfl, ?_, by rw [upd_ne rg, upd_same], upd_same, (hD2.put ra rc).put ga gc, ((kE.trans (k2.mono (fun b h => List.mem_cons_of_mem _ (List.mem_cons_of_mem _ h)))).trans (Kp.put (by simp))).trans (Kp.put (by simp))⟩
          rw [List.append_assoc]
          exact (List.Perm.append_left gs (erase_perm _ _ hi)).trans hp
end
end Kt

set_option Elab.async false
set_option linter.all false
set_option maxRecDepth 100000
set_option maxHeartbeats 4000000
namespace Kt
open PySem PySem.Spec PyProof.Rows L2
/-! data, read back -/
section
variable {K : PySem.W.Frag} {H : Hp}
theorem tup_inv {v : V} {ds : List PyData} (h : Dp K H v (.tuple ds)) : ∃ a xs, v = .ref a ∧ SqT K H a xs ∧ DpAll K H xs ds := by
  cases h with
  | tup h1 h2 => exact ⟨_, _, rfl, h1, h2⟩
theorem lst_inv {v : V} {ds : List PyData} (h : Dp K H v (.list ds)) : ∃ a xs, v = .ref a ∧ SqL K H a xs ∧ DpAll K H xs ds := by
  cases h with
  | lst h1 h2 => exact ⟨_, _, rfl, h1, h2⟩
theorem int_inv {v : V} {i : Int} (h : Dp K H v (.int i)) : v = .int i := by cases h; rfl
theorem str_inv {v : V} {i : Str} (h : Dp K H v (.str i)) : v = .str i := by cases h; rfl
theorem all_len : ∀ {xs : List V} {ds : List PyData}, DpAll K H xs ds → xs.length = ds.length
  | _, _, .nil => rfl
  | _, _, .cons _ h => by rw [List.length_cons, List.length_cons, all_len h]
theorem all_get : ∀ {xs : List V} {ds : List PyData} {i : Nat} {x : V}, DpAll K H xs ds → xs[i]? = some x → ∃ d, ds[i]? = some d ∧ Dp K H x d
  | _, _, i, x, .nil, h => by simp at h
  | _, _, 0, x, .cons h1 _, h => by
    have e := Option.some.inj h
    subst e
    exact ⟨_, rfl, h1⟩
  | _, _, i + 1, x, .cons _ h2, h => all_get (i := i) h2 h
theorem all_at : ∀ {xs : List V} {ds : List PyData} {i : Nat} {d : PyData}, DpAll K H xs ds → ds[i]? = some d → ∃ x, xs[i]? = some x ∧ Dp K H x d
  | _, _, i, x, .nil, h => by simp at h
  | _, _, 0, x, .cons h1 _, h => by
    have e := Option.some.inj h
    subst e
    exact ⟨_, rfl, h1⟩
  | _, _, i + 1, x, .cons _ h2, h => all_at (i := i) h2 h
theorem all_ints : ∀ {xs : List V} {ns : List Int}, DpAll K H xs (ns.map PyData.int) → xs = ns.map V.int
  | _, [], h => by cases h; rfl
  | _, n :: ns, h => by
    cases h with
    | cons h1 h2 => rw [int_inv h1, all_ints h2]; rfl
theorem all_app : ∀ {xs ys : List V} {ds es : List PyData}, DpAll K H xs ds → DpAll K H ys es → DpAll K H (xs ++ ys) (ds ++ es)
  | _, _, _, _, .nil, h => h
  | _, _, _, _, .cons a b, h => .cons a (all_app b h)
theorem all_mem : ∀ {xs : List V} {ds : List PyData} {x : V}, DpAll K H xs ds → x ∈ xs → ∃ d ∈ ds, Dp K H x d := fun {xs ds x} h hx => by
  obtain ⟨i, hi⟩ := List.mem_iff_getElem?.mp hx
  obtain ⟨d, e, q⟩ := all_get h hi
  exact ⟨d, List.mem_of_getElem? e, q⟩
end
/-- a pair of ints -/
def pD (r : Int × Int) : PyData := .tuple [.int r.1, .int r.2]
theorem pair_inv {K : PySem.W.Frag} {H : Hp} {v : V} {r : Int × Int} (h : Dp K H v (pD r)) : ∃ t, v = .ref t ∧ SqT K H t [.int r.1, .int r.2] := by
  obtain ⟨a, xs, rfl, hs, ha⟩ := tup_inv h
  cases ha with
  | cons h1 h2 =>
    cases h2 with
    | cons h3 h4 =>
      cases h4
      rw [int_inv h1, int_inv h3] at hs
      exact ⟨a, rfl, hs⟩
/-- a chart: many, roads, centres -/
def chD (n : Int) (rs : List (Int × Int)) (cs : List Int) : PyData := .tuple [.int n, .tuple (rs.map pD), .tuple (cs.map .int)]
theorem chart_inv {K : PySem.W.Frag} {H : Hp} {v : V} {n : Int} {rs : List (Int × Int)} {cs : List Int} (h : Dp K H v (chD n rs cs)) :
    ∃ a t u, v = .ref a ∧ SqT K H a [.int n, .ref t, .ref u] ∧ Dp K H (.ref t) (.tuple (rs.map pD)) ∧ Dp K H (.ref u) (.tuple (cs.map .int)) := by
  obtain ⟨a, xs, rfl, hs, ha⟩ := tup_inv h
  cases ha with
  | cons h1 h2 =>
    cases h2 with
    | cons h3 h4 =>
      cases h4 with
      | cons h5 h6 =>
        cases h6
        obtain ⟨t, _, rfl, _⟩ := tup_inv h3
        obtain ⟨u, _, rfl, _⟩ := tup_inv h5
        rw [int_inv h1] at hs
        exact ⟨a, t, u, rfl, hs, h3, h5⟩
/-- the fields beside f, in the roads' order -/
def bes (rs : List (Int × Int)) (f : Int) : List Int := (rs.filter fun r => decide (f = r.1) || decide (f = r.2)).map fun r => r.1 + r.2 - f
theorem bes_snoc (rs : List (Int × Int)) (r : Int × Int) (f : Int) : bes (rs ++ [r]) f = bes rs f ++ (if (decide (f = r.1) || decide (f = r.2)) = true then [r.1 + r.2 - f] else []) := by
  unfold bes
  rw [List.filter_append, List.map_append]
  congr 1
  by_cases h : (decide (f = r.1) || decide (f = r.2)) = true
  · rw [if_pos h, List.filter_cons, if_pos h]
    rfl
  · rw [if_neg h, List.filter_cons, if_neg h]
    rfl
theorem take_snoc {α : Type} {l : List α} {i : Nat} {x : α} (h : l[i]? = some x) : l.take (i + 1) = l.take i ++ [x] := by
  rw [List.take_add_one, h]
  rfl
def spBeside (K : PySem.W.Frag) : Sp := fun vs H Q _ => ∃ (v : V) (n : Int) (rs : List (Int × Int)) (cs : List Int) (f : Int), vs = [v, .int f] ∧ Dp K H v (chD n rs cs) ∧ rs.length ≤ 1000 ∧
  ∀ (H' : Hp) (p : Addr) (ms : List Int), ms.Perm (bes rs f) → ms.Pairwise (· ≤ ·) → H p = none → H' p = some (.lst (ms.map V.int)) → Kp [] H H' → Q (.ref p) H'
theorem fresh_of {H H' : Hp} {S : List Addr} {p : Addr} (k : Kp S H H') (n : p ∉ S) (hp : H' p = none) : H p = none := by
  cases e : H p with
  | none => rfl
  | some o =>
    have q := k.get n e
    rw [hp] at q
    cases q
theorem eqv_int (a b : Int) : eqV (.int a) (.int b) = decide (b = a) := by
  simp only [eqV]
  by_cases h : b = a
  · rw [decide_eq_true h, h]; simp
  · rw [decide_eq_false h]; simp [Ne.symm h]
section
variable {P : Program} {w : World} {K : PySem.W.Frag} {mg : Str → Option Value} {base : Heap}
theorem scBeside : FnScope ["chart", "field", "a", "b"] ["chart", "field"] (defScope sBeside) := ⟨rfl, rfl, rfl, by decide +kernel, rfl, by decide +kernel, by decide +kernel⟩
theorem ok_beside {f : Addr} {fd : FuncData} (F : Fun K "_law_beside" "_law_beside" sBeside f fd) (mS : mg "sorted" = none) : FnOk P w K mg base CX0 1 f fd ["chart", "field"] (spBeside K) := by
  refine F.ok scBeside (fun vs H Q E h => ?_) (fun cdv A outer s H vs Q E hr h => ?_)
  · obtain ⟨v, n, rs, cs, f, rfl, _⟩ := h
    rfl
  · obtain ⟨v, n, rs, cs, f, rfl, hc, hlen, k⟩ := h
    refine ⟨_, pss_one (ps_ret (pe_callB cr_sortedI (by rfl) mS PyProof.Rows.boot_sorted (pa_cons
      (pe_lc (own := [("a", 2), ("b", 3)]) (g := gTup K 2 (gCons (gName 2) (gCons (gName 3) gNil))) rfl scBeside.nd (pi_tup (kt (pv 0) pe_int)) (blkOk_by (own := [("a", 2), ("b", 3)]) (N := ["chart", "field", "a", "b"]) (sc := defScope sBeside) (by decide +kernel))
        (fun _ _ _ _ _ => pg_tup rfl (pgs_cons (pg_name (i := 2) scBeside.nd rfl (.inl rfl)) (pgs_cons (pg_name (i := 3) scBeside.nd rfl (.inl rfl)) pgs_nil)))
        (fun _ _ _ _ _ => pts_one (pt_cmpR (op_inK K) (pv 1) (pe_tup (pa_cons (pv 2) (pa_cons (pv 3) pa_nil))) (by rfl)))
        (fun _ _ _ _ _ => pe_op op_sub (pe_op op_add (pv 2) (pv 3)) (pv 1))) pa_nil))), ?_⟩
    obtain ⟨a, t, u, rfl, hs, ht, _⟩ := chart_inv hc
    obtain ⟨t', xs, et, hxs, hall⟩ := tup_inv ht
    cases et
    have hl : xs.length = rs.length := by rw [all_len hall, List.length_map]
    refine ⟨.ref a, rfl, a, _, 1, _, rfl, rfl, hs, at1, t, rfl, ⟨_, hxs⟩, fun D hD => ?_⟩
    refine lc_tup (K := K) (a := t) (xs := xs) (fun i H' => H' D = some (.lst ((bes (rs.take i) f).map V.int)) ∧ (bes (rs.take i) f).length ≤ i ∧ Kp [] H H') ⟨upd_same, Nat.zero_le _, Kp.new hD⟩ (fun i H' _ ⟨_, _, kk⟩ => sameT (kz_seq kk) hxs) ?_ ?_
    · rintro i x H' hx ⟨h1, h2, kk⟩
      obtain ⟨d, hd, hxd⟩ := all_get hall hx
      rw [List.getElem?_map] at hd
      obtain ⟨r, hr', rfl⟩ := Option.map_eq_some_iff.mp hd
      obtain ⟨q, rfl, hq⟩ := pair_inv (Dp.same (kz_seq kk) _ hxd)
      have hi : i < rs.length := (List.getElem?_eq_some_iff.mp hr').1
      refine ⟨q, _, rfl, hq, rfl, .int r.1, _, rfl, .int r.2, _, rfl, rfl, rfl, ?_⟩
      refine ⟨.int f, rfl, .int r.1, rfl, .int r.2, rfl, by show 2 ≤ sizeLine; decide, fun z hz => ⟨z, _, rfl, .inr (SqT.of upd_same), rfl, rfl, _, rfl, ?_⟩⟩
      have kz : Kp [] H (upd H' z (.tup [.int r.1, .int r.2])) := kk.trans (Kp.new hz)
      have h1z : (upd H' z (.tup [.int r.1, .int r.2])) D = some (.lst ((bes (rs.take i) f).map V.int)) := by rw [upd_ne (ne_of_none h1 hz)]; exact h1
      have hDH : H D = none := hD
      rw [show inV (.int f) [.int r.1, .int r.2] = (decide (f = r.1) || decide (f = r.2)) by
        unfold inV
        rw [List.any_cons, List.any_cons, List.any_nil, eqv_int, eqv_int, Bool.or_false]]
      rw [take_snoc hr', bes_snoc]
      refine ite2 (fun hy => ?_) (fun hn => ?_)
      · replace hy : (decide (f = r.1) || decide (f = r.2)) = true := hy
        rw [if_pos hy]
        refine ⟨.int r.1, rfl, .int r.2, rfl, r.1, r.2, rfl, rfl, .int f, rfl, _, _, rfl, rfl, _, h1z, ?_, ?_, ?_, ?_⟩
        · rw [List.length_map]
          exact small1000 (by omega)
        · rw [upd_same, List.map_append]
          rfl
        · rw [List.length_append]
          simpa using h2
        · exact (kz.mono (S' := [D]) (by simp)).trans (Kp.put (by simp)) |>.drop hDH
      · replace hn : ¬ (decide (f = r.1) || decide (f = r.2)) = true := hn
        rw [if_neg hn, List.append_nil]
        exact ⟨h1z, Nat.le_succ_of_le h2, kz⟩
    · rintro H' ⟨h1, h2, kk⟩
      rw [hl, List.take_length] at h1
      refine ⟨D, _, rfl, SqL.of h1, fun ms p hp1 hp2 hp => ?_⟩
      exact k _ p ms hp1 hp2 (fresh_of kk (by simp) hp) upd_same (kk.trans (Kp.new hp))
end
end Kt

set_option Elab.async false
set_option linter.all false
set_option maxRecDepth 100000
set_option maxHeartbeats 4000000
namespace Kt
open PySem PySem.Spec PyProof.Rows L2
/-! pairs of ints that stand in the heap -/
def PrAt (H : Hp) (x : V) (r : Int × Int) : Prop := ∃ t, x = .ref t ∧ H t = some (.tup [.int r.1, .int r.2])
abbrev Prs (H : Hp) : List V → List (Int × Int) → Prop := Paired (PrAt H)
/-- what is told of S: no tuple stands there -/
def NoTup (H : Hp) (S : List Addr) : Prop := ∀ s ∈ S, ∀ xs, H s ≠ some (.tup xs)
theorem PrAt.keep {H H' : Hp} {S : List Addr} {x : V} {r : Int × Int} (h : PrAt H x r) (k : Kp S H H') (n : NoTup H S) : PrAt H' x r := by
  obtain ⟨t, rfl, e⟩ := h
  exact ⟨t, rfl, k.get (fun z => n t z _ e) e⟩
theorem Prs.keep {H H' : Hp} {S : List Addr} (k : Kp S H H') (n : NoTup H S) : ∀ {xs : List V} {rs : List (Int × Int)}, Prs H xs rs → Prs H' xs rs
  | _, _, .nil => .nil
  | _, _, .cons h t => .cons (h.keep k n) (Prs.keep k n t)
theorem Prs.data {K : PySem.W.Frag} {H : Hp} {S : List Addr} (n : NoTup H S) : ∀ {xs : List V} {rs : List (Int × Int)}, Prs H xs rs → DpAll K (Ob S H) xs (rs.map pD)
  | _, _, .nil => .nil
  | _, _, .cons h t => by
    obtain ⟨a, rfl, e⟩ := h
    exact .cons (.tup (SqT.of (Ob.mk (fun z => n a z _ e) e)) (.cons (.int _) (.cons (.int _) .nil))) (Prs.data n t)
theorem Prs.snoc {H : Hp} {x : V} {r : Int × Int} (hx : PrAt H x r) : ∀ {xs : List V} {rs : List (Int × Int)}, Prs H xs rs → Prs H (xs ++ [x]) (rs ++ [r])
  | _, _, .nil => .cons hx .nil
  | _, _, .cons h t => .cons h (Prs.snoc hx t)
theorem Prs.len {H : Hp} : ∀ {xs : List V} {rs : List (Int × Int)}, Prs H xs rs → xs.length = rs.length
  | _, _, .nil => rfl
  | _, _, .cons _ t => by rw [List.length_cons, List.length_cons, Prs.len t]
def keyP (H : Hp) (x : V) : Int × Int := match x with
  | .ref t => match H t with
    | some (.tup [.int i, .int j]) => (i, j)
    | _ => (0, 0)
  | _ => (0, 0)
theorem keyP_at {H : Hp} {x : V} {r : Int × Int} (h : PrAt H x r) : keyP H x = r := by
  obtain ⟨t, rfl, e⟩ := h
  unfold keyP
  simp only [e]
theorem Prs.keys {H : Hp} : ∀ {xs : List V} {rs : List (Int × Int)}, Prs H xs rs → xs.map (keyP H) = rs ∧ ∀ x ∈ xs, PrAt H x (keyP H x)
  | _, _, .nil => ⟨rfl, fun _ h => absurd h (by simp)⟩
  | _, _, .cons h t => by
    obtain ⟨e1, e2⟩ := Prs.keys t
    refine ⟨by rw [List.map_cons, keyP_at h, e1], fun x hx => ?_⟩
    rcases List.mem_cons.mp hx with e | hx
    · rw [e, keyP_at h]
      exact h
    · exact e2 x hx
theorem prs_map {H : Hp} : ∀ {ys : List V}, (∀ x ∈ ys, PrAt H x (keyP H x)) → Prs H ys (ys.map (keyP H))
  | [], _ => .nil
  | y :: ys, h => .cons (h y List.mem_cons_self) (prs_map fun x hx => h x (List.mem_cons_of_mem _ hx))
theorem prs_sorted {H : Hp} {xs ys : List V} {rs : List (Int × Int)} (hp : Prs H xs rs) (h1 : SrtO.Srtd (ltP (keyP H)) ys) (h2 : SrtO.Stb (ltP (keyP H)) ys xs) :
    (ys.map (keyP H)).Perm rs ∧ (ys.map (keyP H)).Pairwise (fun u v => SrtO.lexB v u = false) ∧ Prs H ys (ys.map (keyP H)) := by
  obtain ⟨e1, e2⟩ := hp.keys
  refine ⟨?_, List.pairwise_map.mpr h1, prs_map fun x hx => e2 x (h2.perm.mem_iff.mp hx)⟩
  rw [← e1]
  exact h2.perm.map _
/-! (a, b) in pairs -/
theorem eqv_pair (r q : Int × Int) : PyData.eqv (pD r) (pD q) = decide (r = q) := by
  obtain ⟨a, b⟩ := r
  obtain ⟨c, d⟩ := q
  unfold pD
  simp only [PyData.eqv, PyData.eqvAll, Bool.and_true]
  by_cases h1 : a = c <;> by_cases h2 : b = d <;> simp [h1, h2]
theorem any_pair (rs : List (Int × Int)) (q : Int × Int) : ((rs.map pD).any fun z => PyData.eqv z (pD q)) = decide (q ∈ rs) := by
  induction rs with
  | nil => rfl
  | cons r rs ih =>
    rw [List.map_cons, List.any_cons, ih, eqv_pair]
    by_cases h : r = q
    · simp [h]
    · have h' : ¬ q = r := fun e => h e.symm
      simp [h, h']
theorem canLay_pairs : ∀ rs : List (Int × Int), PyData.canLayAll0 (rs.map pD) = true
  | [] => by simp [PyData.canLayAll0]
  | r :: rs => by simp [PyData.canLayAll0, PyData.canLay0, pD, canLay_pairs rs]
theorem depth_pairs : ∀ rs : List (Int × Int), PyData.depthAll (rs.map pD) ≤ 1
  | [] => by simp [PyData.depthAll]
  | r :: rs => by
    have := depth_pairs rs
    simp only [List.map_cons, PyData.depthAll, PyData.depth, pD]
    omega
theorem shaped_pairs (rs : List (Int × Int)) : SeqAt.shaped (.list (rs.map pD)) = true :=
  shaped_of (by simp [PyData.canLay0, canLay_pairs]) (by have := depth_pairs rs; simp only [PyData.depth]; omega)
theorem shaped_pair (r : Int × Int) : SeqAt.shaped (pD r) = true := shaped_of (by simp [PyData.canLay0, PyData.canLayAll0, pD]) (by simp [PyData.depth, PyData.depthAll, pD])
end Kt

set_option Elab.async false
set_option linter.all false
set_option maxRecDepth 100000
set_option maxHeartbeats 4000000
namespace Kt
open PySem PySem.Spec PyProof.Rows L2
/-- a chart of n fields as the law makes it -/
structure ChOk (n : Int) (rs : List (Int × Int)) (cs : List Int) : Prop where
  lo : 0 < n
  hi : n ≤ 24
  few : rs.length ≤ 200
  road : ∀ r ∈ rs, 0 ≤ r.1 ∧ r.1 < r.2 ∧ r.2 < n
  nd : rs.Nodup
  srt : rs.Pairwise fun u v => SrtO.lexB v u = false
  cen : ∀ c ∈ cs, 0 ≤ c ∧ c < n
  cfew : cs.length ≤ 24
  csrt : cs.Pairwise (· < ·)
theorem hu65 {k : Nat} {A : Around} (hr : Room k A) : A.units + 65 < cLine := by
  have := hr.un
  omega
theorem clip {x y : Int} (h : x < y) (h0 : 0 < y) : 0 ≤ (if x > 0 then x else 0) ∧ (if x > 0 then x else 0) < y := by
  split <;> omega
/-- the roads made so far, at R -/
structure Roads (H : Hp) (a c R : Addr) (B : Int) (xs : List V) (rs : List (Int × Int)) (H' : Hp) : Prop where
  at_ : H' R = some (.lst xs)
  prs : Prs H' xs rs
  deck : DeckAt H' a c
  keep : Kp [R, a, c] H H'
  road : ∀ r ∈ rs, 0 ≤ r.1 ∧ r.1 < r.2 ∧ r.2 < B
  nd : rs.Nodup
theorem Roads.noTup {H : Hp} {a c R : Addr} {B : Int} {xs : List V} {rs : List (Int × Int)} {H' : Hp} (h : Roads H a c R B xs rs H') : NoTup H' [R, a, c] := by
  obtain ⟨cs, s, n, e1, e2, _⟩ := h.deck
  intro q hq ys e
  rcases List.mem_cons.mp hq with z | hq
  · rw [z, h.at_] at e; cases e
  · rcases List.mem_cons.mp hq with z | hq
    · rw [z, e1] at e; cases e
    · have z : q = c := by simpa using hq
      rw [z, e2] at e; cases e
theorem Roads.draw {H : Hp} {a c R : Addr} {B : Int} {xs : List V} {rs : List (Int × Int)} {H' H2 : Hp} (h : Roads H a c R B xs rs H') (d : DeckAt H2 a c) (k : Kp [a, c] H' H2) (n1 : R ≠ a) (n2 : R ≠ c) : Roads H a c R B xs rs H2 :=
  ⟨k.get (by simp [n1, n2]) h.at_, h.prs.keep k (fun s hs => h.noTup s (List.mem_cons_of_mem _ hs)), d, h.keep.trans (k.mono fun b hb => List.mem_cons_of_mem _ hb), h.road, h.nd⟩
theorem Roads.wide {H : Hp} {a c R : Addr} {B B' : Int} {xs : List V} {rs : List (Int × Int)} {H' : Hp} (h : Roads H a c R B xs rs H') (e : B ≤ B') : Roads H a c R B' xs rs H' :=
  ⟨h.at_, h.prs, h.deck, h.keep, fun r hr => by have := h.road r hr; omega, h.nd⟩
theorem Roads.new {H : Hp} {a c R p : Addr} {B : Int} {xs : List V} {rs : List (Int × Int)} {H' : Hp} {o : HO} (h : Roads H a c R B xs rs H') (hp : H' p = none) : Roads H a c R B xs rs (upd H' p o) :=
  ⟨by rw [upd_ne (ne_of_none h.at_ hp)]; exact h.at_, h.prs.keep (Kp.new (S := [R, a, c]) hp) h.noTup, h.deck.new hp, h.keep.trans (Kp.new hp), h.road, h.nd⟩
/-- one road more, its pair at t -/
theorem Roads.more {H : Hp} {a c R t : Addr} {B : Int} {xs : List V} {rs : List (Int × Int)} {H' : Hp} {r : Int × Int} (h : Roads H a c R B xs rs H') (e : H' t = some (.tup [.int r.1, .int r.2])) (n1 : R ≠ a) (n2 : R ≠ c)
    (g : 0 ≤ r.1 ∧ r.1 < r.2 ∧ r.2 < B) (nr : r ∉ rs) : Roads H a c R B (xs ++ [.ref t]) (rs ++ [r]) (upd H' R (.lst (xs ++ [.ref t]))) := by
  have k : Kp [R, a, c] H' (upd H' R (.lst (xs ++ [.ref t]))) := Kp.put (by simp)
  refine ⟨upd_same, Prs.snoc (PrAt.keep ⟨t, rfl, e⟩ k h.noTup) (h.prs.keep k h.noTup), h.deck.put n1 n2, h.keep.trans k, fun q hq => ?_, ?_⟩
  · rcases List.mem_append.mp hq with z | z
    · exact h.road q z
    · rw [List.mem_singleton.mp z]
      exact g
  · rw [List.nodup_append]
    exact ⟨h.nd, by simp, fun x hx y hy e => nr (by rw [List.mem_singleton.mp hy] at e; rw [← e]; exact hx)⟩
def spChart (K : PySem.W.Frag) : Sp := fun vs H Q _ => ∃ (a c : Addr) (n m : Int), vs = [.ref a, .int n, .int m] ∧ DeckAt H a c ∧ 0 < n ∧ n ≤ 24 ∧ 0 ≤ m ∧ m ≤ 100 ∧
  ∀ (H' : Hp) (v : V) (rs : List (Int × Int)) (cs : List Int), ChOk n rs cs → Da K [a, c] H' v (chD n rs cs) → DeckAt H' a c → Kp [a, c] H H' → Q v H'
section
variable {P : Program} {w : World} {K : PySem.W.Frag} {mg : Str → Option Value} {base : Heap}
abbrev nChart : List Str := ["deck", "many", "more", "roads", "b", "turn", "a", "centres", "field"]
theorem scChart : FnScope nChart ["deck", "many", "more"] (defScope sChart) := ⟨rfl, rfl, rfl, by decide +kernel, rfl, by decide +kernel, by decide +kernel⟩
theorem ok_chart {f fD : Addr} {fd fdD : FuncData} (F : Fun K "_law_chart" "_law_chart" sChart f fd) (FD : Fun K "_law_draw" "_law_draw" sDraw fD fdD) (bD : Binds K fdD ["deck", "many"] []) (gD : mg "_law_draw" = some (.ref fD)) (mI : mg "int" = none)
    (mR : mg "range" = none) (mX : mg "max" = none) (mT : mg "tuple" = none) (mS : mg "sorted" = none) : FnOk P w K mg base CX0 2 f fd ["deck", "many", "more"] (spChart K) := by
  have GD : FnOk P w K mg base CX0 1 fD fdD ["deck", "many"] spDraw := ok_draw FD mI
  refine F.ok scChart (fun vs H Q E h => ?_) (fun cdv A outer s H vs Q E hr h => ?_)
  · obtain ⟨a, c, n, m, rfl, _⟩ := h
    rfl
  · obtain ⟨a, c, n, m, rfl, hD, hn0, hn1, hm0, hm1, k⟩ := h
    refine ⟨_, pss_cons (ps_set (i := 3) scChart.nd rfl (.inl rfl) (pe_lst pa_nil))
      (pss_cons (ps_for PassesOwn.never rfl (pi_range2 (by rfl) mR (pa_cons pe_int (pa_cons (pv 1) pa_nil))) (pg_name (i := 4) scChart.nd rfl (.inl rfl))
        (pss_one (ps_if (pt_cmpR op_gt (pe_call GD hr (by rfl) gD FD.kp bD .nil pass0 (pa_cons (pv 0) (pa_cons pe_int pa_nil))) pe_int (nomark _))
          (pss_one (ps_expr (pe_bm PySem.F.plainAttrs_list PySem.F.slot_list_append PySem.F.type_list_append mt_append (pv 3) (pa_cons (pe_tup (pa_cons
            (pe_callB (call_max2 rfl) (by rfl) mX PyProof.Rows.boot_max (pa_cons pe_int (pa_cons (pe_op op_sub (pe_op op_sub (pv 4) pe_int) (pe_call GD hr (by rfl) gD FD.kp bD .nil pass0 (pa_cons (pv 0) (pa_cons pe_int pa_nil)))) pa_nil)))
            (pa_cons (pv 4) pa_nil))) pa_nil)))) pss_nil)))
      (pss_cons (ps_for PassesOwn.never rfl (pi_range1 (by rfl) mR (pa_cons (pv 2) pa_nil)) (pg_name (i := 5) scChart.nd rfl (.inl rfl))
        (pss_cons (ps_par (i := 6) (j := 4) rfl scChart.nd rfl rfl (by decide) rfl rfl
            (pa_cons (pe_call GD hr (by rfl) gD FD.kp bD .nil pass0 (pa_cons (pv 0) (pa_cons (pv 1) pa_nil))) (pa_cons (pe_call GD hr (by rfl) gD FD.kp bD .nil pass0 (pa_cons (pv 0) (pa_cons (pv 1) pa_nil))) pa_nil)) (by rfl))
        (pss_one (ps_if (PW.pt (pw_and (pt_cmpR op_lt (pv 6) (pv 4) (nomark _)) (pw_and1 (pt_cmpR (op_notInD (hu65 hr)) (pe_tup (pa_cons (pv 6) (pa_cons (pv 4) pa_nil))) (pv 3) (by rfl)))))
          (pss_one (ps_expr (pe_bm PySem.F.plainAttrs_list PySem.F.slot_list_append PySem.F.type_list_append mt_append (pv 3) (pa_cons (pe_tup (pa_cons (pv 6) (pa_cons (pv 4) pa_nil))) pa_nil)))) pss_nil))))
      (pss_cons (ps_setLc (i := 7) (own := [("field", 8)]) (g := gName 8) rfl scChart.nd rfl rfl (sw_true rfl rfl rfl (by decide +kernel)) (pi_range1 (by rfl) mR (pa_cons (pv 1) pa_nil))
          (blkOk_by (own := [("field", 8)]) (N := nChart) (sc := defScope sChart) (by decide +kernel)) (fun _ _ _ _ _ => pg_name (i := 8) scChart.nd rfl (.inl rfl))
          (fun _ _ _ _ _ => pts_one (pt_cmpR op_eq (pe_call GD hr (by rfl) gD FD.kp bD .nil pass0 (pa_cons (pv 0) (pa_cons pe_int pa_nil))) pe_int (nomark _)))
          (fun _ _ _ _ _ => pv 8))
      (pss_one (ps_ret (pe_tup (pa_cons (pv 1) (pa_cons (pe_callTy call_tuple_of (by rfl) mT PyProof.Rows.boot_tuple (pa_cons (pe_callB cr_sortedPO (by rfl) mS PyProof.Rows.boot_sorted (pa_cons (pv 3) pa_nil)) pa_nil))
          (pa_cons (pe_callTy call_tuple_of (by rfl) mT PyProof.Rows.boot_tuple (pa_cons (pv 7) pa_nil)) pa_nil))))))))), ?_⟩
    refine ⟨Nat.zero_le _, fun R hR => ?_⟩
    obtain ⟨Ra, Rc⟩ := hD.ne hR
    -- for b in range(1, many)
    refine ⟨.int n, rfl, 1, n, rfl, ⟨by decide, by decide, by omega, by omega⟩, for_range (lo := 1) (n := (n - 1).toNat)
      (fun i σ H' => ∃ xs rs v4, σ = [some (.ref a), some (.int n), some (.int m), some (.ref R), v4, none, none, none, none] ∧ rs.length ≤ i ∧ Roads H a c R (1 + i) xs rs H')
      ⟨[], [], none, rfl, Nat.le_refl _, upd_same, .nil, hD.new hR, Kp.new hR, fun r hr => absurd hr (by simp), List.nodup_nil⟩ ?_ ?_⟩
    · rintro i σ H' hi ⟨xs, rs, v4, rfl, hl, G⟩
      refine ⟨.ref a, rfl, a, c, 9, rfl, G.deck, by decide, by decide, fun H1 r r0 r1 hD1 k1 => ⟨_, _, rfl, rfl, _, rfl, ?_⟩⟩
      have G1 := G.draw hD1 k1 Ra Rc
      refine ite2 (fun _ => ?_) (fun _ => ?_)
      · refine ⟨.ref R, rfl, .inl ⟨rfl, _, SqL.of G1.at_⟩, .int (1 + i), rfl, _, _, rfl, rfl, .ref a, rfl, a, c, 3, rfl, G1.deck, by decide, by decide, fun H2 q q0 q1 hD2 k2 => ⟨_, _, rfl, rfl, 0, _, rfl, .int (1 + i), rfl, by show 2 ≤ sizeLine; decide, fun t ht => ?_⟩⟩
        have G2 := (G1.draw hD2 k2 Ra Rc).new (o := .tup [.int (if 1 + (i : Int) - 1 - q > 0 then 1 + (i : Int) - 1 - q else 0), .int (1 + i)]) ht
        refine ⟨R, _, _, rfl, rfl, G2.at_, small1000 (by rw [G2.prs.len]; omega), xs ++ [.ref t], rs ++ [((if 1 + (i : Int) - 1 - q > 0 then 1 + (i : Int) - 1 - q else 0 : Int), (1 + (i : Int) : Int))], _, rfl, by rw [List.length_append]; simpa using hl, ?_⟩
        refine Roads.more (G2.wide (by push_cast; omega)) upd_same Ra Rc ⟨(clip (y := 1 + (i : Int)) (by omega) (by omega)).1, (clip (y := 1 + (i : Int)) (by omega) (by omega)).2, by push_cast; omega⟩ (fun z => ?_)
        · have := (G2.road _ z).2.2
          simp at this
      · exact ⟨xs, rs, _, rfl, Nat.le_succ_of_le hl, G1.wide (by push_cast; omega)⟩
    · rintro σ H1 ⟨xs, rs, v4, rfl, hl, G⟩
      have G : Roads H a c R n xs rs H1 := G.wide (by omega)
      -- for turn in range(more)
      refine ⟨.int m, rfl, m, rfl, by omega, by omega, for_range (lo := 0) (n := m.toNat)
        (fun i σ H' => ∃ xs rs v4 v5 v6, σ = [some (.ref a), some (.int n), some (.int m), some (.ref R), v4, v5, v6, none, none] ∧ rs.length ≤ 24 + i ∧ Roads H a c R n xs rs H')
        ⟨xs, rs, _, _, _, rfl, by omega, G⟩ ?_ ?_⟩
      · rintro i σ H' hi ⟨xs, rs, v4, v5, v6, rfl, hl, G⟩
        refine ⟨.ref a, rfl, .int n, rfl, a, c, n, rfl, G.deck, by omega, by omega, fun H2 x x0 x1 hD2 k2 => ?_⟩
        have G2 := G.draw hD2 k2 Ra Rc
        refine ⟨.ref a, rfl, .int n, rfl, a, c, n, rfl, G2.deck, by omega, by omega, fun H3 y y0 y1 hD3 k3 => ?_⟩
        have G3 := G2.draw hD3 k3 Ra Rc
        refine ⟨_, _, rfl, _, rfl, _, rfl, _, _, rfl, rfl, _, rfl, ?_⟩
        refine ite2 (fun hxy => ?_) (fun _ => ?_)
        · have hxy : x < y := of_decide_eq_true hxy
          refine ⟨_, rfl, _, rfl, by show 2 ≤ sizeLine; decide, fun t ht => ?_⟩
          have G4 := G3.new (o := .tup [.int x, .int y]) ht
          refine ⟨.ref R, rfl, pD (x, y), rs.map pD, .tup (SqT.of upd_same) (.cons (.int _) (.cons (.int _) .nil)), .lst (SqL.of G4.at_) (Dp_all (G4.prs.data G4.noTup)), shaped_pair _, shaped_pairs _, _, rfl, ?_⟩
          rw [any_pair]
          generalize upd H3 t (.tup [.int x, .int y]) = H4 at G4
          refine ite2 (fun hno => ?_) (fun _ => ?_)
          · have hno : (x, y) ∉ rs := by simpa using hno
            refine ⟨.ref R, rfl, .inl ⟨rfl, _, SqL.of G4.at_⟩, _, rfl, _, rfl, by show 2 ≤ sizeLine; decide, fun u hu => ?_⟩
            have G5 := G4.new (o := .tup [.int x, .int y]) hu
            refine ⟨R, _, _, rfl, rfl, G5.at_, small1000 (by rw [G5.prs.len]; omega), xs ++ [.ref u], rs ++ [(x, y)], _, _, _, rfl, by rw [List.length_append]; simp; omega, ?_⟩
            exact Roads.more (r := (x, y)) G5 upd_same Ra Rc ⟨x0, hxy, y1⟩ hno
          · exact ⟨xs, rs, _, _, _, rfl, by omega, G4⟩
        · exact ⟨xs, rs, _, _, _, rfl, by omega, G3⟩
      · rintro σ H2 ⟨xs, rs, v4, v5, v6, rfl, hl, G⟩
        -- centres
        refine ⟨.int n, rfl, n, rfl, by omega, by omega, fun C hC => ?_⟩
        have CR : C ≠ R := (ne_of_none G.at_ hC).symm
        obtain ⟨Ca, Cc⟩ := G.deck.ne hC
        have hCH : H C = none := fresh_of G.keep (by simp [CR, Ca, Cc]) hC
        refine lc_range (lo := 0) (n := n.toNat) (fun i H' => ∃ cs : List Int, H' C = some (.lst (cs.map V.int)) ∧ cs.length ≤ i ∧ (∀ z ∈ cs, 0 ≤ z ∧ z < i) ∧ cs.Pairwise (· < ·) ∧ Roads H a c R n xs rs H')
          ⟨[], upd_same, Nat.le_refl _, fun z hz => absurd hz (by simp), List.Pairwise.nil, G.new hC⟩ ?_ ?_
        · rintro i H' hi ⟨cs, e1, e2, e3, e4, G⟩
          refine ⟨rfl, .ref a, rfl, a, c, 2, rfl, G.deck, by decide, by decide, fun H3 q q0 q1 hD3 k3 => ⟨rfl, _, rfl, ?_⟩⟩
          have G3 := G.draw hD3 k3 Ra Rc
          have e13 : H3 C = some (.lst (cs.map V.int)) := k3.get (by simp [Ca, Cc]) e1
          refine ite2 (fun _ => ?_) (fun _ => ?_)
          · refine ⟨_, rfl, _, e13, small1000 (by rw [List.length_map]; omega), cs ++ [0 + (i : Int)], by rw [upd_same, List.map_append]; rfl, by rw [List.length_append]; simpa using e2, fun z hz => ?_, ?_, ?_⟩
            · rcases List.mem_append.mp hz with z1 | z1
              · have := e3 z z1
                push_cast
                omega
              · rw [List.mem_singleton.mp z1]
                push_cast
                omega
            · rw [List.pairwise_append]
              refine ⟨e4, by simp, fun x hx y hy => ?_⟩
              have := e3 x hx
              rw [List.mem_singleton.mp hy]
              omega
            · exact ⟨by rw [upd_ne CR.symm]; exact G3.at_, G3.prs.keep (Kp.put (S := [C]) (by simp)) (fun s hs xs e => by rw [List.mem_singleton.mp hs, e13] at e; cases e), G3.deck.put Ca Cc, (Kp.trans (G3.keep.mono fun b hb => List.mem_cons_of_mem C hb) (Kp.put (by simp))).drop hCH, G3.road, G3.nd⟩
          · exact ⟨cs, e13, Nat.le_succ_of_le e2, fun z hz => by have := e3 z hz; push_cast; omega, e4, G3⟩
        · rintro H3 ⟨cs, e1, e2, e3, e4, G⟩
          refine ⟨.int n, rfl, .ref R, rfl, R, xs, keyP H3, rfl, SqL.of G.at_, (Prs.keys G.prs).2, fun ys S s1 s2 hS => ?_⟩
          obtain ⟨p1, p2, p3⟩ := prs_sorted G.prs s1 s2
          generalize ys.map (keyP H3) = rs' at p1 p2 p3
          refine ⟨S, ys, rfl, .inl ⟨SqL.of upd_same, fun T hT => ?_⟩⟩
          have G4 := G.new (o := .lst ys) hS
          have q4 : Prs (upd H3 S (.lst ys)) ys rs' := p3.keep (Kp.new (S := [R, a, c]) hS) G.noTup
          have e14 : (upd H3 S (.lst ys)) C = some (.lst (cs.map V.int)) := by rw [upd_ne (ne_of_none e1 hS)]; exact e1
          generalize upd H3 S (.lst ys) = H4 at G4 q4 e14 hT
          have G5 := G4.new (o := .tup ys) hT
          have q5 : Prs (upd H4 T (.tup ys)) ys rs' := q4.keep (Kp.new (S := [R, a, c]) hT) G4.noTup
          have eT : (upd H4 T (.tup ys)) T = some (.tup ys) := upd_same
          have e15 : (upd H4 T (.tup ys)) C = some (.lst (cs.map V.int)) := by rw [upd_ne (ne_of_none e14 hT)]; exact e14
          generalize upd H4 T (.tup ys) = H5 at G5 q5 eT e15
          refine ⟨.ref C, rfl, C, _, rfl, .inl ⟨SqL.of e15, fun W hW => ?_⟩⟩
          have G6 := G5.new (o := .tup (cs.map V.int)) hW
          have q6 : Prs (upd H5 W (.tup (cs.map V.int))) ys rs' := q5.keep (Kp.new (S := [R, a, c]) hW) G5.noTup
          have eT6 : (upd H5 W (.tup (cs.map V.int))) T = some (.tup ys) := by rw [upd_ne (ne_of_none eT hW)]; exact eT
          have eW : (upd H5 W (.tup (cs.map V.int))) W = some (.tup (cs.map V.int)) := upd_same
          generalize upd H5 W (.tup (cs.map V.int)) = H6 at G6 q6 eT6 eW
          refine ⟨by show 3 ≤ sizeLine; decide, fun Z hZ => ?_⟩
          have G7 := G6.new (o := .tup [.int n, .ref T, .ref W]) hZ
          have q7 : Prs (upd H6 Z (.tup [.int n, .ref T, .ref W])) ys rs' := q6.keep (Kp.new (S := [R, a, c]) hZ) G6.noTup
          have eT7 : (upd H6 Z (.tup [.int n, .ref T, .ref W])) T = some (.tup ys) := by rw [upd_ne (ne_of_none eT6 hZ)]; exact eT6
          have eW7 : (upd H6 Z (.tup [.int n, .ref T, .ref W])) W = some (.tup (cs.map V.int)) := by rw [upd_ne (ne_of_none eW hZ)]; exact eW
          have eZ : (upd H6 Z (.tup [.int n, .ref T, .ref W])) Z = some (.tup [.int n, .ref T, .ref W]) := upd_same
          generalize upd H6 Z (.tup [.int n, .ref T, .ref W]) = H7 at G7 q7 eT7 eW7 eZ
          have nt := G7.noTup
          have out : ∀ {q : Addr} {zs : List V}, H7 q = some (.tup zs) → q ∉ [a, c] := fun {q zs} e hq => nt q (List.mem_cons_of_mem _ hq) _ e
          refine k H7 (.ref Z) rs' cs ⟨hn0, hn1, ?_, fun r hr => G.road r (p1.mem_iff.mp hr), p1.nodup_iff.mpr G.nd, p2, fun z hz => by have := e3 z hz; omega, by omega, e4⟩ ?_ G7.deck (G7.keep.drop hR)
          · rw [p1.length_eq]
            omega
          · exact .tup (SqT.of (Ob.mk (out eZ) eZ)) (.cons (.int n) (.cons (.tup (SqT.of (Ob.mk (out eT7) eT7)) (q7.data fun s hs => nt s (List.mem_cons_of_mem _ hs))) (.cons (.tup (SqT.of (Ob.mk (out eW7) eW7)) (dp_ints cs)) .nil)))
end
end Kt

set_option Elab.async false
set_option linter.all false
set_option maxRecDepth 100000
set_option maxHeartbeats 4000000
namespace Kt
open PySem PySem.Spec PyProof.Rows L2
/-! ints in values -/
def toI : V → Int
  | .int i => i
  | _ => 0
theorem perm_ints {ys : List V} {ns : List Int} (h : ys.Perm (ns.map V.int)) : ∃ ms : List Int, ys = ms.map V.int ∧ ms.Perm ns := by
  have e : ∀ zs : List V, (∀ z ∈ zs, ∃ n, z = V.int n) → zs = (zs.map toI).map V.int := fun zs hz => by
    induction zs with
    | nil => rfl
    | cons z zs ih =>
      obtain ⟨n, rfl⟩ := hz z List.mem_cons_self
      rw [List.map_cons, List.map_cons, ← ih fun x hx => hz x (List.mem_cons_of_mem _ hx)]
      rfl
  refine ⟨ys.map toI, e ys fun z hz => ?_, ?_⟩
  · obtain ⟨n, _, rfl⟩ := List.mem_map.mp (h.mem_iff.mp hz)
    exact ⟨n, rfl⟩
  · have q := h.map toI
    rw [List.map_map] at q
    have : (toI ∘ V.int) = id := rfl
    rw [this, List.map_id] at q
    exact q
def rgI (n : Int) : List Int := (List.range n.toNat).map fun i => ((i : Nat) : Int)
theorem rgV_ints (n : Int) : rgV 0 n = (rgI n).map V.int := by
  unfold rgV rgI
  rw [List.map_map, Int.sub_zero]
  refine List.map_congr_left fun i _ => ?_
  show V.int (0 + (i : Int)) = V.int (i : Int)
  rw [Int.zero_add]
theorem rgI_mem {n z : Int} : z ∈ rgI n ↔ 0 ≤ z ∧ z < n := by
  unfold rgI
  rw [List.mem_map]
  constructor
  · rintro ⟨i, hi, rfl⟩
    have := List.mem_range.mp hi
    omega
  · rintro ⟨h1, h2⟩
    exact ⟨z.toNat, List.mem_range.mpr (by omega), by omega⟩
theorem rgI_nodup (n : Int) : (rgI n).Nodup := by
  unfold rgI List.Nodup
  rw [List.pairwise_map]
  refine List.nodup_range.imp fun {i j} h e => h (by omega)
theorem rgI_len (n : Int) : (rgI n).length = n.toNat := by
  unfold rgI
  rw [List.length_map, List.length_range]
theorem cut_to (xs : List V) (k : Int) (h : 0 ≤ k) : cutV xs none (some k) = xs.take k.toNat := by
  have e : k = ((k.toNat : Nat) : Int) := by omega
  unfold cutV
  rw [HT.sIx_none, e, HT.sIx_nat, List.drop_zero, Nat.sub_zero]
  rw [List.take_eq_take_iff]
  have : (((k.toNat : Nat) : Int)).toNat = k.toNat := by omega
  rw [this]
  omega
theorem sh_int {K : PySem.W.Frag} {H : Hp} (n : Int) : Sh K H (.int n) := ⟨.int n, .int n, by simp [PyData.canLay0], by simp [PyData.depth]⟩
theorem sh_ints {K : PySem.W.Frag} {H : Hp} {ns : List Int} : ∀ x ∈ ns.map V.int, Sh K H x := fun x hx => by
  obtain ⟨n, _, rfl⟩ := List.mem_map.mp hx
  exact sh_int n
theorem strict {ms : List Int} (h1 : ms.Pairwise (· ≤ ·)) (h2 : ms.Nodup) : ms.Pairwise (· < ·) :=
  (List.Pairwise.and h1 h2).imp fun {a b} h => by
    have := h.1
    have := h.2
    omega
/-- pieces of a chart of n fields -/
structure PsOk (n : Int) (ps : List (Int × Int)) : Prop where
  fld : ∀ p ∈ ps, 0 ≤ p.1 ∧ p.1 < n ∧ 0 ≤ p.2 ∧ p.2 < 6
  asc : ps.Pairwise fun p q => p.1 < q.1
def spPieces (K : PySem.W.Frag) : Sp := fun vs H Q _ => ∃ (a c : Addr) (v : V) (n m : Int) (rs : List (Int × Int)) (cs : List Int), vs = [.ref a, v, .int m] ∧ DeckAt H a c ∧ Da K [a, c] H v (chD n rs cs) ∧ 0 < n ∧ n ≤ 24 ∧ 0 ≤ m ∧ m ≤ 100 ∧
  ∀ (H' : Hp) (u : V) (ps : List (Int × Int)), PsOk n ps → ps.length = min m.toNat n.toNat → Da K [a, c] H' u (.tuple (ps.map pD)) → DeckAt H' a c → Kp [a, c] H H' → Q u H'
section
variable {P : Program} {w : World} {K : PySem.W.Frag} {mg : Str → Option Value} {base : Heap}
abbrev nPieces : List Str := ["deck", "chart", "many", "players", "fields", "field"]
theorem scPieces : FnScope nPieces ["deck", "chart", "many"] (defScope sPieces) := ⟨rfl, rfl, rfl, by decide +kernel, rfl, by decide +kernel, by decide +kernel⟩
theorem ok_pieces {f fD fM fP : Addr} {fd fdD fdM fdP : FuncData} (F : Fun K "_law_pieces" "_law_pieces" sPieces f fd) (FD : Fun K "_law_draw" "_law_draw" sDraw fD fdD) (bD : Binds K fdD ["deck", "many"] []) (gD : mg "_law_draw" = some (.ref fD))
    (FM : Fun K "_law_mixed" "_law_mixed" sMixed fM fdM) (bM : Binds K fdM ["deck", "items"] []) (gM : mg "_law_mixed" = some (.ref fM)) (FP : Fun K "_law_pick" "_law_pick" sPick fP fdP) (bP : Binds K fdP ["deck", "items"] []) (gP : mg "_law_pick" = some (.ref fP))
    (mI : mg "int" = none) (mL : mg "len" = none) (mLi : mg "list" = none) (mR : mg "range" = none) (mT : mg "tuple" = none) (mS : mg "sorted" = none) : FnOk P w K mg base CX0 3 f fd ["deck", "chart", "many"] (spPieces K) := by
  have GD : FnOk P w K mg base CX0 1 fD fdD ["deck", "many"] spDraw := ok_draw FD mI
  have GM : FnOk P w K mg base CX0 2 fM fdM ["deck", "items"] (spMixed K) := ok_mixed FM FD bD gD mI mL mLi
  have GP : FnOk P w K mg base CX0 2 fP fdP ["deck", "items"] (spPick K) := ok_pick FP FD bD gD mI mL
  refine F.ok scPieces (fun vs H Q E h => ?_) (fun cdv A outer s H vs Q E hr h => ?_)
  · obtain ⟨a, c, v, n, m, rs, cs, rfl, _⟩ := h
    rfl
  · obtain ⟨a, c, v, n, m, rs, cs, rfl, hD, hv, hn0, hn1, hm0, hm1, k⟩ := h
    refine ⟨_, pss_cons (ps_set (i := 3) scPieces.nd rfl (.inr rfl) (pe_slice sl_list (pe_call GM hr (by rfl) gM FM.kp bM .nil pass0 (pa_cons (pv 0) (pa_cons (pe_listRg rfl (by rfl) mLi (prg_1 (by rfl) mR pe_int)) pa_nil)))
          po_none (po_some (pe_op op_add pe_int (pe_call GD (hr.mono (by decide)) (by rfl) gD FD.kp bD .nil pass0 (pa_cons (pv 0) (pa_cons pe_int pa_nil)))))))
      (pss_cons (ps_set (i := 4) scPieces.nd rfl (.inl rfl) (pe_callB cr_sortedI (by rfl) mS PyProof.Rows.boot_sorted (pa_cons (pe_slice sl_list (pe_call GM hr (by rfl) gM FM.kp bM .nil pass0 (pa_cons (pv 0)
          (pa_cons (pe_listRg rfl (by rfl) mLi (prg_1 (by rfl) mR (kt (pv 1) pe_int))) pa_nil))) po_none (po_some (pv 2))) pa_nil)))
      (pss_one (ps_ret (pe_callTy call_tuple_of (by rfl) mT PyProof.Rows.boot_tuple (pa_cons
        (pe_lc (own := [("field", 5)]) (g := gName 5) rfl scPieces.nd (pi_list (pv 4)) (blkOk_by (own := [("field", 5)]) (N := nPieces) (sc := defScope sPieces) (by decide +kernel)) (fun _ _ _ _ _ => pg_name (i := 5) scPieces.nd rfl (.inl rfl))
          (fun _ _ _ _ _ => pts_nil) (fun _ _ _ _ _ => pe_tup (pa_cons (pv 5) (pa_cons (pe_call GP hr (by rfl) gP FP.kp bP .nil pass0 (pa_cons (pv 0) (pa_cons (pv 3) pa_nil))) pa_nil)))) pa_nil))))), ?_⟩
    -- players
    refine ⟨.ref a, rfl, 6, rfl, RgOk.of_le (by decide) (by decide) (by decide) (by decide), fun q hq => ?_⟩
    rw [rgV_ints]
    refine ⟨a, c, q, _, rfl, hD.new hq, .inl (SqL.of upd_same), by decide, sh_ints, fun H1 p ys hp1 hp2 hp3 hD1 k1 => ?_⟩
    obtain ⟨ms, rfl, hms⟩ := perm_ints hp1
    have k1 : Kp [a, c] H H1 := (Kp.new hq).trans k1
    have hpH : H p = none := by
      by_cases e : p = q
      · rw [e]; exact hq
      · rw [upd_ne e] at hp2; exact hp2
    obtain ⟨pa, pc⟩ := hD.ne hpH
    refine ⟨.ref a, rfl, a, c, 2, rfl, hD1, by decide, by decide, fun H2 r r0 r1 hD2 k2 => ⟨2, r, rfl, rfl, 2 + r, rfl, p, _, rfl, SqL.of (k2.get (by simp [pa, pc]) hp3), fun p2 hp2 => ?_⟩⟩
    rw [cut_to _ _ (by omega), ← List.map_take]
    have hms6 : ms.length = 6 := by rw [hms.length_eq]; decide
    have hpl : ∀ z ∈ ms.take (2 + r).toNat, 0 ≤ z ∧ z < 6 := fun z hz => rgI_mem.mp (hms.mem_iff.mp (List.mem_of_mem_take hz))
    have hplne : ms.take (2 + r).toNat ≠ [] := fun e => by
      have e := congrArg List.length e
      rw [List.length_take, hms6] at e
      simp only [List.length_nil] at e
      omega
    have hpllen : (ms.take (2 + r).toNat).length ≤ 6 := by rw [List.length_take, hms6]; omega
    generalize ms.take (2 + r).toNat = pl at hpl hplne hpllen
    have k3 : Kp [a, c] H (upd H2 p2 (.lst (pl.map V.int))) := (k1.trans k2).trans (Kp.new hp2)
    have hD3 := hD2.new (o := .lst (pl.map V.int)) hp2
    obtain ⟨p2a, p2c⟩ := hD2.ne hp2
    have hP3 : (upd H2 p2 (.lst (pl.map V.int))) p2 = some (.lst (pl.map V.int)) := upd_same
    show tSeq _ _ _ _ (upd H2 p2 (.lst (pl.map V.int)))
    generalize upd H2 p2 (.lst (pl.map V.int)) = H3 at k3 hD3 hP3
    clear hp2 hD2 k2 hp3 hD1 k1 hp1
    -- fields
    have hv3 := hv.keep k3
    obtain ⟨ta, t1, t2, rfl, hs, _, _⟩ := chart_inv hv3.dp
    refine ⟨.ref a, rfl, .ref ta, rfl, ta, _, 0, _, rfl, rfl, hs, at0, n, rfl, RgOk.of_le (by decide) (by omega) (by decide) (by omega), fun q hq => ?_⟩
    rw [rgV_ints]
    refine ⟨a, c, q, _, rfl, hD3.new hq, .inl (SqL.of upd_same), ?_, sh_ints, fun H4 p4 ys hp1 hp2 hp3 hD4 k4 => ?_⟩
    · rw [List.length_map, rgI_len]
      omega
    obtain ⟨fs, rfl, hfs⟩ := perm_ints hp1
    have hp4 : H3 p4 = none := by
      by_cases e : p4 = q
      · rw [e]; exact hq
      · rw [upd_ne e] at hp2; exact hp2
    have k4 : Kp [a, c] H3 H4 := (Kp.new hq).trans k4
    have hP4 : H4 p2 = some (.lst (pl.map V.int)) := k4.get (by simp [p2a, p2c]) hP3
    refine ⟨.int m, rfl, m, rfl, p4, _, rfl, SqL.of hp3, fun p5 hp5 => ?_⟩
    rw [cut_to _ _ hm0, ← List.map_take]
    refine ⟨p5, _, rfl, SqL.of upd_same, fun gs p6 hg1 hg2 hp6 => ?_⟩
    have hgs : ∀ z ∈ gs, 0 ≤ z ∧ z < n := fun z hz => rgI_mem.mp (hfs.mem_iff.mp (List.mem_of_mem_take (hg1.mem_iff.mp hz)))
    have hgn : gs.Nodup := hg1.nodup_iff.mpr ((hfs.nodup_iff.mpr (rgI_nodup n)).sublist (List.take_sublist _ _))
    have hgl : gs.length = min m.toNat n.toNat := by rw [hg1.length_eq, List.length_take, hfs.length_eq, rgI_len]
    have k6 : Kp [a, c] H3 (upd (upd H4 p5 (.lst ((fs.take m.toNat).map V.int))) p6 (.lst (gs.map V.int))) := (k4.trans (Kp.new hp5)).trans (Kp.new hp6)
    have hD6 := (hD4.new (o := .lst ((fs.take m.toNat).map V.int)) hp5).new (o := .lst (gs.map V.int)) hp6
    have hP6 := k6.get (by simp [p2a, p2c]) hP3
    have hG6 : (upd (upd H4 p5 (.lst ((fs.take m.toNat).map V.int))) p6 (.lst (gs.map V.int))) p6 = some (.lst (gs.map V.int)) := upd_same
    obtain ⟨p6a, p6c⟩ := (hD4.new (o := .lst ((fs.take m.toNat).map V.int)) hp5).ne hp6
    generalize upd (upd H4 p5 (.lst ((fs.take m.toNat).map V.int))) p6 (.lst (gs.map V.int)) = H6 at k6 hD6 hP6 hG6
    have k6 : Kp [a, c] H H6 := k3.trans k6
    clear hp6 hp5 hp3 hD4 k4 hP4 hp1
    -- the pieces
    refine ⟨_, rfl, p6, rfl, ⟨_, SqL.of hG6⟩, fun D hD0 => ?_⟩
    have Dp6 : p6 ≠ D := ne_of_none hG6 hD0
    have Dp2 : p2 ≠ D := ne_of_none hP6 hD0
    obtain ⟨Da', Dc'⟩ := hD6.ne hD0
    have hDH : H D = none := fresh_of k6 (by simp [Da', Dc']) hD0
    refine lc_list (K := K) (a := p6) (xs := gs.map V.int) (fun i H' => ∃ xs ps, H' D = some (.lst xs) ∧ Prs H' xs ps ∧ ps.map (·.1) = gs.take i ∧ (∀ p ∈ ps, 0 ≤ p.2 ∧ p.2 < 6) ∧ H' p6 = some (.lst (gs.map V.int)) ∧ H' p2 = some (.lst (pl.map V.int)) ∧ DeckAt H' a c ∧ Kp [a, c] H H')
      ⟨[], [], upd_same, .nil, by simp, fun p hp => absurd hp (by simp), by rw [upd_ne Dp6]; exact hG6, by rw [upd_ne Dp2]; exact hP6, hD6.new hD0, k6.trans (Kp.new hD0)⟩ (fun i H' _ ⟨_, _, _, _, _, _, e, _⟩ => SqL.of e) ?_ ?_
    · rintro i x H' hx ⟨xs, ps, e1, e2, e3, e4, e5, e6, e7, e8⟩
      obtain ⟨z, hz, rfl⟩ := map_ints_get hx
      have hi : i < gs.length := (List.getElem?_eq_some_iff.mp hz).1
      refine ⟨rfl, yesGo ?_⟩
      refine ⟨.int z, rfl, .ref a, rfl, .ref p2, rfl, a, c, p2, _, rfl, e7, p2a, p2c, SqL.of e6, (by simpa using hplne), (by rw [List.length_map]; omega), fun H7 y hy hD7 k7 => ?_⟩
      obtain ⟨b, hb, rfl⟩ := List.mem_map.mp hy
      refine ⟨by show 2 ≤ sizeLine; decide, fun T hT => ?_⟩
      have f1 : H7 D = some (.lst xs) := k7.get (by simp [Da', Dc']) e1
      have nt7 : NoTup H' [a, c] := by
        obtain ⟨q1, q2, q3, g1, g2, _⟩ := e7
        intro s hs xs e
        rcases List.mem_cons.mp hs with w | hs
        · rw [w, g1] at e; cases e
        · rw [List.mem_singleton.mp hs, g2] at e; cases e
      have f2 : Prs H7 xs ps := e2.keep k7 nt7
      have f5 : H7 p6 = some (.lst (gs.map V.int)) := k7.get (by simp [p6a, p6c]) e5
      have f6 : H7 p2 = some (.lst (pl.map V.int)) := k7.get (by simp [p2a, p2c]) e6
      have kT : Kp ([] : List Addr) H7 (upd H7 T (.tup [.int z, .int b])) := Kp.new hT
      have g1 : (upd H7 T (.tup [.int z, .int b])) D = some (.lst xs) := kT.get (by simp) f1
      have g2 : Prs (upd H7 T (.tup [.int z, .int b])) xs ps := f2.keep kT (fun s hs => absurd hs (by simp))
      have g5 := kT.get (by simp) f5
      have g6 := kT.get (by simp) f6
      have gT : PrAt (upd H7 T (.tup [.int z, .int b])) (.ref T) (z, b) := ⟨T, rfl, upd_same⟩
      have g7 : DeckAt (upd H7 T (.tup [.int z, .int b])) a c := hD7.new hT
      have g8 : Kp [a, c] H (upd H7 T (.tup [.int z, .int b])) := (e8.trans k7).trans (Kp.new hT)
      generalize upd H7 T (.tup [.int z, .int b]) = H8 at g1 g2 g5 g6 gT g7 g8
      have kD : Kp [D] H8 (upd H8 D (.lst (xs ++ [.ref T]))) := Kp.put (by simp)
      have nD : NoTup H8 [D] := fun s hs ys e => by rw [List.mem_singleton.mp hs, g1] at e; cases e
      have hlx : xs.length = i := by
        rw [g2.len, ← List.length_map (f := (·.1)), e3, List.length_take]
        omega
      refine ⟨xs, g1, small1000 (by omega), xs ++ [.ref T], ps ++ [(z, b)], upd_same, Prs.snoc (gT.keep kD nD) (g2.keep kD nD), ?_, fun p hp => ?_, by rw [upd_ne Dp6]; exact g5, by rw [upd_ne Dp2]; exact g6, g7.put Da' Dc', ?_⟩
      · rw [List.map_append, e3, take_snoc hz]
        rfl
      · rcases List.mem_append.mp hp with w | w
        · exact e4 p w
        · rw [List.mem_singleton.mp w]
          exact hpl b hb
      · exact (Kp.trans (g8.mono fun b hb => List.mem_cons_of_mem D hb) (Kp.put (by simp))).drop hDH
    · rintro H7 ⟨xs, ps, e1, e2, e3, e4, e5, e6, e7, e8⟩
      rw [List.length_map, List.take_length] at e3
      refine ⟨D, xs, rfl, .inl ⟨SqL.of e1, fun T hT => ?_⟩⟩
      have kT : Kp ([] : List Addr) H7 (upd H7 T (.tup xs)) := Kp.new hT
      have g2 : Prs (upd H7 T (.tup xs)) xs ps := e2.keep kT (fun s hs => absurd hs (by simp))
      have g7 : DeckAt (upd H7 T (.tup xs)) a c := e7.new hT
      have nt : NoTup (upd H7 T (.tup xs)) [a, c] := by
        obtain ⟨q1, q2, q3, g1, g2, _⟩ := g7
        intro s hs xs e
        rcases List.mem_cons.mp hs with w | hs
        · rw [w, g1] at e; cases e
        · rw [List.mem_singleton.mp hs, g2] at e; cases e
      refine k _ (.ref T) ps ⟨fun p hp => ?_, ?_⟩ ?_ (.tup (SqT.of (Ob.mk (fun w => nt T w _ upd_same) upd_same)) (g2.data nt)) g7 (e8.trans (Kp.new hT))
      · have h1 := hgs p.1 (by rw [← e3]; exact List.mem_map.mpr ⟨p, hp, rfl⟩)
        have h2 := e4 p hp
        omega
      · have q := strict hg2 hgn
        rw [← e3] at q
        exact List.pairwise_map.mp q
      · rw [← hgl, ← e3, List.length_map]
end
end Kt

set_option Elab.async false
set_option linter.all false
set_option maxRecDepth 100000
set_option maxHeartbeats 4000000
/-! sorted of triples of one word and two ints -/
namespace Kt
open PySem PySem.Spec PyProof.Rows L2
/-- v is a tuple of the word z and two ints -/
def IsTri (z : Str) (h : Heap) (v : Value) (r : Int × Int) : Prop := ∃ a o t u w n, v = .ref a ∧ h.get? a = some o ∧ o.cls = .type "tuple" ∧ o.data = .seq #[.str z t, .int r.1 u, .int r.2 w] n
section
variable {prog : Program} {w : World} {A : Around} {E : Value → Shared → Prop} {s : Shared} {z : Str}
theorem IsTri.stays {h h' : Heap} {v : Value} {r : Int × Int} (p : IsTri z h v r) (k : ∀ b o, h.get? b = some o → o.cls = .type "tuple" → h'.get? b = some o) : IsTri z h' v r :=
  let ⟨a, o, t, u, w, n, e, ho, hc, hd⟩ := p
  ⟨a, o, t, u, w, n, e, k a o ho hc, hc, hd⟩
theorem tri_heads {h : Heap} {k : Value → Int × Int} : ∀ (vs : List Value), (∀ v ∈ vs, IsTri z h v (k v)) → ∃ fs : List Value, PySem.W.KatTups h vs fs ∧ fs.length = vs.length ∧ ∀ f ∈ fs, ∃ t, f = Value.str z t
  | [], _ => ⟨[], .nil, rfl, fun _ q => absurd q (by simp)⟩
  | v :: vs, hp => by
    obtain ⟨a, o, t, u, w, n, e, ho, hc, hd⟩ := hp v (by simp)
    obtain ⟨fs, g1, g2, g3⟩ := tri_heads vs fun x hx => hp x (by simp [hx])
    subst e
    refine ⟨.str z t :: fs, .cons ho hc hd rfl g1, congrArg Nat.succ g2, fun f hf => ?_⟩
    cases List.mem_cons.mp hf with
    | inl e => exact ⟨t, e⟩
    | inr hf => exact g3 f hf
theorem tri_cmp {vs : List Value} {k : Value → Int × Int} (hp : ∀ v ∈ vs, IsTri z s.heap v (k v)) : SrtO.Cmp prog w A s (tuples' true) (fun p => p.1 ∈ vs) (SrtO.lt2 fun v u => SrtO.lexB (k v) (k u)) := by
  intro p q hm hm'
  obtain ⟨a, o, t, u, w', n, e, ho, hc, hd⟩ := hp _ hm
  obtain ⟨a', o', t', u', w'', n', e', ho', hc', hd'⟩ := hp _ hm'
  show wpAny (model prog w) A (keyLt' (tuples' true) p.1 q.1) (fun r s' => s' = s ∧ r = SrtO.lexB (k p.1) (k q.1)) (fun _ _ => False) s
  generalize k p.1 = x at hd ⊢
  generalize k q.1 = y at hd' ⊢
  rw [e, e']
  refine PySem.W.kat_lt ho hd ho' hd' ?_
  show PySem.W.KatLex prog w A true (decide (3 < 3)) _ [(.str z t, .str z t'), (.int x.1 u, .int y.1 u'), (.int x.2 w', .int y.2 w'')] 0 s
  refine PySem.W.kat_cons (SeqAt.EqAt.str_str z t z t' prog w _ _ ?_)
  rw [show (z == z) = true from beq_self_eq_true z]
  refine PySem.W.kat_yes (PySem.W.kat_cons (SeqAt.EqAt.int_int x.1 u y.1 u' prog w _ _ ?_))
  refine PySem.W.kat_go (fun e1 => ?_) (fun e1 => ?_)
  · have ex : x.1 = y.1 := by simpa using e1
    refine PySem.W.kat_yes (PySem.W.kat_cons (SeqAt.EqAt.int_int x.2 w' y.2 w'' prog w _ _ ?_))
    refine PySem.W.kat_go (fun e2 => ?_) (fun e2 => ?_)
    · have ey : x.2 = y.2 := by simpa using e2
      refine PySem.W.kat_yes (PySem.W.kat_nil ⟨rfl, ?_⟩)
      exact (SrtO.lexB_no.mpr (by omega)).symm
    · refine PySem.W.kat_no (PySem.W.kat_one _ _ (PyProof.Rows.lt_int ⟨rfl, ?_⟩))
      unfold SrtO.lexB
      rw [if_pos ex]
  · have ex : ¬ x.1 = y.1 := by simpa using e1
    refine PySem.W.kat_no (PySem.W.kat_one _ _ (PyProof.Rows.lt_int ⟨rfl, ?_⟩))
    unfold SrtO.lexB
    rw [if_neg ex]
end
/-- where the heap has triples, told by k -/
def rSortTri (K : PySem.W.Frag) (z : Str) : List V → Hp → VK → Prop := fun vs H Q => ∃ (a : Addr) (xs : List V) (k : V → Int × Int), vs = [V.ref a] ∧ SqL K H a xs ∧ (∀ x ∈ xs, ∃ t, x = V.ref t ∧ H t = some (.tup [.str z, .int (k x).1, .int (k x).2])) ∧
  ∀ ys p, SrtO.Srtd (ltP k) ys → SrtO.Stb (ltP k) ys xs → H p = none → Q (.ref p) (upd H p (.lst ys))
theorem cr_sortTri {X : Cx} (z : Str) : CallR X (.builtin "sorted") (rSortTri X.K z) := by
  intro pins s σ H vs us Q I r h
  obtain ⟨a, xs, k, rfl, hs, hx, q⟩ := h
  obtain ⟨u, rfl, ru⟩ := vals1 r
  obtain rfl : u = Value.ref a := ru
  obtain ⟨its, rv, hl, hz⟩ := I.list hs
  have hz' : its.length ≤ sizeLine := by rw [← rv.length]; exact hz
  obtain ⟨e1, e2⟩ := refs_back rv fun x m => let ⟨t, e, _⟩ := hx x m; ⟨t, e⟩
  have tri : ∀ v ∈ its, IsTri z s.heap v (k (backV v)) := fun v hv => by
    obtain ⟨t, rfl⟩ := e2 v hv
    obtain ⟨t', e, ht⟩ := hx (V.ref t) (by rw [e1]; exact List.mem_map.mpr ⟨_, hv, rfl⟩)
    cases e
    obtain ⟨_, us, r3, o, ho, hc, n, hd⟩ := I.hok _ _ ht
    cases r3 with
    | cons r1 r3 =>
      cases r3 with
      | cons r2 r3 =>
        cases r3 with
        | cons r4 r5 =>
          cases r5
          obtain ⟨t1, rfl⟩ := r1
          obtain ⟨t2, rfl⟩ := r2
          obtain ⟨t3, rfl⟩ := r4
          exact ⟨t, o, t1, t2, t3, n, rfl, ho, hc, hd⟩
  refine SrtO.sorted_ord (SrtO.swo_lex fun u => k (backV u)) hl.isList hz' (fun h2 h₁ b hb kk => ?_) fun out hS hB => ?_
  · intro h' keep
    have tri' : ∀ v ∈ its, IsTri z h' v (k (backV v)) := fun v hv => (tri v hv).stays fun d o ho hc => keep d o (fun w => (kk d o ho).1 w) (kk d o ho).2
    obtain ⟨fs, g1, g2, g3⟩ := tri_heads its tri'
    refine ⟨tuples' true, fun Q E hq => ?_, tri_cmp tri'⟩
    refine PySem.W.kat_kind (T := .type "str") g1 (by omega) (fun f hm => ?_) (by rfl) ?_
    · obtain ⟨t, rfl⟩ := g3 f hm
      exact PySem.W.Looks.now
    · rw [show (Value.type "str" != Value.type "tuple") = true by decide +kernel]
      exact hq
  · have h3 : ∀ u ∈ out, ∃ a, u = Value.ref a := fun u hu => e2 u (hB.perm.mem_iff.mp hu)
    have hb : SrtO.Stb (ltP k) (out.map backV) xs := by
      rw [e1]
      exact SrtO.Stb.map (ltP_swo k) backV hB
    obtain ⟨n, hn⟩ := sortedAll_at s.heap its out.toArray
    refine ⟨.ref (s.heap.objs.size + 1), upd H (s.heap.objs.size + 1) (.lst (out.map backV)), I.laid (t' := s.toks) (fun b o e => sortedAll_old e) (Nat.le_succ _) ⟨?_, out, n, vals_back h3, hn⟩, rfl, q _ _ (SrtO.srtd_map hS) hb (I.hok.fresh (Nat.le_succ _))⟩
    rw [hb.len]
    exact hz
end Kt

set_option Elab.async false
set_option linter.all false
set_option maxRecDepth 100000
set_option maxHeartbeats 4000000
namespace Kt
open PySem PySem.Spec PyProof.Rows L2
/-! tuples of flat things that stand in the heap -/
section
variable {α : Type} {f : α → List V}
def TpAt (f : α → List V) (H : Hp) (x : V) (r : α) : Prop := ∃ t, x = .ref t ∧ H t = some (.tup (f r))
abbrev Ps (f : α → List V) (H : Hp) : List V → List α → Prop := Paired (TpAt f H)
theorem TpAt.keep {H H' : Hp} {S : List Addr} {x : V} {r : α} (h : TpAt f H x r) (k : Kp S H H') (n : NoTup H S) : TpAt f H' x r := by
  obtain ⟨t, rfl, e⟩ := h
  exact ⟨t, rfl, k.get (fun z => n t z _ e) e⟩
theorem Ps.keep {H H' : Hp} {S : List Addr} (k : Kp S H H') (n : NoTup H S) : ∀ {xs : List V} {rs : List α}, Ps f H xs rs → Ps f H' xs rs
  | _, _, .nil => .nil
  | _, _, .cons h t => .cons (h.keep k n) (Ps.keep k n t)
theorem Ps.snoc {H : Hp} {x : V} {r : α} (hx : TpAt f H x r) : ∀ {xs : List V} {rs : List α}, Ps f H xs rs → Ps f H (xs ++ [x]) (rs ++ [r])
  | _, _, .nil => .cons hx .nil
  | _, _, .cons h t => .cons h (Ps.snoc hx t)
theorem Ps.app {H : Hp} : ∀ {xs ys : List V} {rs qs : List α}, Ps f H xs rs → Ps f H ys qs → Ps f H (xs ++ ys) (rs ++ qs)
  | _, _, _, _, .nil, h => h
  | _, _, _, _, .cons a b, h => .cons a (Ps.app b h)
theorem Ps.len {H : Hp} : ∀ {xs : List V} {rs : List α}, Ps f H xs rs → xs.length = rs.length
  | _, _, .nil => rfl
  | _, _, .cons _ t => by rw [List.length_cons, List.length_cons, Ps.len t]
theorem Ps.at {H : Hp} : ∀ {xs : List V} {rs : List α} {i : Nat} {x : V}, Ps f H xs rs → xs[i]? = some x → ∃ r, rs[i]? = some r ∧ TpAt f H x r
  | _, _, i, x, .nil, h => by simp at h
  | _, _, 0, x, .cons a _, h => by
    have e := Option.some.inj h
    subst e
    exact ⟨_, rfl, a⟩
  | _, _, i + 1, x, .cons _ b, h => Ps.at (i := i) b h
theorem Ps.map {β : Type} {g : β → List V} {q : α → β} (e : ∀ r, g (q r) = f r) {H : Hp} : ∀ {xs : List V} {rs : List α}, Ps f H xs rs → Ps g H xs (rs.map q)
  | _, _, .nil => .nil
  | _, _, .cons ⟨t, h1, h2⟩ b => .cons ⟨t, h1, by rw [e]; exact h2⟩ (Ps.map e b)
end
theorem noTup_nil {H : Hp} : NoTup H [] := fun s hs => absurd hs (by simp)
theorem deck_noTup {H : Hp} {a c : Addr} (h : DeckAt H a c) : NoTup H [a, c] := by
  obtain ⟨q1, q2, q3, g1, g2, _⟩ := h
  intro s hs xs e
  rcases List.mem_cons.mp hs with w | hs
  · rw [w, g1] at e; cases e
  · rw [List.mem_singleton.mp hs, g2] at e; cases e
/-! orders -/
inductive Ord where
  | stay
  | go (g : Int)
  | back (f g : Int)
deriving DecidableEq
def oV : Ord → List V
  | .stay => [.str "stay"]
  | .go g => [.str "go", .int g]
  | .back f g => [.str "back", .int f, .int g]
def half (rs : List (Int × Int)) (own : Int) (reach : List Int) (f : Int) : List (Int × Int) := if f = own then [] else (reach.filter fun g => decide (g = f) || decide (g ∈ bes rs f)).map fun g => (f, g)
def backsOf (rs : List (Int × Int)) (own : Int) (reach fs : List Int) : List (Int × Int) := fs.flatMap (half rs own reach)
/-- the law's own orders of a piece in the field own -/
structure MenuOf (rs : List (Int × Int)) (ps : List (Int × Int)) (own : Int) (os : List Ord) : Prop where
  eq : ∃ (reach : List Int) (bs : List (Int × Int)), reach.Perm (bes rs own) ∧ reach.Pairwise (· ≤ ·) ∧ bs.Perm (backsOf rs own reach (ps.map (·.1))) ∧ bs.Pairwise (fun u v => SrtO.lexB v u = false) ∧ os = .stay :: (reach.map .go ++ bs.map fun q => .back q.1 q.2)
def bdD (n : Int) (rs : List (Int × Int)) (cs : List Int) (ps : List (Int × Int)) : PyData := .tuple [chD n rs cs, .tuple (ps.map pD)]
theorem board_inv {K : PySem.W.Frag} {H : Hp} {v : V} {n : Int} {rs : List (Int × Int)} {cs : List Int} {ps : List (Int × Int)} (h : Dp K H v (bdD n rs cs ps)) :
    ∃ a t u xs, v = .ref a ∧ SqT K H a [.ref t, .ref u] ∧ Dp K H (.ref t) (chD n rs cs) ∧ SqT K H u xs ∧ DpAll K H xs (ps.map pD) := by
  obtain ⟨a, xs, rfl, hs, ha⟩ := tup_inv h
  cases ha with
  | cons h1 h2 =>
    cases h2 with
    | cons h3 h4 =>
      cases h4
      obtain ⟨t, _, _, rfl, _⟩ := chart_inv h1
      obtain ⟨u, xs, rfl, hu, hx⟩ := tup_inv h3
      exact ⟨a, t, u, xs, rfl, hs, h1, hu, hx⟩
theorem inV_ints (g : Int) (ms : List Int) : inV (.int g) (ms.map V.int) = decide (g ∈ ms) := by
  induction ms with
  | nil => rfl
  | cons m ms ih =>
    unfold inV at ih ⊢
    rw [List.map_cons, List.any_cons, ih, eqv_int]
    by_cases h : g = m <;> simp [h]
theorem flat_ints (ms : List Int) : (ms.map V.int).all flatV = true := by
  induction ms with
  | nil => rfl
  | cons m ms ih => rw [List.map_cons, List.all_cons, ih]; rfl
theorem pairs_at {K : PySem.W.Frag} {H : Hp} {xs : List V} {ps : List (Int × Int)} {i : Nat} {x : V} (h : DpAll K H xs (ps.map pD)) (hx : xs[i]? = some x) : ∃ r t, ps[i]? = some r ∧ x = .ref t ∧ SqT K H t [.int r.1, .int r.2] := by
  obtain ⟨d, hd, hxd⟩ := all_get h hx
  rw [List.getElem?_map] at hd
  obtain ⟨r, hr, rfl⟩ := Option.map_eq_some_iff.mp hd
  obtain ⟨t, rfl, ht⟩ := pair_inv hxd
  exact ⟨r, t, hr, rfl, ht⟩
/-! triples by their ints -/
def bV (q : Int × Int) : List V := [.str "back", .int q.1, .int q.2]
def keyT (H : Hp) (x : V) : Int × Int := match x with
  | .ref t => match H t with
    | some (.tup [.str _, .int i, .int j]) => (i, j)
    | _ => (0, 0)
  | _ => (0, 0)
theorem keyT_at {H : Hp} {x : V} {r : Int × Int} (h : TpAt bV H x r) : keyT H x = r := by
  obtain ⟨t, rfl, e⟩ := h
  unfold keyT bV at *
  simp only [e]
theorem tri_keys {H : Hp} : ∀ {xs : List V} {rs : List (Int × Int)}, Ps bV H xs rs → xs.map (keyT H) = rs ∧ ∀ x ∈ xs, TpAt bV H x (keyT H x)
  | _, _, .nil => ⟨rfl, fun _ h => absurd h (by simp)⟩
  | _, _, .cons h t => by
    obtain ⟨e1, e2⟩ := tri_keys t
    refine ⟨by rw [List.map_cons, keyT_at h, e1], fun x hx => ?_⟩
    rcases List.mem_cons.mp hx with e | hx
    · rw [e, keyT_at h]
      exact h
    · exact e2 x hx
theorem tri_map {H : Hp} : ∀ {ys : List V}, (∀ x ∈ ys, TpAt bV H x (keyT H x)) → Ps bV H ys (ys.map (keyT H))
  | [], _ => .nil
  | y :: ys, h => .cons (h y List.mem_cons_self) (tri_map fun x hx => h x (List.mem_cons_of_mem _ hx))
theorem tri_sorted {H : Hp} {xs ys : List V} {rs : List (Int × Int)} (hp : Ps bV H xs rs) (h1 : SrtO.Srtd (ltP (keyT H)) ys) (h2 : SrtO.Stb (ltP (keyT H)) ys xs) :
    (ys.map (keyT H)).Perm rs ∧ (ys.map (keyT H)).Pairwise (fun u v => SrtO.lexB v u = false) ∧ Ps bV H ys (ys.map (keyT H)) := by
  obtain ⟨e1, e2⟩ := tri_keys hp
  refine ⟨?_, List.pairwise_map.mpr h1, tri_map fun x hx => e2 x (h2.perm.mem_iff.mp hx)⟩
  rw [← e1]
  exact h2.perm.map _
theorem map_snoc {α β : Type} (f : α → β) {l : List α} {i : Nat} {x : α} (h : l[i]? = some x) : (l.take (i + 1)).map f = (l.take i).map f ++ [f x] := by
  rw [take_snoc h, List.map_append]
  rfl
theorem upd_self {H : Hp} {p : Addr} {o u : HO} : upd (upd H p o) p u = upd H p u := upd_upd
/-- H' is H but for the place l, which was free, and new places -/
theorem Kp.fill {S : List Addr} {H H' : Hp} {l : Addr} {o : HO} (k : Kp S H H') (hl : H l = none) : Kp S H (upd H' l o) :=
  Kp.drop (l := l) (Kp.trans (k.mono fun _ h => List.mem_cons_of_mem _ h) (Kp.put List.mem_cons_self)) hl
theorem half_len (rs : List (Int × Int)) (own : Int) (reach : List Int) (f : Int) : (half rs own reach f).length ≤ reach.length := by
  unfold half
  split
  · simp
  · rw [List.length_map]
    exact List.length_filter_le _ _
theorem backsOf_len (rs : List (Int × Int)) (own : Int) (reach : List Int) : ∀ fs : List Int, (backsOf rs own reach fs).length ≤ fs.length * reach.length
  | [] => by simp [backsOf]
  | f :: fs => by
    have h1 := backsOf_len rs own reach fs
    have h2 := half_len rs own reach f
    unfold backsOf at h1 ⊢
    rw [List.flatMap_cons, List.length_append, List.length_cons, Nat.succ_mul]
    omega
theorem bes_len (rs : List (Int × Int)) (f : Int) : (bes rs f).length ≤ rs.length := by
  unfold bes
  rw [List.length_map]
  exact List.length_filter_le _ _
def spOrdersOf (K : PySem.W.Frag) : Sp := fun vs H Q _ => ∃ (v : V) (i : Nat) (n : Int) (rs : List (Int × Int)) (cs : List Int) (ps : List (Int × Int)) (pc : Int × Int), vs = [v, .int i] ∧ Dp K H v (bdD n rs cs ps) ∧ rs.length ≤ 200 ∧ ps.length ≤ 24 ∧ ps[i]? = some pc ∧
  ∀ (H' : Hp) (p : Addr) (xs : List V) (os : List Ord), MenuOf rs ps pc.1 os → H p = none → H' p = some (.lst xs) → Ps oV H' xs os → xs.length ≤ 10000 → Kp [] H H' → Q (.ref p) H'
section
variable {P : Program} {w : World} {K : PySem.W.Frag} {mg : Str → Option Value} {base : Heap}
abbrev nOrdersOf : List Str := ["board", "place", "chart", "pieces", "field", "own", "fields", "reach", "gos", "backs", "goal", "player"]
theorem scOrdersOf : FnScope nOrdersOf ["board", "place"] (defScope sOrdersOf) := ⟨rfl, rfl, rfl, by decide +kernel, rfl, by decide +kernel, by decide +kernel⟩
theorem ok_ordersOf {f fB : Addr} {fd fdB : FuncData} (F : Fun K "_law_orders_of" "_law_orders_of" sOrdersOf f fd) (FB : Fun K "_law_beside" "_law_beside" sBeside fB fdB) (bB : Binds K fdB ["chart", "field"] []) (gB : mg "_law_beside" = some (.ref fB))
    (mS : mg "sorted" = none) : FnOk P w K mg base CX0 2 f fd ["board", "place"] (spOrdersOf K) := by
  have GB : FnOk P w K mg base CX0 1 fB fdB ["chart", "field"] (spBeside K) := ok_beside FB mS
  refine F.ok scOrdersOf (fun vs H Q E h => ?_) (fun cdv A outer s H vs Q E hr h => ?_)
  · obtain ⟨v, i, n, rs, cs, ps, pc, rfl, _⟩ := h
    rfl
  · obtain ⟨v, i, n, rs, cs, ps, pc, rfl, hv, hrs, hps, hpc, k⟩ := h
    refine ⟨_, pss_cons (ps_asg (pv 0) (pg_tup rfl (pgs_cons (pg_name (i := 2) scOrdersOf.nd rfl (.inl rfl)) (pgs_cons (pg_name (i := 3) scOrdersOf.nd rfl (.inl rfl)) pgs_nil))))
      (pss_cons (ps_par (i := 5) (j := 6) rfl scOrdersOf.nd rfl rfl (by decide) rfl rfl (pa_cons (kt (kt (pv 3) (pv 1)) pe_int) (pa_cons
          (pe_lc (own := [("field", 4), ("player", 11)]) (g := gTup K 2 (gCons (gName 4) (gCons (gName 11) gNil))) rfl scOrdersOf.nd (pi_tup (pv 3)) (blkOk_by (own := [("field", 4), ("player", 11)]) (N := nOrdersOf) (sc := defScope sOrdersOf) (by decide +kernel))
            (fun _ _ _ _ _ => pg_tup rfl (pgs_cons (pg_name (i := 4) scOrdersOf.nd rfl (.inl rfl)) (pgs_cons (pg_name (i := 11) scOrdersOf.nd rfl (.inl rfl)) pgs_nil))) (fun _ _ _ _ _ => pts_nil) (fun _ _ _ _ _ => pv 4)) pa_nil)) (by rfl))
      (pss_cons (ps_set (i := 7) scOrdersOf.nd rfl (.inl rfl) (pe_call GB hr (by rfl) gB FB.kp bB .nil pass0 (pa_cons (pv 2) (pa_cons (pv 5) pa_nil))))
      (pss_cons (ps_par (i := 8) (j := 9) rfl scOrdersOf.nd rfl rfl (by decide) rfl rfl (pa_cons
          (pe_lc (own := [("field", 4)]) (g := gName 4) rfl scOrdersOf.nd (pi_list (pv 7)) (blkOk_by (own := [("field", 4)]) (N := nOrdersOf) (sc := defScope sOrdersOf) (by decide +kernel))
            (fun _ _ _ _ _ => pg_name (i := 4) scOrdersOf.nd rfl (.inl rfl)) (fun _ _ _ _ _ => pts_nil) (fun _ _ _ _ _ => pe_tup (pa_cons pe_str (pa_cons (pv 4) pa_nil)))) (pa_cons (pe_lst pa_nil) pa_nil)) (by rfl))
      (pss_cons (ps_for PassesOwn.never rfl (pi_list (pv 6)) (pg_name (i := 4) scOrdersOf.nd rfl (.inl rfl))
        (pss_one (ps_if (pt_cmpR op_ne (pv 4) (pv 5) (nomark _))
          (pss_one (ps_for PassesOwn.never rfl (pi_list (pv 7)) (pg_name (i := 10) scOrdersOf.nd rfl (.inl rfl))
            (pss_one (ps_if (PW.pt (pw_or (pt_cmpR op_eq (pv 10) (pv 4) (nomark _)) (pw_or1 (pt_cmpR op_in_seq (pv 10) (pe_call GB hr (by rfl) gB FB.kp bB .nil pass0 (pa_cons (pv 2) (pa_cons (pv 4) pa_nil))) (by rfl)))))
              (pss_one (ps_expr (pe_bm PySem.F.plainAttrs_list PySem.F.slot_list_append PySem.F.type_list_append mt_append (pv 9) (pa_cons (pe_tup (pa_cons pe_str (pa_cons (pv 4) (pa_cons (pv 10) pa_nil)))) pa_nil)))) pss_nil)))) pss_nil)))
      (pss_one (ps_ret (pe_op op_cat (pe_op op_cat (pe_lst (pa_cons (pe_tup (pa_cons pe_str pa_nil)) pa_nil)) (pv 8)) (pe_callB (cr_sortTri "back") (by rfl) mS PyProof.Rows.boot_sorted (pa_cons (pv 9) pa_nil))))))))), ?_⟩
    obtain ⟨ta, tc, tp, xs, rfl, hb, hch, hpt, hpx⟩ := board_inv hv
    -- chart, pieces = board
    refine ⟨_, rfl, ta, _, rfl, hb, rfl, .ref tc, _, rfl, .ref tp, _, rfl, rfl, ?_⟩
    -- own, fields
    obtain ⟨x, hx, hxd⟩ := all_at hpx (show (ps.map pD)[i]? = some (pD pc) by rw [List.getElem?_map, hpc]; rfl)
    obtain ⟨t, rfl, ht⟩ := pair_inv hxd
    have hlx : xs.length = ps.length := by rw [all_len hpx, List.length_map]
    refine ⟨.ref tp, rfl, .int i, rfl, tp, xs, i, _, rfl, rfl, hpt, atI_nat hx, t, _, 0, _, rfl, rfl, ht, at0, .ref tp, rfl, tp, rfl, ⟨_, hpt⟩, fun D hD => ?_⟩
    refine lc_tup (K := K) (a := tp) (xs := xs) (fun j H' => H' D = some (.lst (((ps.take j).map (·.1)).map V.int)) ∧ Kp [] H H') ⟨upd_same, Kp.new hD⟩ (fun j H' _ ⟨_, kk⟩ => sameT (kz_seq kk) hpt) ?_ ?_
    · rintro j x H' hx ⟨h1, kk⟩
      obtain ⟨r, q, hr', rfl, hq⟩ := pairs_at hpx hx
      refine ⟨q, _, rfl, sameT (kz_seq kk) hq, rfl, .int r.1, _, rfl, .int r.2, _, rfl, rfl, rfl, yesGo ?_⟩
      refine ⟨.int r.1, rfl, _, h1, small1000 ?_, ?_, kk.fill hD⟩
      · rw [List.length_map, List.length_map, List.length_take]
        omega
      · rw [upd_same, map_snoc _ hr', List.map_append]
        rfl
    rintro H1 ⟨hF1, k1⟩
    rw [hlx, List.take_length] at hF1
    refine ⟨_, _, rfl, ?_⟩
    -- reach
    refine ⟨.ref tc, rfl, .int pc.1, rfl, .ref tc, n, rs, cs, pc.1, rfl, Dp.same (kz_seq k1) _ hch, by omega, fun H2 R reach hr1 hr2 hR0 hR2 k2 => ?_⟩
    have hrl : reach.length ≤ 200 := by
      rw [hr1.length_eq]
      exact Nat.le_trans (bes_len _ _) hrs
    have hF2 := k2.get (by simp) hF1
    have k12 := k1.trans k2
    have hRH : H R = none := fresh_of k1 (by simp) hR0
    have nDR : D ≠ R := ne_of_none hF1 hR0
    -- gos, backs
    refine ⟨.ref R, rfl, R, rfl, ⟨_, SqL.of hR2⟩, fun G hG => ?_⟩
    have nRG : R ≠ G := ne_of_none hR2 hG
    have nDG : D ≠ G := ne_of_none hF2 hG
    have hGH : H G = none := fresh_of k12 (by simp) hG
    refine lc_list (K := K) (a := R) (xs := reach.map V.int) (fun j H' => ∃ ys, H' G = some (.lst ys) ∧ Ps (fun g => oV (.go g)) H' ys (reach.take j) ∧ H' R = some (.lst (reach.map V.int)) ∧ H' D = some (.lst ((ps.map (·.1)).map V.int)) ∧ Kp [] H H')
      ⟨[], upd_same, .nil, by rw [upd_ne nRG]; exact hR2, by rw [upd_ne nDG]; exact hF2, k12.trans (Kp.new hG)⟩ (fun j H' _ ⟨_, _, _, e, _⟩ => SqL.of e) ?_ ?_
    · rintro j x H' hx ⟨ys, e1, e2, e3, e4, kk⟩
      obtain ⟨z, hz, rfl⟩ := map_ints_get hx
      have hj : j < reach.length := (List.getElem?_eq_some_iff.mp hz).1
      refine ⟨rfl, yesGo ?_⟩
      refine ⟨.int z, rfl, by show 2 ≤ sizeLine; decide, fun T hT => ?_⟩
      have kT : Kp ([] : List Addr) H' (upd H' T (.tup [.str "go", .int z])) := Kp.new hT
      have f1 := kT.get (by simp) e1
      have f2 := e2.keep kT noTup_nil
      have f3 := kT.get (by simp) e3
      have f4 := kT.get (by simp) e4
      have fT : TpAt (fun g => oV (.go g)) (upd H' T (.tup [.str "go", .int z])) (.ref T) z := ⟨T, rfl, upd_same⟩
      have f5 := kk.trans kT
      generalize upd H' T (.tup [.str "go", .int z]) = H8 at f1 f2 f3 f4 fT f5
      have kG : Kp [G] H8 (upd H8 G (.lst (ys ++ [.ref T]))) := Kp.put (by simp)
      have nG : NoTup H8 [G] := fun s hs ys e => by rw [List.mem_singleton.mp hs, f1] at e; cases e
      refine ⟨ys, f1, small1000 ?_, ys ++ [.ref T], upd_same, ?_, by rw [upd_ne nRG]; exact f3, by rw [upd_ne nDG]; exact f4, f5.fill hGH⟩
      · rw [f2.len, List.length_take]
        omega
      · rw [take_snoc hz]
        exact Ps.snoc (fT.keep kG nG) (f2.keep kG nG)
    rintro H3 ⟨gs, hG3, hgs, hR3, hF3, k3⟩
    rw [List.length_map, List.take_length] at hgs
    refine ⟨Nat.zero_le _, fun B hB => ⟨_, _, rfl, ?_⟩⟩
    have hBH : H B = none := fresh_of k3 (by simp) hB
    have nGB : G ≠ B := ne_of_none hG3 hB
    have nRB : R ≠ B := ne_of_none hR3 hB
    have nDB : D ≠ B := ne_of_none hF3 hB
    -- the state of the loops
    let M : List (Int × Int) → Hp → Prop := fun qs H' => ∃ ys, H' B = some (.lst ys) ∧ Ps bV H' ys qs ∧ Ps (fun g => oV (.go g)) H' gs reach ∧ H' G = some (.lst gs) ∧ H' R = some (.lst (reach.map V.int)) ∧ H' D = some (.lst ((ps.map (·.1)).map V.int)) ∧ Kp [] H H'
    have M0 : M [] (upd H3 B (.lst [])) := by
      have kB : Kp ([] : List Addr) H3 (upd H3 B (.lst [])) := Kp.new hB
      exact ⟨[], upd_same, .nil, hgs.keep kB noTup_nil, kB.get (by simp) hG3, kB.get (by simp) hR3, kB.get (by simp) hF3, k3.trans kB⟩
    have Mk : ∀ {qs H' H''}, M qs H' → Kp [] H' H'' → M qs H'' := fun {qs H' H''} ⟨ys, e1, e2, e3, e4, e5, e6, e7⟩ kk =>
      ⟨ys, kk.get (by simp) e1, e2.keep kk noTup_nil, e3.keep kk noTup_nil, kk.get (by simp) e4, kk.get (by simp) e5, kk.get (by simp) e6, e7.trans kk⟩
    have Mp : ∀ {qs H' T f g}, M qs H' → H' T = some (.tup [.str "back", .int f, .int g]) → ∀ ys, H' B = some (.lst ys) → M (qs ++ [(f, g)]) (upd H' B (.lst (ys ++ [.ref T]))) := fun {qs H' T f g} ⟨ys, e1, e2, e3, e4, e5, e6, e7⟩ eT ys' ey => by
      obtain rfl : ys = ys' := HO.lst.inj (Option.some.inj (e1.symm.trans ey))
      have kB : Kp [B] H' (upd H' B (.lst (ys ++ [.ref T]))) := Kp.put (by simp)
      have nB : NoTup H' [B] := fun s hs ys e => by rw [List.mem_singleton.mp hs, e1] at e; cases e
      exact ⟨_, upd_same, Ps.snoc (TpAt.keep (show TpAt bV H' (.ref T) (f, g) from ⟨T, rfl, eT⟩) kB nB) (e2.keep kB nB), e3.keep kB nB, by rw [upd_ne nGB]; exact e4, by rw [upd_ne nRB]; exact e5, by rw [upd_ne nDB]; exact e6, e7.fill hBH⟩
    have Ml : ∀ {qs H'}, M qs H' → ∀ ys, H' B = some (.lst ys) → ys.length = qs.length := fun {qs H'} ⟨ys, e1, e2, _⟩ ys' ey => by
      rw [e1] at ey
      cases ey
      exact e2.len
    refine ⟨_, rfl, D, rfl, ⟨_, SqL.of (by rw [upd_ne nDB]; exact hF3)⟩, for_list (K := K) (a := D) (xs := (ps.map (·.1)).map V.int)
      (fun j σ H' => ∃ v4 v10, σ = [some (.ref ta), some (.int i), some (.ref tc), some (.ref tp), v4, some (.int pc.1), some (.ref D), some (.ref R), some (.ref G), some (.ref B), v10, none] ∧ M (backsOf rs pc.1 reach ((ps.map (·.1)).take j)) H')
      ⟨_, _, rfl, M0⟩ (fun j σ H' _ ⟨_, _, _, _, _, _, _, _, _, e, _⟩ => SqL.of e) ?_ ?_⟩
    · rintro j x σ H' hx ⟨v4, v10, rfl, hM⟩
      obtain ⟨f, hf, rfl⟩ := map_ints_get hx
      have hj : j < (ps.map (·.1)).length := (List.getElem?_eq_some_iff.mp hf).1
      have hstep : backsOf rs pc.1 reach ((ps.map (·.1)).take (j + 1)) = backsOf rs pc.1 reach ((ps.map (·.1)).take j) ++ half rs pc.1 reach f := by
        rw [take_snoc hf]
        unfold backsOf
        rw [List.flatMap_append]
        simp
      have hbl : (backsOf rs pc.1 reach ((ps.map (·.1)).take j)).length ≤ 4800 := by
        refine Nat.le_trans (backsOf_len _ _ _ _) ?_
        rw [List.length_take]
        refine Nat.le_trans (Nat.mul_le_mul (show min j (ps.map (·.1)).length ≤ 24 by rw [List.length_map] at hj ⊢; omega) hrl) (by decide)
      refine ⟨.int f, rfl, .int pc.1, rfl, rfl, _, rfl, ?_⟩
      refine ite2 (fun hne => ?_) (fun heq => ?_)
      · have hne : ¬ f = pc.1 := fun e => by simp [e] at hne
        have hR' : H' R = some (.lst (reach.map V.int)) := by obtain ⟨_, _, _, _, _, e, _⟩ := hM; exact e
        refine ⟨.ref R, rfl, R, rfl, ⟨_, SqL.of hR'⟩, for_list (K := K) (a := R) (xs := reach.map V.int)
          (fun l σ H' => ∃ v10, σ = [some (.ref ta), some (.int i), some (.ref tc), some (.ref tp), some (.int f), some (.int pc.1), some (.ref D), some (.ref R), some (.ref G), some (.ref B), v10, none] ∧
            M (backsOf rs pc.1 reach ((ps.map (·.1)).take j) ++ ((reach.take l).filter fun g => decide (g = f) || decide (g ∈ bes rs f)).map fun g => (f, g)) H')
          ⟨_, rfl, by simpa using hM⟩ (fun l σ H' _ ⟨_, _, _, _, _, _, _, e, _⟩ => SqL.of e) ?_ ?_⟩
        · rintro l x σ H' hx ⟨v10, rfl, hM⟩
          obtain ⟨g, hg, rfl⟩ := map_ints_get hx
          have hl : l < reach.length := (List.getElem?_eq_some_iff.mp hg).1
          have hql : (backsOf rs pc.1 reach ((ps.map (·.1)).take j) ++ ((reach.take l).filter fun g => decide (g = f) || decide (g ∈ bes rs f)).map fun g => (f, g)).length < 100000 := by
            rw [List.length_append, List.length_map]
            have := List.length_filter_le (fun g => decide (g = f) || decide (g ∈ bes rs f)) (reach.take l)
            rw [List.length_take] at this
            omega
          have app : ∀ H'', M (backsOf rs pc.1 reach ((ps.map (·.1)).take j) ++ ((reach.take l).filter fun g => decide (g = f) || decide (g ∈ bes rs f)).map fun g => (f, g)) H'' → (decide (g = f) || decide (g ∈ bes rs f)) = true →
              ∃ ys, H'' B = some (.lst ys) ∧ ∀ T, H'' T = none → ∃ (_ : ys.length < sizeLine), (upd H'' T (.tup [.str "back", .int f, .int g])) B = some (.lst ys) ∧
                M (backsOf rs pc.1 reach ((ps.map (·.1)).take j) ++ ((reach.take (l + 1)).filter fun g => decide (g = f) || decide (g ∈ bes rs f)).map fun g => (f, g)) (upd (upd H'' T (.tup [.str "back", .int f, .int g])) B (.lst (ys ++ [.ref T]))) := fun H'' hM2 hyes => by
            obtain ⟨ys, ey, _⟩ := id hM2
            refine ⟨ys, ey, fun T hT => ⟨Nat.lt_of_lt_of_le (by rw [Ml hM2 ys ey]; exact hql) (show 100000 ≤ sizeLine by decide), by rw [upd_ne (ne_of_none ey hT)]; exact ey, ?_⟩⟩
            have q := Mp (T := T) (f := f) (g := g) (Mk hM2 (Kp.new hT)) upd_same ys (by rw [upd_ne (ne_of_none ey hT)]; exact ey)
            rw [take_snoc hg, List.filter_append, List.map_append, ← List.append_assoc]
            rw [show ([g].filter fun g => decide (g = f) || decide (g ∈ bes rs f)) = [g] by rw [List.filter_cons, if_pos hyes]; rfl]
            exact q
          have skip : ∀ H'', M (backsOf rs pc.1 reach ((ps.map (·.1)).take j) ++ ((reach.take l).filter fun g => decide (g = f) || decide (g ∈ bes rs f)).map fun g => (f, g)) H'' → (decide (g = f) || decide (g ∈ bes rs f)) = false →
              M (backsOf rs pc.1 reach ((ps.map (·.1)).take j) ++ ((reach.take (l + 1)).filter fun g => decide (g = f) || decide (g ∈ bes rs f)).map fun g => (f, g)) H'' := fun H'' hM2 hno => by
            rw [take_snoc hg, List.filter_append, List.map_append, ← List.append_assoc]
            rw [show ([g].filter fun g => decide (g = f) || decide (g ∈ bes rs f)) = [] by rw [List.filter_cons, if_neg (by rw [hno]; decide)]; rfl]
            simpa using hM2
          refine ⟨.int g, rfl, .int f, rfl, rfl, _, rfl, ?_⟩
          refine ite2 (fun he => ?_) (fun he => ?_)
          · obtain ⟨ys, ey, z⟩ := app H' hM (by
              have : g = f := by simpa using he
              simp [this])
            refine iteT ⟨.ref B, rfl, .inl ⟨rfl, _, SqL.of ey⟩, .int f, rfl, .int g, rfl, by show 3 ≤ sizeLine; decide, fun T hT => ?_⟩
            obtain ⟨z1, z2, z3⟩ := z T hT
            exact ⟨B, ys, _, rfl, rfl, z2, z1, _, rfl, z3⟩
          · have hne2 : ¬ g = f := fun e => he (by simp [e])
            refine ⟨.int g, rfl, .ref tc, rfl, .int f, rfl, .ref tc, n, rs, cs, f, rfl, Dp.same (kz_seq (by obtain ⟨_, _, _, _, _, _, _, e⟩ := hM; exact e)) _ hch, by omega, fun H4 p4 ms hm1 hm2 hp4 hP4 k4 => ?_⟩
            refine ⟨p4, _, rfl, .inl (SqL.of hP4), rfl, flat_ints ms, _, rfl, ?_⟩
            have hM4 := Mk hM k4
            rw [inV_ints]
            refine ite2 (fun hin => ?_) (fun hin => ?_)
            · have hin : g ∈ ms := of_decide_eq_true hin
              obtain ⟨ys, ey, z⟩ := app H4 hM4 (by simp [hm1.mem_iff.mp hin])
              refine ⟨.ref B, rfl, .inl ⟨rfl, _, SqL.of ey⟩, .int f, rfl, .int g, rfl, by show 3 ≤ sizeLine; decide, fun T hT => ?_⟩
              obtain ⟨z1, z2, z3⟩ := z T hT
              exact ⟨B, ys, _, rfl, rfl, z2, z1, _, rfl, z3⟩
            · have hin : g ∉ ms := fun e => hin (decide_eq_true e)
              refine ⟨_, rfl, skip H4 hM4 ?_⟩
              have : g ∉ bes rs f := fun e => hin (hm1.mem_iff.mpr e)
              simp [hne2, this]
        · rintro σ H' ⟨v10, rfl, hM⟩
          rw [List.length_map, List.take_length] at hM
          refine ⟨_, _, rfl, ?_⟩
          rw [hstep]
          unfold half
          rw [if_neg hne]
          exact hM
      · have heq : f = pc.1 := by
          by_cases e : f = pc.1
          · exact e
          · exact absurd (by simp [e]) heq
        refine ⟨_, _, rfl, ?_⟩
        rw [hstep]
        unfold half
        rw [if_pos heq, List.append_nil]
        exact hM
    · rintro σ H4 ⟨v4, v10, rfl, hM⟩
      rw [List.length_map, List.take_length] at hM
      obtain ⟨ys, e1, e2, e3, e4, e5, e6, e7⟩ := hM
      have hyl : ys.length ≤ 4800 := by
        rw [e2.len]
        refine Nat.le_trans (backsOf_len _ _ _ _) ?_
        rw [List.length_map]
        exact Nat.le_trans (Nat.mul_le_mul hps hrl) (by decide)
      have hgl : gs.length ≤ 200 := by rw [e3.len]; exact hrl
      refine ⟨by show 1 ≤ sizeLine; decide, fun T hT => ⟨by show 1 ≤ sizeLine; decide, fun L hL => ?_⟩⟩
      have kT : Kp ([] : List Addr) H4 (upd (upd H4 T (.tup [.str "stay"])) L (.lst [.ref T])) := (Kp.new hT).trans (Kp.new hL)
      have fT : TpAt oV (upd (upd H4 T (.tup [.str "stay"])) L (.lst [.ref T])) (.ref T) .stay := ⟨T, rfl, Kp.get (S := []) (Kp.new hL) (by simp) upd_same⟩
      have fL : (upd (upd H4 T (.tup [.str "stay"])) L (.lst [.ref T])) L = some (.lst [.ref T]) := upd_same
      have f1 := kT.get (by simp) e1
      have f2 := e2.keep kT noTup_nil
      have f3 := e3.keep kT noTup_nil
      have f4 := kT.get (by simp) e4
      have f7 := e7.trans kT
      generalize upd (upd H4 T (.tup [.str "stay"])) L (.lst [.ref T]) = H5 at fT fL f1 f2 f3 f4 f7
      refine ⟨.ref G, rfl, L, G, _, _, rfl, rfl, fL, f4, Nat.le_trans (show 1 + gs.length ≤ 1000 by omega) (by decide), fun N hN => ?_⟩
      have kN : Kp ([] : List Addr) H5 (upd H5 N (.lst ([.ref T] ++ gs))) := Kp.new hN
      have g1 := kN.get (by simp) f1
      have g2 := f2.keep kN noTup_nil
      have gN : (upd H5 N (.lst ([.ref T] ++ gs))) N = some (.lst ([.ref T] ++ gs)) := upd_same
      have gP : Ps oV (upd H5 N (.lst ([.ref T] ++ gs))) ([.ref T] ++ gs) (.stay :: reach.map .go) := .cons (fT.keep kN noTup_nil) (Ps.map (q := Ord.go) (fun _ => rfl) (f3.keep kN noTup_nil))
      have g7 := f7.trans kN
      generalize upd H5 N (.lst ([.ref T] ++ gs)) = H6 at g1 g2 gN gP g7
      refine ⟨.ref B, rfl, B, ys, keyT H6, rfl, SqL.of g1, (tri_keys g2).2, fun zs S s1 s2 hS => ?_⟩
      obtain ⟨p1, p2, p3⟩ := tri_sorted g2 s1 s2
      have hzl : zs.length ≤ 4800 := by rw [s2.perm.length_eq]; exact hyl
      generalize zs.map (keyT H6) = bs at p1 p2 p3
      have kS : Kp ([] : List Addr) H6 (upd H6 S (.lst zs)) := Kp.new hS
      have i1 := kS.get (by simp) gN
      have iP := gP.keep kS noTup_nil
      have iZ := p3.keep kS noTup_nil
      have iS : (upd H6 S (.lst zs)) S = some (.lst zs) := upd_same
      have i7 := g7.trans kS
      generalize upd H6 S (.lst zs) = H7 at i1 iP iZ iS i7
      refine ⟨N, S, _, _, rfl, rfl, i1, iS, Nat.le_trans (show (([V.ref T] ++ gs : List V)).length + zs.length ≤ 100000 by rw [List.length_append, List.length_singleton]; omega) (by decide), fun p hp => ?_⟩
      have kp : Kp ([] : List Addr) H7 (upd H7 p (.lst ([.ref T] ++ gs ++ zs))) := Kp.new hp
      refine k _ p _ (.stay :: (reach.map .go ++ bs.map fun q => .back q.1 q.2)) ⟨⟨reach, bs, hr1, hr2, p1, p2, rfl⟩⟩ (fresh_of i7 (by simp) hp) upd_same ?_ ?_ (i7.trans kp)
      · rw [← List.cons_append]
        exact Ps.app (iP.keep kp noTup_nil) (Ps.map (q := fun q : Int × Int => Ord.back q.1 q.2) (fun _ => rfl) (iZ.keep kp noTup_nil))
      · rw [List.length_append, List.length_append, List.length_singleton]
        omega
end
end Kt

set_option Elab.async false
set_option linter.all false
set_option maxRecDepth 100000
set_option maxHeartbeats 4000000
namespace Kt
open PySem PySem.Spec PyProof.Rows L2
theorem Kp.up {S : List Addr} {H H' : Hp} (k : Kp S H H') : Same (Ob S H) H' := fun b o e => k b o (Ob.of e).1 (Ob.of e).2
theorem Kp.all {S : List Addr} {H H' : Hp} (k : Kp [] H H') : Kp S H H' := k.mono (fun b h => absurd h (by simp))
theorem filter_snoc {α : Type} {t : α → Bool} {l : List α} {i : Nat} {x : α} (h : l[i]? = some x) : (l.take (i + 1)).filter t = (l.take i).filter t ++ (if t x = true then [x] else []) := by
  rw [take_snoc h, List.filter_append]
  congr 1
  by_cases e : t x = true <;> simp [List.filter_cons, e]
/-- [x for x in ints if t(x)] -/
theorem lc_ints {K : PySem.W.Frag} {L D : Addr} {ms : List Int} (t : Int → Bool) {i : Nat} {tt : TT} {vs : List Nat} {σ : Sl} {H1 : Hp} {Qd : Hp → Prop} (hL : H1 L = some (.lst (ms.map V.int))) (hD : H1 D = none) (hlen : ms.length ≤ 1000)
    (hi : ∀ x, ((wipe σ vs).set i x)[i]? = some x) (hw : ∀ x, wipe ((wipe σ vs).set i x) vs = wipe σ vs)
    (ht : ∀ z ∈ ms, ∀ (H' : Hp), Kp [] H1 H' → ∀ (Q : Bool → Hp → Prop), (∀ H'', Kp [] H' H'' → Q (t z) H'') → tt ((wipe σ vs).set i (some (.int z))) H' Q)
    (hd : ∀ H', H' D = some (.lst ((ms.filter t).map V.int)) → Kp [] H1 H' → Qd H') :
    ∃ W : Nat → Nat → Hp → Prop, (∃ m, W 0 m (upd H1 D (.lst []))) ∧ ∀ i' m H, W i' m H →
      ((Itl K L).stop i' H ∧ Qd H) ∨ ((Itl K L).go i' H ∧ ∃ Nx : Hp → Prop, (∀ H', Nx H' → ∃ m', m' < m ∧ W (i' + 1) m' H') ∧ ∀ x H', (Itl K L).yld i' H x H' → gName i x (wipe σ vs) H' fun σ2 H2 => wipe σ2 vs = wipe σ vs ∧ tt σ2 H2 fun b H3 =>
        if b = true then tVar i σ2 H3 fun y H4 => ∃ acc, H4 D = some (.lst acc) ∧ acc.length < sizeLine ∧ Nx (upd H4 D (.lst (acc ++ [y]))) else Nx H3) := by
  refine lc_list (K := K) (a := L) (xs := ms.map V.int) (fun j H' => H' D = some (.lst (((ms.take j).filter t).map V.int)) ∧ Kp [] H1 H') ⟨upd_same, Kp.new hD⟩ (fun j H' _ ⟨_, k⟩ => SqL.of (k.get (by simp) hL)) ?_ ?_
  · rintro j x H' hx ⟨h1, k⟩
    obtain ⟨z, hz, rfl⟩ := map_ints_get hx
    have hj : j < ms.length := (List.getElem?_eq_some_iff.mp hz).1
    refine ⟨hw _, ht z (List.mem_of_getElem? hz) H' k _ fun H'' k2 => ?_⟩
    have h2 := k2.get (by simp) h1
    have k3 := k.trans k2
    rw [filter_snoc hz]
    by_cases e : t z = true
    · rw [if_pos e]
      refine ⟨.int z, hi _, _, h2, small1000 ?_, ?_, k3.fill hD⟩
      · rw [List.length_map]
        have := List.length_filter_le t (ms.take j)
        rw [List.length_take] at this
        omega
      · rw [upd_same, if_pos e, List.map_append]
        rfl
    · rw [if_neg e]
      refine ⟨?_, k3⟩
      rw [if_neg e, List.append_nil]
      exact h2
  · rintro H' ⟨h1, k⟩
    rw [List.length_map, List.take_length] at h1
    exact hd H' h1 k
theorem sh_pair {K : PySem.W.Frag} {H : Hp} {x : V} {r : Int × Int} (h : PrAt H x r) : Sh K H x := by
  obtain ⟨t, rfl, e⟩ := h
  exact ⟨pD r, .tup (SqT.of e) (.cons (.int _) (.cons (.int _) .nil)), by simp [pD, PyData.canLay0, PyData.canLayAll0], by simp [pD, PyData.depth, PyData.depthAll]⟩
theorem Prs.mem {H : Hp} : ∀ {xs : List V} {rs : List (Int × Int)} {x : V}, Prs H xs rs → x ∈ xs → ∃ r ∈ rs, PrAt H x r
  | _, _, _, .nil, h => absurd h (by simp)
  | _, _, _, .cons a b, h => by
    rcases List.mem_cons.mp h with e | h
    · rw [e]
      exact ⟨_, List.mem_cons_self, a⟩
    · obtain ⟨r, hr, q⟩ := Prs.mem b h
      exact ⟨r, List.mem_cons_of_mem _ hr, q⟩
theorem Prs.app {H : Hp} : ∀ {xs ys : List V} {rs qs : List (Int × Int)}, Prs H xs rs → Prs H ys qs → Prs H (xs ++ ys) (rs ++ qs)
  | _, _, _, _, .nil, h => h
  | _, _, _, _, .cons a b, h => .cons a (Prs.app b h)
end Kt

set_option Elab.async false
set_option linter.all false
set_option maxRecDepth 100000
set_option maxHeartbeats 4000000
namespace Kt
open PySem PySem.Spec PyProof.Rows L2
theorem bes_mem {rs : List (Int × Int)} {f g : Int} : g ∈ bes rs f ↔ ∃ r ∈ rs, (f = r.1 ∧ g = r.2) ∨ (f = r.2 ∧ g = r.1) := by
  unfold bes
  rw [List.mem_map]
  constructor
  · rintro ⟨r, hr, rfl⟩
    obtain ⟨h1, h2⟩ := List.mem_filter.mp hr
    simp only [Bool.or_eq_true, decide_eq_true_eq] at h2
    refine ⟨r, h1, ?_⟩
    rcases h2 with h2 | h2
    · exact .inl ⟨h2, by omega⟩
    · exact .inr ⟨h2, by omega⟩
  · rintro ⟨r, hr, h⟩
    refine ⟨r, List.mem_filter.mpr ⟨hr, ?_⟩, by omega⟩
    simp only [Bool.or_eq_true, decide_eq_true_eq]
    omega
theorem bes_symm {rs : List (Int × Int)} {f g : Int} (h : g ∈ bes rs f) : f ∈ bes rs g := by
  obtain ⟨r, hr, h⟩ := bes_mem.mp h
  refine bes_mem.mpr ⟨r, hr, ?_⟩
  omega
def isBack : Ord → Bool
  | .back _ _ => true
  | _ => false
def word : Ord → Str
  | .stay => "stay"
  | .go _ => "go"
  | .back _ _ => "back"
theorem oV_word (o : Ord) : ∃ r, oV o = .str (word o) :: r := by cases o <;> exact ⟨_, rfl⟩
theorem word_back (o : Ord) : decide (V.str (word o) = V.str "back") = isBack o := by
  cases o with
  | stay => exact decide_eq_false fun e => absurd (V.str.inj e) (by decide +kernel)
  | go g => exact decide_eq_false fun e => absurd (V.str.inj e) (show ¬ (("go" : Str) = "back") by decide +kernel)
  | back f g => exact decide_eq_true rfl
def OrdOk (rs ps : List (Int × Int)) (own : Int) : Ord → Prop
  | .stay => True
  | .go g => g ∈ bes rs own
  | .back f g => f ∈ ps.map (·.1) ∧ f ≠ own ∧ g ∈ bes rs own ∧ (g = f ∨ g ∈ bes rs f)
theorem MenuOf.ok {rs ps : List (Int × Int)} {own : Int} {os : List Ord} (h : MenuOf rs ps own os) : ∀ o ∈ os, OrdOk rs ps own o := by
  obtain ⟨reach, bs, h1, h2, h3, h4, rfl⟩ := h.eq
  intro o ho
  rcases List.mem_cons.mp ho with e | ho
  · rw [e]
    trivial
  · rcases List.mem_append.mp ho with ho | ho
    · obtain ⟨g, hg, rfl⟩ := List.mem_map.mp ho
      exact h1.mem_iff.mp hg
    · obtain ⟨q, hq, rfl⟩ := List.mem_map.mp ho
      have hq := h3.mem_iff.mp hq
      unfold backsOf at hq
      obtain ⟨f, hf, hq⟩ := List.mem_flatMap.mp hq
      unfold half at hq
      split at hq
      · cases hq
      · rename_i hne
        obtain ⟨g, hg, rfl⟩ := List.mem_map.mp hq
        obtain ⟨hg1, hg2⟩ := List.mem_filter.mp hg
        simp only [Bool.or_eq_true, decide_eq_true_eq] at hg2
        exact ⟨hf, hne, h1.mem_iff.mp hg1, hg2⟩
theorem Ps.mem {α : Type} {f : α → List V} {H : Hp} : ∀ {xs : List V} {rs : List α} {x : V}, Ps f H xs rs → x ∈ xs → ∃ r ∈ rs, TpAt f H x r
  | _, _, _, .nil, h => absurd h (by simp)
  | _, _, _, .cons a b, h => by
    rcases List.mem_cons.mp h with e | h
    · rw [e]
      exact ⟨_, List.mem_cons_self, a⟩
    · obtain ⟨r, hr, q⟩ := Ps.mem b h
      exact ⟨r, List.mem_cons_of_mem _ hr, q⟩
theorem dp_flat {K : PySem.W.Frag} {H : Hp} : ∀ o : Ord, ∃ ds, DpAll K H (oV o) ds ∧ PyData.canLayAll0 ds = true ∧ PyData.depthAll ds ≤ 1
  | .stay => ⟨_, .cons (.str _) .nil, by decide +kernel, by simp [PyData.depthAll, PyData.depth]⟩
  | .go g => ⟨_, .cons (.str _) (.cons (.int _) .nil), by
      have : PyData.strOk "go" = true := by decide +kernel
      simp [PyData.canLayAll0, PyData.canLay0, this], by simp [PyData.depthAll, PyData.depth]⟩
  | .back f g => ⟨_, .cons (.str _) (.cons (.int _) (.cons (.int _) .nil)), by
      have : PyData.strOk "back" = true := by decide +kernel
      simp [PyData.canLayAll0, PyData.canLay0, this], by simp [PyData.depthAll, PyData.depth]⟩
theorem sh_ord {K : PySem.W.Frag} {H : Hp} {x : V} {o : Ord} (h : TpAt oV H x o) : Sh K H x := by
  obtain ⟨t, rfl, e⟩ := h
  obtain ⟨ds, h1, h2, h3⟩ := dp_flat (K := K) (H := H) o
  exact ⟨_, .tup (SqT.of e) h1, by simpa [PyData.canLay0] using h2, by simp only [PyData.depth]; omega⟩
theorem Ps.take {α : Type} {f : α → List V} {H : Hp} : ∀ {xs : List V} {rs : List α} (n : Nat), Ps f H xs rs → Ps f H (xs.take n) (rs.take n)
  | _, _, 0, _ => .nil
  | _, _, _ + 1, .nil => .nil
  | _, _, n + 1, .cons a b => .cons a (Ps.take n b)
def oD : Ord → PyData
  | .stay => .tuple [.str "stay"]
  | .go g => .tuple [.str "go", .int g]
  | .back f g => .tuple [.str "back", .int f, .int g]
theorem Ps.ords {K : PySem.W.Frag} {H : Hp} {S : List Addr} (n : NoTup H S) : ∀ {xs : List V} {os : List Ord}, Ps oV H xs os → DpAll K (Ob S H) xs (os.map oD)
  | _, _, .nil => .nil
  | _, o :: _, .cons h t => by
    obtain ⟨a, rfl, e⟩ := h
    refine .cons ?_ (Ps.ords n t)
    have e' := SqT.of (K := K) (Ob.mk (fun z => n a z _ e) e)
    cases o with
    | stay => exact .tup e' (.cons (.str _) .nil)
    | go g => exact .tup e' (.cons (.str _) (.cons (.int _) .nil))
    | back f g => exact .tup e' (.cons (.str _) (.cons (.int _) (.cons (.int _) .nil)))
def OrdsOk (rs ps : List (Int × Int)) (os : List Ord) : Prop := os.length = ps.length ∧ ∀ (i : Nat) (o : Ord) (p : Int × Int), os[i]? = some o → ps[i]? = some p → OrdOk rs ps p.1 o
theorem ord_data {K : PySem.W.Frag} {H : Hp} {x : V} {o : Ord} (h : TpAt oV H x o) : Dp K H x (oD o) := by
  obtain ⟨t, rfl, e⟩ := h
  cases o with
  | stay => exact .tup (SqT.of e) (.cons (.str _) .nil)
  | go g => exact .tup (SqT.of e) (.cons (.str _) (.cons (.int _) .nil))
  | back f g => exact .tup (SqT.of e) (.cons (.str _) (.cons (.int _) (.cons (.int _) .nil)))
theorem shaped_ord (o : Ord) : SeqAt.shaped (oD o) = true := by
  have h1 : PyData.strOk "stay" = true := by decide +kernel
  have h2 : PyData.strOk "go" = true := by decide +kernel
  have h3 : PyData.strOk "back" = true := by decide +kernel
  cases o <;> exact shaped_of (by simp [oD, PyData.canLay0, PyData.canLayAll0, h1, h2, h3]) (by simp [oD, PyData.depth, PyData.depthAll])
def spBoard (K : PySem.W.Frag) : Sp := fun vs H Q _ => ∃ (a c : Addr) (n m : Int), vs = [.ref a, .int n, .int m] ∧ DeckAt H a c ∧ 0 < n ∧ n ≤ 24 ∧ 0 ≤ m ∧ m ≤ 100 ∧
  ∀ (H' : Hp) (v : V) (rs : List (Int × Int)) (cs : List Int) (ps : List (Int × Int)), ChOk n rs cs → PsOk n ps → ps.length = min m.toNat n.toNat → Da K [a, c] H' v (bdD n rs cs ps) → DeckAt H' a c → Kp [a, c] H H' → Q v H'
section
variable {P : Program} {w : World} {K : PySem.W.Frag} {mg : Str → Option Value} {base : Heap}
theorem scBoard : FnScope ["deck", "fields", "many", "chart"] ["deck", "fields", "many"] (defScope sBoard) := ⟨rfl, rfl, rfl, by decide +kernel, rfl, by decide +kernel, by decide +kernel⟩
theorem ok_board {f fD fC fP : Addr} {fd fdD fdC fdP : FuncData} (F : Fun K "_law_board" "_law_board" sBoard f fd) (FD : Fun K "_law_draw" "_law_draw" sDraw fD fdD) (bD : Binds K fdD ["deck", "many"] []) (gD : mg "_law_draw" = some (.ref fD))
    (FC : Fun K "_law_chart" "_law_chart" sChart fC fdC) (bC : Binds K fdC ["deck", "many", "more"] []) (gC : mg "_law_chart" = some (.ref fC)) (GC : FnOk P w K mg base CX0 2 fC fdC ["deck", "many", "more"] (spChart K))
    (FP : Fun K "_law_pieces" "_law_pieces" sPieces fP fdP) (bP : Binds K fdP ["deck", "chart", "many"] []) (gP : mg "_law_pieces" = some (.ref fP)) (GP : FnOk P w K mg base CX0 3 fP fdP ["deck", "chart", "many"] (spPieces K))
    (mI : mg "int" = none) : FnOk P w K mg base CX0 4 f fd ["deck", "fields", "many"] (spBoard K) := by
  have GD : FnOk P w K mg base CX0 1 fD fdD ["deck", "many"] spDraw := ok_draw FD mI
  refine F.ok scBoard (fun vs H Q E h => ?_) (fun cdv A outer s H vs Q E hr h => ?_)
  · obtain ⟨a, c, n, m, rfl, _⟩ := h
    rfl
  · obtain ⟨a, c, n, m, rfl, hD, hn0, hn1, hm0, hm1, k⟩ := h
    refine ⟨_, pss_cons (ps_set (i := 3) scBoard.nd rfl (.inl rfl) (pe_call GC (hr.mono (by decide)) (by rfl) gC FC.kp bC .nil pass0 (pa_cons (pv 0) (pa_cons (pv 1) (pa_cons (pe_op op_add pe_int (pe_call GD (hr.mono (by decide)) (by rfl) gD FD.kp bD .nil pass0 (pa_cons (pv 0) (pa_cons pe_int pa_nil)))) pa_nil)))))
      (pss_one (ps_ret (pe_tup (pa_cons (pv 3) (pa_cons (pe_call GP hr (by rfl) gP FP.kp bP .nil pass0 (pa_cons (pv 0) (pa_cons (pv 3) (pa_cons (pv 2) pa_nil)))) pa_nil))))), ?_⟩
    refine ⟨.ref a, rfl, .int n, rfl, .ref a, rfl, a, c, 4, rfl, hD, by decide, by decide, fun H1 r r0 r1 hD1 k1 => ⟨1, r, rfl, rfl, a, c, n, 1 + r, rfl, hD1, hn0, hn1, by omega, by omega, fun H2 v rs cs hch hv hD2 k2 => ?_⟩⟩
    refine ⟨v, rfl, .ref a, rfl, v, rfl, .int m, rfl, a, c, v, n, m, rs, cs, rfl, hD2, hv, hn0, hn1, hm0, hm1, fun H3 u ps hps hpl hu hD3 k3 => ⟨by show 2 ≤ sizeLine; decide, fun p hp => ?_⟩⟩
    have kp : Kp ([] : List Addr) H3 (upd H3 p (.tup [v, u])) := Kp.new hp
    have hDp := hD3.keep kp (by simp) (by simp)
    have hne := hD3.ne hp
    refine k _ (.ref p) rs cs ps hch hps hpl ?_ hDp ((k1.trans k2).trans (k3.trans kp.all))
    exact .tup (SqT.of (Ob.mk (by simp [hne]) upd_same)) (.cons ((hv.keep k3).keep kp.all) (.cons (hu.keep kp.all) .nil))
end
structure Nc (d : PyData) (k m : Nat) : Prop where
  sh : d.showable = true
  nd : d.hasDict = false
  sm : PyData.leavesShort 13 d = true
  ly : d.canLay0 = true
  wt : d.weight ≤ k
  dp : d.depth ≤ m
structure NcA (ds : List PyData) (k m : Nat) : Prop where
  sh : PyData.showableAll ds = true
  nd : PyData.hasDictAll ds = false
  sm : PyData.leavesShortAll 13 ds = true
  ly : PyData.canLayAll0 ds = true
  wt : PyData.weightAll ds ≤ k
  dp : PyData.depthAll ds ≤ m
theorem Nc.int {i : Int} (h0 : 0 ≤ i) (h1 : i < 1000) : Nc (.int i) 10 0 := by
  have hl : i.natAbs.log2 ≤ 9 := by
    by_cases e : i.natAbs = 0
    · rw [e]
      decide
    · have : i.natAbs.log2 < 10 := (Nat.log2_lt e).mpr (by omega)
      omega
  refine ⟨?_, by simp [PyData.hasDict], ?_, by simp [PyData.canLay0], ?_, by simp [PyData.depth]⟩
  · rw [PyData.showable.eq_4]
    exact decide_eq_true (by omega)
  · rw [PyData.leavesShort.eq_3]
    exact decide_eq_true (PyData.shown_int_le2 (by omega) (by omega))
  · rw [PyData.weight.eq_5]
    split <;> omega
theorem NcA.nil : NcA [] 0 0 := ⟨by simp [PyData.showableAll], by simp [PyData.hasDictAll], by simp [PyData.leavesShortAll], by simp [PyData.canLayAll0], by simp [PyData.weightAll], by simp [PyData.depthAll]⟩
theorem NcA.cons {d : PyData} {ds : List PyData} {k m k' m' : Nat} (a : Nc d k m) (b : NcA ds k' m') : NcA (d :: ds) (k + 1 + k') (max m m') := by
  refine ⟨by simp [PyData.showableAll, a.sh, b.sh], by simp [PyData.hasDictAll, a.nd, b.nd], by simp [PyData.leavesShortAll, a.sm, b.sm], by simp [PyData.canLayAll0, a.ly, b.ly], ?_, ?_⟩
  · rw [PyData.weightAll.eq_2]
    have := a.wt
    have := b.wt
    omega
  · simp only [PyData.depthAll]
    have := a.dp
    have := b.dp
    omega
theorem Nc.tup {ds : List PyData} {k m : Nat} (a : NcA ds k m) : Nc (.tuple ds) k (m + 1) := by
  refine ⟨by simp [PyData.showable, a.sh], by simp [PyData.hasDict, a.nd], by simp [PyData.leavesShort, a.sm], by simp [PyData.canLay0, a.ly], by simpa [PyData.weight] using a.wt, ?_⟩
  have := a.dp
  simp only [PyData.depth]
  omega
theorem Nc.lst {ds : List PyData} {k m : Nat} (a : NcA ds k m) : Nc (.list ds) k (m + 1) := by
  refine ⟨by simp [PyData.showable, a.sh], by simp [PyData.hasDict, a.nd], by simp [PyData.leavesShort, a.sm], by simp [PyData.canLay0, a.ly], by simpa [PyData.weight] using a.wt, ?_⟩
  have := a.dp
  simp only [PyData.depth]
  omega
theorem Nc.mono {d : PyData} {k m k' m' : Nat} (a : Nc d k m) (h : k ≤ k') (h' : m ≤ m') : Nc d k' m' := ⟨a.sh, a.nd, a.sm, a.ly, Nat.le_trans a.wt h, Nat.le_trans a.dp h'⟩
theorem NcA.mono {d : List PyData} {k m k' m' : Nat} (a : NcA d k m) (h : k ≤ k') (h' : m ≤ m') : NcA d k' m' := ⟨a.sh, a.nd, a.sm, a.ly, Nat.le_trans a.wt h, Nat.le_trans a.dp h'⟩
theorem NcA.map {α : Type} {f : α → PyData} {k m : Nat} : ∀ {xs : List α}, (∀ x ∈ xs, Nc (f x) k m) → NcA (xs.map f) (xs.length * (k + 1)) m
  | [], _ => NcA.nil.mono (by simp) (Nat.zero_le _)
  | x :: xs, h => (NcA.cons (h x List.mem_cons_self) (NcA.map fun y hy => h y (List.mem_cons_of_mem _ hy))).mono (by
      rw [List.length_cons, Nat.add_mul]
      omega) (by omega)
theorem Nc.pair {r : Int × Int} (h : 0 ≤ r.1 ∧ r.1 < 1000 ∧ 0 ≤ r.2 ∧ r.2 < 1000) : Nc (pD r) 22 1 :=
  (Nc.tup (NcA.cons (Nc.int h.1 h.2.1) (NcA.cons (Nc.int h.2.2.1 h.2.2.2) .nil))).mono (by omega) (by omega)
theorem nc_stay : Nc (.str "stay") 4 0 := ⟨by simp [PyData.showable], by simp [PyData.hasDict], by rw [PyData.leavesShort.eq_4]; decide +kernel, by rw [PyData.canLay0]; decide +kernel, by rw [PyData.weight.eq_1]; decide +kernel, by simp [PyData.depth]⟩
theorem nc_go : Nc (.str "go") 4 0 := ⟨by simp [PyData.showable], by simp [PyData.hasDict], by rw [PyData.leavesShort.eq_4]; decide +kernel, by rw [PyData.canLay0]; decide +kernel, by rw [PyData.weight.eq_1]; decide +kernel, by simp [PyData.depth]⟩
theorem nc_back : Nc (.str "back") 4 0 := ⟨by simp [PyData.showable], by simp [PyData.hasDict], by rw [PyData.leavesShort.eq_4]; decide +kernel, by rw [PyData.canLay0]; decide +kernel, by rw [PyData.weight.eq_1]; decide +kernel, by simp [PyData.depth]⟩
theorem bes_lt {n : Int} {rs : List (Int × Int)} {cs : List Int} (h : ChOk n rs cs) {f g : Int} (hg : g ∈ bes rs f) : 0 ≤ g ∧ g < n := by
  obtain ⟨r, hr, e⟩ := bes_mem.mp hg
  have := h.road r hr
  rcases e with ⟨_, e⟩ | ⟨_, e⟩ <;> omega
theorem nc_ord {n : Int} {rs ps : List (Int × Int)} {cs : List Int} (h : ChOk n rs cs) (hp : PsOk n ps) {own : Int} {o : Ord} (ho : OrdOk rs ps own o) : Nc (oD o) 27 1 := by
  have hn := h.hi
  have fit : ∀ {f g : Int}, g ∈ bes rs f → Nc (.int g) 10 0 := fun hg => Nc.int (bes_lt h hg).1 (by have := (bes_lt h hg).2; omega)
  cases o with
  | stay => exact (Nc.tup (NcA.cons nc_stay .nil)).mono (by omega) (by omega)
  | go g => exact (Nc.tup (NcA.cons nc_go (NcA.cons (fit ho) .nil))).mono (by omega) (by omega)
  | back f g =>
    obtain ⟨hf, _, hg, _⟩ := ho
    obtain ⟨q, hq, rfl⟩ := List.mem_map.mp hf
    have := hp.fld q hq
    exact (Nc.tup (NcA.cons nc_back (NcA.cons (Nc.int this.1 (by omega)) (NcA.cons (fit hg) .nil)))).mono (by omega) (by omega)
theorem nc_orders {n : Int} {rs ps : List (Int × Int)} {cs : List Int} {os : List Ord} (h : ChOk n rs cs) (hp : PsOk n ps) (hps : ps.length ≤ 24) (ho : OrdsOk rs ps os) : Nc (.tuple (os.map oD)) 672 2 := by
  refine (Nc.tup (NcA.map (k := 27) (m := 1) fun o hm => ?_)).mono ?_ (by omega)
  · obtain ⟨i, hi, e⟩ := List.mem_iff_getElem.mp hm
    have hl := ho.1
    exact nc_ord h hp (ho.2 i o ps[i] (by rw [List.getElem?_eq_getElem hi, e]) (List.getElem?_eq_getElem (by omega)))
  · have := ho.1
    omega
theorem nc_board {n : Int} {rs ps : List (Int × Int)} {cs : List Int} (h : ChOk n rs cs) (hp : PsOk n ps) (hps : ps.length ≤ 24) : Nc (bdD n rs cs ps) 6000 4 := by
  have hn := h.hi
  have h0 := h.lo
  have a1 : Nc (.tuple (rs.map pD)) 4600 2 := (Nc.tup (NcA.map (k := 22) (m := 1) fun r hr => Nc.pair (by have := h.road r hr; omega))).mono (by have := h.few; omega) (by omega)
  have a2 : Nc (.tuple (cs.map PyData.int)) 264 1 := (Nc.tup (NcA.map (k := 10) (m := 0) fun c hc => Nc.int (h.cen c hc).1 (by have := (h.cen c hc).2; omega))).mono (by have := h.cfew; omega) (by omega)
  have a3 : Nc (.tuple (ps.map pD)) 552 2 := (Nc.tup (NcA.map (k := 22) (m := 1) fun r hr => Nc.pair (by have := hp.fld r hr; omega))).mono (by omega) (by omega)
  have a4 : Nc (chD n rs cs) 5000 3 := (Nc.tup (NcA.cons (Nc.int (by omega) (by omega)) (NcA.cons a1 (NcA.cons a2 .nil)))).mono (by omega) (by omega)
  exact (Nc.tup (NcA.cons a4 (NcA.cons a3 .nil))).mono (by omega) (by omega)
theorem Nc.shown {d : PyData} {k m : Nat} (a : Nc d k m) (h : k ≤ 100000) (hm : m ≤ 60) : d.showable = true ∧ d.hasDict = false ∧ d.shown.length ≤ sizeLine ∧ d.depth ≤ 60 :=
  ⟨a.sh, a.nd, PyData.shown_fits (B := 13) (by decide) (by decide) a.sm (by have := a.wt; omega), Nat.le_trans a.dp hm⟩
theorem Nc.shaped {d : PyData} {k m : Nat} (a : Nc d k m) (hm : m ≤ 60) : SeqAt.shaped d = true := shaped_of a.ly (by have := a.dp; omega)
theorem nc_bool (b : Bool) : Nc (.bool b) 0 0 := ⟨by simp [PyData.showable], by simp [PyData.hasDict], by simp [PyData.leavesShort], by simp [PyData.canLay0], by simp [PyData.weight], by simp [PyData.depth]⟩
theorem cat_read {K : PySem.W.Frag} {H : Hp} {a b : Addr} {xs ys : List V} {Q : VK} (ha : SqT K H a xs) (hb : SqT K H b ys) (h1 : H a = some (.tup xs)) (h2 : H b = some (.tup ys)) (hl : xs.length + ys.length ≤ 1000)
    (k : ∀ q H', Kp [] H H' → H' q = some (.tup (xs ++ ys)) → Q (.ref q) H') : rCatA K (.ref a) (.ref b) H Q := by
  refine ⟨a, b, xs, ys, rfl, rfl, ha, hb, Nat.le_trans hl (by decide), fun e => ?_, fun _ e => ?_, fun _ _ p hp => k p _ (Kp.new hp) upd_same⟩
  · subst e
    exact k b H Kp.refl h2
  · subst e
    exact k a H Kp.refl (by rw [List.append_nil]; exact h1)
theorem slice_read {K : PySem.W.Frag} {H : Hp} {a : Addr} {xs : List V} {lo hi : Option Int} {Q : VK} (h1 : H a = some (.tup xs))
    (k : ∀ q H', Kp [] H H' → H' q = some (.tup (cutV xs lo hi)) → Q (.ref q) H') : rSlA K (.ref a) lo hi H Q := by
  refine ⟨a, xs, rfl, SqT.of h1, fun e => ?_, fun _ p hp => k p _ (Kp.new hp) upd_same⟩
  refine k a H Kp.refl ?_
  rw [h1]
  unfold cutV
  rw [e.1, e.2]
  simp
theorem cut_rest (xs : List V) (k : Int) (h : 0 ≤ k) : cutV xs (some k) none = xs.drop k.toNat := by
  unfold cutV
  have e : HT.sIx xs.length 0 (some k) = min k.toNat xs.length := by
    show (if k < 0 then _ else _) = _
    rw [if_neg (by omega)]
  have e2 : HT.sIx xs.length xs.length none = xs.length := rfl
  rw [e, e2]
  by_cases hk : k.toNat ≤ xs.length
  · rw [Nat.min_eq_left hk]
    exact List.take_of_length_le (by simp)
  · rw [Nat.min_eq_right (by omega), List.drop_length, List.drop_of_length_le (by omega)]
    simp
theorem Ps.drop {α : Type} {f : α → List V} {H : Hp} : ∀ {xs : List V} {rs : List α} (n : Nat), Ps f H xs rs → Ps f H (xs.drop n) (rs.drop n)
  | _, _, 0, h => h
  | _, _, _ + 1, .nil => .nil
  | _, _, n + 1, .cons _ b => Ps.drop n b
theorem Ps.set {α : Type} {f : α → List V} {H : Hp} {x : V} {r : α} (hx : TpAt f H x r) : ∀ {xs : List V} {rs : List α} (n : Nat), Ps f H xs rs → Ps f H (xs.set n x) (rs.set n r)
  | _, _, _, .nil => .nil
  | _, _, 0, .cons _ b => .cons hx b
  | _, _, n + 1, .cons a b => .cons a (Ps.set hx n b)
theorem set_split {α : Type} {xs : List α} {s : Nat} {x : α} (h : s < xs.length) : xs.take s ++ [x] ++ xs.drop (s + 1) = xs.set s x := by
  rw [List.set_eq_take_append_cons_drop, if_pos h]
  simp
theorem OrdsOk.set {rs ps : List (Int × Int)} {os : List Ord} (h : OrdsOk rs ps os) {s : Nat} {o : Ord} {p : Int × Int} (hp : ps[s]? = some p) (ho : OrdOk rs ps p.1 o) : OrdsOk rs ps (os.set s o) := by
  refine ⟨by rw [List.length_set]; exact h.1, fun i o' p' hi hp' => ?_⟩
  rw [List.getElem?_set] at hi
  split at hi
  · rename_i e
    subst e
    split at hi
    · cases hi
      rw [hp] at hp'
      cases hp'
      exact ho
    · cases hi
  · exact h.2 i o' p' hi hp'
section
variable {X : Cx} {CX : CXT} {k : Nat} {f : Addr} {fd : FuncData} {ps ks : List Str} {sp : Sp} {E : XK} {x : Str} {p pos : Pos} {tk : TA} {kws : List Keyword} {g : List Value → List Value → List Value} {gV : List V → List V → List V}
theorem pe_callNames (F : FnOk X.prog X.w X.K X.mg X.base CX k f fd ps sp) (hr : Room k X.A) (hg : Gl X x) (hm : X.mg x = some (.ref f)) (hk : PySem.W.keepIn X.K (.ref f) = true) (hb : KBinds X.K fd ps ks g gV) (hx : Passes CX X E)
    (hkw : PK X kws tk) (hall : (backToKw pos (keywordEach kws X.env)).all (·.1.isSome) = true := by rfl) (hks : (backToKw pos (keywordEach kws X.env)).filterMap (·.1) = ks := by rfl)
    (hdb : (x == ("__debug__" : Str)) = false := by decide)
    (hpl : ((backTo pos (starEach [] X.env)).any (·.1) || (backToKw pos (keywordEach kws X.env)).any (·.1.isNone)) = false := by rfl) :
    PE X (.Call (.Name x p) [] kws pos) (fun σ H Q => tk σ H fun zs H2 => sp (gV [] zs) H2 Q E) := by
  refine ⟨fun pins s σ H Q I h => ?_⟩
  refine wpAny_Call_Name_kw (ld_glob I hg hm ?_ hdb)
  refine PySem.W.callWith_KW0 (h₀ := X.base) I.ok.mod.kin hk hall (thn (hkw.run pos pins s σ H _ I h) fun ws s2 ⟨zs, H2, I2, rz, q2⟩ => ⟨I2.kIn, ?_⟩) hpl
  rw [hks]
  exact run_fnk F hr hb hx I2 (us := []) (vs := []) .nil rz q2
end
theorem slice_from {K : PySem.W.Frag} {σ : Sl} {H : Hp} {a : Addr} {xs : List V} {lo : Option Int} {Q : VK} (h1 : H a = some (.tup xs))
    (k : ∀ q H', Kp [] H H' → H' q = some (.tup (cutV xs lo none)) → Q (.ref q) H') : tNoPart σ H (fun u H3 => rSlA K (.ref a) lo u H3 Q) := slice_read h1 k
end Kt

set_option Elab.async false
set_option linter.all false
set_option maxRecDepth 100000
set_option maxHeartbeats 4000000
namespace Kt
open PySem PySem.Spec PyProof.Rows L2
/-! ### x in a tuple of data; a tuple times any number -/
def rInDT (K : PySem.W.Frag) : R2 := fun x y H Q => ∃ d ds, Dp K H x d ∧ Dp K H y (.tuple ds) ∧ SeqAt.shaped d = true ∧ SeqAt.shaped (.tuple ds) = true ∧ Q (.bl (ds.any fun z => PyData.eqv z d)) H
section
variable {X : Cx}
theorem op_inDT (hu : X.A.units + 65 < cLine) : OpR X (compareOp .In) (rInDT X.K) := by
  intro pins s σ H x y v u Q I rx ry h
  obtain ⟨d, ds, hd, he, sd, se, q⟩ := h
  obtain ⟨as, r1⟩ := Dp.reads I d x v hd rx
  obtain ⟨bs, r2⟩ := Dp.reads I (.tuple ds) y u he ry
  exact SeqAt.in_tuple_reads r2 r1 (SeqAt.canLay_of_shaped se) (SeqAt.canLay_of_shaped sd) (room_in_shaped sd hu) ⟨.bl _, H, I, rfl, q⟩
theorem tuple_mul1 (l : Addr) (items : Array Value) (n : Nat) (dd : Option Addr) (sl : Array (Option Value)) (u : Tok) :
    Meets (Builtin.«tuple.__mul__» ⟨[.ref l, .int 1 u], []⟩) (fun _ R s => s.heap.get? l = some { cls := .type "tuple", dict := dd, data := .seq items n, slots := sl } ∧ R (.ok (.ret (Value.ref l))) s) :=
  .of_wp fun prog w A R s h => by
    obtain ⟨hp, g, d, tk, os⟩ := s
    obtain ⟨hl, h⟩ := h
    have f1 := AutoSeq1.idx_int
    have c0 : (decide ((1 : Int) < -(2 ^ 63)) || decide ((1 : Int) ≥ 2 ^ 63)) = false := by decide
    have c1 : (items.isEmpty || (1 : Int) == 1) = true := by simp
    wp_walk using AutoSeq1.wpAny_loadPart' hl
    repeat (first
      | (refine wpAny_ite_false (decide_eq_false (by rw [c0]; exact Bool.false_ne_true)) ?_; wp_walk using AutoSeq1.wpAny_loadPart' hl)
      | (refine wpAny_ite_true (decide_eq_true c1) ?_; wp_walk using AutoSeq1.wpAny_loadPart' hl))
    all_goals exact ⟨_, rfl, h⟩
theorem tuple_mul0 (l : Addr) (items : Array Value) (n : Nat) (dd : Option Addr) (sl : Array (Option Value)) (x : Int) (u : Tok) (hi : items.isEmpty = false) (c0 : (decide (x < -(2 ^ 63)) || decide (x ≥ 2 ^ 63)) = false) (h0 : x ≤ 0) :
    Meets (Builtin.«tuple.__mul__» ⟨[.ref l, .int x u], []⟩) (fun _ R s => s.heap.get? l = some { cls := .type "tuple", dict := dd, data := .seq items n, slots := sl } ∧ R (.ok (.ret (Value.ref s.heap.objs.size))) { s with heap := s.heap.push { cls := Value.type "tuple", data := Data.seq #[] }, toks := s.toks }) :=
  .of_wp fun prog w A R s h => by
    obtain ⟨hp, g, d, tk, os⟩ := s
    obtain ⟨hl, h⟩ := h
    have f1 := AutoSeq1.idx_int
    have c1 : (items.isEmpty || x == 1) = false := by rw [hi, Bool.false_or]; exact beq_eq_false_iff_ne.mpr (by omega)
    have c2 : (decide (x ≤ 0) || items.isEmpty) = true := by rw [decide_eq_true h0]; rfl
    wp_walk using AutoSeq1.wpAny_loadPart' hl
    repeat (first
      | (refine wpAny_ite_false (decide_eq_false (by rw [c0]; exact Bool.false_ne_true)) ?_; wp_walk using AutoSeq1.wpAny_loadPart' hl)
      | (refine wpAny_ite_false (decide_eq_false (by rw [c1]; exact Bool.false_ne_true)) ?_; wp_walk using AutoSeq1.wpAny_loadPart' hl)
      | (refine wpAny_ite_true (decide_eq_true c2) ?_; wp_walk using AutoSeq1.wpAny_loadPart' hl))
    all_goals exact ⟨_, rfl, h⟩
def rRepA (K : PySem.W.Frag) : R2 := fun x y H Q => ∃ l k xs, x = .ref l ∧ y = .int k ∧ SqT K H l xs ∧ xs ≠ [] ∧ -1000 ≤ k ∧ k ≤ 1000 ∧ xs.length ≤ 1000 ∧ (k = 1 → Q (.ref l) H) ∧ (k ≤ 0 → ∀ p, H p = none → Q (.ref p) (upd H p (.tup []))) ∧
  (2 ≤ k → ∀ p, H p = none → Q (.ref p) (upd H p (.tup (List.replicate k.toNat xs).flatten)))
theorem op_repA : OpR X (binaryOp .Mult) (rRepA X.K) := by
  intro pins s σ H x y v u Q I rx ry h
  obtain ⟨l, k, xs, rfl, rfl, hT, hne, h1, h2, hz, q1, q0, q2⟩ := h
  by_cases hk2 : 2 ≤ k
  · exact op_repT pins s σ H _ _ v u Q I rx ry ⟨l, k, xs, rfl, rfl, hT, hne, hk2, h2, hz, q2 hk2⟩
  cases rx
  obtain ⟨t, rfl⟩ := ry
  obtain ⟨its, r, ⟨⟨cls, dd, data, sl⟩, ho, hc, n, hd⟩, hs⟩ := I.tuple hT
  simp only at hc hd
  subst hc hd
  have hle : its.length = xs.length := r.length.symm
  have hn : its ≠ [] := fun e => hne (by
    rw [e] at hle
    exact List.eq_nil_of_length_eq_zero hle.symm)
  have hi : its.toArray.isEmpty = false := by
    cases its with
    | nil => exact absurd rfl hn
    | cons a b => rfl
  have c0 : (decide (k < -(2 ^ 63)) || decide (k ≥ 2 ^ 63)) = false := by
    rw [decide_eq_false (by omega), decide_eq_false (by omega)] <;> rfl
  by_cases hk1 : k = 1
  · subst hk1
    exact wpAny_binaryOp_repeat_ref (T := "tuple") (U := "int") (by decide) ⟨_, ho, rfl⟩ (fun s' => typeIs_int s' 1 t) noFill_tuple_mul F.fills_int_mul F.slot_int_rmul repeat_tuple F.slot_int_index.lookup
      (call_meets F.slot_int_rmul (typeIs_int s 1 t) F.entry_int_rmul (F.args_int_rmul_2 _ _) (int_rmul_tuple 1 t l its.toArray n dd sl)
        ⟨ho, rfl, ⟨_, ho, rfl⟩, call_meets F.slot_tuple_mul ⟨_, ho, rfl⟩ F.entry_tuple_mul (F.args_tuple_mul_2 _ _) (tuple_mul1 l its.toArray n dd sl t) ⟨ho, ⟨.ref l, H, I, rfl, q1 rfl⟩⟩⟩)
  · have hk0 : k ≤ 0 := by omega
    refine wpAny_binaryOp_repeat_ref (T := "tuple") (U := "int") (by decide) ⟨_, ho, rfl⟩ (fun s' => typeIs_int s' k t) noFill_tuple_mul F.fills_int_mul F.slot_int_rmul repeat_tuple F.slot_int_index.lookup
      (call_meets F.slot_int_rmul (typeIs_int s k t) F.entry_int_rmul (F.args_int_rmul_2 _ _) (int_rmul_tuple k t l its.toArray n dd sl)
        ⟨ho, rfl, ⟨_, ho, rfl⟩, call_meets F.slot_tuple_mul ⟨_, ho, rfl⟩ F.entry_tuple_mul (F.args_tuple_mul_2 _ _) (tuple_mul0 l its.toArray n dd sl k t hi c0 hk0) ⟨ho, ?_⟩⟩)
    refine ⟨.ref s.heap.objs.size, _, I.laid (t' := s.toks) (o := .tup []) (fun b ob q => Heap.get?_push_of_some _ q) (Nat.le_refl _) ?_, rfl, q0 hk0 _ (I.hok.fresh (Nat.le_refl _))⟩
    exact ⟨Nat.zero_le _, [], .nil, IsTup.new _ _⟩
end
end Kt

set_option Elab.async false
set_option linter.all false
set_option maxRecDepth 100000
set_option maxHeartbeats 4000000
namespace Kt
open PySem PySem.Spec PyProof.Rows L2
/-- [e for i, j in a tuple of pairs if t] -/
theorem lc_prs {K : PySem.W.Frag} {T D : Addr} {xs : List V} {rs : List (Int × Int)} (t : Int × Int → Bool) (e : Int × Int → Int) {i j : Nat} {tt : TT} {te : TE} {vs : List Nat} {σ : Sl} {H1 : Hp} {Qd : Hp → Prop}
    (hT : SqT K H1 T xs) (hX : DpAll K H1 xs (rs.map pD)) (hD : H1 D = none) (hlen : rs.length ≤ 1000)
    (hw : ∀ x y, wipe (((wipe σ vs).set i x).set j y) vs = wipe σ vs)
    (ht : ∀ r ∈ rs, ∀ (H' : Hp), ∀ (Q : Bool → Hp → Prop), Q (t r) H' → tt (((wipe σ vs).set i (some (.int r.1))).set j (some (.int r.2))) H' Q)
    (he : ∀ r ∈ rs, ∀ (H' : Hp), ∀ (Q : VK), Q (.int (e r)) H' → te (((wipe σ vs).set i (some (.int r.1))).set j (some (.int r.2))) H' Q)
    (hd : ∀ H', H' D = some (.lst (((rs.filter t).map e).map V.int)) → Kp [] H1 H' → Qd H') :
    ∃ W : Nat → Nat → Hp → Prop, (∃ m, W 0 m (upd H1 D (.lst []))) ∧ ∀ i' m H, W i' m H →
      ((Itt K T).stop i' H ∧ Qd H) ∨ ((Itt K T).go i' H ∧ ∃ Nx : Hp → Prop, (∀ H', Nx H' → ∃ m', m' < m ∧ W (i' + 1) m' H') ∧ ∀ x H', (Itt K T).yld i' H x H' → gTup K 2 (gCons (gName i) (gCons (gName j) gNil)) x (wipe σ vs) H' fun σ2 H2 => wipe σ2 vs = wipe σ vs ∧ tt σ2 H2 fun b H3 =>
        if b = true then te σ2 H3 fun y H4 => ∃ acc, H4 D = some (.lst acc) ∧ acc.length < sizeLine ∧ Nx (upd H4 D (.lst (acc ++ [y]))) else Nx H3) := by
  have hl : xs.length = rs.length := by rw [all_len hX, List.length_map]
  refine lc_tup (K := K) (a := T) (xs := xs) (fun k H' => H' D = some (.lst ((((rs.take k).filter t).map e).map V.int)) ∧ Kp [] H1 H') ⟨upd_same, Kp.new hD⟩ (fun k H' _ ⟨_, kk⟩ => sameT (kz_seq kk) hT) ?_ ?_
  · rintro k x H' hx ⟨h1, kk⟩
    obtain ⟨r, q, hr, rfl, hq⟩ := Kt.pairs_at hX hx
    have hk : k < rs.length := (List.getElem?_eq_some_iff.mp hr).1
    refine ⟨q, _, rfl, sameT (kz_seq kk) hq, rfl, .int r.1, _, rfl, .int r.2, _, rfl, rfl, hw _ _, ht r (List.mem_of_getElem? hr) H' _ ?_⟩
    rw [filter_snoc hr]
    by_cases e1 : t r = true
    · rw [if_pos e1]
      refine he r (List.mem_of_getElem? hr) H' _ ⟨_, h1, small1000 ?_, ?_, kk.fill hD⟩
      · rw [List.length_map, List.length_map]
        have := List.length_filter_le t (rs.take k)
        rw [List.length_take] at this
        omega
      · rw [upd_same, if_pos e1]
        simp
    · rw [if_neg e1]
      refine ⟨?_, kk⟩
      rw [if_neg e1, List.append_nil]
      exact h1
  · rintro H' ⟨h1, kk⟩
    rw [hl, List.take_length] at h1
    exact hd H' h1 kk
def nearL (rs : List (Int × Int)) (f : Int) : List Int := (rs.filter fun r => decide (r.2 = f)).map (·.1) ++ (rs.filter fun r => decide (r.1 = f)).map (·.2)
theorem near_len (rs : List (Int × Int)) (f : Int) : (nearL rs f).length ≤ 2 * rs.length := by
  unfold nearL
  rw [List.length_append, List.length_map, List.length_map]
  have := List.length_filter_le (fun r : Int × Int => decide (r.2 = f)) rs
  have := List.length_filter_le (fun r : Int × Int => decide (r.1 = f)) rs
  omega
theorem chart_read {K : PySem.W.Frag} {H : Hp} {v : V} {n : Int} {rs : List (Int × Int)} {cs : List Int} (h : Dp K H v (chD n rs cs)) : ∃ a u z xs, v = .ref a ∧ SqT K H a [.int n, .ref u, z] ∧ SqT K H u xs ∧ DpAll K H xs (rs.map pD) := by
  obtain ⟨a, t, u, rfl, hs, ht, _⟩ := chart_inv h
  obtain ⟨t', xs, et, hxs, hall⟩ := tup_inv ht
  cases et
  exact ⟨a, t, _, xs, rfl, hs, hxs, hall⟩
def spNear (K : PySem.W.Frag) : Sp := fun vs H Q _ => ∃ (v : V) (n : Int) (rs : List (Int × Int)) (cs : List Int) (f : Int), vs = [v, .int f] ∧ Dp K H v (chD n rs cs) ∧ rs.length ≤ 200 ∧
  ∀ (H' : Hp) (p : Addr), H p = none → H' p = some (.tup ((nearL rs f).map V.int)) → Kp [] H H' → Q (.ref p) H'
def spFieldOf (K : PySem.W.Frag) : Sp := fun vs H Q _ => ∃ (v : V) (i : Nat) (n : Int) (rs : List (Int × Int)) (cs : List Int) (ps : List (Int × Int)) (pc : Int × Int), vs = [v, .int i] ∧ Dp K H v (bdD n rs cs ps) ∧ ps[i]? = some pc ∧ Q (.int pc.1) H
section
variable {P : Program} {w : World} {K : PySem.W.Frag} {mg : Str → Option Value} {base : Heap}
abbrev nNear : List Str := ["chart", "field", "roads", "lesser", "greater", "low", "high"]
theorem scNear : FnScope nNear ["chart", "field"] (defScope sNear) := ⟨rfl, rfl, rfl, by decide +kernel, rfl, by decide +kernel, by decide +kernel⟩
theorem ok_near {f : Addr} {fd : FuncData} (F : Fun K "near" "near" sNear f fd) : FnOk P w K mg base CX0 1 f fd ["chart", "field"] (spNear K) := by
  refine F.ok scNear (fun vs H Q E h => ?_) (fun cdv A outer s H vs Q E hr h => ?_)
  · obtain ⟨v, n, rs, cs, f, rfl, _⟩ := h
    rfl
  · obtain ⟨v, n, rs, cs, f, rfl, hv, hrs, k⟩ := h
    refine ⟨_, pss_cons (ps_set (i := 2) scNear.nd rfl (.inl rfl) (kt (pv 0) pe_int))
      (pss_cons (ps_setLc (i := 3) (own := [("low", 5), ("high", 6)]) (g := gTup K 2 (gCons (gName 5) (gCons (gName 6) gNil))) rfl scNear.nd rfl rfl (sw_true rfl rfl rfl (by decide +kernel)) (pi_tup (pv 2)) (blkOk_by (own := [("low", 5), ("high", 6)]) (N := nNear) (sc := defScope sNear) (by decide +kernel))
          (fun _ _ _ _ _ => pg_tup rfl (pgs_cons (pg_name (i := 5) scNear.nd rfl (.inl rfl)) (pgs_cons (pg_name (i := 6) scNear.nd rfl (.inl rfl)) pgs_nil)))
          (fun _ _ _ _ _ => pts_one (pt_cmpR op_eq (pv 6) (pv 1) (nomark _))) (fun _ _ _ _ _ => pv 5))
      (pss_cons (ps_setLc (i := 4) (own := [("low", 5), ("high", 6)]) (g := gTup K 2 (gCons (gName 5) (gCons (gName 6) gNil))) rfl scNear.nd rfl rfl (sw_true rfl rfl rfl (by decide +kernel)) (pi_tup (pv 2)) (blkOk_by (own := [("low", 5), ("high", 6)]) (N := nNear) (sc := defScope sNear) (by decide +kernel))
          (fun _ _ _ _ _ => pg_tup rfl (pgs_cons (pg_name (i := 5) scNear.nd rfl (.inl rfl)) (pgs_cons (pg_name (i := 6) scNear.nd rfl (.inl rfl)) pgs_nil)))
          (fun _ _ _ _ _ => pts_one (pt_cmpR op_eq (pv 5) (pv 1) (nomark _))) (fun _ _ _ _ _ => pv 6))
      (pss_one (ps_ret (pe_tup (StX.pa_star (pv 3) (StX.pa_star (pv 4) pa_nil))))))), ?_⟩
    obtain ⟨a, u, z, xs, rfl, hs, hu, hx⟩ := chart_read hv
    refine ⟨.ref a, rfl, a, _, 1, _, rfl, rfl, hs, at1, .ref u, rfl, u, rfl, ⟨_, hu⟩, fun D hD => ?_⟩
    refine lc_prs (i := 5) (j := 6) (fun r => decide (r.2 = f)) (·.1) hu hx hD (by omega) (fun x y => rfl) (fun r _ H' R hR => ?_) (fun r _ H' R hR => ⟨.int r.1, rfl, hR⟩) fun H1 h1 k1 => ?_
    · refine ⟨.int r.2, rfl, .int f, rfl, rfl, _, rfl, ?_⟩
      simpa using hR
    · refine ⟨.ref u, rfl, u, rfl, ⟨_, sameT (kz_seq k1) hu⟩, fun D2 hD2 => ?_⟩
      refine lc_prs (i := 5) (j := 6) (fun r => decide (r.1 = f)) (·.2) (sameT (kz_seq k1) hu) (DpAll.same (kz_seq k1) _ hx) hD2 (by omega) (fun x y => rfl) (fun r _ H' R hR => ?_) (fun r _ H' R hR => ⟨.int r.2, rfl, hR⟩) fun H2 h2 k2 => ?_
      · refine ⟨.int r.1, rfl, .int f, rfl, rfl, _, rfl, ?_⟩
        simpa using hR
      · have hl := near_len rs f
        refine ⟨.ref D, rfl, D, _, rfl, .inr (SqL.of (k2.get (by simp) h1)), .ref D2, rfl, D2, _, rfl, .inr (SqL.of h2), Nat.le_trans (show _ ≤ 1000 by rw [List.append_nil, ← List.map_append, List.length_map]; show (nearL rs f).length ≤ 1000; omega) (by decide), fun p hp => ?_⟩
        have kp : Kp ([] : List Addr) H2 (upd H2 p (.tup ((nearL rs f).map V.int))) := Kp.new hp
        rw [List.append_nil, ← List.map_append]
        exact k _ p (fresh_of (k1.trans k2) (by simp) hp) upd_same ((k1.trans k2).trans kp)
theorem scFieldOf : FnScope ["board", "place"] ["board", "place"] (defScope sFieldOf) := ⟨rfl, rfl, rfl, by decide +kernel, rfl, by decide +kernel, by decide +kernel⟩
theorem ok_fieldOf {f : Addr} {fd : FuncData} (F : Fun K "field_of" "field_of" sFieldOf f fd) : FnOk P w K mg base CX0 1 f fd ["board", "place"] (spFieldOf K) := by
  refine F.ok scFieldOf (fun vs H Q E h => ?_) (fun cdv A outer s H vs Q E hr h => ?_)
  · obtain ⟨v, i, n, rs, cs, ps, pc, rfl, _⟩ := h
    rfl
  · obtain ⟨v, i, n, rs, cs, ps, pc, rfl, hv, hi, k⟩ := h
    refine ⟨_, pss_one (ps_ret (kt (kt (kt (pv 0) pe_int) (pv 1)) pe_int)), ?_⟩
    obtain ⟨ta, tc, tp, xs, rfl, hb, hch, hpt, hpx⟩ := board_inv hv
    obtain ⟨x, hx, hxd⟩ := all_at hpx (show (ps.map pD)[i]? = some (pD pc) by rw [List.getElem?_map, hi]; rfl)
    obtain ⟨t, rfl, ht⟩ := pair_inv hxd
    exact ⟨.ref ta, rfl, ta, _, 1, _, rfl, rfl, hb, at1, .int i, rfl, tp, xs, i, _, rfl, rfl, hpt, atI_nat hx, t, _, 0, _, rfl, rfl, ht, at0, k⟩
end
end Kt

set_option Elab.async false
set_option linter.all false
set_option maxRecDepth 100000
set_option maxHeartbeats 4000000
namespace Kt
open PySem PySem.Spec PyProof.Rows L2
theorem pi_listK {X : Cx} {tg l : Expr} {tl : TE} (K : PySem.W.Frag) (h : PE X l tl) (hK : X.K = K := by rfl) : PI X tg l (iList K tl) := by
  subst hK
  exact pi_list h
/-! ### a comprehension of two clauses, over a tuple and over a list each -/
theorem lc2_in {K : PySem.W.Frag} {p : Addr} {zs : List V} {g1 : TG} {tt1 : TT} {te : TE} {vs1 : List Nat} {σ2 : Sl} {H4 : Hp} {D : Addr} {Nx : Hp → Prop} (Pw : Nat → Hp → Prop) (h0 : Pw 0 H4) (hk : ∀ j H, j ≤ zs.length → Pw j H → SqL K H p zs)
    (hs : ∀ j z H, zs[j]? = some z → Pw j H → g1 z (wipe σ2 vs1) H fun σ3 H5 => wipe σ3 vs1 = wipe σ2 vs1 ∧ tt1 σ3 H5 fun b H6 => if b = true then te σ3 H6 fun y H7 => ∃ acc, H7 D = some (.lst acc) ∧ acc.length < sizeLine ∧ Pw (j + 1) (upd H7 D (.lst (acc ++ [y]))) else Pw (j + 1) H6)
    (hd : ∀ H, Pw zs.length H → Nx H) : ∃ W1 : Nat → Nat → Hp → Prop, (∃ m, W1 0 m H4) ∧ ∀ j k H, W1 j k H →
      ((Itl K p).stop j H ∧ Nx H) ∨ ((Itl K p).go j H ∧ ∃ Nx1 : Hp → Prop, (∀ H', Nx1 H' → ∃ k', k' < k ∧ W1 (j + 1) k' H') ∧ ∀ x H', (Itl K p).yld j H x H' → g1 x (wipe σ2 vs1) H' fun σ3 H5 => wipe σ3 vs1 = wipe σ2 vs1 ∧ tt1 σ3 H5 fun b H6 =>
        if b = true then te σ3 H6 fun y H7 => ∃ acc, H7 D = some (.lst acc) ∧ acc.length < sizeLine ∧ Nx1 (upd H7 D (.lst (acc ++ [y]))) else Nx1 H6) := by
  refine ⟨fun j m H => j + m = zs.length ∧ Pw j H, ⟨zs.length, by omega, h0⟩, ?_⟩
  rintro j m H ⟨e, h⟩
  by_cases hi : j < zs.length
  · have g : zs[j]? = some zs[j] := List.getElem?_eq_getElem hi
    have hq := hk j H (by omega) h
    refine .inr ⟨⟨_, _, hq, g⟩, Pw (j + 1), fun H' h' => ⟨m - 1, by omega, by omega, h'⟩, fun x H' hy => ?_⟩
    obtain ⟨rfl, fv⟩ := hy
    exact hs j x H' (fv _ hq) h
  · have ej : j = zs.length := by omega
    subst ej
    exact .inl ⟨⟨_, hk _ H (Nat.le_refl _) h, Nat.le_refl _⟩, hd H h⟩
theorem lc2_out {K : PySem.W.Frag} {a : Addr} {xs : List V} {g : TG} {tt : TT} {wi1 : TI} {g1 : TG} {tt1 : TT} {te : TE} {vs vs1 : List Nat} {σ : Sl} {H1 : Hp} {D : Addr} {Qd : Hp → Prop} (Pv : Nat → Hp → Prop) (h0 : Pv 0 (upd H1 D (.lst []))) (hk : ∀ i H, i ≤ xs.length → Pv i H → SqT K H a xs)
    (hs : ∀ i x H, xs[i]? = some x → Pv i H → g x (wipe σ vs) H fun σ2 H2 => wipe σ2 vs = wipe σ vs ∧ tt σ2 H2 fun b H3 =>
      if b = true then wi1 σ2 H3 fun J1 H4 => ∃ W1 : Nat → Nat → Hp → Prop, (∃ m, W1 0 m H4) ∧ ∀ j k H, W1 j k H →
        (J1.stop j H ∧ Pv (i + 1) H) ∨ (J1.go j H ∧ ∃ Nx1 : Hp → Prop, (∀ H', Nx1 H' → ∃ k', k' < k ∧ W1 (j + 1) k' H') ∧ ∀ x H', J1.yld j H x H' → g1 x (wipe σ2 vs1) H' fun σ3 H5 => wipe σ3 vs1 = wipe σ2 vs1 ∧ tt1 σ3 H5 fun b H6 =>
          if b = true then te σ3 H6 fun y H7 => ∃ acc, H7 D = some (.lst acc) ∧ acc.length < sizeLine ∧ Nx1 (upd H7 D (.lst (acc ++ [y]))) else Nx1 H6)
      else Pv (i + 1) H3)
    (hd : ∀ H, Pv xs.length H → Qd H) : ∃ W : Nat → Nat → Hp → Prop, (∃ m, W 0 m (upd H1 D (.lst []))) ∧ ∀ i m H, W i m H →
      ((Itt K a).stop i H ∧ Qd H) ∨ ((Itt K a).go i H ∧ ∃ Nx : Hp → Prop, (∀ H', Nx H' → ∃ m', m' < m ∧ W (i + 1) m' H') ∧ ∀ x H', (Itt K a).yld i H x H' → g x (wipe σ vs) H' fun σ2 H2 => wipe σ2 vs = wipe σ vs ∧ tt σ2 H2 fun b H3 =>
        if b = true then wi1 σ2 H3 fun J1 H4 => ∃ W1 : Nat → Nat → Hp → Prop, (∃ m, W1 0 m H4) ∧ ∀ j k H, W1 j k H →
          (J1.stop j H ∧ Nx H) ∨ (J1.go j H ∧ ∃ Nx1 : Hp → Prop, (∀ H', Nx1 H' → ∃ k', k' < k ∧ W1 (j + 1) k' H') ∧ ∀ x H', J1.yld j H x H' → g1 x (wipe σ2 vs1) H' fun σ3 H5 => wipe σ3 vs1 = wipe σ2 vs1 ∧ tt1 σ3 H5 fun b H6 =>
            if b = true then te σ3 H6 fun y H7 => ∃ acc, H7 D = some (.lst acc) ∧ acc.length < sizeLine ∧ Nx1 (upd H7 D (.lst (acc ++ [y]))) else Nx1 H6)
        else Nx H3) := by
  refine ⟨fun j m H => j + m = xs.length ∧ Pv j H, ⟨xs.length, by omega, h0⟩, ?_⟩
  rintro j m H ⟨e, h⟩
  by_cases hi : j < xs.length
  · have g : xs[j]? = some xs[j] := List.getElem?_eq_getElem hi
    have hq := hk j H (by omega) h
    refine .inr ⟨⟨_, _, hq, g⟩, Pv (j + 1), fun H' h' => ⟨m - 1, by omega, by omega, h'⟩, fun x H' hy => ?_⟩
    obtain ⟨rfl, fv⟩ := hy
    exact hs j x H' (fv _ hq) h
  · have ej : j = xs.length := by omega
    subst ej
    exact .inl ⟨⟨_, hk _ H (Nat.le_refl _) h, Nat.le_refl _⟩, hd H h⟩
def shareL (rs : List (Int × Int)) (ms : List Int) (o : Int) : List Int := ms.filter fun g => decide (g = o) || decide (g ∈ nearL rs o)
def spShared (K : PySem.W.Frag) : Sp := fun vs H Q _ => ∃ (v : V) (n : Int) (rs : List (Int × Int)) (cs : List Int) (q : Addr) (ms : List Int) (o : Int), vs = [v, .ref q, .int o] ∧ Dp K H v (chD n rs cs) ∧ rs.length ≤ 200 ∧ SqT K H q (ms.map V.int) ∧ ms.length ≤ 400 ∧
  ∀ (H' : Hp) (p : Addr), H p = none → H' p = some (.lst ((shareL rs ms o).map V.int)) → Kp [] H H' → Q (.ref p) H'
def pBacks (rs : List (Int × Int)) (fs : List Int) (own : Int) : List (Int × Int) := fs.flatMap fun f => if f = own then [] else (shareL rs (nearL rs own) f).map fun g => (f, g)
def pOrds (rs ps : List (Int × Int)) (own : Int) : List Ord := .stay :: ((nearL rs own).map .go ++ (pBacks rs (ps.map (·.1)) own).map fun q => .back q.1 q.2)
def spOrdersP (K : PySem.W.Frag) : Sp := fun vs H Q _ => ∃ (v : V) (i : Nat) (n : Int) (rs : List (Int × Int)) (cs : List Int) (ps : List (Int × Int)) (pc : Int × Int), vs = [v, .int i] ∧ Dp K H v (bdD n rs cs ps) ∧ rs.length ≤ 200 ∧ ps.length ≤ 24 ∧ ps[i]? = some pc ∧
  ∀ (H' : Hp) (p : Addr) (xs : List V), H p = none → H' p = some (.tup xs) → Ps oV H' xs (pOrds rs ps pc.1) → Kp [] H H' → Q (.ref p) H'
theorem share_len (rs : List (Int × Int)) (ms : List Int) (o : Int) : (shareL rs ms o).length ≤ ms.length := List.length_filter_le _ _
theorem pBacks_len (rs : List (Int × Int)) (own : Int) : ∀ fs : List Int, (pBacks rs fs own).length ≤ fs.length * (nearL rs own).length
  | [] => by simp [pBacks]
  | f :: fs => by
    have ih := pBacks_len rs own fs
    unfold pBacks at ih ⊢
    rw [List.flatMap_cons, List.length_append, List.length_cons, Nat.add_mul]
    have := share_len rs (nearL rs own) f
    split
    · simp only [List.length_nil]
      omega
    · rw [List.length_map]
      omega
theorem Ps.append2 {H : Hp} : ∀ {xs : List V} {qs : List (Int × Int)}, Ps bV H xs qs → Ps oV H xs (qs.map fun q => Ord.back q.1 q.2)
  | _, _, .nil => .nil
  | _, _, .cons h t => .cons h (Ps.append2 t)
theorem Ps.goes {H : Hp} : ∀ {xs : List V} {qs : List Int}, Ps (fun g => oV (.go g)) H xs qs → Ps oV H xs (qs.map Ord.go)
  | _, _, .nil => .nil
  | _, _, .cons h t => .cons h (Ps.goes t)
section
variable {P : Program} {w : World} {K : PySem.W.Frag} {mg : Str → Option Value} {base : Heap}
abbrev nShared : List Str := ["chart", "goals", "other", "others", "goal"]
theorem scShared : FnScope nShared ["chart", "goals", "other"] (defScope sShared) := ⟨rfl, rfl, rfl, by decide +kernel, rfl, by decide +kernel, by decide +kernel⟩
theorem ok_shared {f fN : Addr} {fd fdN : FuncData} (F : Fun K "_shared_goals" "_shared_goals" sShared f fd) (FN : Fun K "near" "near" sNear fN fdN) (bN : Binds K fdN ["chart", "field"] []) (gN : mg "near" = some (.ref fN)) :
    FnOk P w K mg base CX0 2 f fd ["chart", "goals", "other"] (spShared K) := by
  have GN : FnOk P w K mg base CX0 1 fN fdN ["chart", "field"] (spNear K) := ok_near FN
  refine F.ok scShared (fun vs H Q E h => ?_) (fun cdv A outer s H vs Q E hr h => ?_)
  · obtain ⟨v, n, rs, cs, q, ms, o, rfl, _⟩ := h
    rfl
  · obtain ⟨v, n, rs, cs, q, ms, o, rfl, hv, hrs, hq, hms, k⟩ := h
    refine ⟨_, pss_cons (ps_set (i := 3) scShared.nd rfl (.inr rfl) (pe_call GN hr (by rfl) gN FN.kp bN .nil pass0 (pa_cons (pv 0) (pa_cons (pv 2) pa_nil))))
      (pss_one (ps_ret (pe_lc (own := [("goal", 4)]) (g := gName 4) rfl scShared.nd (pi_tup (pv 1)) (blkOk_by (own := [("goal", 4)]) (N := nShared) (sc := defScope sShared) (by decide +kernel))
        (fun _ _ _ _ _ => pg_name (i := 4) scShared.nd rfl (.inl rfl))
        (fun _ _ _ _ _ => pts_one (PW.pt (pw_or (pt_cmpR op_eq (pv 4) (pv 2) (nomark _)) (pw_or1 (pt_cmpR (op_inK K) (pv 4) (pv 3) (by rfl))))))
        (fun _ _ _ _ _ => pv 4)))), ?_⟩
    refine ⟨v, rfl, .int o, rfl, v, n, rs, cs, o, rfl, hv, hrs, fun H1 p1 hp1 hq1 k1 => ?_⟩
    have hqq := sameT (kz_seq k1) hq
    refine ⟨.ref q, rfl, q, rfl, ⟨_, hqq⟩, fun D hD => ?_⟩
    have hDH : H D = none := fresh_of k1 (by simp) hD
    refine lc_tup (K := K) (a := q) (xs := ms.map V.int) (fun j H' => H' D = some (.lst ((shareL rs (ms.take j) o).map V.int)) ∧ Kp [] H1 H') ⟨upd_same, Kp.new hD⟩ (fun j H' _ ⟨_, kk⟩ => sameT (kz_seq kk) hqq) ?_ ?_
    · rintro j x H' hx ⟨h1, kk⟩
      obtain ⟨z, hz, rfl⟩ := map_ints_get hx
      have hj : j < ms.length := (List.getElem?_eq_some_iff.mp hz).1
      refine ⟨rfl, .int z, rfl, .int o, rfl, rfl, _, rfl, ?_⟩
      have fin : ∀ b, b = (decide (z = o) || decide (z ∈ nearL rs o)) → if b = true then tVar 4 ((wipe ([some v, some (.ref q), some (.int o), some (.ref p1), none] : Sl) [4]).set 4 (some (.int z))) H' (fun y H4 => ∃ acc, H4 D = some (.lst acc) ∧ acc.length < sizeLine ∧ (upd H4 D (.lst (acc ++ [y])) D = some (.lst ((shareL rs (ms.take (j + 1)) o).map V.int)) ∧ Kp [] H1 (upd H4 D (.lst (acc ++ [y]))))) else (H' D = some (.lst ((shareL rs (ms.take (j + 1)) o).map V.int)) ∧ Kp [] H1 H') := by
        intro b hb
        have e1 : shareL rs (ms.take (j + 1)) o = shareL rs (ms.take j) o ++ (if b = true then [z] else []) := by
          unfold shareL
          rw [filter_snoc hz, hb]
        refine ite2 (fun hb1 => ?_) (fun hb0 => ?_)
        · refine ⟨.int z, rfl, _, h1, small1000 ?_, ?_, kk.fill hD⟩
          · rw [List.length_map]
            have := share_len rs (ms.take j) o
            rw [List.length_take] at this
            omega
          · rw [upd_same, e1, if_pos hb1, List.map_append]
            rfl
        · rw [e1, if_neg hb0, List.append_nil]
          exact ⟨h1, kk⟩
      refine ite2 (fun hb => ?_) (fun hb => ?_)
      · have hb : z = o := by simpa using hb
        exact fin true (by simp [hb])
      · have hb : ¬ z = o := fun e => hb (by simp [e])
        refine ⟨.int z, rfl, .ref p1, rfl, p1, _, rfl, .inr (SqT.of (kk.get (by simp) hq1)), rfl, flat_ints _, _, rfl, ?_⟩
        rw [inV_ints]
        exact fin _ (by simp [hb])
    · rintro H2 ⟨h1, k2⟩
      rw [List.length_map, List.take_length] at h1
      exact k _ D hDH h1 (k1.trans k2)
end
end Kt

set_option Elab.async false
set_option linter.all false
set_option maxRecDepth 100000
set_option maxHeartbeats 4000000
namespace Kt
open PySem PySem.Spec PyProof.Rows L2
theorem pBacks_snoc {rs : List (Int × Int)} {fs : List Int} {own : Int} {i : Nat} {f : Int} (h : fs[i]? = some f) : pBacks rs (fs.take (i + 1)) own = pBacks rs (fs.take i) own ++ (if f = own then [] else (shareL rs (nearL rs own) f).map fun g => (f, g)) := by
  unfold pBacks
  rw [take_snoc h, List.flatMap_append]
  simp
section
variable {P : Program} {w : World} {K : PySem.W.Frag} {mg : Str → Option Value} {base : Heap}
abbrev nOrdersP : List Str := ["board", "place", "field", "goals", "gos", "backs", "goal", "other", "_"]
theorem scOrdersP : FnScope nOrdersP ["board", "place"] (defScope sOrdersP) := ⟨rfl, rfl, rfl, by decide +kernel, rfl, by decide +kernel, by decide +kernel⟩
theorem ok_ordersP {f fF fN fS : Addr} {fd fdF fdN fdS : FuncData} (F : Fun K "orders_of" "orders_of" sOrdersP f fd) (FF : Fun K "field_of" "field_of" sFieldOf fF fdF) (bF : Binds K fdF ["board", "place"] []) (gF : mg "field_of" = some (.ref fF))
    (FN : Fun K "near" "near" sNear fN fdN) (bN : Binds K fdN ["chart", "field"] []) (gN : mg "near" = some (.ref fN))
    (FS : Fun K "_shared_goals" "_shared_goals" sShared fS fdS) (bS : Binds K fdS ["chart", "goals", "other"] []) (gS : mg "_shared_goals" = some (.ref fS)) : FnOk P w K mg base CX0 3 f fd ["board", "place"] (spOrdersP K) := by
  have GF : FnOk P w K mg base CX0 1 fF fdF ["board", "place"] (spFieldOf K) := ok_fieldOf FF
  have GN : FnOk P w K mg base CX0 1 fN fdN ["chart", "field"] (spNear K) := ok_near FN
  have GS : FnOk P w K mg base CX0 2 fS fdS ["chart", "goals", "other"] (spShared K) := ok_shared FS FN bN gN
  refine F.ok scOrdersP (fun vs H Q E h => ?_) (fun cdv A outer s H vs Q E hr h => ?_)
  · obtain ⟨v, i, n, rs, cs, ps, pc, rfl, _⟩ := h
    rfl
  · obtain ⟨v, i, n, rs, cs, ps, pc, rfl, hv, hrs, hps, hi, k⟩ := h
    have hr1 := hr.mono (show 1 ≤ 2 by decide)
    refine ⟨_, pss_cons (ps_set (i := 2) scOrdersP.nd rfl (.inr rfl) (pe_call GF hr1 (by rfl) gF FF.kp bF .nil pass0 (pa_cons (pv 0) (pa_cons (pv 1) pa_nil))))
      (pss_cons (ps_set (i := 3) scOrdersP.nd rfl (.inr rfl) (pe_call GN hr1 (by rfl) gN FN.kp bN .nil pass0 (pa_cons (kt (pv 0) pe_int) (pa_cons (pv 2) pa_nil))))
      (pss_cons (ps_setLc (i := 4) (own := [("goal", 6)]) (g := gName 6) rfl scOrdersP.nd rfl rfl (sw_true rfl rfl rfl (by decide +kernel)) (pi_tup (pv 3)) (blkOk_by (own := [("goal", 6)]) (N := nOrdersP) (sc := defScope sOrdersP) (by decide +kernel))
          (fun _ _ _ _ _ => pg_name (i := 6) scOrdersP.nd rfl (.inl rfl)) (fun _ _ _ _ _ => pts_nil) (fun _ _ _ _ _ => pe_tup (pa_cons pe_str (pa_cons (pv 6) pa_nil))))
      (pss_cons (ps_setLc2 (i := 5) (own := [("other", 7), ("_", 8), ("goal", 6)]) (vs1 := [6]) (g := gTup K 2 (gCons (gName 7) (gCons (gName 8) gNil))) (g1 := gName 6) rfl scOrdersP.nd rfl rfl (sw_true rfl rfl rfl (by decide +kernel)) (pi_tup (kt (pv 0) pe_int))
          (blkOk_by (own := [("other", 7), ("_", 8), ("goal", 6)]) (N := nOrdersP) (sc := defScope sOrdersP) (by decide +kernel)) (by decide)
          (fun _ _ _ _ _ => pg_tup rfl (pgs_cons (pg_name (i := 7) scOrdersP.nd rfl (.inl rfl)) (pgs_cons (pg_name (i := 8) scOrdersP.nd rfl (.inl rfl)) pgs_nil)))
          (fun _ _ _ _ _ => pts_one (pt_cmpR op_ne (pv 7) (pv 2) (nomark _)))
          (fun _ _ _ _ _ => pi_listK K (pe_call GS hr (by rfl) gS FS.kp bS .nil pass0 (pa_cons (ktK K (pv 0) pe_int) (pa_cons (pv 3) (pa_cons (pv 7) pa_nil)))))
          (fun _ _ _ _ _ => pg_name (i := 6) scOrdersP.nd rfl (.inl rfl)) (fun _ _ _ _ _ => pts_nil) (fun _ _ _ _ _ => pe_tup (pa_cons pe_str (pa_cons (pv 7) (pa_cons (pv 6) pa_nil)))))
      (pss_one (ps_ret (pe_tup (pa_cons (pe_tup (pa_cons pe_str pa_nil)) (StX.pa_star (pv 4) (StX.pa_star (pv 5) pa_nil))))))))), ?_⟩
    obtain ⟨ta, tc, tp, xs, rfl, hb, hch, hpt, hpx⟩ := board_inv hv
    have hlx : xs.length = ps.length := by rw [all_len hpx, List.length_map]
    -- field, goals
    refine ⟨.ref ta, rfl, .int i, rfl, .ref ta, i, n, rs, cs, ps, pc, rfl, hv, hi, ?_⟩
    refine ⟨.ref ta, rfl, ta, _, 0, _, rfl, rfl, hb, at0, .int pc.1, rfl, .ref tc, n, rs, cs, pc.1, rfl, hch, hrs, fun H1 T hT hT1 k1 => ?_⟩
    have hnl : (nearL rs pc.1).length ≤ 400 := Nat.le_trans (near_len rs pc.1) (by omega)
    have bnd : (pBacks rs (ps.map (·.1)) pc.1).length ≤ 24 * 400 := Nat.le_trans (pBacks_len rs pc.1 _) (Nat.mul_le_mul (by rw [List.length_map]; exact hps) hnl)
    -- gos
    refine ⟨.ref T, rfl, T, rfl, ⟨_, SqT.of hT1⟩, fun G hG => ?_⟩
    have hGH : H G = none := fresh_of k1 (by simp) hG
    refine lc_tup (K := K) (a := T) (xs := (nearL rs pc.1).map V.int) (fun j H' => ∃ gs, H' G = some (.lst gs) ∧ Ps (fun g => oV (.go g)) H' gs ((nearL rs pc.1).take j) ∧ H' T = some (.tup ((nearL rs pc.1).map V.int)) ∧ Kp [] H H')
      ⟨[], upd_same, .nil, by rw [upd_ne (ne_of_none hT1 hG)]; exact hT1, k1.trans (Kp.new hG)⟩ (fun j H' _ ⟨_, _, _, e, _⟩ => SqT.of e) ?_ ?_
    · rintro j x H' hx ⟨gs, e1, e2, e3, kk⟩
      obtain ⟨z, hz, rfl⟩ := map_ints_get hx
      have hj : j < (nearL rs pc.1).length := (List.getElem?_eq_some_iff.mp hz).1
      refine ⟨rfl, yesGo ?_⟩
      refine ⟨.int z, rfl, by show 2 ≤ sizeLine; decide, fun Z hZ => ?_⟩
      have kZ : Kp ([] : List Addr) H' (upd H' Z (.tup [.str "go", .int z])) := Kp.new hZ
      have f1 := kZ.get (by simp) e1
      have f2 := e2.keep kZ noTup_nil
      have f3 := kZ.get (by simp) e3
      have fT : TpAt (fun g => oV (.go g)) (upd H' Z (.tup [.str "go", .int z])) (.ref Z) z := ⟨Z, rfl, upd_same⟩
      have f5 := kk.trans kZ
      generalize upd H' Z (.tup [.str "go", .int z]) = H8 at f1 f2 f3 fT f5
      have kG : Kp [G] H8 (upd H8 G (.lst (gs ++ [.ref Z]))) := Kp.put (by simp)
      have nG : NoTup H8 [G] := fun s hs ys e => by rw [List.mem_singleton.mp hs, f1] at e; cases e
      refine ⟨gs, f1, small1000 ?_, gs ++ [.ref Z], upd_same, ?_, kG.get (fun z => nG T z _ f3) f3, f5.fill hGH⟩
      · rw [f2.len, List.length_take]
        omega
      · rw [take_snoc hz]
        exact Ps.snoc (fT.keep kG nG) (f2.keep kG nG)
    rintro H2 ⟨gs, hG2, hgs, hT2, k2⟩
    rw [List.length_map, List.take_length] at hgs
    -- backs
    refine ⟨.ref ta, rfl, ta, _, 1, _, rfl, rfl, sameT (kz_seq k2) hb, at1, tp, rfl, ⟨_, sameT (kz_seq k2) hpt⟩, fun B hB => ?_⟩
    have hBH : H B = none := fresh_of k2 (by simp) hB
    have nGB : G ≠ B := ne_of_none hG2 hB
    let M : List (Int × Int) → Hp → Prop := fun qs H' => ∃ ys, H' B = some (.lst ys) ∧ Ps bV H' ys qs ∧ Ps (fun g => oV (.go g)) H' gs (nearL rs pc.1) ∧ H' G = some (.lst gs) ∧ H' T = some (.tup ((nearL rs pc.1).map V.int)) ∧ Kp [] H H'
    have Mk : ∀ {qs H' H''}, M qs H' → Kp [] H' H'' → M qs H'' := fun {qs H' H''} ⟨ys, e1, e2, e3, e4, e5, e6⟩ kk => ⟨ys, kk.get (by simp) e1, e2.keep kk noTup_nil, e3.keep kk noTup_nil, kk.get (by simp) e4, kk.get (by simp) e5, e6.trans kk⟩
    refine lc2_out (K := K) (a := tp) (xs := xs) (fun j H' => M (pBacks rs ((ps.map (·.1)).take j) pc.1) H') ?_ (fun j H' _ ⟨_, _, _, _, _, _, kk⟩ => sameT (kz_seq kk) hpt) ?_ ?_
    · have kB : Kp ([] : List Addr) H2 (upd H2 B (.lst [])) := Kp.new hB
      exact ⟨[], upd_same, .nil, hgs.keep kB noTup_nil, kB.get (by simp) hG2, kB.get (by simp) hT2, k2.trans kB⟩
    · rintro j x H' hx hM
      obtain ⟨r, q, hr', rfl, hq⟩ := Kt.pairs_at hpx hx
      have ⟨ys0, m1, m2, m3, m4, m5, kk⟩ := hM
      have hrf : (ps.map (·.1))[j]? = some r.1 := by rw [List.getElem?_map, hr']; rfl
      have hj24 : j < 24 := by have := (List.getElem?_eq_some_iff.mp hr').1; omega
      refine ⟨q, _, rfl, sameT (kz_seq kk) hq, rfl, .int r.1, _, rfl, .int r.2, _, rfl, rfl, rfl, .int r.1, rfl, .int pc.1, rfl, rfl, _, rfl, ?_⟩
      refine ite2 (fun hne => ?_) (fun hne => ?_)
      · have hne : ¬ r.1 = pc.1 := fun e => by simp [e] at hne
        refine ⟨.ref ta, rfl, ta, _, 0, _, rfl, rfl, sameT (kz_seq kk) hb, at0, .ref T, rfl, .int r.1, rfl, .ref tc, n, rs, cs, T, nearL rs pc.1, r.1, rfl, Dp.same (kz_seq kk) _ hch, hrs, SqT.of m5, hnl, fun H3 S hS hS3 k3 => ?_⟩
        have hM3 := Mk hM k3
        refine ⟨S, rfl, ⟨_, SqL.of hS3⟩, ?_⟩
        refine lc2_in (K := K) (p := S) (zs := (shareL rs (nearL rs pc.1) r.1).map V.int) (fun m H' => M (pBacks rs ((ps.map (·.1)).take j) pc.1 ++ ((shareL rs (nearL rs pc.1) r.1).take m).map fun g => (r.1, g)) H' ∧ H' S = some (.lst ((shareL rs (nearL rs pc.1) r.1).map V.int)))
          ⟨by simpa using hM3, hS3⟩ (fun m H' _ ⟨_, e⟩ => SqL.of e) ?_ ?_
        · rintro m z H4 hz ⟨hM4, hS4⟩
          obtain ⟨g, hg, rfl⟩ := map_ints_get hz
          have hml : m < (shareL rs (nearL rs pc.1) r.1).length := (List.getElem?_eq_some_iff.mp hg).1
          refine ⟨rfl, yesGo ?_⟩
          refine ⟨.int r.1, rfl, .int g, rfl, by show 3 ≤ sizeLine; decide, fun Z hZ => ?_⟩
          have kZ : Kp ([] : List Addr) H4 (upd H4 Z (.tup [.str "back", .int r.1, .int g])) := Kp.new hZ
          have hM5 := Mk hM4 kZ
          have hS5 := kZ.get (by simp) hS4
          have fT : TpAt bV (upd H4 Z (.tup [.str "back", .int r.1, .int g])) (.ref Z) (r.1, g) := ⟨Z, rfl, upd_same⟩
          generalize upd H4 Z (.tup [.str "back", .int r.1, .int g]) = H5 at hM5 hS5 fT
          obtain ⟨ys, e1, e2, e3, e4, e5, e6⟩ := hM5
          have kB : Kp [B] H5 (upd H5 B (.lst (ys ++ [.ref Z]))) := Kp.put (by simp)
          have nB : NoTup H5 [B] := fun s hs zs e => by rw [List.mem_singleton.mp hs, e1] at e; cases e
          have nSB : S ≠ B := fun e => by
            rw [e, m1] at hS
            cases hS
          refine ⟨ys, e1, ?_, ⟨ys ++ [.ref Z], upd_same, ?_, e3.keep kB nB, by rw [upd_ne nGB]; exact e4, kB.get (fun z => nB T z _ e5) e5, e6.fill hBH⟩, by rw [upd_ne nSB]; exact hS5⟩
          · rw [e2.len, List.length_append, List.length_map, List.length_take]
            have a1 := pBacks_len rs pc.1 ((ps.map (·.1)).take j)
            have a2 : ((ps.map (·.1)).take j).length * (nearL rs pc.1).length ≤ 24 * 400 := Nat.mul_le_mul (by rw [List.length_take]; omega) hnl
            have a3 := share_len rs (nearL rs pc.1) r.1
            exact Nat.lt_of_le_of_lt (show _ ≤ 100000 by omega) (by decide)
          · rw [take_snoc hg, List.map_append, ← List.append_assoc]
            exact Ps.snoc (fT.keep kB nB) (e2.keep kB nB)
        · rintro H4 ⟨hM4, _⟩
          rw [List.length_map, List.take_length] at hM4
          rw [pBacks_snoc hrf, if_neg hne]
          exact hM4
      · have he : r.1 = pc.1 := by
          by_cases e : r.1 = pc.1
          · exact e
          · exact absurd (by simp [e]) hne
        rw [pBacks_snoc hrf, if_pos he, List.append_nil]
        exact hM
    · rintro H3 ⟨ys, e1, e2, e3, e4, e5, k3⟩
      rw [hlx, ← List.length_map (as := ps) (f := (·.1)), List.take_length] at e2
      refine ⟨by show 1 ≤ sizeLine; decide, fun Z hZ => ?_⟩
      have kZ : Kp ([] : List Addr) H3 (upd H3 Z (.tup [.str "stay"])) := Kp.new hZ
      refine ⟨.ref G, rfl, G, _, rfl, .inr (SqL.of (kZ.get (by simp) e4)), .ref B, rfl, B, _, rfl, .inr (SqL.of (kZ.get (by simp) e1)), ?_, fun p hp => ?_⟩
      · refine Nat.le_trans (show _ ≤ 100000 from ?_) (by decide)
        simp only [List.length_cons, List.length_append, List.append_nil, e2.len, e3.len]
        omega
      · rw [List.append_nil]
        have kp : Kp ([] : List Addr) (upd H3 Z (.tup [.str "stay"])) (upd (upd H3 Z (.tup [.str "stay"])) p (.tup (.ref Z :: (gs ++ ys)))) := Kp.new hp
        refine k _ p _ (fresh_of (k3.trans kZ) (by simp) hp) upd_same ?_ ((k3.trans kZ).trans kp)
        refine .cons ⟨Z, rfl, kp.get (by simp) upd_same⟩ ?_
        exact ((e3.keep kZ noTup_nil).keep kp noTup_nil).goes.app ((e2.keep kZ noTup_nil).keep kp noTup_nil).append2
end
end Kt

set_option Elab.async false
set_option linter.all false
set_option maxRecDepth 100000
set_option maxHeartbeats 4000000
namespace Kt
open PySem PySem.Spec PyProof.Rows L2
theorem eqv_ord (a b : Ord) : PyData.eqv (oD a) (oD b) = decide (a = b) := by
  have h1 : (("stay" : Str) == "go") = false := by decide +kernel
  have h2 : (("stay" : Str) == "back") = false := by decide +kernel
  have h3 : (("go" : Str) == "stay") = false := by decide +kernel
  have h4 : (("go" : Str) == "back") = false := by decide +kernel
  have h5 : (("back" : Str) == "stay") = false := by decide +kernel
  have h6 : (("back" : Str) == "go") = false := by decide +kernel
  cases a with
  | stay => cases b <;> simp [oD, PyData.eqv, PyData.eqvAll, h1, h2]
  | go g =>
    cases b with
    | stay => simp [oD, PyData.eqv, PyData.eqvAll, h3]
    | go z => by_cases h : g = z <;> simp [oD, PyData.eqv, PyData.eqvAll, h]
    | back f z => simp [oD, PyData.eqv, PyData.eqvAll, h4]
  | back f g =>
    cases b with
    | stay => simp [oD, PyData.eqv, PyData.eqvAll, h5]
    | go z => simp [oD, PyData.eqv, PyData.eqvAll, h6]
    | back x z => by_cases h : f = x <;> by_cases h' : g = z <;> simp [oD, PyData.eqv, PyData.eqvAll, h, h']
theorem any_ord (o : Ord) : ∀ os : List Ord, ((os.map oD).any fun z => PyData.eqv z (oD o)) = decide (o ∈ os)
  | [] => by simp
  | a :: os => by
    rw [List.map_cons, List.any_cons, any_ord o os, eqv_ord]
    by_cases h : a = o
    · simp [h]
    · have h' : ¬ o = a := fun e => h e.symm
      simp [h, h']
theorem call_isiTold {X : Cx} (K : PySem.W.Frag) (hK : X.K = K := by rfl) : CallR X (.builtin "isinstance") (rIsi K) := by
  subst hK
  exact call_isi
def tyOf : V → Option String
  | .int _ => some "int"
  | .str _ => some "str"
  | _ => none
def spIsInt (K : PySem.W.Frag) : Sp := fun vs H Q _ => ∃ x, vs = [x] ∧ ((∃ i, x = .int i ∧ Q (.bl true) H) ∨ ∃ t, x = .str t ∧ Q (.bl false) H)
def spIsTup (K : PySem.W.Frag) : Sp := fun vs H Q _ => ∃ (t : Addr) (xs : List V) (m : Int), vs = [.ref t, .int m] ∧ H t = some (.tup xs) ∧ Q (.bl (decide ((xs.length : Int) = m))) H
def spIsOrder (K : PySem.W.Frag) : Sp := fun vs H Q _ => ∃ (v : V) (i : Nat) (n : Int) (rs : List (Int × Int)) (cs : List Int) (ps : List (Int × Int)) (pc : Int × Int) (T : Addr) (o : Ord), vs = [v, .int i, .ref T] ∧ Dp K H v (bdD n rs cs ps) ∧ rs.length ≤ 200 ∧ ps.length ≤ 24 ∧ ps[i]? = some pc ∧
  H T = some (.tup (oV o)) ∧ ∀ H', Kp [] H H' → Q (.bl (decide (o ∈ pOrds rs ps pc.1))) H'
def spOrdErr (K : PySem.W.Frag) : Sp := fun vs H Q _ => ∃ (v : V) (n : Int) (rs : List (Int × Int)) (cs : List Int) (ps : List (Int × Int)) (t : Addr) (zv : List V) (ov : List Ord), vs = [v, .ref t] ∧ Dp K H v (bdD n rs cs ps) ∧ rs.length ≤ 200 ∧ ps.length ≤ 24 ∧
  H t = some (.tup zv) ∧ Ps oV H zv ov ∧ ov.length = ps.length ∧
  (∀ H', (∀ (i : Nat) (o : Ord) (pc : Int × Int), ov[i]? = some o → ps[i]? = some pc → o ∈ pOrds rs ps pc.1) → Kp [] H H' → Q .non H') ∧
  (∀ (H' : Hp) (p : Addr) (i : Nat) (o : Ord) (pc : Int × Int), ov[i]? = some o → ps[i]? = some pc → o ∉ pOrds rs ps pc.1 → H' p = some (.tup [.str "order", .int i]) → Kp [] H H' → Q (.ref p) H')
theorem pOrds_len {rs ps : List (Int × Int)} {own : Int} (hrs : rs.length ≤ 200) (hps : ps.length ≤ 24) : (pOrds rs ps own).length ≤ 10001 := by
  unfold pOrds
  rw [List.length_cons, List.length_append, List.length_map, List.length_map]
  have h1 : (nearL rs own).length ≤ 400 := Nat.le_trans (near_len rs own) (by omega)
  have h2 : (pBacks rs (ps.map (·.1)) own).length ≤ 24 * 400 := Nat.le_trans (pBacks_len rs own _) (Nat.mul_le_mul (by rw [List.length_map]; exact hps) h1)
  omega
theorem flat_ord (o : Ord) : SeqAt.shaped (oD o) = true := shaped_ord o
theorem canLay_ords : ∀ os : List Ord, PyData.canLayAll0 (os.map oD) = true
  | [] => by simp [PyData.canLayAll0]
  | o :: os => by
    have h := SeqAt.canLay_of_shaped (shaped_ord o)
    simp [PyData.canLayAll0, h, canLay_ords os]
theorem depth_ords : ∀ os : List Ord, PyData.depthAll (os.map oD) ≤ 1
  | [] => by simp [PyData.depthAll]
  | o :: os => by
    have ih := depth_ords os
    have h : (oD o).depth ≤ 1 := by cases o <;> simp [oD, PyData.depth, PyData.depthAll]
    simp only [List.map_cons, PyData.depthAll]
    omega
theorem shaped_ords (os : List Ord) : SeqAt.shaped (.tuple (os.map oD)) = true := by
  refine shaped_of (by simp [PyData.canLay0, canLay_ords]) ?_
  have := depth_ords os
  simp only [PyData.depth]
  omega
section
variable {P : Program} {w : World} {K : PySem.W.Frag} {mg : Str → Option Value} {base : Heap}
theorem scIsInt : FnScope ["value"] ["value"] (defScope sIsInt) := ⟨rfl, rfl, rfl, by decide +kernel, rfl, by decide +kernel, by decide +kernel⟩
theorem ok_isInt {f : Addr} {fd : FuncData} (F : Fun K "is_integer" "is_integer" sIsInt f fd) (mIs : mg "isinstance" = none) (mI : mg "int" = none) (mB : mg "bool" = none) : FnOk P w K mg base CX0 1 f fd ["value"] (spIsInt K) := by
  refine F.ok scIsInt (fun vs H Q E h => ?_) (fun cdv A outer s H vs Q E hr h => ?_)
  · obtain ⟨x, rfl, _⟩ := h
    rfl
  · obtain ⟨x, rfl, h⟩ := h
    refine ⟨_, pss_one (ps_ret (pe_and (pe_callB call_isi (by rfl) mIs PyProof.Rows.boot_isinstance (pa_cons (pv 0) (pa_cons (pe_bltn (v := .ty "int") (by rfl) mI PyProof.Rows.boot_int rfl) pa_nil)))
      (pe_one (pe_not (pe_callB call_isi (by rfl) mIs PyProof.Rows.boot_isinstance (pa_cons (pv 0) (pa_cons (pe_bltn (v := .ty "bool") (by rfl) mB PyProof.Rows.boot_bool rfl) pa_nil))))))), ?_⟩
    rcases h with ⟨i, rfl, q⟩ | ⟨t, rfl, q⟩
    · refine ⟨.int i, rfl, .int i, _, _, _, true, rfl, .ty "int", .base (.int i), kit_ty (by decide +kernel), true, rfl, iteT ?_⟩
      exact ⟨.int i, rfl, .int i, _, _, _, false, rfl, .ty "bool", .base (.int i), kit_ty (by decide +kernel), false, rfl, q⟩
    · exact ⟨.str t, rfl, .str t, _, _, _, false, rfl, .ty "int", .base (.str t), kit_ty (by decide +kernel), false, rfl, iteF q⟩
theorem scIsTup : FnScope ["value", "many"] ["value", "many"] (defScope sIsTup) := ⟨rfl, rfl, rfl, by decide +kernel, rfl, by decide +kernel, by decide +kernel⟩
theorem ok_isTup {f : Addr} {fd : FuncData} (F : Fun K "is_tuple_of" "is_tuple_of" sIsTup f fd) (mIs : mg "isinstance" = none) (mT : mg "tuple" = none) (mL : mg "len" = none) : FnOk P w K mg base CX0 1 f fd ["value", "many"] (spIsTup K) := by
  refine F.ok scIsTup (fun vs H Q E h => ?_) (fun cdv A outer s H vs Q E hr h => ?_)
  · obtain ⟨t, xs, m, rfl, _⟩ := h
    rfl
  · obtain ⟨t, xs, m, rfl, ht, q⟩ := h
    refine ⟨_, pss_one (ps_ret (pe_and (pe_callB call_isi (by rfl) mIs PyProof.Rows.boot_isinstance (pa_cons (pv 0) (pa_cons (pe_bltn (v := .ty "tuple") (by rfl) mT PyProof.Rows.boot_tuple rfl) pa_nil)))
      (pe_one (pe_cmpR op_eq (pe_callB call_len_seq (by rfl) mL PySem.boot_len (pa_cons (pv 0) pa_nil)) (pv 1) (nomark _))))), ?_⟩
    refine ⟨.ref t, rfl, .ref t, _, _, _, true, rfl, .ty "tuple", .base (.tup ht), kit_ty (by decide +kernel), true, rfl, iteT ?_⟩
    refine ⟨.ref t, rfl, t, xs, rfl, .inr (SqT.of ht), .int m, rfl, rfl, ?_⟩
    simpa using q
abbrev nIsOrder : List Str := ["board", "place", "value", "part"]
theorem scIsOrder : FnScope nIsOrder ["board", "place", "value"] (defScope sIsOrder) := ⟨rfl, rfl, rfl, by decide +kernel, rfl, by decide +kernel, by decide +kernel⟩
theorem oV_ty (o : Ord) : ∀ x ∈ oV o, (∃ t, x = V.str t) ∨ ∃ i, x = V.int i := by
  intro x hx
  cases o with
  | stay =>
    rw [List.mem_singleton.mp hx]
    exact .inl ⟨_, rfl⟩
  | go g =>
    rcases List.mem_cons.mp hx with e | e
    · exact .inl ⟨_, e⟩
    · exact .inr ⟨_, List.mem_singleton.mp e⟩
  | back f g =>
    rcases List.mem_cons.mp hx with e | e
    · exact .inl ⟨_, e⟩
    · rcases List.mem_cons.mp e with e | e
      · exact .inr ⟨_, e⟩
      · exact .inr ⟨_, List.mem_singleton.mp e⟩
theorem ok_isOrder {f fI fO : Addr} {fd fdI fdO : FuncData} (F : Fun K "is_order" "is_order" sIsOrder f fd) (FI : Fun K "is_integer" "is_integer" sIsInt fI fdI) (bI : Binds K fdI ["value"] []) (gI : mg "is_integer" = some (.ref fI))
    (FO : Fun K "orders_of" "orders_of" sOrdersP fO fdO) (bO : Binds K fdO ["board", "place"] []) (gO : mg "orders_of" = some (.ref fO)) (GO : FnOk P w K mg base CX0 3 fO fdO ["board", "place"] (spOrdersP K))
    (mIs : mg "isinstance" = none) (mI : mg "int" = none) (mB : mg "bool" = none) (mT : mg "tuple" = none) (mS : mg "str" = none) (mA : mg "all" = none) : FnOk P w K mg base CX0 4 f fd ["board", "place", "value"] (spIsOrder K) := by
  have GI : FnOk P w K mg base CX0 1 fI fdI ["value"] (spIsInt K) := ok_isInt FI mIs mI mB
  refine F.ok scIsOrder (fun vs H Q E h => ?_) (fun cdv A outer s H vs Q E hr h => ?_)
  · obtain ⟨v, i, n, rs, cs, ps, pc, T, o, rfl, _⟩ := h
    rfl
  · obtain ⟨v, i, n, rs, cs, ps, pc, T, o, rfl, hv, hrs, hps, hi, hT, k⟩ := h
    refine ⟨_, pss_cons (ps_if (pt_not (pt_val (pe_callB call_isi (by rfl) mIs PyProof.Rows.boot_isinstance (pa_cons (pv 2) (pa_cons (pe_bltn (v := .ty "tuple") (by rfl) mT PyProof.Rows.boot_tuple rfl) pa_nil))))) (pss_one (ps_ret pe_bl)) pss_nil)
      (pss_cons (ps_if (pt_not (pt_val (pe_callB (cr_all rfl) (by rfl) mA PyProof.Rows.boot_all (pa_cons (pe_lc (own := [("part", 3)]) (g := gName 3) rfl scIsOrder.nd (pi_tup (pv 2)) (blkOk_by (own := [("part", 3)]) (N := nIsOrder) (sc := defScope sIsOrder) (by decide +kernel))
          (fun _ _ _ _ _ => pg_name (i := 3) scIsOrder.nd rfl (.inl rfl)) (fun _ _ _ _ _ => pts_nil)
          (fun _ _ _ _ _ => pe_or (pe_callB (call_isiTold K) (by rfl) mIs PyProof.Rows.boot_isinstance (pa_cons (pv 3) (pa_cons (pe_bltn (v := .ty "str") (by rfl) mS PyProof.Rows.boot_str rfl) pa_nil)))
            (pe_one (pe_call GI (hr.mono (by decide)) (by rfl) gI FI.kp bI .nil pass0 (pa_cons (pv 3) pa_nil))))) pa_nil)))) (pss_one (ps_ret pe_bl)) pss_nil)
      (pss_one (ps_ret (pe_cmpR (op_inDT (hu65 hr)) (pv 2) (pe_call GO hr (by rfl) gO FO.kp bO .nil pass0 (pa_cons (pv 0) (pa_cons (pv 1) pa_nil))) (by rfl))))), ?_⟩
    refine ⟨.ref T, rfl, .ref T, _, _, _, true, rfl, .ty "tuple", .base (.tup hT), kit_ty (by decide +kernel), true, rfl, iteF ?_⟩
    refine ⟨.ref T, rfl, T, rfl, ⟨_, SqT.of hT⟩, fun D hD => ?_⟩
    refine lc_tup (K := K) (a := T) (xs := oV o) (fun j H' => H' D = some (.lst ((List.replicate j true).map V.bl)) ∧ Kp [] H H') ⟨upd_same, Kp.new hD⟩ (fun j H' _ ⟨_, kk⟩ => SqT.of (kk.get (by simp) hT)) ?_ ?_
    · rintro j x H' hx ⟨h1, kk⟩
      have hj : j < 10 := by
        have := (List.getElem?_eq_some_iff.mp hx).1
        have : (oV o).length ≤ 3 := by cases o <;> simp [oV]
        omega
      have fin : ∃ acc, H' D = some (.lst acc) ∧ acc.length < sizeLine ∧ (upd H' D (.lst (acc ++ [.bl true])) D = some (.lst ((List.replicate (j + 1) true).map V.bl)) ∧ Kp [] H (upd H' D (.lst (acc ++ [.bl true])))) := by
        refine ⟨_, h1, small1000 (by rw [List.length_map, List.length_replicate]; omega), ?_, kk.fill hD⟩
        rw [upd_same, List.replicate_succ', List.map_append]
        rfl
      refine ⟨rfl, yesGo ?_⟩
      rcases oV_ty o x (List.mem_of_getElem? hx) with ⟨t, rfl⟩ | ⟨z, rfl⟩
      · exact ⟨.str t, rfl, .str t, _, _, _, true, rfl, .ty "str", .base (.str t), kit_ty (by decide +kernel), true, rfl, iteT fin⟩
      · exact ⟨.int z, rfl, .int z, _, _, _, false, rfl, .ty "str", .base (.int z), kit_ty (by decide +kernel), false, rfl, iteF ⟨.int z, rfl, .int z, rfl, .inl ⟨z, rfl, fin⟩⟩⟩
    · rintro H1 ⟨h1, k1⟩
      refine ⟨D, _, rfl, SqL.of h1, true, by simp, ?_⟩
      refine iteF ?_
      refine ⟨.ref T, rfl, v, rfl, .int i, rfl, v, i, n, rs, cs, ps, pc, rfl, Dp.same (kz_seq k1) _ hv, hrs, hps, hi, fun H2 p xs hp hp2 hP k2 => ?_⟩
      refine ⟨oD o, (pOrds rs ps pc.1).map oD, ord_data ⟨T, rfl, k2.get (by simp) (k1.get (by simp) hT)⟩, .tup (SqT.of hp2) (Dp_all (Ps.ords noTup_nil hP)), shaped_ord o, shaped_ords _, ?_⟩
      rw [any_ord]
      exact k H2 (k1.trans k2)
end
end Kt

set_option Elab.async false
set_option linter.all false
set_option maxRecDepth 100000
set_option maxHeartbeats 4000000
namespace Kt
open PySem PySem.Spec PyProof.Rows L2
section
variable {P : Program} {w : World} {K : PySem.W.Frag} {mg : Str → Option Value} {base : Heap}
theorem scOrdErr : FnScope ["board", "value", "place", "item"] ["board", "value"] (defScope sOrdErr) := ⟨rfl, rfl, rfl, by decide +kernel, rfl, by decide +kernel, by decide +kernel⟩
theorem ok_ordErr {f fU fO : Addr} {fd fdU fdO : FuncData} (F : Fun K "orders_error" "orders_error" sOrdErr f fd) (FU : Fun K "is_tuple_of" "is_tuple_of" sIsTup fU fdU) (bU : Binds K fdU ["value", "many"] []) (gU : mg "is_tuple_of" = some (.ref fU))
    (FO : Fun K "is_order" "is_order" sIsOrder fO fdO) (bO : Binds K fdO ["board", "place", "value"] []) (gO : mg "is_order" = some (.ref fO)) (GO : FnOk P w K mg base CX0 4 fO fdO ["board", "place", "value"] (spIsOrder K))
    (mIs : mg "isinstance" = none) (mT : mg "tuple" = none) (mL : mg "len" = none) (mE : mg "enumerate" = none) : FnOk P w K mg base CX0 5 f fd ["board", "value"] (spOrdErr K) := by
  have GU : FnOk P w K mg base CX0 1 fU fdU ["value", "many"] (spIsTup K) := ok_isTup FU mIs mT mL
  refine F.ok scOrdErr (fun vs H Q E h => ?_) (fun cdv A outer s H vs Q E hr h => ?_)
  · obtain ⟨v, n, rs, cs, ps, t, zv, ov, rfl, _⟩ := h
    rfl
  · obtain ⟨v, n, rs, cs, ps, t, zv, ov, rfl, hv, hrs, hps, ht, hP, hl, kN, kE⟩ := h
    refine ⟨_, pss_cons (ps_if (pt_not (pt_val (pe_call GU (hr.mono (by decide)) (by rfl) gU FU.kp bU .nil pass0 (pa_cons (pv 1) (pa_cons (pe_callB call_len_seq (by rfl) mL PySem.boot_len (pa_cons (kt (pv 0) pe_int) pa_nil)) pa_nil))))) (pss_one (ps_ret pe_str)) pss_nil)
      (pss_cons (ps_for PassesOwn.never rfl (pi_enumT (by rfl) mE (pa_cons (pv 1) pa_nil)) (pg_tup rfl (pgs_cons (pg_name (i := 2) scOrdErr.nd rfl (.inl rfl)) (pgs_cons (pg_name (i := 3) scOrdErr.nd rfl (.inl rfl)) pgs_nil)))
        (pss_one (ps_if (pt_not (pt_val (pe_call GO hr (by rfl) gO FO.kp bO .nil pass0 (pa_cons (pv 0) (pa_cons (pv 2) (pa_cons (pv 3) pa_nil)))))) (pss_one (ps_ret (pe_tup (pa_cons pe_str (pa_cons (pv 2) pa_nil))))) pss_nil)))
      (pss_one (ps_ret pe_non))), ?_⟩
    obtain ⟨ta, tc, tp, xs, rfl, hb, hch, hpt, hpx⟩ := board_inv hv
    have hlx : xs.length = ps.length := by rw [all_len hpx, List.length_map]
    have hzl : zv.length = ps.length := by rw [hP.len]; exact hl
    refine ⟨.ref t, rfl, .ref ta, rfl, ta, _, 1, _, rfl, rfl, hb, at1, tp, xs, rfl, .inr hpt, t, zv, xs.length, rfl, ht, _, rfl, ?_⟩
    rw [decide_eq_true (show ((zv.length : Nat) : Int) = ((xs.length : Nat) : Int) by omega)]
    refine iteF ?_
    refine ⟨.ref t, rfl, t, zv, rfl, SqT.of ht, for_it walk_enumT
      (fun j σ H' => ∃ v2 v3, σ = [some (.ref ta), some (.ref t), v2, v3] ∧ Kp [] H H' ∧ ∀ (i : Nat) (o : Ord) (pc : Int × Int), i < j → ov[i]? = some o → ps[i]? = some pc → o ∈ pOrds rs ps pc.1)
      ⟨_, _, rfl, Kp.refl, fun i o pc hi => absurd hi (by simp)⟩ (fun j σ H' _ ⟨_, _, _, kk, _⟩ => SqT.of (kk.get (by simp) ht)) ?_ ?_⟩
    · rintro j x σ H' H'' hj ⟨v2, v3, rfl, kk, hin⟩ ⟨Tq, x1, x2, rfl, hTq, rfl, ex1, ex2⟩
      cases ex1
      obtain ⟨o, ho, T, rfl, hTo⟩ := (hP.keep kk noTup_nil).at ex2
      have hj2 : j < ps.length := by omega
      have hpc : ps[j]? = some ps[j] := List.getElem?_eq_getElem hj2
      have kq := kk.trans (Kp.new (o := .tup [.int (j : Nat), .ref T]) hTq)
      have hTo2 : (upd H' Tq (.tup [.int (j : Nat), .ref T])) T = some (.tup (oV o)) := Kp.get (S := []) (Kp.new hTq) (by simp) hTo
      refine ⟨Tq, _, rfl, SqT.of upd_same, rfl, .int (j : Nat), _, rfl, .ref T, _, rfl, rfl, ?_⟩
      refine ⟨.ref ta, rfl, .int (j : Nat), rfl, .ref T, rfl, .ref ta, j, n, rs, cs, ps, ps[j], T, o, rfl, Dp.same (kz_seq kq) _ hv, hrs, hps, hpc, hTo2, fun H2 k2 => ⟨_, rfl, ?_⟩⟩
      refine ite2 (fun hb => ?_) (fun hb => ?_)
      · have hno : o ∉ pOrds rs ps ps[j].1 := by simpa using hb
        refine ⟨.int (j : Nat), rfl, by show 2 ≤ sizeLine; decide, fun p hp => ?_⟩
        exact kE _ p j o ps[j] ho hpc hno upd_same ((kq.trans k2).trans (Kp.new hp))
      · have hyes : o ∈ pOrds rs ps ps[j].1 := by simpa using hb
        refine ⟨_, _, rfl, kq.trans k2, fun i o' pc hi h1 h2 => ?_⟩
        by_cases e : i = j
        · subst e
          rw [ho] at h1
          rw [hpc] at h2
          cases h1
          cases h2
          exact hyes
        · exact hin i o' pc (by omega) h1 h2
    · rintro σ H' ⟨v2, v3, rfl, kk, hin⟩
      exact kN H' (fun i o pc h1 h2 => hin i o pc (by have := (List.getElem?_eq_some_iff.mp h1).1; omega) h1 h2) kk
end
/-! ### the orders told are the law's -/
theorem near_perm {n : Int} {rs : List (Int × Int)} {cs : List Int} (h : ChOk n rs cs) (f : Int) : (nearL rs f).Perm (bes rs f) := by
  unfold nearL bes
  have hr := h.road
  clear h
  induction rs with
  | nil => exact List.Perm.nil
  | cons r rs ih =>
    have ih := ih fun q hq => hr q (List.mem_cons_of_mem _ hq)
    have h0 := hr r List.mem_cons_self
    by_cases h1 : r.2 = f
    · have h2 : ¬ r.1 = f := by omega
      rw [List.filter_cons, List.filter_cons, List.filter_cons, if_pos (by simp [h1]), if_neg (by simp [h2]), if_pos (by simp [h1])]
      simp only [List.map_cons, List.cons_append]
      rw [show r.1 + r.2 - f = r.1 by omega]
      exact List.Perm.cons _ ih
    · by_cases h2 : r.1 = f
      · rw [List.filter_cons, List.filter_cons, List.filter_cons, if_neg (by simp [h1]), if_pos (by simp [h2]), if_pos (by simp [h2])]
        simp only [List.map_cons]
        rw [show r.1 + r.2 - f = r.2 by omega]
        exact List.perm_middle.trans (List.Perm.cons _ ih)
      · have h1' : ¬ f = r.2 := fun e => h1 e.symm
        have h2' : ¬ f = r.1 := fun e => h2 e.symm
        rw [List.filter_cons, List.filter_cons, List.filter_cons, if_neg (by simp [h1]), if_neg (by simp [h2]), if_neg (by simp [h1', h2'])]
        exact ih
theorem lex_lt {u v : Int × Int} (h : SrtO.lexB v u = false) (hne : u ≠ v) : u.1 < v.1 ∨ (u.1 = v.1 ∧ u.2 < v.2) := by
  unfold SrtO.lexB at h
  by_cases e : v.1 = u.1
  · rw [if_pos e] at h
    have h := of_decide_eq_false h
    right
    refine ⟨e.symm, ?_⟩
    by_cases e2 : u.2 = v.2
    · exact absurd (Prod.ext e.symm e2) hne
    · omega
  · rw [if_neg e] at h
    have h := of_decide_eq_false h
    left
    omega
theorem roads_strict {n : Int} {rs : List (Int × Int)} {cs : List Int} (h : ChOk n rs cs) : rs.Pairwise fun u v => u.1 < v.1 ∨ (u.1 = v.1 ∧ u.2 < v.2) := by
  have h1 := h.srt
  have h2 := h.nd
  exact (h1.and h2).imp fun ⟨a, b⟩ => lex_lt a b
theorem near_asc {n : Int} {rs : List (Int × Int)} {cs : List Int} (h : ChOk n rs cs) (f : Int) : (nearL rs f).Pairwise (· < ·) := by
  have hs := roads_strict h
  have hr := h.road
  unfold nearL
  rw [List.pairwise_append]
  refine ⟨?_, ?_, ?_⟩
  · rw [List.pairwise_map]
    refine List.Pairwise.imp_of_mem ?_ (hs.filter _)
    intro u v hu hv huv
    have a := (List.mem_filter.mp hu).2
    have b := (List.mem_filter.mp hv).2
    simp only [decide_eq_true_eq] at a b
    omega
  · rw [List.pairwise_map]
    refine List.Pairwise.imp_of_mem ?_ (hs.filter _)
    intro u v hu hv huv
    have a := (List.mem_filter.mp hu).2
    have b := (List.mem_filter.mp hv).2
    simp only [decide_eq_true_eq] at a b
    omega
  · intro a ha b hb
    obtain ⟨u, hu, rfl⟩ := List.mem_map.mp ha
    obtain ⟨v, hv, rfl⟩ := List.mem_map.mp hb
    obtain ⟨u1, u2⟩ := List.mem_filter.mp hu
    obtain ⟨v1, v2⟩ := List.mem_filter.mp hv
    simp only [decide_eq_true_eq] at u2 v2
    have := hr u u1
    have := hr v v1
    omega
theorem perm_asc_eq {xs ys : List Int} (h : xs.Perm ys) (hx : xs.Pairwise (· ≤ ·)) (hy : ys.Pairwise (· ≤ ·)) : xs = ys :=
  List.Perm.eq_of_pairwise (fun a b _ _ h1 h2 => Int.le_antisymm h1 h2) hx hy h
theorem backs_eq {n : Int} {rs : List (Int × Int)} {cs : List Int} (h : ChOk n rs cs) (fs : List Int) (own : Int) : pBacks rs fs own = backsOf rs own (nearL rs own) fs := by
  unfold pBacks backsOf
  congr 1
  funext f
  unfold half shareL
  split
  · rfl
  · congr 1
    congr 1
    funext g
    rw [decide_eq_decide.mpr (near_perm h f).mem_iff]
theorem backs_asc {n : Int} {rs : List (Int × Int)} {cs : List Int} (h : ChOk n rs cs) (own : Int) : ∀ {fs : List Int}, fs.Pairwise (· < ·) → (pBacks rs fs own).Pairwise fun u v => u.1 < v.1 ∨ (u.1 = v.1 ∧ u.2 < v.2)
  | [], _ => by simp [pBacks]
  | f :: fs, hf => by
    have ih := backs_asc h own (List.pairwise_cons.mp hf).2
    have h1 := (List.pairwise_cons.mp hf).1
    have hm : ∀ q ∈ pBacks rs fs own, q.1 ∈ fs := fun q hq => by
      unfold pBacks at hq
      obtain ⟨f', hf', hq⟩ := List.mem_flatMap.mp hq
      split at hq
      · cases hq
      · obtain ⟨g, _, rfl⟩ := List.mem_map.mp hq
        exact hf'
    have e : pBacks rs (f :: fs) own = (if f = own then [] else (shareL rs (nearL rs own) f).map fun g => (f, g)) ++ pBacks rs fs own := by
      unfold pBacks
      rw [List.flatMap_cons]
    rw [e, List.pairwise_append]
    refine ⟨?_, ih, ?_⟩
    · split
      · exact List.Pairwise.nil
      · rw [List.pairwise_map]
        exact ((near_asc h own).filter _).imp fun hlt => .inr ⟨rfl, hlt⟩
    · intro a ha b hb
      have hb := h1 _ (hm b hb)
      split at ha
      · cases ha
      · obtain ⟨g, _, rfl⟩ := List.mem_map.mp ha
        exact .inl hb
theorem menu_eq {n : Int} {rs ps : List (Int × Int)} {cs : List Int} {own : Int} {os : List Ord} (h : ChOk n rs cs) (hp : (ps.map (·.1)).Pairwise (· < ·)) (m : MenuOf rs ps own os) : os = pOrds rs ps own := by
  obtain ⟨reach, bs, h1, h2, h3, h4, rfl⟩ := m.eq
  have e1 : reach = nearL rs own := perm_asc_eq (h1.trans (near_perm h own).symm) h2 ((near_asc h own).imp fun x => Int.le_of_lt x)
  subst e1
  have e2 : bs = pBacks rs (ps.map (·.1)) own := by
    rw [← backs_eq h] at h3
    refine List.Perm.eq_of_pairwise (le := fun u v => SrtO.lexB v u = false) (fun a b _ _ x y => ?_) h4 ((backs_asc h own hp).imp ?_) h3
    · by_cases e : a = b
      · exact e
      · have a1 := lex_lt x e
        have a2 := lex_lt y (fun z => e z.symm)
        omega
    · intro u v huv
      unfold SrtO.lexB
      split
      · exact decide_eq_false (by omega)
      · exact decide_eq_false (by omega)
  rw [e2]
  rfl
end Kt

set_option Elab.async false
set_option linter.all false
set_option maxRecDepth 100000
set_option maxHeartbeats 4000000
namespace Kt
open PySem PySem.Spec PyProof.Rows L2
def spWide (K : PySem.W.Frag) : Sp := fun vs H Q _ => ∃ (a c : Addr), vs = [.ref a] ∧ DeckAt H a c ∧
  ∀ (H' : Hp) (v : V) (n : Int) (rs : List (Int × Int)) (ps : List (Int × Int)), ChOk n rs [] → PsOk n ps → 0 < ps.length → ps.length ≤ 24 → Da K [a, c] H' v (bdD n rs [] ps) → DeckAt H' a c → Kp [a, c] H H' → Q v H'
section
variable {P : Program} {w : World} {K : PySem.W.Frag} {mg : Str → Option Value} {base : Heap}
abbrev nWide : List Str := ["deck", "many", "roads", "b", "a", "fields", "field"]
theorem scWide : FnScope nWide ["deck"] (defScope sWide) := ⟨rfl, rfl, rfl, by decide +kernel, rfl, by decide +kernel, by decide +kernel⟩
theorem ok_wide {f fD fM : Addr} {fd fdD fdM : FuncData} (F : Fun K "_law_wide_board" "_law_wide_board" sWide f fd) (FD : Fun K "_law_draw" "_law_draw" sDraw fD fdD) (bD : Binds K fdD ["deck", "many"] []) (gD : mg "_law_draw" = some (.ref fD))
    (FM : Fun K "_law_mixed" "_law_mixed" sMixed fM fdM) (bM : Binds K fdM ["deck", "items"] []) (gM : mg "_law_mixed" = some (.ref fM))
    (mI : mg "int" = none) (mL : mg "len" = none) (mLi : mg "list" = none) (mR : mg "range" = none) (mT : mg "tuple" = none) (mS : mg "sorted" = none) : FnOk P w K mg base CX0 3 f fd ["deck"] (spWide K) := by
  have GD : FnOk P w K mg base CX0 1 fD fdD ["deck", "many"] spDraw := ok_draw FD mI
  have GM : FnOk P w K mg base CX0 2 fM fdM ["deck", "items"] (spMixed K) := ok_mixed FM FD bD gD mI mL mLi
  refine F.ok scWide (fun vs H Q E h => ?_) (fun cdv A outer s H vs Q E hr h => ?_)
  · obtain ⟨a, c, rfl, _⟩ := h
    rfl
  · obtain ⟨a, c, rfl, hD, k⟩ := h
    have hr1 := hr.mono (show 1 ≤ 2 by decide)
    refine ⟨_, pss_cons (ps_par (i := 1) (j := 2) rfl scWide.nd rfl rfl (by decide) rfl rfl (pa_cons (pe_op op_add pe_int (pe_call GD hr1 (by rfl) gD FD.kp bD .nil pass0 (pa_cons (pv 0) (pa_cons pe_int pa_nil)))) (pa_cons (pe_lst pa_nil) pa_nil)) (by rfl))
      (pss_cons (ps_for PassesOwn.never rfl (pi_range1 (by rfl) mR (pa_cons (pv 1) pa_nil)) (pg_name (i := 3) scWide.nd rfl (.inl rfl))
        (pss_one (ps_for PassesOwn.never rfl (pi_range1 (by rfl) mR (pa_cons (pv 3) pa_nil)) (pg_name (i := 4) scWide.nd rfl (.inl rfl))
          (pss_one (ps_if (pt_cmpR op_gt (pe_call GD hr1 (by rfl) gD FD.kp bD .nil pass0 (pa_cons (pv 0) (pa_cons pe_int pa_nil))) pe_int (nomark _))
            (pss_one (ps_expr (pe_bm PySem.F.plainAttrs_list PySem.F.slot_list_append PySem.F.type_list_append mt_append (pv 2) (pa_cons (pe_tup (pa_cons (pv 4) (pa_cons (pv 3) pa_nil))) pa_nil)))) pss_nil)))))
      (pss_cons (ps_set (i := 5) scWide.nd rfl (.inl rfl) (pe_callB cr_sortedI (by rfl) mS PyProof.Rows.boot_sorted (pa_cons (pe_slice sl_list (pe_call GM hr (by rfl) gM FM.kp bM .nil pass0 (pa_cons (pv 0)
          (pa_cons (pe_listRg rfl (by rfl) mLi (prg_1 (by rfl) mR (pv 1))) pa_nil))) po_none (po_some (pe_op op_add pe_int (pe_call GD hr1 (by rfl) gD FD.kp bD .nil pass0 (pa_cons (pv 0) (pa_cons (pe_op op_sub (pv 1) pe_int) pa_nil)))))) pa_nil)))
      (pss_one (ps_ret (pe_tup (pa_cons (pe_tup (pa_cons (pv 1) (pa_cons (pe_callTy call_tuple_of (by rfl) mT PyProof.Rows.boot_tuple (pa_cons (pe_callB cr_sortedPO (by rfl) mS PyProof.Rows.boot_sorted (pa_cons (pv 2) pa_nil)) pa_nil)) (pa_cons (pe_tup pa_nil) pa_nil))))
        (pa_cons (pe_callTy call_tuple_of (by rfl) mT PyProof.Rows.boot_tuple (pa_cons
          (pe_lc (own := [("field", 6)]) (g := gName 6) rfl scWide.nd (pi_list (pv 5)) (blkOk_by (own := [("field", 6)]) (N := nWide) (sc := defScope sWide) (by decide +kernel)) (fun _ _ _ _ _ => pg_name (i := 6) scWide.nd rfl (.inl rfl))
            (fun _ _ _ _ _ => pts_nil) (fun _ _ _ _ _ => pe_tup (pa_cons (pv 6) (pa_cons (pe_call GD hr1 (by rfl) gD FD.kp bD .nil pass0 (pa_cons (pv 0) (pa_cons pe_int pa_nil))) pa_nil)))) pa_nil)) pa_nil))))))), ?_⟩
    refine ⟨.ref a, rfl, a, c, 5, rfl, hD, by decide, by decide, fun H1 m0 r0 r1 hD1 k1 => ⟨12, m0, rfl, rfl, Nat.zero_le _, fun R hR => ⟨_, _, rfl, ?_⟩⟩⟩
    obtain ⟨Ra, Rc⟩ := hD1.ne hR
    have hn0 : 12 ≤ 12 + m0 := by omega
    have hn1 : 12 + m0 ≤ 16 := by omega
    -- for b in range(many)
    refine ⟨.int (12 + m0), rfl, (12 + m0), rfl, by omega, by omega, for_range (lo := 0) (n := (12 + m0).toNat)
      (fun i σ H' => ∃ xs rs v3 v4, σ = [some (.ref a), some (.int (12 + m0)), some (.ref R), v3, v4, none, none] ∧ 2 * rs.length ≤ i * i ∧ Roads H1 a c R (0 + (i : Nat)) xs rs H')
      ⟨[], [], none, none, rfl, Nat.zero_le _, upd_same, .nil, hD1.new hR, Kp.new hR, fun r hr => absurd hr (by simp), List.nodup_nil⟩ ?_ ?_⟩
    · rintro i σ H' hi ⟨xs, rs, v3, v4, rfl, hl, G⟩
      have hi16 : i < 16 := by omega
      have hii : i * i ≤ 16 * 16 := Nat.mul_le_mul (by omega) (by omega)
      refine ⟨.int (0 + (i : Nat)), rfl, (0 + (i : Nat)), rfl, by omega, by omega, for_range (lo := 0) (n := (0 + (i : Nat) : Int).toNat)
        (fun j σ H' => ∃ xs rs v4, σ = [some (.ref a), some (.int (12 + m0)), some (.ref R), some (.int (0 + (i : Nat))), v4, none, none] ∧ 2 * rs.length ≤ i * i + 2 * j ∧ Roads H1 a c R (1 + (i : Nat)) xs rs H' ∧ ∀ r ∈ rs, r.2 < (i : Nat) ∨ r.1 < (j : Nat))
        ⟨xs, rs, _, rfl, by omega, G.wide (by omega), fun r hr => .inl (by have := G.road r hr; omega)⟩ ?_ ?_⟩
      · rintro j σ H2 hj ⟨xs, rs, v4, rfl, hl2, G2, hlt⟩
        refine ⟨.ref a, rfl, a, c, 6, rfl, G2.deck, by decide, by decide, fun H3 q q0 q1 hD3 k3 => ⟨_, _, rfl, rfl, _, rfl, ?_⟩⟩
        have G3 := G2.draw hD3 k3 Ra Rc
        refine ite2 (fun _ => ?_) (fun _ => ?_)
        · refine ⟨.ref R, rfl, .inl ⟨rfl, _, SqL.of G3.at_⟩, .int (0 + (j : Nat)), rfl, .int (0 + (i : Nat)), rfl, by show 2 ≤ sizeLine; decide, fun t ht => ?_⟩
          have G4 := G3.new (o := .tup [.int (0 + (j : Nat)), .int (0 + (i : Nat))]) ht
          refine ⟨R, _, _, rfl, rfl, G4.at_, small1000 (by rw [G4.prs.len]; omega), xs ++ [.ref t], rs ++ [((0 + (j : Nat) : Int), (0 + (i : Nat) : Int))], _, rfl, by rw [List.length_append]; simp; omega, ?_, ?_⟩
          · refine Roads.more (r := ((0 + (j : Nat) : Int), (0 + (i : Nat) : Int))) G4 upd_same Ra Rc ⟨by omega, by simp; omega, by simp; omega⟩ (fun z => ?_)
            have := hlt _ z
            simp at this
          · intro r hr
            rcases List.mem_append.mp hr with z | z
            · have := hlt r z
              push_cast
              omega
            · rw [List.mem_singleton.mp z]
              right
              push_cast
              omega
        · exact ⟨xs, rs, _, rfl, by omega, G3, fun r hr => by have := hlt r hr; push_cast; omega⟩
      · rintro σ H2 ⟨xs, rs, v4, rfl, hl2, G2, _⟩
        refine ⟨xs, rs, _, _, rfl, ?_, G2.wide (by push_cast; omega)⟩
        have e1 : (0 + (i : Nat) : Int).toNat = i := by omega
        rw [e1] at hl2
        have e2 : (i + 1) * (i + 1) = i * i + 2 * i + 1 := by rw [Nat.add_mul, Nat.mul_add]; omega
        omega
    · rintro σ H2 ⟨xs, rs, v3, v4, rfl, hl, G⟩
      have hnn : (12 + m0).toNat * (12 + m0).toNat ≤ 16 * 16 := Nat.mul_le_mul (by omega) (by omega)
      have hrl : rs.length ≤ 200 := by omega
      have G : Roads H1 a c R (12 + m0) xs rs H2 := G.wide (by omega)
      -- fields
      refine ⟨.ref a, rfl, .int (12 + m0), rfl, (12 + m0), rfl, RgOk.of_le (by decide) (by omega) (by decide) (by omega), fun q hq => ?_⟩
      rw [rgV_ints]
      have Gq := G.new (o := .lst ((rgI (12 + m0)).map V.int)) hq
      refine ⟨a, c, q, _, rfl, Gq.deck, .inl (SqL.of upd_same), ?_, sh_ints, fun H4 p4 ys hp1 hp2 hp3 hD4 k4 => ?_⟩
      · rw [List.length_map, rgI_len]
        omega
      obtain ⟨fs, rfl, hfs⟩ := perm_ints hp1
      obtain ⟨p4a, p4c⟩ := Gq.deck.ne hp2
      have G4 := Gq.draw hD4 k4 Ra Rc
      refine ⟨.ref a, rfl, .int (12 + m0), rfl, (12 + m0), 8, rfl, rfl, a, c, (12 + m0) - 8, rfl, hD4, by omega, by omega, fun H5 q5 s0 s1 hD5 k5 => ⟨9, q5, rfl, rfl, 9 + q5, rfl, p4, _, rfl, SqL.of (k5.get (by simp [p4a, p4c]) hp3), fun p5 hp5 => ?_⟩⟩
      rw [cut_to _ _ (by omega), ← List.map_take]
      have G5 := (G4.draw hD5 k5 Ra Rc).new (o := .lst ((fs.take (9 + q5).toNat).map V.int)) hp5
      refine ⟨p5, _, rfl, SqL.of upd_same, fun gs p6 hg1 hg2 hp6 => ?_⟩
      have hgs : ∀ z ∈ gs, 0 ≤ z ∧ z < (12 + m0) := fun z hz => rgI_mem.mp (hfs.mem_iff.mp (List.mem_of_mem_take (hg1.mem_iff.mp hz)))
      have hgn : gs.Nodup := hg1.nodup_iff.mpr ((hfs.nodup_iff.mpr (rgI_nodup (12 + m0))).sublist (List.take_sublist _ _))
      have hgl : gs.length = min (9 + q5).toNat (12 + m0).toNat := by rw [hg1.length_eq, List.length_take, hfs.length_eq, rgI_len]
      have G6 := G5.new (o := .lst (gs.map V.int)) hp6
      have hG6 : (upd (upd H5 p5 (.lst ((fs.take (9 + q5).toNat).map V.int))) p6 (.lst (gs.map V.int))) p6 = some (.lst (gs.map V.int)) := upd_same
      obtain ⟨p6a, p6c⟩ := G5.deck.ne hp6
      generalize upd (upd H5 p5 (.lst ((fs.take (9 + q5).toNat).map V.int))) p6 (.lst (gs.map V.int)) = H6 at G6 hG6
      clear hp6 hp5 G5 G4
      -- the chart
      refine ⟨.int (12 + m0), rfl, .ref R, rfl, R, xs, keyP H6, rfl, SqL.of G6.at_, (Prs.keys G6.prs).2, fun ys S t1 t2 hS => ?_⟩
      obtain ⟨p1, p2, p3⟩ := prs_sorted G6.prs t1 t2
      generalize ys.map (keyP H6) = rs' at p1 p2 p3
      refine ⟨S, ys, rfl, .inl ⟨SqL.of upd_same, fun T hT => ?_⟩⟩
      have q7 : Prs (upd H6 S (.lst ys)) ys rs' := p3.keep (Kp.new (S := [R, a, c]) hS) G6.noTup
      have G7 := G6.new (o := .lst ys) hS
      have e7 := Kp.get (S := []) (Kp.new (o := .lst ys) hS) (by simp) hG6
      generalize upd H6 S (.lst ys) = H7 at G7 q7 e7 hT
      have q8 : Prs (upd H7 T (.tup ys)) ys rs' := q7.keep (Kp.new (S := [R, a, c]) hT) G7.noTup
      have G8 := G7.new (o := .tup ys) hT
      have e8 := Kp.get (S := []) (Kp.new (o := .tup ys) hT) (by simp) e7
      have eT : (upd H7 T (.tup ys)) T = some (.tup ys) := upd_same
      generalize upd H7 T (.tup ys) = H8 at G8 q8 e8 eT
      refine ⟨Nat.zero_le _, fun W hW => ?_⟩
      have q9 : Prs (upd H8 W (.tup [])) ys rs' := q8.keep (Kp.new (S := [R, a, c]) hW) G8.noTup
      have G9 := G8.new (o := .tup []) hW
      have kW : Kp ([] : List Addr) H8 (upd H8 W (.tup [])) := Kp.new hW
      have e9 := kW.get (by simp) e8
      have eT9 := kW.get (by simp) eT
      have eW : (upd H8 W (.tup [])) W = some (.tup []) := upd_same
      clear kW
      generalize upd H8 W (.tup []) = H9 at G9 q9 e9 eT9 eW
      refine ⟨by show 3 ≤ sizeLine; decide, fun Z hZ => ?_⟩
      have q10 : Prs (upd H9 Z (.tup [.int (12 + m0), .ref T, .ref W])) ys rs' := q9.keep (Kp.new (S := [R, a, c]) hZ) G9.noTup
      have G10 := G9.new (o := .tup [.int (12 + m0), .ref T, .ref W]) hZ
      have kZ : Kp ([] : List Addr) H9 (upd H9 Z (.tup [.int (12 + m0), .ref T, .ref W])) := Kp.new hZ
      have e10 := kZ.get (by simp) e9
      have eT10 := kZ.get (by simp) eT9
      have eW10 := kZ.get (by simp) eW
      have eZ : (upd H9 Z (.tup [.int (12 + m0), .ref T, .ref W])) Z = some (.tup [.int (12 + m0), .ref T, .ref W]) := upd_same
      clear kZ
      generalize upd H9 Z (.tup [.int (12 + m0), .ref T, .ref W]) = H10 at G10 q10 e10 eT10 eW10 eZ
      have nt := G10.noTup
      have out : ∀ {q : Addr} {zs : List V}, H10 q = some (.tup zs) → q ∉ [a, c] := fun {q zs} e hq => nt q (List.mem_cons_of_mem _ hq) _ e
      have hv : Da K [a, c] H10 (.ref Z) (chD (12 + m0) rs' []) := .tup (SqT.of (Ob.mk (out eZ) eZ)) (.cons (.int _) (.cons (.tup (SqT.of (Ob.mk (out eT10) eT10)) (q10.data fun s hs => nt s (List.mem_cons_of_mem _ hs))) (.cons (.tup (SqT.of (Ob.mk (out eW10) eW10)) .nil) .nil)))
      have hch : ChOk (12 + m0) rs' [] := ⟨by omega, by omega, by rw [p1.length_eq]; exact hrl, fun r hr => G6.road r (p1.mem_iff.mp hr), p1.nodup_iff.mpr G6.nd, p2, fun z hz => absurd hz (by simp), by simp, List.Pairwise.nil⟩
      have kH : Kp [a, c] H H10 := k1.trans (G10.keep.drop hR)
      have hD10 := G10.deck
      clear eZ eW10 eT10 out nt q10 q9 q8 q7 G10 G9 G8 G7 G6 e7 e8 e9 eT eT9 eW hZ hW hT hS p1 p2 p3 t1 t2 hG6
      -- the pieces
      refine ⟨_, rfl, p6, rfl, ⟨_, SqL.of e10⟩, fun D hD0 => ?_⟩
      have Dp6 : p6 ≠ D := ne_of_none e10 hD0
      obtain ⟨Da', Dc'⟩ := hD10.ne hD0
      refine lc_list (K := K) (a := p6) (xs := gs.map V.int) (fun i H' => ∃ xs ps, H' D = some (.lst xs) ∧ Prs H' xs ps ∧ ps.map (·.1) = gs.take i ∧ (∀ p ∈ ps, 0 ≤ p.2 ∧ p.2 < 6) ∧ H' p6 = some (.lst (gs.map V.int)) ∧ DeckAt H' a c ∧ Kp [a, c] H10 H')
        ⟨[], [], upd_same, .nil, by simp, fun p hp => absurd hp (by simp), by rw [upd_ne Dp6]; exact e10, hD10.new hD0, Kp.new hD0⟩ (fun i H' _ ⟨_, _, _, _, _, _, e, _⟩ => SqL.of e) ?_ ?_
      · rintro i x H' hx ⟨xs, ps, e1, e2, e3, e4, e5, e7, e8⟩
        obtain ⟨z, hz, rfl⟩ := map_ints_get hx
        have hi : i < gs.length := (List.getElem?_eq_some_iff.mp hz).1
        refine ⟨rfl, yesGo ?_⟩
        refine ⟨.int z, rfl, .ref a, rfl, a, c, 6, rfl, e7, by decide, by decide, fun H7 b b0 b1 hD7 k7 => ?_⟩
        refine ⟨by show 2 ≤ sizeLine; decide, fun T hT => ?_⟩
        have f1 : H7 D = some (.lst xs) := k7.get (by simp [Da', Dc']) e1
        have f2 : Prs H7 xs ps := e2.keep k7 (deck_noTup e7)
        have f5 : H7 p6 = some (.lst (gs.map V.int)) := k7.get (by simp [p6a, p6c]) e5
        have kT : Kp ([] : List Addr) H7 (upd H7 T (.tup [.int z, .int b])) := Kp.new hT
        have g1 : (upd H7 T (.tup [.int z, .int b])) D = some (.lst xs) := kT.get (by simp) f1
        have g2 : Prs (upd H7 T (.tup [.int z, .int b])) xs ps := f2.keep kT (fun s hs => absurd hs (by simp))
        have g5 := kT.get (by simp) f5
        have gT : PrAt (upd H7 T (.tup [.int z, .int b])) (.ref T) (z, b) := ⟨T, rfl, upd_same⟩
        have g7 : DeckAt (upd H7 T (.tup [.int z, .int b])) a c := hD7.new hT
        have g8 : Kp [a, c] H10 (upd H7 T (.tup [.int z, .int b])) := (e8.trans k7).trans (Kp.new hT)
        generalize upd H7 T (.tup [.int z, .int b]) = H8 at g1 g2 g5 gT g7 g8
        have kD : Kp [D] H8 (upd H8 D (.lst (xs ++ [.ref T]))) := Kp.put (by simp)
        have nD : NoTup H8 [D] := fun s hs ys e => by rw [List.mem_singleton.mp hs, g1] at e; cases e
        have hlx : xs.length = i := by
          rw [g2.len, ← List.length_map (f := (·.1)), e3, List.length_take]
          omega
        refine ⟨xs, g1, small1000 (by omega), xs ++ [.ref T], ps ++ [(z, b)], upd_same, Prs.snoc (gT.keep kD nD) (g2.keep kD nD), ?_, fun p hp => ?_, by rw [upd_ne Dp6]; exact g5, g7.put Da' Dc', ?_⟩
        · rw [List.map_append, e3, take_snoc hz]
          rfl
        · rcases List.mem_append.mp hp with w | w
          · exact e4 p w
          · rw [List.mem_singleton.mp w]
            exact ⟨b0, b1⟩
        · exact (Kp.trans (g8.mono fun b hb => List.mem_cons_of_mem D hb) (Kp.put (by simp))).drop hD0
      · rintro H7 ⟨xs, ps, e1, e2, e3, e4, e5, e7, e8⟩
        rw [List.length_map, List.take_length] at e3
        have hpl : ps.length = gs.length := by rw [← e3, List.length_map]
        refine ⟨D, xs, rfl, .inl ⟨SqL.of e1, fun T hT => ?_⟩⟩
        have kT : Kp ([] : List Addr) H7 (upd H7 T (.tup xs)) := Kp.new hT
        have g2 : Prs (upd H7 T (.tup xs)) xs ps := e2.keep kT (fun s hs => absurd hs (by simp))
        have g7 : DeckAt (upd H7 T (.tup xs)) a c := e7.new hT
        have g8 : Kp [a, c] H10 (upd H7 T (.tup xs)) := e8.trans kT.all
        have eT : (upd H7 T (.tup xs)) T = some (.tup xs) := upd_same
        generalize upd H7 T (.tup xs) = H8 at g2 g7 g8 eT
        refine ⟨by show 2 ≤ sizeLine; decide, fun Y hY => ?_⟩
        have kY : Kp ([] : List Addr) H8 (upd H8 Y (.tup [.ref Z, .ref T])) := Kp.new hY
        have h2 : Prs (upd H8 Y (.tup [.ref Z, .ref T])) xs ps := g2.keep kY (fun s hs => absurd hs (by simp))
        have h7 := g7.new (o := .tup [.ref Z, .ref T]) hY
        have h8 := g8.trans kY.all
        have eT2 := kY.get (by simp) eT
        have eY : (upd H8 Y (.tup [.ref Z, .ref T])) Y = some (.tup [.ref Z, .ref T]) := upd_same
        clear kY
        generalize upd H8 Y (.tup [.ref Z, .ref T]) = H9 at h2 h7 h8 eT2 eY
        have nt := deck_noTup h7
        refine k H9 (.ref Y) (12 + m0) rs' ps hch ⟨fun p hp => ?_, ?_⟩ (by omega) (by omega) ?_ h7 (kH.trans h8)
        · have a1 := hgs p.1 (by rw [← e3]; exact List.mem_map.mpr ⟨p, hp, rfl⟩)
          have a2 := e4 p hp
          omega
        · have q := strict hg2 hgn
          rw [← e3] at q
          exact List.pairwise_map.mp q
        · exact .tup (SqT.of (Ob.mk (fun w => nt Y w _ eY) eY)) (.cons (hv.keep h8) (.cons (.tup (SqT.of (Ob.mk (fun w => nt T w _ eT2) eT2)) (h2.data nt)) .nil))
end
end Kt

set_option Elab.async false
set_option linter.all false
set_option maxRecDepth 100000
set_option maxHeartbeats 4000000
namespace Kt
open PySem PySem.Spec PyProof.Rows L2
/-! ### orders that are shown alike are the same -/
def cl (s : Str) : List Nat := s.cps.toList
theorem cl_app (a b : Str) : cl (a ++ b) = cl a ++ cl b := by
  show (a.cps ++ b.cps).toList = _
  rw [Array.toList_append]
  rfl
def smalls : List Int := (List.range 28).map fun (n : Nat) => (n : Int) - 2
theorem mem_smalls {i : Int} (h0 : -1 ≤ i) (h1 : i ≤ 24) : i ∈ smalls := List.mem_map.mpr ⟨(i + 2).toNat, List.mem_range.mpr (by omega), by omega⟩
theorem smalls_inj : (smalls.all fun i => smalls.all fun j => (i == j) || !((PyData.int i).shown == (PyData.int j).shown)) = true := by decide +kernel
theorem int_inj {i j : Int} (hi : -1 ≤ i ∧ i ≤ 24) (hj : -1 ≤ j ∧ j ≤ 24) (h : cl (PyData.int i).shown = cl (PyData.int j).shown) : i = j := by
  have a := List.all_eq_true.mp (List.all_eq_true.mp smalls_inj i (mem_smalls hi.1 hi.2)) j (mem_smalls hj.1 hj.2)
  have e : (PyData.int i).shown = (PyData.int j).shown := by
    cases h1 : (PyData.int i).shown
    cases h2 : (PyData.int j).shown
    rw [h1, h2] at h
    exact congrArg Str.mk (Array.toList_inj.mp h)
  rw [e] at a
  simpa using a
theorem cl_stay : cl (oD .stay).shown = [40, 39, 115, 116, 97, 121, 39, 44, 41] := by
  show cl (PyData.tuple [.str "stay"]).shown = _
  decide +kernel
theorem cl_go (g : Int) : cl (oD (.go g)).shown = [40, 39, 103, 111, 39, 44, 32] ++ (cl (PyData.int g).shown ++ [41]) := by
  show cl (PyData.tuple [.str "go", .int g]).shown = _
  rw [PyData.shown_tuple, PyData.shownAll_cons, PyData.shownAll_cons, PyData.shownAll_nil]
  have e : (Str.ofString ", ").join [(PyData.str "go").shown, (PyData.int g).shown] = (PyData.str "go").shown ++ Str.ofString ", " ++ (PyData.int g).shown := rfl
  rw [e, cl_app, cl_app, cl_app, cl_app]
  have e1 : cl (Str.ofString "(") = [40] := by decide +kernel
  have e2 : cl (PyData.str "go").shown = [39, 103, 111, 39] := by decide +kernel
  have e3 : cl (Str.ofString ", ") = [44, 32] := by decide +kernel
  have e4 : cl (Str.ofString (if ([PyData.str "go", PyData.int g].length == 1) = true then ",)" else ")")) = [41] := by
    show cl (Str.ofString ")") = _
    decide +kernel
  rw [e1, e2, e3, e4]
  simp
theorem cl_back (f g : Int) : cl (oD (.back f g)).shown = [40, 39, 98, 97, 99, 107, 39, 44, 32] ++ (cl (PyData.int f).shown ++ (44 :: 32 :: (cl (PyData.int g).shown ++ [41]))) := by
  show cl (PyData.tuple [.str "back", .int f, .int g]).shown = _
  rw [PyData.shown_tuple, PyData.shownAll_cons, PyData.shownAll_cons, PyData.shownAll_cons, PyData.shownAll_nil]
  have e : (Str.ofString ", ").join [(PyData.str "back").shown, (PyData.int f).shown, (PyData.int g).shown] = (PyData.str "back").shown ++ Str.ofString ", " ++ ((PyData.int f).shown ++ Str.ofString ", " ++ (PyData.int g).shown) := rfl
  rw [e, cl_app, cl_app, cl_app, cl_app, cl_app, cl_app]
  have e1 : cl (Str.ofString "(") = [40] := by decide +kernel
  have e2 : cl (PyData.str "back").shown = [39, 98, 97, 99, 107, 39] := by decide +kernel
  have e3 : cl (Str.ofString ", ") = [44, 32] := by decide +kernel
  have e4 : cl (Str.ofString (if ([PyData.str "back", PyData.int f, PyData.int g].length == 1) = true then ",)" else ")")) = [41] := by
    show cl (Str.ofString ")") = _
    decide +kernel
  rw [e1, e2, e3, e4]
  simp
theorem split_at {k : Nat} : ∀ {a a' b b' : List Nat}, k ∉ a → k ∉ a' → a ++ k :: b = a' ++ k :: b' → a = a' ∧ b = b'
  | [], [], _, _, _, _, h => ⟨rfl, (List.cons.inj h).2⟩
  | [], x :: a', _, _, _, h', h => absurd (List.cons.inj h).1 fun e => h' (by rw [e]; exact List.mem_cons_self)
  | x :: a, [], _, _, h', _, h => absurd (List.cons.inj h).1 fun e => h' (by rw [← e]; exact List.mem_cons_self)
  | x :: a, y :: a', _, _, h1, h2, h => by
    have e := List.cons.inj h
    have r := split_at (fun z => h1 (List.mem_cons_of_mem _ z)) (fun z => h2 (List.mem_cons_of_mem _ z)) e.2
    exact ⟨by rw [e.1, r.1], r.2⟩
def SmO : Ord → Prop
  | .stay => True
  | .go g => -1 ≤ g ∧ g ≤ 24
  | .back f g => (-1 ≤ f ∧ f ≤ 24) ∧ -1 ≤ g ∧ g ≤ 24
theorem shown_inj {a b : Ord} (ha : SmO a) (hb : SmO b) (h : (oD a).shown = (oD b).shown) : a = b := by
  have h := congrArg cl h
  cases a with
  | stay =>
    cases b with
    | stay => rfl
    | go g => rw [cl_stay, cl_go] at h; simp at h
    | back f g => rw [cl_stay, cl_back] at h; simp at h
  | go g =>
    cases b with
    | stay => rw [cl_stay, cl_go] at h; simp at h
    | go z =>
      rw [cl_go, cl_go] at h
      have h := List.append_cancel_left h
      have h := List.append_cancel_right h
      rw [int_inj ha hb h]
    | back f z => rw [cl_go, cl_back] at h; simp at h
  | back f g =>
    cases b with
    | stay => rw [cl_stay, cl_back] at h; simp at h
    | go z => rw [cl_go, cl_back] at h; simp at h
    | back x z =>
      rw [cl_back, cl_back] at h
      have h := List.append_cancel_left h
      obtain ⟨e1, e2⟩ := split_at (fun m => (PyProof.Rows.shown_int_free_44 f).mp m) (fun m => (PyProof.Rows.shown_int_free_44 x).mp m) h
      have e2 := List.append_cancel_right (List.cons.inj e2).2
      rw [int_inj ha.1 hb.1 e1, int_inj ha.2 hb.2 e2]
theorem in_shown {o : Ord} (ho : SmO o) : ∀ {os : List Ord}, (∀ x ∈ os, SmO x) → inV (.str (oD o).shown) (os.map fun x => V.str (oD x).shown) = decide (o ∈ os)
  | [], _ => by simp [inV]
  | x :: os, h => by
    have ih := in_shown ho (os := os) fun y hy => h y (List.mem_cons_of_mem _ hy)
    unfold inV at ih ⊢
    rw [List.map_cons, List.any_cons, ih]
    have hx := h x List.mem_cons_self
    by_cases e : x = o
    · subst e
      simp [eqV]
    · have e2 : ¬ (oD x).shown = (oD o).shown := fun z => e (shown_inj hx ho z)
      have e3 : ¬ o = x := fun z => e z.symm
      simp [eqV, e2, e3]
end Kt

set_option Elab.async false
set_option linter.all false
set_option maxRecDepth 100000
set_option maxHeartbeats 4000000
namespace Kt
open PySem PySem.Spec PyProof.Rows L2
/-! ### an expression, and what is known behind it -/
def tCutE (t : TE) : TE := fun σ H Q => ∃ Mid : VK, t σ H Mid ∧ ∀ x H1, Mid x H1 → Q x H1
theorem pe_cut {X : Cx} {e : Expr} {t : TE} (h : PE X e t) : PE X e (tCutE t) :=
  ⟨fun pins s σ H Q I ⟨Mid, h1, h2⟩ => thn (h.run pins s σ H Mid I h1) fun v s1 ⟨x, H1, I1, r, q⟩ => ⟨x, H1, I1, r, h2 x H1 q⟩⟩
theorem cr_reprTold {X : Cx} (K : PySem.W.Frag) (hgd : X.A.guards = some []) (hu : X.A.units + 64 < cLine) (hK : X.K = K := by rfl) : CallR X (.builtin "repr") (rRepr K) := by
  subst hK
  exact cr_repr hgd hu
def turn2 {α : Type} : List α → List α → List α
  | [], [p, b] => [b, p]
  | _, _ => []
theorem turn2_inv {α : Type} {us ws : List α} (h : (turn2 us ws).length = 2) : us = [] ∧ ∃ p b, ws = [p, b] := by
  unfold turn2 at h
  split at h
  · exact ⟨rfl, _, _, rfl⟩
  · simp at h
theorem turn2_rel {vs : List V} {us : List Value} {zs : List V} {ws : List Value} (r1 : Vals vs us) (r2 : Vals zs ws) : Vals (turn2 vs zs) (turn2 us ws) := by
  cases r1 with
  | cons _ _ => exact .nil
  | nil =>
    cases r2 with
    | nil => exact .nil
    | cons a r2 =>
      cases r2 with
      | nil => exact .nil
      | cons b r2 =>
        cases r2 with
        | nil => exact .cons b (.cons a .nil)
        | cons _ _ => exact .nil
theorem kb_ordersP {K : PySem.W.Frag} {f : Addr} {fd : FuncData} (F : Fun K "orders_of" "orders_of" sOrdersP f fd) : KBinds K fd ["board", "place"] ["place", "board"] turn2 turn2 := by
  refine ⟨fun s us ws _ hl => ?_, fun r1 r2 => turn2_rel r1 r2⟩
  obtain ⟨rfl, p, b, rfl⟩ := turn2_inv hl
  obtain ⟨oc, od, kV, doc, pm, an, cdv, ct, osl, rfl, lk, hcd⟩ := F.ex
  exact BindsTo.of_eq rfl
theorem Nc.shown2 {d : PyData} {k m : Nat} (a : Nc d k m) (h : k ≤ 1000000) (hm : m ≤ 60) : d.showable = true ∧ d.hasDict = false ∧ d.shown.length ≤ sizeLine ∧ d.depth ≤ 60 :=
  ⟨a.sh, a.nd, PyData.shown_fits (B := 13) (by decide) (by decide) a.sm (by have := a.wt; omega), Nat.le_trans a.dp hm⟩
theorem PsOk.fs {n : Int} {ps : List (Int × Int)} (h : PsOk n ps) : (ps.map (·.1)).Pairwise (· < ·) := List.pairwise_map.mpr h.asc
theorem nc_menu {n : Int} {rs ps : List (Int × Int)} {cs : List Int} {own : Int} {os : List Ord} (h : ChOk n rs cs) (hp : PsOk n ps) (hps : ps.length ≤ 24) (m : MenuOf rs ps own os) : Nc (.tuple (os.map oD)) 280028 2 := by
  have e := menu_eq h hp.fs m
  have hl : os.length ≤ 10001 := by rw [e]; exact pOrds_len h.few hps
  refine (Nc.tup (NcA.map (k := 27) (m := 1) fun o hm => nc_ord h hp (m.ok o hm))).mono ?_ (by omega)
  omega
/-- the orders told, as the law's -/
theorem told_data {K : PySem.W.Frag} {H : Hp} {n : Int} {rs ps : List (Int × Int)} {cs : List Int} {own : Int} {os : List Ord} {p : Addr} {xs : List V} (h : ChOk n rs cs) (hp : PsOk n ps) (m : MenuOf rs ps own os) (e : H p = some (.tup xs)) (P : Ps oV H xs (pOrds rs ps own)) : Dp K H (.ref p) (.tuple (os.map oD)) := by
  rw [menu_eq h hp.fs m]
  exact .tup (SqT.of e) (Dp_all (Ps.ords noTup_nil P))
def spRight (K : PySem.W.Frag) : Sp := fun vs H Q _ => ∃ (a c : Addr), vs = [.ref a] ∧ DeckAt H a c ∧ ∀ H', DeckAt H' a c → Kp [a, c] H H' → Q (.bl true) H'
section
variable {P : Program} {w : World} {K : PySem.W.Frag} {mg : Str → Option Value} {base : Heap}
theorem scRight : FnScope ["deck", "board", "place", "due"] ["deck"] (defScope sWideRight) := ⟨rfl, rfl, rfl, by decide +kernel, rfl, by decide +kernel, by decide +kernel⟩
theorem ok_right {f fD fW fM fO : Addr} {fd fdD fdW fdM fdO : FuncData} (F : Fun K "_law_is_wide_right" "_law_is_wide_right" sWideRight f fd)
    (FD : Fun K "_law_draw" "_law_draw" sDraw fD fdD) (bD : Binds K fdD ["deck", "many"] []) (gD : mg "_law_draw" = some (.ref fD)) (GD : FnOk P w K mg base CX0 1 fD fdD ["deck", "many"] spDraw)
    (FW : Fun K "_law_wide_board" "_law_wide_board" sWide fW fdW) (bW : Binds K fdW ["deck"] []) (gW : mg "_law_wide_board" = some (.ref fW)) (GW : FnOk P w K mg base CX0 3 fW fdW ["deck"] (spWide K))
    (FM : Fun K "_law_orders_of" "_law_orders_of" sOrdersOf fM fdM) (bM : Binds K fdM ["board", "place"] []) (gM : mg "_law_orders_of" = some (.ref fM)) (GM : FnOk P w K mg base CX0 2 fM fdM ["board", "place"] (spOrdersOf K))
    (FO : Fun K "orders_of" "orders_of" sOrdersP fO fdO) (bO : Binds K fdO ["board", "place"] []) (gO : mg "orders_of" = some (.ref fO)) (GO : FnOk P w K mg base CX0 3 fO fdO ["board", "place"] (spOrdersP K))
    (mL : mg "len" = none) (mT : mg "tuple" = none) (mRp : mg "repr" = none) : FnG P w K mg base CX0 4 f fd ["deck"] (spRight K) := by
  refine okG (k := 3) F scRight (fun vs H Q E h => ?_) (fun cdv A fr s H vs Q E hg hr h => ?_)
  · obtain ⟨a, c, rfl, _⟩ := h
    rfl
  · obtain ⟨a, c, rfl, hD, k⟩ := h
    have hr1 := hr.mono (show 1 ≤ 3 by decide)
    have hr2 := hr.mono (show 2 ≤ 3 by decide)
    refine ⟨_, pss_cons (ps_set (i := 1) scRight.nd rfl (.inl rfl) (pe_call GW hr (by rfl) gW FW.kp bW .nil pass0 (pa_cons (pv 0) pa_nil)))
      (pss_cons (ps_set (i := 2) scRight.nd rfl (.inl rfl) (pe_call GD hr1 (by rfl) gD FD.kp bD .nil pass0 (pa_cons (pv 0) (pa_cons (pe_callB call_len_seq (by rfl) mL PySem.boot_len (pa_cons (kt (pv 1) pe_int) pa_nil)) pa_nil))))
      (pss_cons (ps_set (i := 3) scRight.nd rfl (.inl rfl) (pe_callB (cr_repr hg hr.units) (by rfl) mRp PyProof.Rows.boot_repr (pa_cons (pe_callTy call_tuple_of (by rfl) mT PyProof.Rows.boot_tuple (pa_cons (pe_call GM hr2 (by rfl) gM FM.kp bM .nil pass0 (pa_cons (pv 1) (pa_cons (pv 2) pa_nil))) pa_nil)) pa_nil)))
      (pss_one (ps_ret (pe_and (pe_cmpR op_eq (pe_callB (cr_repr hg hr.units) (by rfl) mRp PyProof.Rows.boot_repr (pa_cons (pe_call GO hr (by rfl) gO FO.kp bO .nil pass0 (pa_cons (pv 1) (pa_cons (pv 2) pa_nil))) pa_nil)) (pv 3) (nomark _))
        (pe_one (pe_cmpR op_eq (pe_callB (cr_repr hg hr.units) (by rfl) mRp PyProof.Rows.boot_repr (pa_cons (pe_callNames GO hr (by rfl) gO FO.kp (kb_ordersP FO) pass0 (pk_cons (pv 2) (pk_cons (pv 1) pk_nil))) pa_nil)) (pv 3) (nomark _)))))))), ?_⟩
    refine ⟨.ref a, rfl, a, c, rfl, hD, fun H1 v n rs ps hch hps hp0 hp24 hv hD1 k1 => ?_⟩
    obtain ⟨ta, tc, tp, xs, rfl, hb, _, hpt, hpx⟩ := board_inv hv.dp
    have hlx : xs.length = ps.length := by rw [all_len hpx, List.length_map]
    refine ⟨.ref a, rfl, .ref ta, rfl, ta, _, 1, _, rfl, rfl, hb, at1, tp, xs, rfl, .inr hpt, a, c, (xs.length : Nat), rfl, hD1, by omega, by omega, fun H2 r r0 r1 hD2 k2 => ?_⟩
    obtain ⟨s, rfl⟩ := Int.eq_ofNat_of_zero_le r0
    have hs : s < ps.length := by omega
    have hv2 := hv.keep k2
    obtain ⟨pc, hpc⟩ : ∃ pc, ps[s]? = some pc := ⟨_, List.getElem?_eq_getElem hs⟩
    refine ⟨.ref ta, rfl, .int s, rfl, .ref ta, s, n, rs, [], ps, pc, rfl, hv2.dp, hch.few, hp24, hpc, fun H3 Lm zs ms hms hLm hLm3 hPm hzl k3 => ?_⟩
    obtain ⟨d1, d2, d3, d4⟩ := (nc_menu hch hps hp24 hms).shown2 (by omega) (by omega)
    refine ⟨Lm, zs, rfl, .inl ⟨SqL.of hLm3, fun T hT => ?_⟩⟩
    have kT : Kp ([] : List Addr) H3 (upd H3 T (.tup zs)) := Kp.new hT
    have kk := k3.trans kT
    have hP4 := hPm.keep kT noTup_nil
    have hv4 := hv2.keep kk.all
    have hD4 := hD2.keep kk (by simp) (by simp)
    have kH : Kp [a, c] H (upd H3 T (.tup zs)) := (k1.trans k2).trans kk.all
    have eT : (upd H3 T (.tup zs)) T = some (.tup zs) := upd_same
    refine ⟨.ref T, _, rfl, .tup (SqT.of eT) (Dp_all (Ps.ords noTup_nil hP4)), d1, d2, d3, d4, ?_⟩
    generalize upd H3 T (.tup zs) = H4 at hP4 hv4 hD4 kH
    refine ⟨.ref ta, rfl, .int s, rfl, .ref ta, s, n, rs, [], ps, pc, rfl, hv4.dp, hch.few, hp24, hpc, fun H5 p5 xs5 hp5 hp55 hP5 k5 => ?_⟩
    refine ⟨.ref p5, _, rfl, told_data hch hps hms hp55 hP5, d1, d2, d3, d4, .str _, rfl, rfl, true, by simp, iteT ?_⟩
    refine ⟨.int s, rfl, .ref ta, rfl, .ref ta, s, n, rs, [], ps, pc, rfl, (hv4.keep k5.all).dp, hch.few, hp24, hpc, fun H6 p6 xs6 hp6 hp66 hP6 k6 => ?_⟩
    refine ⟨.ref p6, _, rfl, told_data hch hps hms hp66 hP6, d1, d2, d3, d4, .str _, rfl, rfl, ?_⟩
    have z := k H6 (hD4.keep (k5.trans k6) (by simp) (by simp)) (kH.trans (k5.trans k6).all)
    simpa using z
end
end Kt

set_option Elab.async false
set_option linter.all false
set_option maxRecDepth 100000
set_option maxHeartbeats 4000000
namespace Kt
open PySem PySem.Spec PyProof.Rows L2
def spLaw (K : PySem.W.Frag) : Sp := fun vs H Q _ => ∃ (p : Addr) (ns : List Int), vs = [.ref p] ∧ SqL K H p (ns.map V.int) ∧ ns.length ≤ 63 ∧ ∀ H', Q (.bl true) H'
/-- items that are orders of small numbers -/
def TrS (H : Hp) (ts : List V) : Prop := ∀ x ∈ ts, ∃ o, SmO o ∧ TpAt oV H x o
theorem TrS.keep {H H' : Hp} {ts : List V} {S : List Addr} (h : TrS H ts) (k : Kp S H H') (n : NoTup H S) : TrS H' ts := fun x hx => by
  obtain ⟨o, h1, h2⟩ := h x hx
  exact ⟨o, h1, h2.keep k n⟩
theorem TrS.app {H : Hp} {ts us : List V} (h : TrS H ts) (h' : TrS H us) : TrS H (ts ++ us) := fun x hx => by
  rcases List.mem_append.mp hx with z | z
  · exact h x z
  · exact h' x z
theorem TrS.sub {H : Hp} {ts us : List V} (h : TrS H ts) (s : ∀ x ∈ us, x ∈ ts) : TrS H us := fun x hx => h x (s x hx)
theorem rep_read {K : PySem.W.Frag} {H : Hp} {l : Addr} {xs : List V} {k : Int} {Q : VK} (h1 : H l = some (.tup xs)) (hne : xs ≠ []) (hk : -1000 ≤ k ∧ k ≤ 1000) (hl : xs.length ≤ 1000)
    (kk : ∀ q H', Kp [] H H' → H' q = some (.tup (List.replicate k.toNat xs).flatten) → Q (.ref q) H') : rRepA K (.ref l) (.int k) H Q := by
  refine ⟨l, k, xs, rfl, rfl, SqT.of h1, hne, hk.1, hk.2, hl, fun e => ?_, fun e p hp => ?_, fun e p hp => kk p _ (Kp.new hp) upd_same⟩
  · subst e
    refine kk l H Kp.refl ?_
    rw [h1]
    simp
  · refine kk p _ (Kp.new hp) ?_
    have e2 : k.toNat = 0 := by omega
    rw [upd_same, e2]
    rfl
theorem Ps.rep {H : Hp} {Z : Addr} {o : Ord} (h : H Z = some (.tup (oV o))) : ∀ n : Nat, Ps oV H (List.replicate n (.ref Z)) (List.replicate n o)
  | 0 => .nil
  | n + 1 => .cons ⟨Z, rfl, h⟩ (Ps.rep h n)
theorem nc_non : Nc .none 0 0 := ⟨by simp [PyData.showable], by simp [PyData.hasDict], by simp [PyData.leavesShort], by simp [PyData.canLay0], by simp [PyData.weight], by simp [PyData.depth]⟩
theorem nc_order : Nc (.str "order") 5 0 := ⟨by simp [PyData.showable], by simp [PyData.hasDict], by rw [PyData.leavesShort.eq_4]; decide +kernel, by rw [PyData.canLay0]; decide +kernel, by rw [PyData.weight.eq_1]; decide +kernel, by simp [PyData.depth]⟩
theorem nc_small {o : Ord} (h : SmO o) : (oD o).showable = true ∧ (oD o).hasDict = false ∧ (oD o).shown.length ≤ sizeLine ∧ (oD o).depth ≤ 60 := by
  have big : ∀ {i : Int}, -1 ≤ i ∧ i ≤ 24 → Nc (.int i) 10 0 := fun {i} hi => by
    by_cases e : 0 ≤ i
    · exact Nc.int e (by omega)
    · have e : i = -1 := by omega
      subst e
      exact ⟨by rw [PyData.showable.eq_4]; decide, by simp [PyData.hasDict], by rw [PyData.leavesShort.eq_3]; exact decide_eq_true (PyData.shown_int_le2 (by omega) (by omega)), by simp [PyData.canLay0], by rw [PyData.weight.eq_5]; decide, by simp [PyData.depth]⟩
  cases o with
  | stay => exact (Nc.tup (NcA.cons nc_stay .nil)).shown2 (by omega) (by omega)
  | go g => exact (Nc.tup (NcA.cons nc_go (NcA.cons (big h) .nil))).shown2 (by omega) (by omega)
  | back f g => exact (Nc.tup (NcA.cons nc_back (NcA.cons (big h.1) (NcA.cons (big h.2) .nil)))).shown2 (by omega) (by omega)
theorem sm_ok {n : Int} {rs ps : List (Int × Int)} {cs : List Int} (h : ChOk n rs cs) (hp : PsOk n ps) {own : Int} {o : Ord} (ho : OrdOk rs ps own o) : SmO o := by
  have hn := h.hi
  cases o with
  | stay => trivial
  | go g =>
    have := bes_lt h ho
    exact ⟨by omega, by omega⟩
  | back f g =>
    obtain ⟨hf, _, hg, _⟩ := ho
    obtain ⟨q, hq, rfl⟩ := List.mem_map.mp hf
    have := hp.fld q hq
    have := bes_lt h hg
    exact ⟨⟨by omega, by omega⟩, by omega, by omega⟩
theorem pOrds_fs {rs ps qs : List (Int × Int)} {own : Int} (h : qs.map (·.1) = ps.map (·.1)) : pOrds rs qs own = pOrds rs ps own := by
  unfold pOrds
  rw [h]
abbrev nLaw : List Str := ["script", "deck", "turn", "board", "chart", "pieces", "field", "kept", "others", "place", "due", "told", "numbers", "tried", "order", "menu", "value", "player", "goal"]
theorem scLaw : FnScope nLaw ["script"] (defScope sLaw) := ⟨rfl, rfl, rfl, by decide +kernel, rfl, by decide +kernel, by decide +kernel⟩
section
variable {P : Program} {w : World} {K : PySem.W.Frag} {mg : Str → Option Value} {base : Heap}
theorem ok_law {f fK fD fB fR fM fX fO fE : Addr} {fd fdK fdD fdB fdR fdM fdX fdO fdE : FuncData} (F : Fun K "law" "law" sLaw f fd)
    (FK : Fun K "_law_deck" "_law_deck" sDeck fK fdK) (bK : Binds K fdK ["script"] []) (gK : mg "_law_deck" = some (.ref fK)) (GK : FnOk P w K mg base CX0 1 fK fdK ["script"] (spDeck K))
    (FD : Fun K "_law_draw" "_law_draw" sDraw fD fdD) (bD : Binds K fdD ["deck", "many"] []) (gD : mg "_law_draw" = some (.ref fD)) (GD : FnOk P w K mg base CX0 1 fD fdD ["deck", "many"] spDraw)
    (FB : Fun K "_law_board" "_law_board" sBoard fB fdB) (bB : Binds K fdB ["deck", "fields", "many"] []) (gB : mg "_law_board" = some (.ref fB)) (GB : FnOk P w K mg base CX0 4 fB fdB ["deck", "fields", "many"] (spBoard K))
    (FR : Fun K "_law_is_wide_right" "_law_is_wide_right" sWideRight fR fdR) (bR : Binds K fdR ["deck"] []) (gR : mg "_law_is_wide_right" = some (.ref fR)) (GR : FnG P w K mg base CX0 4 fR fdR ["deck"] (spRight K))
    (FM : Fun K "_law_orders_of" "_law_orders_of" sOrdersOf fM fdM) (bM : Binds K fdM ["board", "place"] []) (gM : mg "_law_orders_of" = some (.ref fM)) (GM : FnOk P w K mg base CX0 2 fM fdM ["board", "place"] (spOrdersOf K))
    (FX : Fun K "_law_mixed" "_law_mixed" sMixed fX fdX) (bX : Binds K fdX ["deck", "items"] []) (gX : mg "_law_mixed" = some (.ref fX)) (GX : FnOk P w K mg base CX0 2 fX fdX ["deck", "items"] (spMixed K))
    (FO : Fun K "orders_of" "orders_of" sOrdersP fO fdO) (bO : Binds K fdO ["board", "place"] []) (gO : mg "orders_of" = some (.ref fO)) (GO : FnOk P w K mg base CX0 3 fO fdO ["board", "place"] (spOrdersP K))
    (FE : Fun K "orders_error" "orders_error" sOrdErr fE fdE) (bE : Binds K fdE ["board", "value"] []) (gE : mg "orders_error" = some (.ref fE)) (GE : FnOk P w K mg base CX0 5 fE fdE ["board", "value"] (spOrdErr K))
    (mI : mg "int" = none) (mL : mg "len" = none) (mR : mg "range" = none) (mT : mg "tuple" = none) (mLi : mg "list" = none) (mRp : mg "repr" = none) : FnG P w K mg base CX0 6 f fd ["script"] (spLaw K) := by
  refine okG (k := 5) F scLaw (fun vs H Q E h => ?_) (fun cdv A fr s H vs Q E hg hr h => ?_)
  · obtain ⟨p, ns, rfl, _⟩ := h
    rfl
  · obtain ⟨p, ns, rfl, hp, hns, k⟩ := h
    have hr1 := hr.mono (show 1 ≤ 5 by decide)
    have hr2 := hr.mono (show 2 ≤ 5 by decide)
    have hr3 := hr.mono (show 3 ≤ 5 by decide)
    have hr4 := hr.mono (show 4 ≤ 5 by decide)
    refine ⟨_, pss_cons (ps_set (i := 1) scLaw.nd rfl (.inl rfl) (pe_call GK hr1 (by rfl) gK FK.kp bK .nil pass0 (pa_cons (pv 0) pa_nil)))
      (Evl.pss_cut (ps_if (PW.pt (pw_and (pt_cmpR op_eq (pe_call GD hr1 (by rfl) gD FD.kp bD .nil pass0 (pa_cons (pv 1) (pa_cons pe_int pa_nil))) pe_int (nomark _)) (pw_and1 (pt_not (pt_val (pe_callG GR hg hr4 (by rfl) gR FR.kp bR pass0 (pa_cons (pv 1) pa_nil))))))) (pss_one (ps_ret pe_bl)) pss_nil)
      (pss_cons (ps_for PassesOwn.never rfl (pi_range1 (by rfl) mR (pa_cons pe_int pa_nil)) (pg_name (i := 2) scLaw.nd rfl (.inl rfl))
        (pss_cons (ps_set (i := 3) scLaw.nd rfl (.inl rfl) (pe_call GB hr4 (by rfl) gB FB.kp bB .nil pass0 (pa_cons (pv 1)
            (pa_cons (pe_op op_add pe_int (pe_call GD hr1 (by rfl) gD FD.kp bD .nil pass0 (pa_cons (pv 1) (pa_cons (pe_cut (pe_ifExp (pt_cmpR op_gt (pv 2) pe_int (nomark _)) pe_int pe_int)) pa_nil))))
            (pa_cons (pe_op op_add pe_int (pe_call GD hr1 (by rfl) gD FD.kp bD .nil pass0 (pa_cons (pv 1) (pa_cons pe_int pa_nil)))) pa_nil)))))
        (pss_cons (ps_asg (pv 3) (pg_tup rfl (pgs_cons (pg_name (i := 4) scLaw.nd rfl (.inl rfl)) (pgs_cons (pg_name (i := 5) scLaw.nd rfl (.inl rfl)) pgs_nil))))
        (pss_cons (ps_par (i := 7) (j := 8) rfl scLaw.nd rfl rfl (by decide) rfl rfl (pa_cons (pe_callB (cr_repr hg hr.units) (by rfl) mRp PyProof.Rows.boot_repr (pa_cons (pv 3) pa_nil))
            (pa_cons (pe_callTy call_tuple_of (by rfl) mT PyProof.Rows.boot_tuple (pa_cons (pe_lc (own := [("field", 6), ("player", 17)]) (g := gTup K 2 (gCons (gName 6) (gCons (gName 17) gNil))) rfl scLaw.nd (pi_tup (pv 5)) (blkOk_by (own := [("field", 6), ("player", 17)]) (N := nLaw) (sc := defScope sLaw) (by decide +kernel))
              (fun _ _ _ _ _ => pg_tup rfl (pgs_cons (pg_name (i := 6) scLaw.nd rfl (.inl rfl)) (pgs_cons (pg_name (i := 17) scLaw.nd rfl (.inl rfl)) pgs_nil))) (fun _ _ _ _ _ => pts_nil)
              (fun _ _ _ _ _ => pe_tup (pa_cons (pv 6) (pa_cons (pe_op op_mod (pe_callTy call_int1 (by rfl) mI PyProof.Rows.boot_int (pa_cons (pe_op op_add (pe_op op_add (pv 17) pe_int) (pv 6)) pa_nil)) pe_int) pa_nil)))) pa_nil)) pa_nil)) (by rfl))
        (pss_cons (ps_for PassesOwn.never rfl (pi_range1 (by rfl) mR (pa_cons (pe_callB call_len_seq (by rfl) mL PySem.boot_len (pa_cons (pv 5) pa_nil)) pa_nil)) (pg_name (i := 9) scLaw.nd rfl (.inl rfl))
          (pss_cons (ps_set (i := 10) scLaw.nd rfl (.inl rfl) (pe_callTy call_tuple_of (by rfl) mT PyProof.Rows.boot_tuple (pa_cons (pe_call GM hr2 (by rfl) gM FM.kp bM .nil pass0 (pa_cons (pv 3) (pa_cons (pv 9) pa_nil))) pa_nil)))
          (pss_cons (ps_set (i := 11) scLaw.nd rfl (.inl rfl) (pe_lst (pa_cons (pe_call GO hr3 (by rfl) gO FO.kp bO .nil pass0 (pa_cons (pv 3) (pa_cons (pv 9) pa_nil))) (pa_cons (pe_callNames GO hr3 (by rfl) gO FO.kp (kb_ordersP FO) pass0 (pk_cons (pv 9) (pk_cons (pv 3) pk_nil)))
            (pa_cons (pe_call GO hr3 (by rfl) gO FO.kp bO .nil pass0 (pa_cons (pe_tup (pa_cons (pv 4) (pa_cons (pv 8) pa_nil))) (pa_cons (pv 9) pa_nil))) pa_nil)))))
          (pss_one (ps_if (pt_cmpR op_ne (pe_callB (cr_repr hg hr.units) (by rfl) mRp PyProof.Rows.boot_repr (pa_cons (pv 11) pa_nil)) (pe_callB (cr_repr hg hr.units) (by rfl) mRp PyProof.Rows.boot_repr (pa_cons (pe_op op_rep (pe_lst (pa_cons (pv 10) pa_nil)) pe_int) pa_nil)) (nomark _)) (pss_one (ps_ret pe_bl)) pss_nil)))))
        (pss_cons (ps_par (i := 9) (j := 12) rfl scLaw.nd rfl rfl (by decide) rfl rfl (pa_cons (pe_call GD hr1 (by rfl) gD FD.kp bD .nil pass0 (pa_cons (pv 1) (pa_cons (pe_callB call_len_seq (by rfl) mL PySem.boot_len (pa_cons (pv 5) pa_nil)) pa_nil)))
            (pa_cons (pe_listRg rfl (by rfl) mLi (prg_2 (by rfl) mR (pe_un un_neg pe_int) (pe_op op_add (kt (pv 4) pe_int) pe_int))) pa_nil)) (by rfl))
        (pss_cons (ps_set (i := 13) scLaw.nd rfl (.inl rfl) (pe_op op_cat (pe_lst (pa_cons (pe_tup (pa_cons pe_str pa_nil)) pa_nil))
            (pe_lc (own := [("goal", 18)]) (g := gName 18) rfl scLaw.nd (pi_list (pv 12)) (blkOk_by (own := [("goal", 18)]) (N := nLaw) (sc := defScope sLaw) (by decide +kernel))
              (fun _ _ _ _ _ => pg_name (i := 18) scLaw.nd rfl (.inl rfl)) (fun _ _ _ _ _ => pts_nil) (fun _ _ _ _ _ => pe_tup (pa_cons pe_str (pa_cons (pv 18) pa_nil))))))
        (pss_cons (ps_for PassesOwn.never rfl (pi_list (pv 12)) (pg_name (i := 6) scLaw.nd rfl (.inr rfl))
          (pss_one (ps_set (i := 13) scLaw.nd rfl (.inl rfl) (pe_op op_cat (pv 13)
            (pe_lc (own := [("goal", 18)]) (g := gName 18) rfl scLaw.nd (pi_list (pv 12)) (blkOk_by (own := [("goal", 18)]) (N := nLaw) (sc := defScope sLaw) (by decide +kernel))
              (fun _ _ _ _ _ => pg_name (i := 18) scLaw.nd rfl (.inl rfl)) (fun _ _ _ _ _ => pts_nil) (fun _ _ _ _ _ => pe_tup (pa_cons pe_str (pa_cons (pv 6) (pa_cons (pv 18) pa_nil)))))))))
        (pss_cons (ps_setLc (i := 15) (own := [("order", 14)]) (g := gName 14) rfl scLaw.nd rfl rfl (sw_true rfl rfl rfl (by decide +kernel)) (pi_list (pe_call GM hr2 (by rfl) gM FM.kp bM .nil pass0 (pa_cons (pv 3) (pa_cons (pv 9) pa_nil)))) (blkOk_by (own := [("order", 14)]) (N := nLaw) (sc := defScope sLaw) (by decide +kernel))
            (fun _ _ _ _ _ => pg_name (i := 14) scLaw.nd rfl (.inl rfl)) (fun _ _ _ _ _ => pts_nil) (fun _ _ _ _ _ => pe_callB (cr_reprTold K hg hr.units) (by rfl) mRp PyProof.Rows.boot_repr (pa_cons (pv 14) pa_nil)))
        (pss_cons (ps_for PassesOwn.never rfl (pi_list (pe_cut (pe_ifExp (pt_cmpR op_eq (pv 2) pe_int (nomark _)) (pv 13) (pe_slice sl_list (pe_call GX hr2 (by rfl) gX FX.kp bX .nil pass0 (pa_cons (pv 1) (pa_cons (pv 13) pa_nil))) po_none (po_some pe_int))))) (pg_name (i := 14) scLaw.nd rfl (.inl rfl))
          (pss_cons (ps_set (i := 16) scLaw.nd rfl (.inl rfl) (pe_op op_catA (pe_op op_catA (pe_op op_repA (pe_tup (pa_cons (pe_tup (pa_cons pe_str pa_nil)) pa_nil)) (pv 9)) (pe_tup (pa_cons (pv 14) pa_nil)))
              (pe_op op_repA (pe_tup (pa_cons (pe_tup (pa_cons pe_str pa_nil)) pa_nil)) (pe_op op_sub (pe_op op_sub (pe_callB call_len_seq (by rfl) mL PySem.boot_len (pa_cons (pv 5) pa_nil)) (pv 9)) pe_int))))
          (pss_one (ps_if (pt_cmpR op_ne (pe_callB (cr_repr hg hr.units) (by rfl) mRp PyProof.Rows.boot_repr (pa_cons (pe_call GE hr (by rfl) gE FE.kp bE .nil pass0 (pa_cons (pv 3) (pa_cons (pv 16) pa_nil))) pa_nil))
              (pe_callB (cr_repr hg hr.units) (by rfl) mRp PyProof.Rows.boot_repr (pa_cons (pe_ifExp (pt_cmpR op_in_seq (pe_callB (cr_repr hg hr.units) (by rfl) mRp PyProof.Rows.boot_repr (pa_cons (pv 14) pa_nil)) (pv 15) (by rfl)) pe_non (pe_tup (pa_cons pe_str (pa_cons (pv 9) pa_nil)))) pa_nil)) (nomark _)) (pss_one (ps_ret pe_bl)) pss_nil))))
        (pss_one (ps_if (pt_cmpR op_ne (pe_callB (cr_repr hg hr.units) (by rfl) mRp PyProof.Rows.boot_repr (pa_cons (pv 3) pa_nil)) (pv 7) (nomark _)) (pss_one (ps_ret pe_bl)) pss_nil))))))))))))
      (pss_one (ps_ret pe_bl)))), ?_⟩
    refine ⟨.ref p, rfl, p, ns, rfl, hp, hns, fun H0 a c hD0 k0 ha hc => ?_⟩
    -- the wide board
    refine ⟨fun σ H' => σ = [some (.ref p), some (.ref a), none, none, none, none, none, none, none, none, none, none, none, none, none, none, none, none, none] ∧ DeckAt H' a c, ?_, ?_⟩
    · refine ⟨.ref a, rfl, a, c, 3, rfl, hD0, by decide, by decide, fun H1 r r0 r1 hD1 k1 => ⟨rfl, _, rfl, ?_⟩⟩
      refine ite2 (fun _ => ?_) (fun _ => iteF ⟨rfl, hD1⟩)
      exact ⟨.ref a, rfl, a, c, rfl, hD1, fun H2 hD2 k2 => ⟨true, rfl, iteF ⟨rfl, hD2⟩⟩⟩
    rintro σ H1 ⟨rfl, hD1⟩
    -- for turn in range(3)
    refine ⟨3, rfl, by decide, by decide, for_range (lo := 0) (n := 3)
      (fun i σ H' => ∃ v2 v3 v4 v5 v6 v7 v8 v9 v10 v11 v12 v13 v14 v15 v16, σ = [some (.ref p), some (.ref a), v2, v3, v4, v5, v6, v7, v8, v9, v10, v11, v12, v13, v14, v15, v16, none, none] ∧ DeckAt H' a c)
      ⟨_, _, _, _, _, _, _, _, _, _, _, _, _, _, _, rfl, hD1⟩ ?_ (fun σ H' _ => k H')⟩
    clear hD1 hD0 k0
    rintro i σ H hi ⟨v2, v3, v4, v5, v6, v7, v8, v9, v10, v11, v12, v13, v14, v15, v16, rfl, hD⟩
    -- the board
    refine ⟨.ref a, rfl, .ref a, rfl, fun x H1 => (x = .int 5 ∨ x = .int 3) ∧ H1 = H, ?_, ?_⟩
    · exact ⟨.int (0 + (i : Nat)), rfl, _, _, rfl, rfl, _, rfl, ite2 (fun _ => ⟨.inl rfl, rfl⟩) (fun _ => ⟨.inr rfl, rfl⟩)⟩
    rintro x H1 ⟨hx, rfl⟩
    obtain ⟨m, rfl, m0, m5⟩ : ∃ m : Int, x = .int m ∧ 0 < m ∧ m ≤ 5 := by
      rcases hx with e | e
      · exact ⟨5, e, by decide, by decide⟩
      · exact ⟨3, e, by decide, by decide⟩
    refine ⟨a, c, m, rfl, hD, m0, by omega, fun H1 r r0 r1 hD1 k1 => ⟨3, r, rfl, rfl, .ref a, rfl, a, c, 6, rfl, hD1, by decide, by decide, fun H2 q q0 q1 hD2 k2 =>
      ⟨1, q, rfl, rfl, a, c, 3 + r, 1 + q, rfl, hD2, by omega, by omega, by omega, by omega, fun H3 v rs cs ps hch hps hpl hv3 hD3 k3 => ?_⟩⟩⟩
    have hp24 : ps.length ≤ 24 := by omega
    have hp1 : 1 ≤ ps.length := by omega
    have hn7 : 3 + r ≤ 7 := by omega
    obtain ⟨ta, tc, tp, xs, rfl, hb, hcd, hpt, hpx⟩ := board_inv (show Dp K (Ob [a, c] H3) v _ from hv3)
    have hlx : xs.length = ps.length := by rw [all_len hpx, List.length_map]
    obtain ⟨tc', _, _, _, etc, hcs, _, _⟩ := chart_read hcd
    cases etc
    have up := fun {H' : Hp} (kk : Kp [a, c] H3 H') => kk.up
    clear hD1 hD2 k1 k2 k3 hx hD
    -- chart, pieces = board
    refine ⟨.ref ta, rfl, ta, _, rfl, sameT (up Kp.refl) hb, rfl, .ref tc, _, rfl, .ref tp, _, rfl, rfl, ?_⟩
    obtain ⟨b1, b2, b3, b4⟩ := (nc_board hch hps hp24).shown2 (by omega) (by omega)
    -- kept, others
    refine ⟨.ref ta, rfl, .ref ta, _, rfl, hv3.dp, b1, b2, b3, b4, .ref tp, rfl, tp, rfl, ⟨_, sameT (up Kp.refl) hpt⟩, fun D hD0 => ?_⟩
    obtain ⟨Da', Dc'⟩ := hD3.ne hD0
    refine lc_tup (K := K) (a := tp) (xs := xs) (fun j H' => ∃ ys qs, H' D = some (.lst ys) ∧ Prs H' ys qs ∧ qs.map (·.1) = (ps.map (·.1)).take j ∧ Kp [] H3 H') ⟨[], [], upd_same, .nil, by simp, Kp.new hD0⟩ (fun j H' _ ⟨_, _, _, _, _, kk⟩ => sameT (up kk.all) hpt) ?_ ?_
    · rintro j x H' hx ⟨ys, qs, e1, e2, e3, kk⟩
      obtain ⟨pr, t, hr', rfl, ht⟩ := Kt.pairs_at (DpAll.same (up kk.all) _ hpx) hx
      have hj := (List.getElem?_eq_some_iff.mp hr').1
      refine ⟨t, _, rfl, ht, rfl, .int pr.1, _, rfl, .int pr.2, _, rfl, rfl, rfl, yesGo ?_⟩
      refine ⟨.int pr.1, rfl, .int pr.2, rfl, pr.2, 1, rfl, rfl, .int pr.1, rfl, _, _, rfl, rfl, .inl ⟨_, rfl, _, 6, rfl, rfl, (by decide : (0 : Int) < 6), by show 2 ≤ sizeLine; decide, fun T hT => ?_⟩⟩
      have kT : Kp ([] : List Addr) H' (upd H' T (.tup [.int pr.1, .int ((pr.2 + 1 + pr.1) % 6)])) := Kp.new hT
      have f1 := kT.get (by simp) e1
      have f2 := e2.keep kT (fun s hs => absurd hs (by simp))
      have fT : PrAt (upd H' T (.tup [.int pr.1, .int ((pr.2 + 1 + pr.1) % 6)])) (.ref T) (pr.1, (pr.2 + 1 + pr.1) % 6) := ⟨T, rfl, upd_same⟩
      have f5 := kk.trans kT
      generalize upd H' T (.tup [.int pr.1, .int ((pr.2 + 1 + pr.1) % 6)]) = H8 at f1 f2 fT f5
      have kD : Kp [D] H8 (upd H8 D (.lst (ys ++ [.ref T]))) := Kp.put (by simp)
      have nD : NoTup H8 [D] := fun s hs zs e => by rw [List.mem_singleton.mp hs, f1] at e; cases e
      refine ⟨ys, f1, small1000 ?_, ys ++ [.ref T], _, upd_same, Prs.snoc (fT.keep kD nD) (f2.keep kD nD), ?_, f5.fill hD0⟩
      · rw [f2.len, ← List.length_map (f := (·.1)), e3, List.length_take, List.length_map]
        omega
      · rw [List.map_append, e3, take_snoc (show (ps.map (·.1))[j]? = some pr.1 by rw [List.getElem?_map, hr']; rfl)]
        rfl
    rintro H4 ⟨ys, qs, e1, e2, e3, k4⟩
    rw [hlx, ← List.length_map (as := ps) (f := (·.1)), List.take_length] at e3
    refine ⟨D, ys, rfl, .inl ⟨SqL.of e1, fun O hO => ⟨_, _, rfl, ?_⟩⟩⟩
    let St : Hp → Prop := fun H' => DeckAt H' a c ∧ Kp [a, c] H3 H' ∧ H' O = some (.tup ys) ∧ Prs H' ys qs
    have Stk : ∀ {H' H''}, St H' → Kp [] H' H'' → St H'' := fun {H' H''} ⟨s1, s2, s3, s4⟩ kk => ⟨s1.keep kk (by simp) (by simp), s2.trans kk.all, kk.get (by simp) s3, s4.keep kk noTup_nil⟩
    have Std : ∀ {H' H''}, St H' → DeckAt H'' a c → Kp [a, c] H' H'' → St H'' := fun {H' H''} ⟨s1, s2, s3, s4⟩ d kk => ⟨d, s2.trans kk, kk.get (fun z => deck_noTup s1 O z ys s3) s3, s4.keep kk (deck_noTup s1)⟩
    have hS5 : St (upd H4 O (.tup ys)) := by
      have kO : Kp ([] : List Addr) H4 (upd H4 O (.tup ys)) := Kp.new hO
      exact ⟨hD3.keep (k4.trans kO) (by simp) (by simp), (k4.trans kO).all, upd_same, e2.keep kO (fun s hs => absurd hs (by simp))⟩
    show tSeq _ _ _ _ (upd H4 O (.tup ys))
    generalize upd H4 O (.tup ys) = H5 at hS5
    have hql : qs.length = ps.length := by rw [← List.length_map (f := (·.1)), e3, List.length_map]
    clear e1 e2 hO hD0 Da' Dc' k4
    have hv : ∀ {H' : Hp}, St H' → Dp K H' (.ref ta) (bdD (3 + r) rs cs ps) := fun {H'} h => (hv3.keep h.2.1).dp
    -- for place in range(len(pieces))
    refine ⟨.ref tp, rfl, tp, xs, rfl, .inr (sameT (up hS5.2.1) hpt), (xs.length : Nat), rfl, by omega, by omega, for_range (lo := 0) (n := ((xs.length : Nat) : Int).toNat)
      (fun j σ H' => ∃ v9 v10 v11, σ = [some (.ref p), some (.ref a), some (.int (0 + (i : Nat))), some (.ref ta), some (.ref tc), some (.ref tp), v6, some (.str (bdD (3 + r) rs cs ps).shown), some (.ref O), v9, v10, v11, v12, v13, v14, v15, v16, none, none] ∧ St H')
      ⟨_, _, _, rfl, hS5⟩ ?_ ?_⟩
    · clear hS5
      rintro j σ H6 hj ⟨v9, v10, v11, rfl, hS⟩
      have hj2 : j < ps.length := by omega
      obtain ⟨pc, hpc⟩ : ∃ pc, ps[j]? = some pc := ⟨_, List.getElem?_eq_getElem hj2⟩
      obtain ⟨qc, hqc⟩ : ∃ qc, qs[j]? = some qc := ⟨_, List.getElem?_eq_getElem (by omega)⟩
      have hfc : qc.1 = pc.1 := by
        have h1 : (qs.map (·.1))[j]? = some qc.1 := by rw [List.getElem?_map, hqc]; rfl
        rw [e3, List.getElem?_map, hpc] at h1
        exact (Option.some.inj h1).symm
      refine ⟨.ref ta, rfl, .int (0 + (j : Nat)), rfl, .ref ta, j, 3 + r, rs, cs, ps, pc, (by simp), hv hS, hch.few, hp24, hpc, fun H7 Lm zs ms hms hLm hLm7 hPm hzl k7 => ?_⟩
      obtain ⟨d1, d2, d3, d4⟩ := (Nc.lst (NcA.cons (nc_menu hch hps hp24 hms) (NcA.cons (nc_menu hch hps hp24 hms) (NcA.cons (nc_menu hch hps hp24 hms) .nil)))).shown2 (by omega) (by omega)
      have hS7 := Stk hS k7
      refine ⟨Lm, zs, rfl, .inl ⟨SqL.of hLm7, fun T hT => ?_⟩⟩
      have kT : Kp ([] : List Addr) H7 (upd H7 T (.tup zs)) := Kp.new hT
      have hS8 := Stk hS7 kT
      have hP8 := hPm.keep kT noTup_nil
      have hT8 : (upd H7 T (.tup zs)) T = some (.tup zs) := upd_same
      generalize upd H7 T (.tup zs) = H8 at hS8 hP8 hT8
      clear kT hT hLm7 hPm hS7 k7 hS
      -- told
      refine ⟨.ref ta, rfl, .int (0 + (j : Nat)), rfl, .ref ta, j, 3 + r, rs, cs, ps, pc, (by simp), hv hS8, hch.few, hp24, hpc, fun H9 p9 xs9 _ h9 hP9 k9 => ?_⟩
      have hS9 := Stk hS8 k9
      have t9 := told_data (K := K) hch hps hms h9 hP9
      refine ⟨.int (0 + (j : Nat)), rfl, .ref ta, rfl, .ref ta, j, 3 + r, rs, cs, ps, pc, (by simp [turn2]), hv hS9, hch.few, hp24, hpc, fun H10 p10 xs10 _ h10 hP10 k10 => ?_⟩
      have hS10 := Stk hS9 k10
      have t10 := told_data (K := K) hch hps hms h10 hP10
      refine ⟨.ref tc, rfl, .ref O, rfl, by show 2 ≤ sizeLine; decide, fun B hB => ?_⟩
      have kB : Kp ([] : List Addr) H10 (upd H10 B (.tup [.ref tc, .ref O])) := Kp.new hB
      have hS11 := Stk hS10 kB
      have hB2 : Dp K (upd H10 B (.tup [.ref tc, .ref O])) (.ref B) (bdD (3 + r) rs cs qs) := .tup (SqT.of upd_same) (.cons (Dp.same (up hS11.2.1) _ hcd) (.cons (.tup (SqT.of hS11.2.2.1) (Dp_all (Prs.data noTup_nil hS11.2.2.2))) .nil))
      generalize upd H10 B (.tup [.ref tc, .ref O]) = H11 at kB hS11 hB2
      refine ⟨.int (0 + (j : Nat)), rfl, .ref B, j, 3 + r, rs, cs, qs, qc, (by simp), hB2, hch.few, by omega, hqc, fun H12 p12 xs12 _ h12 hP12 k12 => ?_⟩
      have hS12 := Stk hS11 k12
      rw [pOrds_fs e3, hfc] at hP12
      have t12 := told_data (K := K) hch hps hms h12 hP12
      have t10' := Dp.same (kz_seq (kB.trans k12)) _ t10
      have t9' := Dp.same (kz_seq (k10.trans (kB.trans k12))) _ t9
      have hT12 := ((k9.trans k10).trans (kB.trans k12)).get (by simp) hT8
      have hP12' := hP8.keep ((k9.trans k10).trans (kB.trans k12)) noTup_nil
      refine ⟨by show 3 ≤ sizeLine; decide, fun L hL => ?_⟩
      have kL : Kp ([] : List Addr) H12 (upd H12 L (.lst [.ref p9, .ref p10, .ref p12])) := Kp.new hL
      have hS13 := Stk hS12 kL
      have hL13 : (upd H12 L (.lst [.ref p9, .ref p10, .ref p12])) L = some (.lst [.ref p9, .ref p10, .ref p12]) := upd_same
      have dT : Dp K (upd H12 L (.lst [.ref p9, .ref p10, .ref p12])) (.ref T) (.tuple (ms.map oD)) := .tup (SqT.of (kL.get (by simp) hT12)) (Dp_all (Ps.ords noTup_nil (hP12'.keep kL noTup_nil)))
      have dL : Dp K (upd H12 L (.lst [.ref p9, .ref p10, .ref p12])) (.ref L) (.list [.tuple (ms.map oD), .tuple (ms.map oD), .tuple (ms.map oD)]) := .lst (SqL.of hL13) (.cons (Dp.same (kz_seq kL) _ t9') (.cons (Dp.same (kz_seq kL) _ t10') (.cons (Dp.same (kz_seq kL) _ t12) .nil)))
      generalize upd H12 L (.lst [.ref p9, .ref p10, .ref p12]) = H13 at hS13 dT dL
      clear hL13 kL hL hP12' hT12 t9' t10' t12 hP12 h12 k12 kB hB hB2 hS11 hS12 t10 t9 h9 h10 hP9 hP10 k9 k10 hS9 hS10 hS8 hP8 hT8
      -- repr(told) != repr([due] * 3)
      refine ⟨.ref L, rfl, .ref L, _, rfl, dL, d1, d2, d3, d4, .ref T, rfl, by show 1 ≤ sizeLine; decide, fun L2 hL2 => ?_⟩
      have k2 : Kp ([] : List Addr) H13 (upd H13 L2 (.lst [.ref T])) := Kp.new hL2
      have dT2 := Dp.same (kz_seq k2) _ dT
      have hS14 := Stk hS13 k2
      refine ⟨L2, 3, _, rfl, rfl, upd_same, by decide, by decide, by show 3 ≤ sizeLine; decide, fun L3 hL3 => ?_⟩
      have k3 : Kp ([] : List Addr) (upd H13 L2 (.lst [.ref T])) (upd (upd H13 L2 (.lst [.ref T])) L3 (.lst [.ref T, .ref T, .ref T])) := Kp.new hL3
      have dT3 := Dp.same (kz_seq k3) _ dT2
      have hS15 := Stk hS14 k3
      refine ⟨.ref L3, _, rfl, .lst (SqL.of (show upd (upd H13 L2 (.lst [.ref T])) L3 (.lst [.ref T, .ref T, .ref T]) L3 = _ from upd_same)) (.cons dT3 (.cons dT3 (.cons dT3 .nil))), d1, d2, d3, d4, rfl, _, rfl, ?_⟩
      refine ite2 (fun h => by simp at h) (fun _ => ?_)
      exact ⟨_, _, _, rfl, hS15⟩
    · rintro σ H6 ⟨v9, v10, v11, rfl, hS6⟩
      clear hS5
      -- place, numbers
      refine ⟨.ref a, rfl, .ref tp, rfl, tp, xs, rfl, .inr (sameT (up hS6.2.1) hpt), a, c, (xs.length : Nat), rfl, hS6.1, by omega, by omega, fun H7 s' s0 s1 hD7 k7 => ?_⟩
      obtain ⟨s, rfl⟩ := Int.eq_ofNat_of_zero_le s0
      have hs : s < ps.length := by omega
      obtain ⟨pc, hpc⟩ : ∃ pc, ps[s]? = some pc := ⟨_, List.getElem?_eq_getElem hs⟩
      have hS7 := Std hS6 hD7 k7
      clear hS6 hD7 k7
      refine ⟨1, rfl, .ref tc, rfl, tc, _, 0, _, rfl, rfl, sameT (up hS7.2.1) hcs, at0, 3 + r, 1, rfl, rfl, -1, 3 + r + 1, rfl, rfl, ⟨by omega, by omega, by omega, by omega, by omega⟩, fun N hN => ⟨_, _, rfl, ?_⟩⟩
      have kN : Kp ([] : List Addr) H7 (upd H7 N (.lst (rgV (-1) (3 + r + 1)))) := Kp.new hN
      obtain ⟨Na, Nc'⟩ := hS7.1.ne hN
      have hS8 := Stk hS7 kN
      have hN8 : (upd H7 N (.lst (rgV (-1) (3 + r + 1)))) N = some (.lst (rgV (-1) (3 + r + 1))) := upd_same
      have hrl : (rgV (-1) (3 + r + 1)).length ≤ 9 := by
        unfold rgV
        rw [List.length_map, List.length_range]
        omega
      have hrm : ∀ {j : Nat} {x : V}, (rgV (-1) (3 + r + 1))[j]? = some x → ∃ z : Int, x = .int z ∧ -1 ≤ z ∧ z ≤ 24 := by
        intro j x hx
        unfold rgV at hx
        rw [List.getElem?_map] at hx
        obtain ⟨y, hy, rfl⟩ := Option.map_eq_some_iff.mp hx
        obtain ⟨hy1, hy2⟩ := List.getElem?_eq_some_iff.mp hy
        rw [List.getElem_range] at hy2
        rw [List.length_range] at hy1
        exact ⟨_, rfl, by omega, by omega⟩
      show tSeq _ _ _ _ (upd H7 N (.lst (rgV (-1) (3 + r + 1))))
      generalize upd H7 N (.lst (rgV (-1) (3 + r + 1))) = H8 at hS8 hN8
      clear hS7 kN hN
      generalize rgV (-1) (3 + r + 1) = nums at hrl hrm hN8
      -- tried
      refine ⟨by show 1 ≤ sizeLine; decide, fun Z hZ => ⟨by show 1 ≤ sizeLine; decide, fun L0 hL0 => ?_⟩⟩
      have kZ : Kp ([] : List Addr) H8 (upd H8 Z (.tup [.str "stay"])) := Kp.new hZ
      have kL : Kp ([] : List Addr) (upd H8 Z (.tup [.str "stay"])) (upd (upd H8 Z (.tup [.str "stay"])) L0 (.lst [.ref Z])) := Kp.new hL0
      have hS9 := Stk hS8 (kZ.trans kL)
      have hN9 := (kZ.trans kL).get (by simp) hN8
      have hL9 : (upd (upd H8 Z (.tup [.str "stay"])) L0 (.lst [.ref Z])) L0 = some (.lst [.ref Z]) := upd_same
      have hZ9 : (upd (upd H8 Z (.tup [.str "stay"])) L0 (.lst [.ref Z])) Z = some (.tup [.str "stay"]) := kL.get (by simp) upd_same
      generalize upd (upd H8 Z (.tup [.str "stay"])) L0 (.lst [.ref Z]) = H9 at hS9 hN9 hL9 hZ9
      clear kZ kL hL0 hZ hS8 hN8
      have hT9 : TrS H9 [.ref Z] := fun x hx => by
        rw [List.mem_singleton.mp hx]
        exact ⟨.stay, trivial, Z, rfl, hZ9⟩
      refine ⟨.ref N, rfl, N, rfl, ⟨_, SqL.of hN9⟩, fun D hD0 => ?_⟩
      refine lc_list (K := K) (a := N) (xs := nums) (fun j H' => ∃ zs, H' D = some (.lst zs) ∧ TrS H' zs ∧ zs.length ≤ j ∧ Kp [] H9 H') ⟨[], upd_same, fun x hx => absurd hx (by simp), Nat.le_refl _, Kp.new hD0⟩ (fun j H' _ ⟨_, _, _, _, kk⟩ => SqL.of (kk.get (by simp) hN9)) ?_ ?_
      · rintro j x H' hx ⟨zs, e1, e2, e3, kk⟩
        obtain ⟨z, rfl, z0, z1⟩ := hrm hx
        have hj := (List.getElem?_eq_some_iff.mp hx).1
        refine ⟨rfl, yesGo ?_⟩
        refine ⟨.int z, rfl, by show 2 ≤ sizeLine; decide, fun T hT => ?_⟩
        have kT : Kp ([] : List Addr) H' (upd H' T (.tup [.str "go", .int z])) := Kp.new hT
        have f1 := kT.get (by simp) e1
        have f2 := e2.keep kT noTup_nil
        have fT : TpAt oV (upd H' T (.tup [.str "go", .int z])) (.ref T) (.go z) := ⟨T, rfl, upd_same⟩
        have f5 := kk.trans kT
        generalize upd H' T (.tup [.str "go", .int z]) = H10 at f1 f2 fT f5
        have kD : Kp [D] H10 (upd H10 D (.lst (zs ++ [.ref T]))) := Kp.put (by simp)
        have nD : NoTup H10 [D] := fun s hs ys e => by rw [List.mem_singleton.mp hs, f1] at e; cases e
        refine ⟨zs, f1, small1000 (by omega), zs ++ [.ref T], upd_same, (f2.keep kD nD).app fun x hx => ?_, by simp; omega, f5.fill hD0⟩
        rw [List.mem_singleton.mp hx]
        exact ⟨.go z, ⟨z0, z1⟩, fT.keep kD nD⟩
      rintro H10 ⟨zs, e1, e2, e4, k10⟩
      have hL10 := k10.get (by simp) hL9
      refine ⟨L0, D, _, _, rfl, rfl, hL10, e1, Nat.le_trans (show _ ≤ 1000 by simp only [List.length_cons, List.length_nil]; omega) (by decide), fun L1 hL1 => ?_⟩
      have k1 : Kp ([] : List Addr) H10 (upd H10 L1 (.lst ([.ref Z] ++ zs))) := Kp.new hL1
      have hS11 := Stk (Stk hS9 k10) k1
      have hN11 := k1.get (by simp) (k10.get (by simp) hN9)
      have hT11 : TrS (upd H10 L1 (.lst ([.ref Z] ++ zs))) ([.ref Z] ++ zs) := ((hT9.keep k10 noTup_nil).app e2).keep k1 noTup_nil
      have hL11 : (upd H10 L1 (.lst ([.ref Z] ++ zs))) L1 = some (.lst ([.ref Z] ++ zs)) := upd_same
      have hl11 : ([V.ref Z] ++ zs).length ≤ 10 := by simp only [List.length_append, List.length_cons, List.length_nil]; omega
      generalize upd H10 L1 (.lst ([.ref Z] ++ zs)) = H11 at hS11 hN11 hT11 hL11
      generalize ([V.ref Z] ++ zs) = ts at hT11 hL11 hl11
      clear k1 hL1 hL10 e1 e2 e4 k10 hS9 hN9 hL9 hZ9 hT9 hD0
      -- for field in numbers
      refine ⟨.ref N, rfl, N, rfl, ⟨_, SqL.of hN11⟩, for_list (K := K) (a := N) (xs := nums)
        (fun j σ H' => ∃ v6 L1 ts, σ = [some (.ref p), some (.ref a), some (.int (0 + (i : Nat))), some (.ref ta), some (.ref tc), some (.ref tp), v6, some (.str (bdD (3 + r) rs cs ps).shown), some (.ref O), some (.int s), v10, v11, some (.ref N), some (.ref L1), v14, v15, v16, none, none] ∧ St H' ∧ H' N = some (.lst nums) ∧ H' L1 = some (.lst ts) ∧ TrS H' ts ∧ ts.length ≤ 10 + 10 * j)
        ⟨_, L1, ts, rfl, hS11, hN11, hL11, hT11, by omega⟩ (fun j σ H' _ ⟨_, _, _, _, _, h, _⟩ => SqL.of h) ?_ ?_⟩
      · clear hS11 hN11 hL11 hT11 hl11 L1 ts
        rintro j x σ H12 hx ⟨v6, L1, ts, rfl, hS, hN, hL, hT, hl⟩
        obtain ⟨fl, rfl, f0, f1⟩ := hrm hx
        have hj := (List.getElem?_eq_some_iff.mp hx).1
        refine ⟨.ref L1, rfl, .ref N, rfl, N, rfl, ⟨_, SqL.of hN⟩, fun D hD0 => ?_⟩
        refine lc_list (K := K) (a := N) (xs := nums) (fun j H' => ∃ zs, H' D = some (.lst zs) ∧ TrS H' zs ∧ zs.length ≤ j ∧ Kp [] H12 H') ⟨[], upd_same, fun x hx => absurd hx (by simp), Nat.le_refl _, Kp.new hD0⟩ (fun j H' _ ⟨_, _, _, _, kk⟩ => SqL.of (kk.get (by simp) hN)) ?_ ?_
        · rintro j x H' hx ⟨zs, e1, e2, e3, kk⟩
          obtain ⟨z, rfl, z0, z1⟩ := hrm hx
          have hj := (List.getElem?_eq_some_iff.mp hx).1
          refine ⟨rfl, yesGo ?_⟩
          refine ⟨.int fl, rfl, .int z, rfl, by show 3 ≤ sizeLine; decide, fun T hT => ?_⟩
          have kT : Kp ([] : List Addr) H' (upd H' T (.tup [.str "back", .int fl, .int z])) := Kp.new hT
          have g1 := kT.get (by simp) e1
          have g2 := e2.keep kT noTup_nil
          have fT : TpAt oV (upd H' T (.tup [.str "back", .int fl, .int z])) (.ref T) (.back fl z) := ⟨T, rfl, upd_same⟩
          have g5 := kk.trans kT
          generalize upd H' T (.tup [.str "back", .int fl, .int z]) = H10 at g1 g2 fT g5
          have kD : Kp [D] H10 (upd H10 D (.lst (zs ++ [.ref T]))) := Kp.put (by simp)
          have nD : NoTup H10 [D] := fun s hs ys e => by rw [List.mem_singleton.mp hs, g1] at e; cases e
          refine ⟨zs, g1, small1000 (by omega), zs ++ [.ref T], upd_same, (g2.keep kD nD).app fun x hx => ?_, by simp; omega, g5.fill hD0⟩
          rw [List.mem_singleton.mp hx]
          exact ⟨.back fl z, ⟨⟨f0, f1⟩, z0, z1⟩, fT.keep kD nD⟩
        rintro H13 ⟨zs, e1, e2, e4, k13⟩
        refine ⟨L1, D, _, _, rfl, rfl, k13.get (by simp) hL, e1, Nat.le_trans (show _ ≤ 1000 by omega) (by decide), fun L2 hL2 => ?_⟩
        have k1 : Kp ([] : List Addr) H13 (upd H13 L2 (.lst (ts ++ zs))) := Kp.new hL2
        exact ⟨_, L2, _, rfl, Stk (Stk hS k13) k1, (k13.trans k1).get (by simp) hN, upd_same, ((hT.keep k13 noTup_nil).app e2).keep k1 noTup_nil, by rw [List.length_append]; omega⟩
      · clear hS11 hN11 hL11 hT11 hl11 L1 ts
        rintro σ H12 ⟨v6, L1, ts, rfl, hS, _, hL, hT, hl⟩
        have hl : ts.length ≤ 100 := by omega
        -- menu
        refine ⟨.ref ta, rfl, .int s, rfl, .ref ta, s, 3 + r, rs, cs, ps, pc, rfl, hv hS, hch.few, hp24, hpc, fun H13 Lm zm ms hms hLm hLm13 hPm hzl k13 => ?_⟩
        have hS13 := Stk hS k13
        have hL13 := k13.get (by simp) hL
        have hT13 := hT.keep k13 noTup_nil
        clear hS hL hT k13 hLm
        have hzl2 : zm.length ≤ 10000 := hzl
        have hmz := hPm.len
        have hme := menu_eq hch hps.fs hms
        have hsm : ∀ o ∈ ms, SmO o := fun o ho => sm_ok hch hps (hms.ok o ho)
        refine ⟨Lm, rfl, ⟨_, SqL.of hLm13⟩, fun D hD0 => ?_⟩
        obtain ⟨Dna, Dnc⟩ := hS13.1.ne hD0
        refine lc_list (K := K) (a := Lm) (xs := zm) (fun j H' => H' D = some (.lst ((ms.take j).map fun o => V.str (oD o).shown)) ∧ Kp [] H13 H') ⟨upd_same, Kp.new hD0⟩ (fun j H' _ ⟨_, kk⟩ => SqL.of (kk.get (by simp) hLm13)) ?_ ?_
        · rintro j x H' hx ⟨e1, kk⟩
          obtain ⟨o, ho, T, rfl, hTo⟩ := hPm.at hx
          have hj := (List.getElem?_eq_some_iff.mp ho).1
          obtain ⟨n1, n2, n3, n4⟩ := nc_small (hsm o (List.mem_of_getElem? ho))
          refine ⟨rfl, yesGo ?_⟩
          refine ⟨.ref T, rfl, .ref T, oD o, rfl, ord_data ⟨T, rfl, kk.get (by simp) hTo⟩, n1, n2, n3, n4, _, e1, Nat.lt_of_le_of_lt (show _ ≤ 11000 by rw [List.length_map, List.length_take]; omega) (by decide), ?_, kk.fill hD0⟩
          rw [upd_same, take_snoc ho, List.map_append]
          rfl
        rintro H14 ⟨e1, k14⟩
        rw [hmz, List.take_length] at e1
        have hS14 := Stk hS13 k14
        have hL14 := k14.get (by simp) hL13
        have hT14 := hT13.keep k14 noTup_nil
        clear hD0 hLm13 hPm hS13 hL13 hT13 k14
        -- for order in ..
        refine ⟨fun x H' => ∃ L us, x = .ref L ∧ H' L = some (.lst us) ∧ TrS H' us ∧ St H' ∧ H' D = some (.lst (ms.map fun o => V.str (oD o).shown)), ?_, ?_⟩
        · refine ⟨.int (0 + (i : Nat)), rfl, rfl, _, rfl, ite2 (fun _ => ⟨.ref L1, rfl, L1, ts, rfl, hL14, hT14, hS14, e1⟩) (fun _ => ?_)⟩
          refine ⟨.ref a, rfl, .ref L1, rfl, a, c, L1, ts, rfl, hS14.1, .inl (SqL.of hL14), by omega, fun x hx => ?_, fun H15 p15 ys15 hperm hp15 hp155 hD15 k15 => ⟨12, rfl, p15, _, rfl, SqL.of hp155, fun L hL => ?_⟩⟩
          · obtain ⟨o, _, T, rfl, hTo⟩ := hT14 x hx
            exact sh_ord ⟨T, rfl, Ob.mk (fun z => deck_noTup hS14.1 T z _ hTo) hTo⟩
          · rw [cut_to _ _ (by decide)]
            have kL : Kp ([] : List Addr) H15 (upd H15 L (.lst (ys15.take (12 : Int).toNat))) := Kp.new hL
            refine ⟨L, _, rfl, upd_same, ?_, Stk (Std hS14 hD15 k15) kL, kL.get (by simp) (k15.get (by simp [Dna, Dnc]) e1)⟩
            exact ((hT14.keep k15 (deck_noTup hS14.1)).keep kL noTup_nil).sub fun x hx => hperm.mem_iff.mp (List.mem_of_mem_take hx)
        · clear hS14 hL14 hT14 e1
          rintro x H15 ⟨L, us, rfl, hL15, hT15, hS15, hD15⟩
          refine ⟨L, rfl, ⟨_, SqL.of hL15⟩, for_list (K := K) (a := L) (xs := us)
            (fun j σ H' => ∃ v14 v16, σ = [some (.ref p), some (.ref a), some (.int (0 + (i : Nat))), some (.ref ta), some (.ref tc), some (.ref tp), v6, some (.str (bdD (3 + r) rs cs ps).shown), some (.ref O), some (.int s), v10, v11, some (.ref N), some (.ref L1), v14, some (.ref D), v16, none, none] ∧ St H' ∧ H' L = some (.lst us) ∧ TrS H' us ∧ H' D = some (.lst (ms.map fun o => V.str (oD o).shown)))
            ⟨_, _, rfl, hS15, hL15, hT15, hD15⟩ (fun j σ H' _ ⟨_, _, _, _, h, _⟩ => SqL.of h) ?_ ?_⟩
          · clear hS15 hL15 hT15 hD15
            rintro j x σ H16 hx ⟨v14, v16, rfl, hS, hL, hT, hD⟩
            obtain ⟨o, hso, T, rfl, hTo⟩ := hT x (List.mem_of_getElem? hx)
            -- value
            refine ⟨by show 1 ≤ sizeLine; decide, fun Z1 hZ1 => ⟨by show 1 ≤ sizeLine; decide, fun Y1 hY1 => ⟨.int s, rfl, ?_⟩⟩⟩
            have kZ : Kp ([] : List Addr) H16 (upd H16 Z1 (.tup [.str "stay"])) := Kp.new hZ1
            have kY : Kp ([] : List Addr) (upd H16 Z1 (.tup [.str "stay"])) (upd (upd H16 Z1 (.tup [.str "stay"])) Y1 (.tup [.ref Z1])) := Kp.new hY1
            refine rep_read (xs := [.ref Z1]) upd_same (by simp) ⟨by omega, by omega⟩ (by simp) fun q1 H17 k17 hq1 => ?_
            have kk1 := (kZ.trans kY).trans k17
            have hz1 : H17 Z1 = some (.tup [.str "stay"]) := (kY.trans k17).get (by simp) upd_same
            have hTo1 := kk1.get (by simp) hTo
            rw [show ((s : Nat) : Int).toNat = s by omega, List.flatten_replicate_singleton] at hq1
            clear kZ kY k17 hZ1 hY1
            refine ⟨.ref T, rfl, by show 1 ≤ sizeLine; decide, fun Y2 hY2 => ?_⟩
            have kY2 : Kp ([] : List Addr) H17 (upd H17 Y2 (.tup [.ref T])) := Kp.new hY2
            have hq2 := kY2.get (by simp) hq1
            refine cat_read (SqT.of hq2) (SqT.of upd_same) hq2 upd_same (by simp; omega) fun q3 H18 k18 hq3 => ?_
            have kk2 := kk1.trans (kY2.trans k18)
            have hz2 := (kY2.trans k18).get (by simp) hz1
            have hTo2 := (kY2.trans k18).get (by simp) hTo1
            clear kY2 k18 hY2 hq2 hq1 hz1 hTo1
            refine ⟨by show 1 ≤ sizeLine; decide, fun Z3 hZ3 => ⟨by show 1 ≤ sizeLine; decide, fun Y3 hY3 => ?_⟩⟩
            have kZ : Kp ([] : List Addr) H18 (upd H18 Z3 (.tup [.str "stay"])) := Kp.new hZ3
            have kY : Kp ([] : List Addr) (upd H18 Z3 (.tup [.str "stay"])) (upd (upd H18 Z3 (.tup [.str "stay"])) Y3 (.tup [.ref Z3])) := Kp.new hY3
            have hS18 := Stk hS (kk2.trans (kZ.trans kY))
            refine ⟨.ref tp, rfl, tp, xs, rfl, .inr (sameT (up hS18.2.1) hpt), .int s, rfl, (xs.length : Nat), s, rfl, rfl, _, 1, rfl, rfl, ?_⟩
            refine rep_read (xs := [.ref Z3]) upd_same (by simp) ⟨by omega, by omega⟩ (by simp) fun q4 H19 k19 hq4 => ?_
            have kk3 := kk2.trans ((kZ.trans kY).trans k19)
            have hz3 : H19 Z3 = some (.tup [.str "stay"]) := (kY.trans k19).get (by simp) upd_same
            have hz4 := ((kZ.trans kY).trans k19).get (by simp) hz2
            have hTo3 := ((kZ.trans kY).trans k19).get (by simp) hTo2
            have hq5 := ((kZ.trans kY).trans k19).get (by simp) hq3
            rw [show (((xs.length : Nat) : Int) - ((s : Nat) : Int) - 1).toNat = ps.length - s - 1 by omega, List.flatten_replicate_singleton] at hq4
            refine cat_read (SqT.of hq5) (SqT.of hq4) hq5 hq4 (by simp; omega) fun q6 H20 k20 hq6 => ?_
            have kk4 := kk3.trans k20
            have hz5 := k20.get (by simp) hz3
            have hz6 := k20.get (by simp) hz4
            have hTo4 := k20.get (by simp) hTo3
            clear kZ kY k19 k20 kk3 kk2 kk1 hZ3 hY3 hS18 hz3 hz4 hTo3 hq5 hq4 hq3 hz2 hTo2
            have hS20 := Stk hS kk4
            have hL20 := kk4.get (by simp) hL
            have hT20 := hT.keep kk4 noTup_nil
            have hD20 := kk4.get (by simp) hD
            clear hS hL hT hD kk4
            obtain ⟨ov, hov⟩ : ∃ ov, ov = List.replicate s Ord.stay ++ [o] ++ List.replicate (ps.length - s - 1) Ord.stay := ⟨_, rfl⟩
            have hP20 : Ps oV H20 (List.replicate s (.ref Z1) ++ [.ref T] ++ List.replicate (ps.length - s - 1) (.ref Z3)) ov := by
              rw [hov]
              exact ((Ps.rep (o := .stay) hz6 s).app (.cons ⟨T, rfl, hTo4⟩ .nil)).app (Ps.rep (o := .stay) hz5 _)
            have hovl : ov.length = ps.length := by
              rw [hov]
              simp
              omega
            have hovs : ov[s]? = some o := by
              rw [hov, List.append_assoc, List.getElem?_append_right (by simp)]
              simp
            have hovn : ∀ (i : Nat) (o' : Ord), i ≠ s → ov[i]? = some o' → o' = .stay := by
              intro i o' hi ho'
              rw [hov] at ho'
              by_cases h1 : i < s
              · rw [List.append_assoc, List.getElem?_append_left (by simpa using h1), List.getElem?_replicate] at ho'
                rw [if_pos h1] at ho'
                exact (Option.some.inj ho').symm
              · rw [List.getElem?_append_right (by simp; omega), List.getElem?_replicate] at ho'
                split at ho'
                · exact (Option.some.inj ho').symm
                · cases ho'
            have hstay : ∀ q : Int × Int, Ord.stay ∈ pOrds rs ps q.1 := fun q => List.mem_cons_self
            obtain ⟨n1, n2, n3, n4⟩ := nc_small hso
            have hin : inV (.str (oD o).shown) (ms.map fun x => V.str (oD x).shown) = decide (o ∈ pOrds rs ps pc.1) := by
              rw [in_shown hso hsm, hme]
            have hflat : (ms.map fun x => V.str (oD x).shown).all flatV = true := by
              rw [List.all_eq_true]
              intro x hx
              obtain ⟨y, _, rfl⟩ := List.mem_map.mp hx
              rfl
            have en : ((0 : Nat) : Int) = 0 := rfl
            refine ⟨.ref ta, rfl, .ref q6, rfl, .ref ta, 3 + r, rs, cs, ps, q6, _, ov, rfl, hv hS20, hch.few, hp24, hq6, hP20, hovl, fun H21 hall k21 => ?_, fun H21 p21 i21 o21 pc21 h1 h2 h3 hp21 k21 => ?_⟩
            · have hoin : o ∈ pOrds rs ps pc.1 := hall s o pc hovs hpc
              have hS21 := Stk hS20 k21
              obtain ⟨m1, m2, m3, m4⟩ := nc_non.shown2 (by omega) (by omega)
              refine ⟨.non, .none, rfl, .non, m1, m2, m3, m4, ?_⟩
              refine ⟨.ref T, rfl, .ref T, oD o, rfl, ord_data ⟨T, rfl, k21.get (by simp) hTo4⟩, n1, n2, n3, n4, .ref D, rfl, D, _, rfl, .inl (SqL.of (k21.get (by simp) hD20)), rfl, hflat, _, rfl, ?_⟩
              rw [hin, decide_eq_true hoin]
              refine iteT ?_
              refine ⟨.non, .none, rfl, .non, m1, m2, m3, m4, rfl, _, rfl, ?_⟩
              refine ite2 (fun h => by simp at h) (fun _ => ?_)
              exact ⟨_, _, rfl, hS21, k21.get (by simp) hL20, hT20.keep k21 noTup_nil, k21.get (by simp) hD20⟩
            · have ei : i21 = s := by
                by_cases e : i21 = s
                · exact e
                · rw [hovn i21 o21 e h1] at h3
                  exact absurd (hstay pc21) h3
              subst ei
              rw [hovs] at h1
              rw [hpc] at h2
              cases h1
              cases h2
              have hS21 := Stk hS20 k21
              obtain ⟨m1, m2, m3, m4⟩ := (Nc.tup (NcA.cons nc_order (NcA.cons (Nc.int (i := ((i21 : Nat) : Int)) (by omega) (by omega)) .nil))).shown2 (by omega) (by omega)
              refine ⟨.ref p21, _, rfl, .tup (SqT.of hp21) (.cons (.str _) (.cons (.int _) .nil)), m1, m2, m3, m4, ?_⟩
              refine ⟨.ref T, rfl, .ref T, oD o, rfl, ord_data ⟨T, rfl, k21.get (by simp) hTo4⟩, n1, n2, n3, n4, .ref D, rfl, D, _, rfl, .inl (SqL.of (k21.get (by simp) hD20)), rfl, hflat, _, rfl, ?_⟩
              rw [hin, decide_eq_false h3]
              refine iteF ?_
              refine ⟨.int i21, rfl, by show 2 ≤ sizeLine; decide, fun B hB => ?_⟩
              have kB : Kp ([] : List Addr) H21 (upd H21 B (.tup [.str "order", .int i21])) := Kp.new hB
              have k22 := k21.trans kB
              refine ⟨.ref B, _, rfl, .tup (SqT.of upd_same) (.cons (.str _) (.cons (.int _) .nil)), m1, m2, m3, m4, rfl, _, rfl, ?_⟩
              refine ite2 (fun h => by simp at h) (fun _ => ?_)
              exact ⟨_, _, rfl, Stk hS21 kB, k22.get (by simp) hL20, hT20.keep k22 noTup_nil, k22.get (by simp) hD20⟩
          · rintro σ H16 ⟨v14, v16, rfl, hS16, _⟩
            refine ⟨.ref ta, rfl, .ref ta, _, rfl, hv hS16, b1, b2, b3, b4, .str _, rfl, rfl, _, rfl, ?_⟩
            refine ite2 (fun h => by simp at h) (fun _ => ?_)
            exact ⟨_, _, _, _, _, _, _, _, _, _, _, _, _, _, _, rfl, hS16.1⟩
end
end Kt

set_option Elab.async false
set_option linter.all false
set_option maxRecDepth 100000
set_option maxHeartbeats 4000000
namespace Kt
open PySem PySem.Spec PyProof.Rows L2
/-- a def of the text stands in the law's globals -/
def Dat (K : PySem.W.Frag) (mg : Str → Option Value) (x : Str) (st : Stmt) : Prop := ∃ f fd, Fun K x x st f fd ∧ mg x = some (.ref f)
theorem dat_mk {K : PySem.W.Frag} {h : Heap} {mg : Str → Option Value} {x : Str} {st : Stmt} {f : Addr} {od an : Option Addr} {sl : Array (Option Value)} {oc kV dc pm cd ct : Value} (X : K.In h) (G : h.Ns mainGlobals mg)
    (a : PySem.W.nsIn K mainGlobals x = some (some (.ref f))) (l : K.lookup f = some ⟨oc, od, .func (PySem.W.fnOf x x (defArgs st) (defBody st) (defScope st) .none kV dc pm an cd ct), sl⟩) (c : PySem.W.codeIn K cd x = true) (k : PySem.W.keepIn K (.ref f) = true) : Dat K mg x st :=
  ⟨f, _, fun_mk (st := st) l c k, PySem.W.mg_of X G a⟩
def Free (K : PySem.W.Frag) (x : Str) : Prop := PySem.W.nsIn K mainGlobals x = some none
theorem all_mk {P : Program} {w : World} {K : PySem.W.Frag} {h : Heap} {mg : Str → Option Value} {fa : Addr} (X : K.In h) (G : h.Ns mainGlobals mg) (hfa : mg "law" = some (.ref fa))
    (d1 : Dat K mg "is_integer" sIsInt) (d2 : Dat K mg "is_tuple_of" sIsTup) (d4 : Dat K mg "near" sNear) (d6 : Dat K mg "field_of" sFieldOf) (d8 : Dat K mg "orders_error" sOrdErr) (d9 : Dat K mg "is_order" sIsOrder) (d10 : Dat K mg "orders_of" sOrdersP) (d11 : Dat K mg "_shared_goals" sShared)
    (d13 : Dat K mg "_law_deck" sDeck) (d14 : Dat K mg "_law_draw" sDraw) (d15 : Dat K mg "_law_pick" sPick) (d16 : Dat K mg "_law_mixed" sMixed) (d17 : Dat K mg "_law_beside" sBeside) (d18 : Dat K mg "_law_chart" sChart) (d19 : Dat K mg "_law_pieces" sPieces)
    (d20 : Dat K mg "_law_orders_of" sOrdersOf) (d21 : Dat K mg "_law_board" sBoard) (d22 : Dat K mg "_law_wide_board" sWide) (d23 : Dat K mg "_law_is_wide_right" sWideRight)
    {f2 : Addr} {od an : Option Addr} {sl : Array (Option Value)} {oc kV dc pm cd ct : Value}
    (a2 : PySem.W.nsIn K mainGlobals "law" = some (some (.ref f2))) (l2 : K.lookup f2 = some ⟨oc, od, .func (PySem.W.fnOf "law" "law" (defArgs sLaw) (defBody sLaw) (defScope sLaw) .none kV dc pm an cd ct), sl⟩) (c2 : PySem.W.codeIn K cd "law" = true) (k2 : PySem.W.keepIn K (.ref f2) = true)
    (z1 : PySem.W.nsIn K mainGlobals "int" = some none) (z2 : PySem.W.nsIn K mainGlobals "len" = some none) (z3 : PySem.W.nsIn K mainGlobals "list" = some none) (z4 : PySem.W.nsIn K mainGlobals "range" = some none) (z5 : PySem.W.nsIn K mainGlobals "max" = some none)
    (z6 : PySem.W.nsIn K mainGlobals "tuple" = some none) (z7 : PySem.W.nsIn K mainGlobals "sorted" = some none) (z8 : PySem.W.nsIn K mainGlobals "enumerate" = some none) (z9 : PySem.W.nsIn K mainGlobals "repr" = some none)
    (z10 : PySem.W.nsIn K mainGlobals "isinstance" = some none) (z11 : PySem.W.nsIn K mainGlobals "bool" = some none) (z12 : PySem.W.nsIn K mainGlobals "str" = some none) (z13 : PySem.W.nsIn K mainGlobals "all" = some none) :
    ∃ fd : FuncData, (∀ (s : Shared) (v : Value), BindsTo s fd ⟨[v], []⟩ [("script", v)]) ∧ ∀ base : Heap, K.In base → base.Ns mainGlobals mg → FnG P w K mg base CX0 6 fa fd ["script"] (spLaw K) := by
  have e := hfa.symm.trans (PySem.W.mg_of X G a2)
  cases e
  have mI := PySem.W.mg_none_of X G z1
  have mL := PySem.W.mg_none_of X G z2
  have mLi := PySem.W.mg_none_of X G z3
  have mR := PySem.W.mg_none_of X G z4
  have mX := PySem.W.mg_none_of X G z5
  have mT := PySem.W.mg_none_of X G z6
  have mS := PySem.W.mg_none_of X G z7
  have mE := PySem.W.mg_none_of X G z8
  have mRp := PySem.W.mg_none_of X G z9
  have mIs := PySem.W.mg_none_of X G z10
  have mB := PySem.W.mg_none_of X G z11
  have mSt := PySem.W.mg_none_of X G z12
  have mA := PySem.W.mg_none_of X G z13
  obtain ⟨f1, fd1, F1, g1⟩ := d1
  obtain ⟨f2, fd2, F2, g2⟩ := d2
  obtain ⟨f4, fd4, F4, g4⟩ := d4
  obtain ⟨f6, fd6, F6, g6⟩ := d6
  obtain ⟨f8, fd8, F8, g8⟩ := d8
  obtain ⟨f9, fd9, F9, g9⟩ := d9
  obtain ⟨f10, fd10, F10, g10⟩ := d10
  obtain ⟨f11, fd11, F11, g11⟩ := d11
  obtain ⟨f13, fd13, F13, g13⟩ := d13
  obtain ⟨f14, fd14, F14, g14⟩ := d14
  obtain ⟨f15, fd15, F15, g15⟩ := d15
  obtain ⟨f16, fd16, F16, g16⟩ := d16
  obtain ⟨f17, fd17, F17, g17⟩ := d17
  obtain ⟨f18, fd18, F18, g18⟩ := d18
  obtain ⟨f19, fd19, F19, g19⟩ := d19
  obtain ⟨f20, fd20, F20, g20⟩ := d20
  obtain ⟨f21, fd21, F21, g21⟩ := d21
  obtain ⟨f22, fd22, F22, g22⟩ := d22
  obtain ⟨f23, fd23, F23, g23⟩ := d23
  have b1 := F1.binds (ps := ["value"]) fun _ _ _ _ _ _ us hl => match us, hl with | [_], _ => rfl
  have b2 := F2.binds (ps := ["value", "many"]) fun _ _ _ _ _ _ us hl => match us, hl with | [_, _], _ => rfl
  have b4 := F4.binds (ps := ["chart", "field"]) fun _ _ _ _ _ _ us hl => match us, hl with | [_, _], _ => rfl
  have b6 := F6.binds (ps := ["board", "place"]) fun _ _ _ _ _ _ us hl => match us, hl with | [_, _], _ => rfl
  have b8 := F8.binds (ps := ["board", "value"]) fun _ _ _ _ _ _ us hl => match us, hl with | [_, _], _ => rfl
  have b9 := F9.binds (ps := ["board", "place", "value"]) fun _ _ _ _ _ _ us hl => match us, hl with | [_, _, _], _ => rfl
  have b10 := F10.binds (ps := ["board", "place"]) fun _ _ _ _ _ _ us hl => match us, hl with | [_, _], _ => rfl
  have b11 := F11.binds (ps := ["chart", "goals", "other"]) fun _ _ _ _ _ _ us hl => match us, hl with | [_, _, _], _ => rfl
  have b13 := F13.binds (ps := ["script"]) fun _ _ _ _ _ _ us hl => match us, hl with | [_], _ => rfl
  have b14 := F14.binds (ps := ["deck", "many"]) fun _ _ _ _ _ _ us hl => match us, hl with | [_, _], _ => rfl
  have b15 := F15.binds (ps := ["deck", "items"]) fun _ _ _ _ _ _ us hl => match us, hl with | [_, _], _ => rfl
  have b16 := F16.binds (ps := ["deck", "items"]) fun _ _ _ _ _ _ us hl => match us, hl with | [_, _], _ => rfl
  have b17 := F17.binds (ps := ["chart", "field"]) fun _ _ _ _ _ _ us hl => match us, hl with | [_, _], _ => rfl
  have b18 := F18.binds (ps := ["deck", "many", "more"]) fun _ _ _ _ _ _ us hl => match us, hl with | [_, _, _], _ => rfl
  have b19 := F19.binds (ps := ["deck", "chart", "many"]) fun _ _ _ _ _ _ us hl => match us, hl with | [_, _, _], _ => rfl
  have b20 := F20.binds (ps := ["board", "place"]) fun _ _ _ _ _ _ us hl => match us, hl with | [_, _], _ => rfl
  have b21 := F21.binds (ps := ["deck", "fields", "many"]) fun _ _ _ _ _ _ us hl => match us, hl with | [_, _, _], _ => rfl
  have b22 := F22.binds (ps := ["deck"]) fun _ _ _ _ _ _ us hl => match us, hl with | [_], _ => rfl
  have b23 := F23.binds (ps := ["deck"]) fun _ _ _ _ _ _ us hl => match us, hl with | [_], _ => rfl
  refine ⟨PySem.W.fnOf "law" "law" (defArgs sLaw) (defBody sLaw) (defScope sLaw) .none kV dc pm an cd ct, fun s v => .of_eq rfl, fun base _ _ => ?_⟩
  have G14 : FnOk P w K mg base CX0 1 f14 fd14 ["deck", "many"] spDraw := ok_draw F14 mI
  have G16 : FnOk P w K mg base CX0 2 f16 fd16 ["deck", "items"] (spMixed K) := ok_mixed F16 F14 b14 g14 mI mL mLi
  have G20 : FnOk P w K mg base CX0 2 f20 fd20 ["board", "place"] (spOrdersOf K) := ok_ordersOf F20 F17 b17 g17 mS
  have G18 : FnOk P w K mg base CX0 2 f18 fd18 ["deck", "many", "more"] (spChart K) := ok_chart F18 F14 b14 g14 mI mR mX mT mS
  have G19 : FnOk P w K mg base CX0 3 f19 fd19 ["deck", "chart", "many"] (spPieces K) := ok_pieces F19 F14 b14 g14 F16 b16 g16 F15 b15 g15 mI mL mLi mR mT mS
  have G21 : FnOk P w K mg base CX0 4 f21 fd21 ["deck", "fields", "many"] (spBoard K) := ok_board F21 F14 b14 g14 F18 b18 g18 G18 F19 b19 g19 G19 mI
  have G22 : FnOk P w K mg base CX0 3 f22 fd22 ["deck"] (spWide K) := ok_wide F22 F14 b14 g14 F16 b16 g16 mI mL mLi mR mT mS
  have G10 : FnOk P w K mg base CX0 3 f10 fd10 ["board", "place"] (spOrdersP K) := ok_ordersP F10 F6 b6 g6 F4 b4 g4 F11 b11 g11
  have G9 : FnOk P w K mg base CX0 4 f9 fd9 ["board", "place", "value"] (spIsOrder K) := ok_isOrder F9 F1 b1 g1 F10 b10 g10 G10 mIs mI mB mT mSt mA
  have G8 : FnOk P w K mg base CX0 5 f8 fd8 ["board", "value"] (spOrdErr K) := ok_ordErr F8 F2 b2 g2 F9 b9 g9 G9 mIs mT mL mE
  have G23 : FnG P w K mg base CX0 4 f23 fd23 ["deck"] (spRight K) := ok_right F23 F14 b14 g14 G14 F22 b22 g22 G22 F20 b20 g20 G20 F10 b10 g10 G10 mL mT mRp
  exact ok_law (fun_mk (st := sLaw) l2 c2 k2) F13 b13 g13 (ok_deck F13 mI mL) F14 b14 g14 G14 F21 b21 g21 G21 F23 b23 g23 G23 F20 b20 g20 G20 F16 b16 g16 G16 F10 b10 g10 G10 F8 b8 g8 G8 mI mL mR mT mLi mRp
end Kt
open PySem PySem.W PyProof.Rows
set_option maxHeartbeats 0 in
theorem PySem.Challenge.cw_whateverothers_k05_whole_all_orders_of_p_holds : PySem.Challenge.rw_whateverothers_k05_whole_all_orders_of_p.Holds := by
  w_on; o_law; k_head; (case hw => w_witness2)
  k_fill
  refine Kt.walk_ofG (l := PySem.Challenge.rw_whateverothers_k05_whole_all_orders_of_p) (n := 63) (k := 6) (x := "script") (sp := fun w => Kt.spLaw _) rfl (by decide) rfl ⟨rfl, by decide, by decide⟩ (fun w h Y => PySem.W.kIn_of Y) ?F (fun _ _ a ns hl _ hS => ⟨a, ns, rfl, hS, hl, fun _ => rfl⟩)
  case F =>
    intro w mg fa h KX G hmg
    refine' Kt.all_mk KX G hmg ?d1 ?d2 ?d4 ?d6 ?d8 ?d9 ?d10 ?d11 ?d13 ?d14 ?d15 ?d16 ?d17 ?d18 ?d19 ?d20 ?d21 ?d22 ?d23 ?a2 ?l2 ?c2 ?k2 ?z1 ?z2 ?z3 ?z4 ?z5 ?z6 ?z7 ?z8 ?z9 ?z10 ?z11 ?z12 ?z13
    (case d1 => refine' Kt.dat_mk KX G ?a ?l ?c ?k; (case a => k_is); (case l => k_is); (case c => k_is); (case k => k_is))
    (case d2 => refine' Kt.dat_mk KX G ?a ?l ?c ?k; (case a => k_is); (case l => k_is); (case c => k_is); (case k => k_is))
    (case d4 => refine' Kt.dat_mk KX G ?a ?l ?c ?k; (case a => k_is); (case l => k_is); (case c => k_is); (case k => k_is))
    (case d6 => refine' Kt.dat_mk KX G ?a ?l ?c ?k; (case a => k_is); (case l => k_is); (case c => k_is); (case k => k_is))
    (case d8 => refine' Kt.dat_mk KX G ?a ?l ?c ?k; (case a => k_is); (case l => k_is); (case c => k_is); (case k => k_is))
    (case d9 => refine' Kt.dat_mk KX G ?a ?l ?c ?k; (case a => k_is); (case l => k_is); (case c => k_is); (case k => k_is))
    (case d10 => refine' Kt.dat_mk KX G ?a ?l ?c ?k; (case a => k_is); (case l => k_is); (case c => k_is); (case k => k_is))
    (case d11 => refine' Kt.dat_mk KX G ?a ?l ?c ?k; (case a => k_is); (case l => k_is); (case c => k_is); (case k => k_is))
    (case d13 => refine' Kt.dat_mk KX G ?a ?l ?c ?k; (case a => k_is); (case l => k_is); (case c => k_is); (case k => k_is))
    (case d14 => refine' Kt.dat_mk KX G ?a ?l ?c ?k; (case a => k_is); (case l => k_is); (case c => k_is); (case k => k_is))
    (case d15 => refine' Kt.dat_mk KX G ?a ?l ?c ?k; (case a => k_is); (case l => k_is); (case c => k_is); (case k => k_is))
    (case d16 => refine' Kt.dat_mk KX G ?a ?l ?c ?k; (case a => k_is); (case l => k_is); (case c => k_is); (case k => k_is))
    (case d17 => refine' Kt.dat_mk KX G ?a ?l ?c ?k; (case a => k_is); (case l => k_is); (case c => k_is); (case k => k_is))
    (case d18 => refine' Kt.dat_mk KX G ?a ?l ?c ?k; (case a => k_is); (case l => k_is); (case c => k_is); (case k => k_is))
    (case d19 => refine' Kt.dat_mk KX G ?a ?l ?c ?k; (case a => k_is); (case l => k_is); (case c => k_is); (case k => k_is))
    (case d20 => refine' Kt.dat_mk KX G ?a ?l ?c ?k; (case a => k_is); (case l => k_is); (case c => k_is); (case k => k_is))
    (case d21 => refine' Kt.dat_mk KX G ?a ?l ?c ?k; (case a => k_is); (case l => k_is); (case c => k_is); (case k => k_is))
    (case d22 => refine' Kt.dat_mk KX G ?a ?l ?c ?k; (case a => k_is); (case l => k_is); (case c => k_is); (case k => k_is))
    (case d23 => refine' Kt.dat_mk KX G ?a ?l ?c ?k; (case a => k_is); (case l => k_is); (case c => k_is); (case k => k_is))
    (case a2 => k_is); (case l2 => k_is); (case c2 => k_is); (case k2 => k_is)
    (case z1 => k_is); (case z2 => k_is); (case z3 => k_is); (case z4 => k_is); (case z5 => k_is); (case z6 => k_is); (case z7 => k_is); (case z8 => k_is); (case z9 => k_is); (case z10 => k_is); (case z11 => k_is); (case z12 => k_is); (case z13 => k_is)
