import PyProof.Rows.All
import Wide.All
import OpenK.AllK
import Wide.FinOn
import HandS.Base
import HandS.Call
import HandS.List
import HandS.Comp
import HandS.Ends
import HandS.Dict
import HandS.Iter
import HandS.Words
import HandS.WordsList
import HandS.Star
import HandS.Defaults
import HandS.SortRule
import HandS.Wide
import KE.GoesEnum
import HandS.Walk
import HandS.RaiseMore
import HandS.ForMost
import HandS.SortInts
import HandS.Deep
import HandS.Conv
import HandS.Small
import HandS.Evl
import HandS.Codes
import HandS.DictComp
import HandS.SetKeys
import HandS.TupAny
import PySem.Challenge.RW_whateverothers_k09_whole_backs_that_fit
set_option Elab.async false
set_option linter.all false
set_option maxRecDepth 100000
set_option maxHeartbeats 2000000
namespace Kt
open PySem PySem.Spec PyProof.Rows L2

/-! ### what stays: all but the places of S -/
def Ob (S : List Addr) (H : Hp) : Hp := fun b => if b ∈ S then none else H b
theorem Ob.of {S : List Addr} {H : Hp} {b : Addr} {o : HO} (h : Ob S H b = some o) : b ∉ S ∧ H b = some o := by
  unfold Ob at h
  split at h
  · cases h
  · exact ⟨by assumption, h⟩
theorem Ob.mk {S : List Addr} {H : Hp} {b : Addr} {o : HO} (hn : b ∉ S) (h : H b = some o) : Ob S H b = some o := by
  unfold Ob
  rw [if_neg hn]
  exact h
theorem Ob.le (S : List Addr) (H : Hp) : Same (Ob S H) H := fun _ _ h => (Ob.of h).2
/-- all that stands outside of S is as it was -/
def Kp (S : List Addr) (H H' : Hp) : Prop := ∀ b o, b ∉ S → H b = some o → H' b = some o
theorem Kp.refl {S : List Addr} {H : Hp} : Kp S H H := fun _ _ _ h => h
theorem Kp.trans {S : List Addr} {H H1 H2 : Hp} (a : Kp S H H1) (b : Kp S H1 H2) : Kp S H H2 := fun x o n h => b x o n (a x o n h)
theorem Kp.new {S : List Addr} {H : Hp} {p : Addr} {o : HO} (hp : H p = none) : Kp S H (upd H p o) := fun b u _ h => by
  rw [upd_ne (ne_of_none h hp)]
  exact h
theorem Kp.put {S : List Addr} {H : Hp} {p : Addr} {o : HO} (hp : p ∈ S) : Kp S H (upd H p o) := fun b u n h => by
  rw [upd_ne (fun e => n (by rw [e]; exact hp))]
  exact h
theorem Kp.mono {S S' : List Addr} {H H' : Hp} (h : Kp S H H') (s : ∀ b ∈ S, b ∈ S') : Kp S' H H' := fun b o n e => h b o (fun z => n (s b z)) e
theorem Kp.drop {S : List Addr} {H H' : Hp} {l : Addr} (h : Kp (l :: S) H H') (hl : H l = none) : Kp S H H' := fun b o n e => h b o (fun z => by
  rcases List.mem_cons.mp z with z | z
  · rw [z, hl] at e
    cases e
  · exact n z) e
theorem Kp.same {S : List Addr} {H H' : Hp} (h : Kp S H H') : Same (Ob S H) (Ob S H') := fun b o e => Ob.mk (Ob.of e).1 (h b o (Ob.of e).1 (Ob.of e).2)
theorem Kp.of_same {S : List Addr} {H H' : Hp} (h : Same H H') : Kp S H H' := fun b o _ e => h b o e
theorem Kp.get {S : List Addr} {H H' : Hp} (h : Kp S H H') {b : Addr} {o : HO} (n : b ∉ S) (e : H b = some o) : H' b = some o := h b o n e

theorem sameT {K : PySem.W.Frag} {H H' : Hp} {a : Addr} {xs : List V} (e : Same H H') (h : SqT K H a xs) : SqT K H' a xs := by
  rcases h with (h | ⟨o, h⟩) | h
  · exact .inl (.inl (e _ _ h))
  · exact .inl (.inr ⟨o, e _ _ h⟩)
  · exact .inr h
mutual
theorem Dp.same {K : PySem.W.Frag} {H H' : Hp} (e : Same H H') : ∀ (d : PyData) {v : V}, Dp K H v d → Dp K H' v d
  | .none, _, h => by cases h; exact .non
  | .bool b, _, h => by cases h; exact .bl b
  | .int i, _, h => by cases h; exact .int i
  | .str x, _, h => by cases h; exact .str x
  | .list ds, _, h => by
    cases h with
    | lst hs ha => exact .lst (e.seq hs) (DpAll.same e ds ha)
  | .tuple ds, _, h => by
    cases h with
    | tup hs ha => exact .tup (sameT e hs) (DpAll.same e ds ha)
  | .dict _, _, h => by cases h
theorem DpAll.same {K : PySem.W.Frag} {H H' : Hp} (e : Same H H') : ∀ (ds : List PyData) {vs : List V}, DpAll K H vs ds → DpAll K H' vs ds
  | [], _, h => by cases h; exact .nil
  | d :: ds, _, h => by
    cases h with
    | cons h1 h2 => exact .cons (Dp.same e d h1) (DpAll.same e ds h2)
end
/-- data: read outside of S -/
def Da (K : PySem.W.Frag) (S : List Addr) (H : Hp) (v : V) (d : PyData) : Prop := Dp K (Ob S H) v d
def DaAll (K : PySem.W.Frag) (S : List Addr) (H : Hp) (vs : List V) (ds : List PyData) : Prop := DpAll K (Ob S H) vs ds
theorem Da.keep {K : PySem.W.Frag} {S : List Addr} {H H' : Hp} {v : V} {d : PyData} (h : Da K S H v d) (k : Kp S H H') : Da K S H' v d := Dp.same k.same d h
theorem DaAll.keep {K : PySem.W.Frag} {S : List Addr} {H H' : Hp} {vs : List V} {ds : List PyData} (h : DaAll K S H vs ds) (k : Kp S H H') : DaAll K S H' vs ds := DpAll.same k.same ds h
theorem Da.dp {K : PySem.W.Frag} {S : List Addr} {H : Hp} {v : V} {d : PyData} (h : Da K S H v d) : Dp K H v d := Dp.same (Ob.le S H) d h
theorem ob_sub {S S' : List Addr} {H : Hp} (h : ∀ b, b ∈ S → b ∈ S' ) : Same (Ob S' H) (Ob S H) := fun b o e => Ob.mk (fun z => (Ob.of e).1 (h b z)) (Ob.of e).2
theorem Da.less {K : PySem.W.Frag} {S S' : List Addr} {H : Hp} {v : V} {d : PyData} (h : Da K S' H v d) (s : ∀ b, b ∈ S → b ∈ S') : Da K S H v d := Dp.same (ob_sub s) d h
theorem DaAll.less {K : PySem.W.Frag} {S S' : List Addr} {H : Hp} {v : List V} {d : List PyData} (h : DaAll K S' H v d) (s : ∀ b, b ∈ S → b ∈ S') : DaAll K S H v d := DpAll.same (ob_sub s) d h
/-- an address that nothing stands at may be left out, too -/
theorem ob_free {S : List Addr} {H : Hp} {l : Addr} (hl : H l = none) : Same (Ob S H) (Ob (l :: S) H) := fun b o e => Ob.mk (fun z => by
  rcases List.mem_cons.mp z with z | z
  · have q := (Ob.of e).2
    rw [z, hl] at q
    cases q
  · exact (Ob.of e).1 z) (Ob.of e).2
theorem Da.free {K : PySem.W.Frag} {S : List Addr} {H : Hp} {l : Addr} {v : V} {d : PyData} (h : Da K S H v d) (hl : H l = none) : Da K (l :: S) H v d := Dp.same (ob_free hl) d h
theorem DaAll.free {K : PySem.W.Frag} {S : List Addr} {H : Hp} {l : Addr} {v : List V} {d : List PyData} (h : DaAll K S H v d) (hl : H l = none) : DaAll K (l :: S) H v d := DpAll.same (ob_free hl) d h
theorem Dp_all {K : PySem.W.Frag} {S : List Addr} {H : Hp} {vs : List V} {ds : List PyData} (h : DpAll K (Ob S H) vs ds) : DpAll K H vs ds := DpAll.same (Ob.le S H) ds h
end Kt

set_option Elab.async false
set_option linter.all false
set_option maxRecDepth 100000
set_option maxHeartbeats 4000000
/-! enumerate of a tuple -/
namespace Kt
section
open PySem
open Sem (wp)
open AutoSeq1 (wpAny_loadPart')
theorem meets_enumerate_newT (l : Addr) (items : Array Value) (n : Nat) (dct : Option Addr) (sl : Array (Option Value)) :
    Meets (Builtin.«enumerate.__new__» ⟨[.type "enumerate", .ref l], []⟩) (fun _ R s => s.heap.get? l = some { cls := .type "tuple", dict := dct, data := .seq items n, slots := sl } ∧
      R (.ok (.ret (.ref (s.heap.push { cls := .type "tuple_iterator", data := .fields #[.ref l, .int 0 0] }).objs.size)))
        { s with heap := (s.heap.push { cls := .type "tuple_iterator", data := .fields #[.ref l, .int 0 0] }).push { cls := .type "enumerate", data := .fields #[.none, .bool false, .ref s.heap.objs.size, rawInt 0, .none, .none] } }) :=
  .of_wp fun prog w A R s h => by
    obtain ⟨hp, g, d, tk, os⟩ := s; obtain ⟨hl, h⟩ := h
    have hsub := sub_enumerate
    have hL : Heap.IsTuple (Shared.heap ⟨hp, g, d, tk, os⟩) l items := ⟨_, hl, rfl, n, rfl⟩
    wp_walk using wpAny_loadPart' hl
    refine wpAny_stack_any fun st => wpAny_pure ?_
    split
    · rename_i c _ _ _ _ _
      cases (c == Value.type "enumerate")
      · wp_walk using wpAny_loadPart' hl, wpAny_pyIter_tuple hL
        exact ⟨_, rfl, h⟩
      · wp_walk using wpAny_loadPart' hl, wpAny_pyIter_tuple hL
        exact ⟨_, rfl, h⟩
    · wp_walk using wpAny_loadPart' hl, wpAny_pyIter_tuple hL
      exact ⟨_, rfl, h⟩
theorem call_enumerate_tuple {prog : Program} {w : World} {A : Around} {E : Value → Shared → Prop} {s : Shared} {l : Addr} {items : Array Value} {Q : Value → Shared → Prop} (hL : s.heap.IsTuple l items)
    (h : ∀ h', IsEnum h' (s.heap.objs.size + 1) s.heap.objs.size 0 .none → h'.IsTupleIter s.heap.objs.size l 0 → h'.objs.size = s.heap.objs.size + 2 →
      (∀ b o, s.heap.get? b = some o → h'.get? b = some o) → Q (.ref (s.heap.objs.size + 1)) { s with heap := h' }) :
    wpAny (model prog w) A (call (.type "enumerate") [.ref l]) Q E s := by
  obtain ⟨⟨c, dct, dt, sl⟩, hl, hc, n, hd⟩ := hL
  replace hc : c = .type "tuple" := hc
  replace hd : dt = .seq items n := hd
  subst hc hd
  refine callType_new F.called_enumerate (by decide) (F.typeCall_enumerate_1 _) (F.newCall_enumerate_1 _) (fun obj => F.args_object_init_2 obj _) F.entry_enumerate_new
    (meets_enumerate_newT l items n dct sl) ⟨hl, ?_⟩
  have hz : (s.heap.push { cls := .type "tuple_iterator", data := .fields #[.ref l, .int 0 0] }).objs.size = s.heap.objs.size + 1 := Heap.size_push ..
  show _ ∧ _
  rw [hz]
  have he : IsEnum ((s.heap.push { cls := .type "tuple_iterator", data := .fields #[.ref l, .int 0 0] }).push
      { cls := .type "enumerate", data := .fields #[.none, .bool false, .ref s.heap.objs.size, rawInt 0, .none, .none] }) (s.heap.objs.size + 1) s.heap.objs.size 0 .none := by
    have := Heap.get?_push_size (s.heap.push { cls := .type "tuple_iterator", data := .fields #[.ref l, .int 0 0] })
      (o := { cls := .type "enumerate", data := .fields #[.none, .bool false, .ref s.heap.objs.size, rawInt 0, .none, .none] }) rfl
    rw [hz] at this; exact this
  refine ⟨⟨_, he, rfl⟩, h _ he ⟨_, Heap.get?_push_of_some _ (Heap.get?_push_size _ rfl), rfl, rfl⟩ (by rw [Heap.size_push, hz]) fun b o x => Heap.get?_push_of_some _ (Heap.get?_push_of_some _ x)⟩
end
open PySem PySem.Spec PyProof.Rows L2
/-- the tuple at a, each item in a new pair -/
def Iet (K : PySem.W.Frag) (a : Addr) : It :=
  ⟨fun i H => ∃ (xs : List V) (x : V), SqT K H a xs ∧ xs[i]? = some x, fun i H v H' => ∃ T x, v = .ref T ∧ H T = none ∧ H' = upd H T (.tup [.int (i : Nat), x]) ∧ ∀ xs, SqT K H a xs → xs[i]? = some x, fun i H => ∃ xs : List V, SqT K H a xs ∧ xs.length ≤ i⟩
theorem turn_enumT {P : Program} {w : World} {K : PySem.W.Frag} {elts : List Expr} {kk : Nat} {tpos : Pos} (a e it : Addr) :
    Turn P w K (.Tuple elts kk tpos) (Iet K a) [e, it] e (fun i h => (∃ old, IsEnum h e it ((i : Nat) : Int) old) ∧ h.IsTupleIter it a i ∧ e ≠ it ∧ a ≠ e ∧ a ≠ it) where
  mem := by simp
  obj := fun i h st b hb => by
    obtain ⟨⟨old, he⟩, ⟨o, ho, hc, hd⟩, _⟩ := st
    have e' : b = e ∨ b = it := by simpa using hb
    rcases e' with z | z
    · rw [z]; exact ⟨_, he, fun v q => nomatch q⟩
    · rw [z]; exact ⟨o, ho, fun v q => by rw [hd] at q; cases q⟩
  keep := fun i h h' st k => let ⟨⟨old, he⟩, hi, hne⟩ := st; ⟨⟨old, k e (by simp) _ he⟩, hi.at fun o q => k it (by simp) o q, hne⟩
  item := by
    intro X hP hw hK hc i pins s σ H E I hf st hg
    subst hP hw hK
    obtain ⟨⟨old, he⟩, hit, hne, hae, hai⟩ := st
    obtain ⟨xs, x, hq, hx⟩ := hg
    obtain ⟨its, rv, p, hz⟩ := I.tuple hq
    obtain ⟨u, hu, ru⟩ := rv.get hx
    have hel : e < s.heap.objs.size := Heap.lt_size he
    have hil : it < s.heap.objs.size := by obtain ⟨_, q, _⟩ := hit; exact Heap.lt_size q
    have hh : X.A.in1.handled = none := I.ok.hd hc
    have hlt : i < its.toArray.size := by
      have := (List.getElem?_eq_some_iff.mp hu).1
      simpa using this
    have pT : s.heap.IsTuple a its.toArray := p
    refine wpAny_pyNext_enum_itemD (Draws.tuple hh it a hai its.toArray) he ⟨hit, pT⟩ hlt hne (by simp [hne, Ne.symm hae]) fun x' h' tk hP ho hst' hT hsz hk => ?_
    have ex : x' = u := by
      rw [List.getElem?_toArray] at hP
      exact Option.some.inj (hP.symm.trans hu)
    subst ex
    refine ⟨_, rfl, wpAny_letOwnedTupleGo_enum (s := { s with heap := h', toks := tk + 1 }) ho fun h'' he' sb => ?_⟩
    have hT2 : h''.get? s.heap.objs.size = some { cls := .type "tuple", data := .seq #[.int i tk, x'] } := (sb.2 _ (Nat.ne_of_gt hel)).trans hT
    have new : ObjOk X.prog X.w (upd H s.heap.objs.size (.tup [.int (i : Nat), x])) h'' s.heap.objs.size (.tup [.int (i : Nat), x]) :=
      ⟨by show 2 ≤ sizeLine; decide, [.int i tk, x'], .cons ⟨_, rfl⟩ (.cons ru .nil), ⟨_, hT2, rfl, _, rfl⟩⟩
    have I1 : Inv X pins σ (upd H s.heap.objs.size (.tup [.int (i : Nat), x])) { s with heap := h'', toks := tk + 1 } :=
      I.turnedNew (ch := [e, it]) (fun b ob hb q => (sb.2 b (fun z => hb (by simp [z]))).trans (hk b ob (fun z => hb (by simp [z])) (fun z => hb (by simp [z])) q)) hf (Nat.le_refl _) new
    refine ⟨.ref s.heap.objs.size, _, I1, rfl, ⟨_, x, rfl, I.hok.fresh (Nat.le_refl _), rfl, fun ys hy => by rw [I.tuple_inj hy hq]; exact hx⟩, ⟨⟨x', ?_⟩, hst'.1.at fun o q => (sb.2 it (Ne.symm hne)).trans q, hne, hae, hai⟩, fun b hb => ?_⟩
    · have e1 : ((i + 1 : Nat) : Int) = (i : Int) + 1 := by omega
      rw [e1]; exact he'
    · have hb' : b < s.heap.objs.size := by
        have e' : b = e ∨ b = it := by simpa using hb
        rcases e' with z | z
        · rw [z]; exact hel
        · rw [z]; exact hil
      rw [upd_ne (Nat.ne_of_lt hb')]
      exact (hf b hb).1
  done := by
    intro X hP hw hK hc i pins s σ H E I hf st hg
    subst hP hw hK
    obtain ⟨⟨old, he⟩, hit, hne, hae, hai⟩ := st
    obtain ⟨xs, hq, hx⟩ := hg
    obtain ⟨its, rv, p, hz⟩ := I.tuple hq
    obtain ⟨f0, f1, f2, f3, f4, f5⟩ := hf it (by simp)
    have hl := rv.length
    have hh : X.A.in1.handled = none := I.ok.hd hc
    have pT : s.heap.IsTuple a its.toArray := p
    have T : s.TypeIs (.ref e) "enumerate" := ⟨_, he, rfl⟩
    unfold pyNext
    refine wpAny_bind (wpAny_attempt (wpAny_callSpecial?_slot (name := Str.ofString "__next__") T F.slot_enumerate_next
      (wpAny_call_entry F.slot_enumerate_next T F.entry_enumerate_next ?_ (F.args_enumerate_next_1 _))))
    show wpAny _ _ (field (.ref e) 2 >>= _) _ _ _
    refine wpAny_bind (wpAny_field he rfl (x := .ref it) rfl ?_)
    refine wpAny_bind (wpAny_nextOf_tuple_end (items := its.toArray) hh hit pT (by simp; omega) fun h' x he' hx' => ?_)
    obtain ⟨o, ho, hc'⟩ := hx'
    refine wpAny_bind (wpAny_isInstance (T := "StopIteration") (b := true) ⟨o, ho, hc'⟩ isSubtype_stop ?_)
    exact wpAny_pure ⟨rfl, I.turned (t' := s.toks) (fun b o hb q => he' b o hb q) f0 f1 f3 f4 f5⟩
  self := fun A i s Q E st h => let ⟨⟨_, he⟩, _⟩ := st; wpAny_pyIter_enum he h
def iEnumT (K : PySem.W.Frag) (ta : TA) : TI := fun σ H R => ta σ H fun vs H1 => ∃ a xs, vs = [.ref a] ∧ SqT K H1 a xs ∧ R (Iet K a) H1
theorem pi_enumT {X : Cx} {e : Expr} {ta : TA} {p pos tpos : Pos} {elts : List Expr} {kk : Nat} (hg : Gl X "enumerate") (hm : X.mg "enumerate" = none) (ha : PA X [e] ta) (hs : starEach [e] X.env = [(false, eval e X.env)] := by rfl) :
    PI X (.Tuple elts kk tpos) (.Call (.Name "enumerate" p) [e] [] pos) (iEnumT X.K ta) := by
  refine ⟨fun pins s σ H R I h => ?_⟩
  refine Call_ (ld_blt I hg hm boot_enumerate (PyProof.Rows.callWith_type1 (thn (ha.run pos pins s σ H _ I h) fun us s1 ⟨vs, H1, I1, r1, q1⟩ => ?_) hs rfl))
  obtain ⟨a, xs, ex, hq, q⟩ := q1
  subst ex
  cases r1 with
  | cons r rr =>
    cases rr
    cases r
    obtain ⟨its, rv, p', hz⟩ := I1.tuple hq
    have pT : s1.heap.IsTuple a its.toArray := p'
    have hal : a < s1.heap.objs.size := by obtain ⟨_, q, _⟩ := pT; exact Heap.lt_size q
    refine call_enumerate_tuple pT fun h' he hit hsz hk => wpAny_pyIter_enum he ?_
    have I2 : Inv X pins σ H1 { s1 with heap := h' } := I1.kept (t' := s1.toks) hk
    refine ⟨s1.heap.objs.size + 1, [s1.heap.objs.size + 1, s1.heap.objs.size], _, _, H1, rfl, I2, turn_enumT a (s1.heap.objs.size + 1) s1.heap.objs.size, ⟨⟨.none, he⟩, hit, Nat.succ_ne_self _, Nat.ne_of_lt (Nat.lt_succ_of_lt hal), Nat.ne_of_lt hal⟩, fun b hb => ?_, q⟩
    have e' : b = s1.heap.objs.size + 1 ∨ b = s1.heap.objs.size := by simpa using hb
    have hle : s1.heap.objs.size ≤ b := by
      rcases e' with z | z
      · rw [z]; exact Nat.le_add_right _ _
      · rw [z]; exact Nat.le_refl _
    exact I1.fpOk hle (I1.hok.fresh hle)
theorem walk_enumT {K : PySem.W.Frag} {a : Addr} {xs : List V} : Walk (Iet K a) xs.length (fun H => SqT K H a xs) (YPair (fun i => some (.int (i : Nat))) (fun i => xs[i]?)) := by
  refine ⟨fun i H hi h => ⟨xs, xs[i], h, by simp [hi]⟩, fun H h => ⟨xs, h, Nat.le_refl _⟩, fun i H x H' hi h y => ?_⟩
  obtain ⟨T, x, rfl, hn, e, hx⟩ := y
  exact ⟨T, _, x, rfl, hn, e, rfl, hx _ h⟩
end Kt

set_option Elab.async false
set_option linter.all false
set_option maxRecDepth 100000
set_option maxHeartbeats 4000000
/-! defs that run where no repr is under way; repr of data -/
namespace Kt
open PySem PySem.Spec PyProof.Rows L2
abbrev Sl := L2.St
/-- as FnOk, of calls that happen while nothing is being shown -/
structure FnG (P : Program) (w : World) (K : PySem.W.Frag) (mg : Str → Option Value) (base : Heap) (CX : CXT) (k : Nat) (f : Addr) (fd : FuncData) (ps : List Str) (sp : Sp) : Prop where
  ar : ∀ vs H Q E, sp vs H Q E → vs.length = ps.length
  go : ∀ (A : Around), A.guards = some [] → Room k A → ∀ (fr : List Env) (s : Shared) (H : Hp), Env0 P w K mg base A fr s H → ∀ (args : Args) (us : List Value) (vs : List V), BindsTo s fd args (ps.zip us) → Vals vs us →
    ∀ (Q : VK) (E : XK), sp vs H Q E → codeAny (model P w) A (.call (.ref f) args) (CR CX fr P w H s Q E) s
section
variable {P : Program} {w : World} {K : PySem.W.Frag} {mg : Str → Option Value} {base : Heap} {CX : CXT} {k : Nat} {f : Addr} {fd : FuncData} {ps : List Str} {sp : Sp}
theorem FnG.mono {j : Nat} (F : FnG P w K mg base CX j f fd ps sp) (h : j ≤ k) : FnG P w K mg base CX k f fd ps sp :=
  ⟨F.ar, fun A g r => F.go A g (r.mono h)⟩
theorem FnG.of (F : FnOk P w K mg base CX k f fd ps sp) : FnG P w K mg base CX k f fd ps sp :=
  ⟨F.len, fun A _ r fr s H e args us vs b v Q E q => F.run A fr s H args us vs Q E r e b v q⟩
/-- what lies behind the body lies behind the call -/
theorem behind_body {N : List Str} {qual : Str} {sc : Scope} {cd : Value} {A : Around} {fr : List Env} {s s' : Shared} {H : Hp} {Q : VK} {E : XK} {fl : Flow}
    (h : SP (cxOf CX P w K mg base N qual sc f cd A fr s H E) [] { nx := fun _ H' => Q .non H', rt := Q } fl s') : CR CX fr P w H s Q E (.ok (match fl with | .next => .ret .none | o => o)) s' := by
  cases fl with
  | ret u => exact let ⟨v, _, H', J, rv, q⟩ := h; ⟨v, H', J.os, J.bare, J.base, J.hok, rv, q⟩
  | next => exact let ⟨_, H', J, q⟩ := h; ⟨.non, H', J.os, J.bare, J.base, J.hok, rfl, q⟩
  | brk => exact (let ⟨_, _, _, q⟩ := h; q : False).elim
  | cont => exact (let ⟨_, _, _, q⟩ := h; q : False).elim
end
/-- a def of the text, by its body, at such calls -/
theorem okG {P : Program} {w : World} {K : PySem.W.Frag} {mg : Str → Option Value} {base : Heap} {x qual : Str} {st : Stmt} {f : Addr} {fd : FuncData} {N ps : List Str} {k : Nat} {sp : Sp} (F : Fun K x qual st f fd) (S : FnScope N ps (defScope st))
    (ar : ∀ vs H Q E, sp vs H Q E → vs.length = ps.length)
    (body : ∀ (cdv : Value) (A : Around) (fr : List Env) (s : Shared) (H : Hp) (vs : List V) (Q : VK) (E : XK), (A.deeper (envOfC qual (defScope st) s.heap.objs.size f cdv)).guards = some [] → Room k (A.deeper (envOfC qual (defScope st) s.heap.objs.size f cdv)) → sp vs H Q E →
      ∃ t, PSs (cxOf CX0 P w K mg base N qual (defScope st) f cdv A fr s H E).nox (defBody st) t ∧ t { nx := fun _ H' => Q .non H', rt := Q } (start N vs) H) : FnG P w K mg base CX0 (k + 1) f fd ps sp := by
  obtain ⟨_, _, _, _, _, _, cdv, _, _, rfl, hl, hc⟩ := F.ex
  refine ⟨ar, fun A hg hr fr s H e args us vs hb hv Q E hsp => ?_⟩
  have old : ∀ b o, base.get? b = some o → s.heap.get? b = some o := fun b o q => (e.bs b o q).1
  have kin := e.mod.kin.keeps old
  refine codeAny_call_function (hr.depth) (kin _ _ hl) rfl (S.co) (S.gen) rfl (PySem.W.codeRec_of kin hc) (hb _ _ _ _ (wpAny_newFunctionEnv_cells S.kind ?_ ?_))
  · rintro ⟨n, v⟩ hy
    refine (S.par n (List.of_mem_zip hy).1).imp id fun q => ⟨q, PySem.W.cellsFrom_some _ _ _ (.inl q)⟩
  · rintro env rfl s1 x1
    refine ⟨(e.mod.nolimit.keeps old).keeps x1.toInCall.keep, codeAny_func ?_⟩
    obtain ⟨t, ht, hq⟩ := body cdv A fr s H vs Q E hg (hr.deeper _) hsp
    refine wpAny_mono (ht.nox.run [] s1 _ H _ (inv_start S hr.hd e (ar _ _ _ _ hsp) hv x1) hq) (fun fl s' hs => ?_) fun _ _ hs => hs
    have z := behind_body hs
    cases fl with
    | ret u => exact z
    | next => exact z
    | brk => exact False.elim z
    | cont => exact False.elim z
section
variable {X : Cx} {CX : CXT} {k : Nat} {f : Addr} {fd : FuncData} {ps ks : List Str} {sp : Sp} {E : XK} {x : Str} {p pos : Pos} {e : Expr} {es : List Expr} {t tk : TA} {kws : List Keyword}
/-- the callee runs, its arguments bound in any way -/
theorem run_G {pins : List (Addr × Obj)} {σ : Sl} {H : Hp} {s : Shared} {Q : VK} {args : Args} {us : List Value} {vs : List V} (F : FnG X.prog X.w X.K X.mg X.base CX k f fd ps sp) (hgd : X.A.guards = some []) (hr : Room k X.A) (hx : Passes CX X E)
    (I : Inv X pins σ H s) (hb : BindsTo s fd args (ps.zip us)) (r : Vals vs us) (h : sp vs H Q E) : codeAny (model X.prog X.w) X.A (.call (.ref f) args) (fun r s' => match r with
      | .ok (.ret u) => EP X pins σ Q u s'
      | .ok _ => False
      | .error e => X.xe e s') s :=
  codeAny_mono (F.go X.A hgd hr X.stack s H I.env0 args us vs hb r Q E h) fun r s' hq => match r, hq with
    | .error e, hq => hx pins σ H s e s' I hq
    | .ok (.ret _), hq => I.after hq
/-- f(a, ..), f a def of the module, no defaults -/
theorem pe_callG (F : FnG X.prog X.w X.K X.mg X.base CX k f fd ps sp) (hgd : X.A.guards = some []) (hr : Room k X.A) (hg : Gl X x) (hm : X.mg x = some (.ref f)) (hk : PySem.W.keepIn X.K (.ref f) = true) (hb : Binds X.K fd ps []) (hx : Passes CX X E)
    (ha : PA X (e :: es) t) (hdb : (x == ("__debug__" : Str)) = false := by decide) (he : starEach (e :: es) X.env = (false, eval e X.env) :: starEach es X.env := by rfl) (hpl : (backTo pos (starEach es X.env)).any (·.1) = false := by rfl) :
    PE X (.Call (.Name x p) (e :: es) [] pos) (fun σ H Q => t σ H fun vs H1 => sp vs H1 Q E) :=
  ⟨fun pins s σ H Q I h => wpAny_Call_Name_kw (ld_glob I hg hm (PySem.W.callWith_K (h₀ := X.base) I.mod.kin hk (thn (ha.run pos pins s σ H _ I h) fun us s1 ⟨vs, H1, I1, r, q⟩ => ⟨I1.kIn, by
    have hl : (us ++ []).length = ps.length := by
      rw [List.append_nil, ← r.length]
      exact F.ar _ _ _ _ q
    have hbd := hb s1 us I1.kIn hl
    rw [List.append_nil] at hbd
    refine wpAny_call (codeAny_mono (run_G F hgd hr hx I1 hbd r q) fun r' s' hq => ?_)
    cases r' with
    | error e => exact hq
    | ok fl => cases fl <;> exact hq⟩) he hpl) hdb)⟩
/-- a list's or tuple's repr, and any data's -/
def rRepr (K : PySem.W.Frag) : List V → Hp → VK → Prop := fun vs H Q => ∃ v d, vs = [v] ∧ Dp K H v d ∧ d.showable = true ∧ d.hasDict = false ∧ d.shown.length ≤ sizeLine ∧ d.depth ≤ 60 ∧ Q (.str d.shown) H
theorem cr_repr (hgd : X.A.guards = some []) (hu : X.A.units + 64 < cLine) : CallR X (.builtin "repr") (rRepr X.K) := by
  intro pins s σ H xs us Q I r h
  obtain ⟨v, d, rfl, hd, hs, hnd, hsz, hdp, q⟩ := h
  obtain ⟨u, rfl, ru⟩ := vals1 r
  obtain ⟨as, rd⟩ := Dp.reads I d v u hd ru
  have big : ∀ a, u = .ref a → wpAny (model X.prog X.w) X.A (call (.builtin "repr") [u]) (EP X pins σ Q) X.xe s := fun a e => by
    subst e
    exact repr_of_reads' rd hs (PyData.noDict_hsm hnd) hgd (by omega) (fun _ _ e => e) (fun h' t tk hk => ⟨.str d.shown, H, I.kept hk, ⟨t, rfl⟩, q⟩) hsz
  cases hd with
  | non =>
    obtain rfl : u = Value.none := ru
    rw [PyData.shown_none] at q
    exact PySem.P.repr_of_none ⟨.str _, H, I.tok _, ⟨_, rfl⟩, q⟩
  | bl b =>
    obtain rfl : u = Value.bool b := ru
    rw [PyData.shown_bool] at q
    exact PySem.P.repr_of_bool ⟨.str _, H, I.tok _, ⟨_, rfl⟩, q⟩
  | int i =>
    obtain ⟨t, rfl⟩ := ru
    rw [PyData.shown_int] at q
    exact PySem.P.repr_of_int (by simpa [PyData.showable] using hs) ⟨.str _, H, I.tok _, ⟨_, rfl⟩, q⟩
  | str x =>
    obtain ⟨t, rfl⟩ := ru
    rw [PyData.shown_str] at q hsz
    exact PySem.P.repr_of_str ⟨.str _, H, I.tok _, ⟨_, rfl⟩, q⟩ hsz
  | lst _ _ => exact big _ ru
  | tup _ _ => exact big _ ru
end
/-! ### the end: the script's place, and nothing else, is tracked -/
section
variable {K : PySem.W.Frag} {h : Heap} {a b : Addr} {vs : List Value} {ns : List Int}
abbrev scriptObj (vs : List Value) : Obj := { cls := .type "list", data := .seq vs.toArray }
open Classical in
noncomputable def only1 (K : PySem.W.Frag) (a : Addr) (vs : List Value) (ns : List Int) : Hp := fun b => if b = a ∧ K.lookup a = none then some (.frz (scriptObj vs) (.lst (ns.map V.int))) else none
theorem only1_some {u : HO} (q : only1 K a vs ns b = some u) : b = a ∧ K.lookup a = none ∧ u = .frz (scriptObj vs) (.lst (ns.map V.int)) := by
  unfold only1 at q
  split at q
  · rename_i z
    exact ⟨z.1, z.2, (Option.some.inj q).symm⟩
  · cases q
theorem only1_other (q : ¬ (b = a ∧ K.lookup a = none)) : only1 K a vs ns b = none := by
  unfold only1
  rw [if_neg q]
theorem only1_at (q : K.lookup a = none) : only1 K a vs ns a = some (.frz (scriptObj vs) (.lst (ns.map V.int))) := by
  unfold only1
  rw [if_pos ⟨rfl, q⟩]
theorem only1_only : Only (only1 K a vs ns) := fun b => by
  cases q : only1 K a vs ns b with
  | none => exact .inl rfl
  | some u => exact .inr ⟨_, _, by rw [(only1_some q).2.2]⟩
theorem only1_list (KX : K.In h) (ha : h.get? a = some (scriptObj vs)) (hi : IntsAre vs ns) (hl : ns.length ≤ sizeLine) : SqL K (only1 K a vs ns) a (ns.map V.int) := by
  cases q : K.lookup a with
  | none => exact .inl (.inr ⟨_, only1_at q⟩)
  | some o =>
    obtain rfl : scriptObj vs = o := Option.some.inj (ha.symm.trans (KX a o q))
    exact .inr ⟨_, vs.toArray, _, q, rfl, rfl, rfl, by rw [List.size_toArray, hi.length]; exact hl, by simpa using vals_ints hi⟩
theorem only1_held {P : Program} {w : World} (ha : h.get? a = some (scriptObj vs)) (hi : IntsAre vs ns) (hl : ns.length ≤ sizeLine) : HOk P w (only1 K a vs ns) h := fun b u q => by
  obtain ⟨rfl, _, rfl⟩ := only1_some q
  exact ⟨ha, by rw [List.length_map]; exact hl, vs, _, vals_ints hi, ha⟩
/-- the heap without the script, where it is tracked: what is no list stays -/
theorem only1_rest {o : Obj} (q : h.get? b = some o) (ha : h.get? a = some (scriptObj vs)) (n : o ≠ scriptObj vs) : (hidT h (only1 K a vs ns)).get? b = some o :=
  hidT_get q (only1_other fun z => n (by rw [z.1, ha] at q; exact (Option.some.inj q).symm))
theorem only1_ns {m : Str → Option Value} (q : h.Ns b m) (ha : h.get? a = some (scriptObj vs)) : (hidT h (only1 K a vs ns)).Ns b m := by
  obtain ⟨o, es, ep, e, d, r⟩ := q
  exact ⟨o, es, ep, only1_rest e ha (fun z => by rw [z] at d; exact nomatch (d : Data.seq vs.toArray _ = Data.dict es ep)), d, r⟩
theorem only1_kin (KX : K.In h) : K.In (hidT h (only1 K a vs ns)) := fun b o e => hidT_get (KX b o e) (only1_other fun z => by rw [z.1, z.2] at e; cases e)
end
theorem walk_ofG {l : PySem.W.OpenLaw} {n k : Nat} {q : Program} {loose : List Str} {XP : (Str → Option Value) → Heap → Prop} {YP : World → Heap → Prop} {d : DefRec} {K : Params → PySem.W.Frag} {sp : World → Sp} {x : Str}
    (hn : l.most = some n) (hn2 : n ≤ sizeLine) (hdf : d.params.defaults = []) (hr : Room k callerA)
    (hY : ∀ (w : World) (h : Heap), YP w h → (K w.params).In h)
    (F : ∀ (w : World) (mg : Str → Option Value) (fa : Addr) (h : Heap), (K w.params).In h → h.Ns mainGlobals mg → mg d.name = some (.ref fa) →
      ∃ fd : FuncData, (∀ (s : Shared) (u : Value), BindsTo s fd ⟨[u], []⟩ [(x, u)]) ∧
        ∀ base : Heap, (K w.params).In base → base.Ns mainGlobals mg → FnG l.prog w (K w.params) mg base CX0 k fa fd [x] (sp w))
    (hsp : ∀ (w : World) (H : Hp) (a : Addr) (ns : List Int), ns.length ≤ n → Only H → SqL (K w.params) H a (ns.map V.int) → sp w [.ref a] H (fun v _ => v = .bl true) fun _ _ _ => False) :
    PySem.W.WalkO q loose XP YP l.row.toRowW d [] (fun f vs => PySem.call f vs) := by
  refine Att.attach_call hn hdf fun w s₀ s mg mb fa o pm cd doc a vs ns G Y ho hd hcd hmg ha hi hlen hg => ?_
  have KX := hY w _ Y
  have hz : ns.length ≤ sizeLine := Nat.le_trans hlen hn2
  obtain ⟨fd, hb, hF⟩ := F w mg fa _ KX G.T.g hmg
  obtain ⟨mc, hc1, hc2⟩ := G.T.nolimit
  have hM : Mod (K w.params) mg (hidT s.heap (only1 (K w.params) a vs ns)) := ⟨only1_kin KX, only1_ns G.T.g ha, ⟨mb, only1_ns G.T.b ha, G.T.builtins⟩, ⟨mc, only1_ns hc1 ha, hc2⟩⟩
  have e0 : Env0 l.prog w (K w.params) mg (hidT s.heap (only1 (K w.params) a vs ns)) callerA [] s (only1 (K w.params) a vs ns) :=
    ⟨rfl, hM, fun _ _ => of_hidT, Nat.le_of_eq (hidT_size _ _), trivial, fun _ z => (List.not_mem_nil z).elim, only1_held ha hi hz, .of_eq hg⟩
  have R := (hF _ hM.kin hM.glob).go callerA rfl hr [] s _ e0 ⟨[.ref a], []⟩ [.ref a] [.ref a] (hb s (.ref a)) (.cons rfl .nil) _ _ (hsp w _ a ns hlen only1_only (only1_list KX ha hi hz))
  refine codeAny_mono R fun r s' z => ?_
  cases r with
  | error e => exact False.elim z
  | ok fl =>
    cases fl with
    | next => exact False.elim z
    | brk => exact False.elim z
    | cont => exact False.elim z
    | ret u =>
      obtain ⟨v, H', os, bare, un, hok, rv, rfl⟩ := z
      obtain rfl : u = Value.bool true := rv
      refine ⟨rfl, OldK.of_keep fun b o e => ?_, os, bare⟩
      cases q : only1 (K w.params) a vs ns b with
      | none => exact un.keep b o e q (List.not_mem_nil) (List.not_mem_nil)
      | some u =>
        obtain ⟨rfl, _, rfl⟩ := only1_some q
        rw [ha] at e
        cases e
        exact (hok _ _ (un.frzs _ _ _ q)).1
end Kt

set_option Elab.async false
set_option linter.all false
set_option maxRecDepth 100000
set_option maxHeartbeats 4000000
/-! the deck of draws -/
namespace Kt
open PySem PySem.Spec PyProof.Rows L2
/-- the deck at a, its great numbers' list at c -/
def DeckAt (H : Hp) (a c : Addr) : Prop := ∃ (cells : List Int) (s n : Int), H a = some (.lst [.ref c, .int s, .int n]) ∧ H c = some (.lst (cells.map V.int)) ∧ a ≠ c
theorem DeckAt.new {H : Hp} {a c p : Addr} {o : HO} (h : DeckAt H a c) (hp : H p = none) : DeckAt (upd H p o) a c := by
  obtain ⟨cs, s, n, h1, h2, h3⟩ := h
  exact ⟨cs, s, n, by rw [upd_ne (ne_of_none h1 hp)]; exact h1, by rw [upd_ne (ne_of_none h2 hp)]; exact h2, h3⟩
theorem DeckAt.put {H : Hp} {a c p : Addr} {o : HO} (h : DeckAt H a c) (h1 : p ≠ a) (h2 : p ≠ c) : DeckAt (upd H p o) a c := by
  obtain ⟨cs, s, n, e1, e2, e3⟩ := h
  exact ⟨cs, s, n, by rw [upd_ne h1.symm]; exact e1, by rw [upd_ne h2.symm]; exact e2, e3⟩
theorem DeckAt.keep {H H' : Hp} {a c : Addr} {S : List Addr} (h : DeckAt H a c) (k : Kp S H H') (na : a ∉ S) (nc : c ∉ S) : DeckAt H' a c := by
  obtain ⟨cs, s, n, e1, e2, e3⟩ := h
  exact ⟨cs, s, n, k.get na e1, k.get nc e2, e3⟩
theorem DeckAt.some {H : Hp} {a c : Addr} (h : DeckAt H a c) : ∃ o u, H a = some o ∧ H c = some u ∧ a ≠ c := let ⟨_, _, _, e1, e2, e3⟩ := h; ⟨_, _, e1, e2, e3⟩
theorem DeckAt.ne {H : Hp} {a c p : Addr} (h : DeckAt H a c) (hp : H p = none) : p ≠ a ∧ p ≠ c := by
  obtain ⟨cs, s, n, e1, e2, e3⟩ := h
  exact ⟨(ne_of_none e1 hp).symm, (ne_of_none e2 hp).symm⟩
def spDraw : Sp := fun vs H Q _ => ∃ (a c : Addr) (many : Int), vs = [.ref a, .int many] ∧ DeckAt H a c ∧ 0 < many ∧ many < 1073741824 ∧ ∀ (H' : Hp) (r : Int), 0 ≤ r → r < many → DeckAt H' a c → Kp [a, c] H H' → Q (.int r) H'

theorem at0 {α : Type} {x : α} {r : List α} : atI (x :: r) 0 = some x := atI_nat (j := 0) rfl
theorem at1 {α : Type} {x y : α} {r : List α} : atI (x :: y :: r) 1 = some y := atI_nat (j := 1) rfl
theorem at2 {α : Type} {x y z : α} {r : List α} : atI (x :: y :: z :: r) 2 = some z := atI_nat (j := 2) rfl
theorem ix0 {n : Nat} (h : 0 < n) : ixN n 0 = some 0 := by
  unfold ixN
  rw [if_pos (Int.le_refl 0), if_pos (by omega)]
  rfl
theorem ix2 : ixN 3 2 = some 2 := by decide
theorem seq0 {n : Nat} (h : 0 < n) : seqIndex? 0 n = some 0 := (ixN_seq (ix0 h)).1
theorem small {n : Nat} (h : n ≤ 1000) : n ≤ sizeLine := Nat.le_trans h (by decide)
section
variable {X : Cx}
/-- xs[i] of a list; of a tuple -/
theorem kl {a b : Expr} {ta tb : TE} {pos : Pos} (ha : PE X a ta) (hb : PE X b tb) (hs : PlainIx b := by exact fun _ _ => rfl) : PE X (.Subscript a b pos) (tOp (rIxL X.K) ta tb) := pe_ix ix_list ha hb hs
theorem kt {a b : Expr} {ta tb : TE} {pos : Pos} (ha : PE X a ta) (hb : PE X b tb) (hs : PlainIx b := by exact fun _ _ => rfl) : PE X (.Subscript a b pos) (tOp (rIxT X.K) ta tb) := pe_ix ix_tup ha hb hs
end
theorem dp_ints {K : PySem.W.Frag} {H : Hp} : ∀ (ns : List Int), DpAll K H (ns.map V.int) (ns.map PyData.int)
  | [] => .nil
  | n :: ns => .cons (.int n) (dp_ints ns)
theorem canLay_ints : ∀ ns : List Int, PyData.canLayAll0 (ns.map PyData.int) = true
  | [] => by simp [PyData.canLayAll0]
  | n :: ns => by simp [PyData.canLayAll0, PyData.canLay0, canLay_ints ns]
theorem depth_ints : ∀ ns : List Int, PyData.depthAll (ns.map PyData.int) ≤ 1
  | [] => by simp [PyData.depthAll]
  | n :: ns => by
    have := depth_ints ns
    simp only [List.map_cons, PyData.depthAll, PyData.depth]
    omega
theorem shaped_of {d : PyData} (h1 : d.canLay0 = true) (h2 : d.depth ≤ 64) : SeqAt.shaped d = true := by
  unfold SeqAt.shaped
  rw [h1, decide_eq_true h2]
  rfl
theorem shaped_ints (ns : List Int) : SeqAt.shaped (.list (ns.map PyData.int)) = true := by
  refine shaped_of (by simp [PyData.canLay0, canLay_ints]) ?_
  have := depth_ints ns
  simp only [PyData.depth]
  omega
theorem eqv_nil (ns : List PyData) : PyData.eqv (.list ns) (.list []) = ns.isEmpty := by
  cases ns <;> simp [PyData.eqv, PyData.eqvAll]
/-- a comprehension without an if -/
theorem yesGo {σ : Sl} {H : Hp} {X Y : Hp → Prop} (h : X H) : tYes σ H (fun b H3 => if b = true then X H3 else Y H3) := by
  show (if true = true then X H else Y H)
  rw [if_pos rfl]
  exact h
/-! the same where one stands within a comprehension: the written part is told -/
section
variable {X : Cx} {a b : Expr} {ta tb : TE} {pos : Pos}
theorem klK (K : PySem.W.Frag) (ha : PE X a ta) (hb : PE X b tb) (hK : X.K = K := by rfl) (hs : PlainIx b := by exact fun _ _ => rfl) : PE X (.Subscript a b pos) (tOp (rIxL K) ta tb) := by
  subst hK
  exact pe_ix ix_list ha hb hs
theorem ktK (K : PySem.W.Frag) (ha : PE X a ta) (hb : PE X b tb) (hK : X.K = K := by rfl) (hs : PlainIx b := by exact fun _ _ => rfl) : PE X (.Subscript a b pos) (tOp (rIxT K) ta tb) := by
  subst hK
  exact pe_ix ix_tup ha hb hs
theorem op_inK (K : PySem.W.Frag) (hK : X.K = K := by rfl) : OpR X (compareOp .In) (rIn K false) := by
  subst hK
  exact op_in_seq
theorem op_notInK (K : PySem.W.Frag) (hK : X.K = K := by rfl) : OpR X (compareOp .NotIn) (rIn K true) := by
  subst hK
  exact op_notIn_seq
theorem op_eqK (K : PySem.W.Frag) (hu : X.A.units + 64 < cLine) (hK : X.K = K := by rfl) : OpR X (compareOp .Eq) (rEqD K) := by
  subst hK
  exact op_eqD hu
theorem op_neK (K : PySem.W.Frag) (hu : X.A.units + 64 < cLine) (hK : X.K = K := by rfl) : OpR X (compareOp .NotEq) (rNeD K) := by
  subst hK
  exact op_neD hu
end
end Kt

namespace Kt
open PySem PySem.Spec PyProof.Rows L2
def topS (i : Nat) : Stmt := PySem.Challenge.pw_whateverothers_k09_whole_backs_that_fit.main.body.getD i (.Pass ⟨0, 0, 0, 0⟩)
abbrev s_wall : Stmt := topS 0
abbrev s_is_fit : Stmt := topS 2
abbrev s_cls_Clash : Stmt := topS 3
abbrev sFits : Stmt := topS 5
abbrev sDeck : Stmt := topS 7
abbrev sDraw : Stmt := topS 8
abbrev sPick : Stmt := topS 9
abbrev sMixed : Stmt := topS 10
abbrev sBeside : Stmt := topS 11
abbrev sChart : Stmt := topS 12
abbrev sPieces : Stmt := topS 13
abbrev sOrdersOf : Stmt := topS 14
abbrev sGos : Stmt := topS 15
abbrev sOrders : Stmt := topS 16
abbrev sBoard : Stmt := topS 17
abbrev sBackFits : Stmt := topS 18
abbrev sLaw : Stmt := topS 19
end Kt

set_option Elab.async false
set_option linter.all false
set_option maxRecDepth 100000
set_option maxHeartbeats 4000000
namespace Kt
open PySem PySem.Spec PyProof.Rows L2
section
variable {P : Program} {w : World} {K : PySem.W.Frag} {mg : Str → Option Value} {base : Heap}
theorem scDraw : FnScope ["deck", "many", "cell", "mixed"] ["deck", "many"] (defScope sDraw) := ⟨rfl, rfl, rfl, by decide +kernel, rfl, by decide +kernel, by decide +kernel⟩
theorem ok_draw {f : Addr} {fd : FuncData} (F : Fun K "_law_draw" "_law_draw" sDraw f fd) (mI : mg "int" = none) : FnOk P w K mg base CX0 1 f fd ["deck", "many"] spDraw := by
  refine F.ok scDraw (fun vs H Q E h => ?_) (fun cdv A outer s H vs Q E hr h => ?_)
  · obtain ⟨a, c, m, rfl, _⟩ := h
    rfl
  · obtain ⟨a, c, m, rfl, ⟨cells, st, n, h1, h2, nac⟩, hm0, hm1, k⟩ := h
    refine ⟨_, pss_cons (ps_if (pt_cmpR (op_neD hr.units) (kl (pv 0) pe_int) (pe_lst pa_nil) (nomark _))
        (pss_cons (ps_set (i := 2) scDraw.nd rfl (.inl rfl) (kl (kl (pv 0) pe_int) pe_int))
        (pss_cons (ps_asg (pe_op op_fdiv (pv 2) (pv 1)) (pg_sub (kl (pv 0) pe_int) pe_int set_list))
        (pss_cons (ps_if (pt_cmpR op_lt (pv 2) (pv 1) (nomark _)) (pss_one (ps_expr (pe_bm PySem.F.plainAttrs_list PySem.F.slot_list_pop PySem.F.type_list_pop mt_popAt (kl (pv 0) pe_int) (pa_cons pe_int pa_nil)))) pss_nil)
        (pss_one (ps_ret (pe_op op_mod (pe_callTy call_int1 (by rfl) mI PyProof.Rows.boot_int (pa_cons (pv 2) pa_nil)) (pv 1))))))) pss_nil)
      (pss_cons (ps_asg (pe_op op_add (kl (pv 0) pe_int) pe_int) (pg_sub (pv 0) pe_int set_list))
      (pss_cons (ps_set (i := 3) scDraw.nd rfl (.inl rfl) (pe_op op_mod (pe_callTy call_int1 (by rfl) mI PyProof.Rows.boot_int (pa_cons (pe_op op_add (kl (pv 0) pe_int) (pe_op op_mul pe_int (kl (pv 0) pe_int))) pa_nil)) pe_int))
      (pss_cons (ps_set (i := 3) scDraw.nd rfl (.inl rfl) (pe_op op_mod (pe_callTy call_int1 (by rfl) mI PyProof.Rows.boot_int (pa_cons (pe_op op_add (pe_op op_add (pe_op op_mul (pv 3) (pv 3)) (pe_op op_mul pe_int (kl (pv 0) pe_int))) pe_int) pa_nil)) pe_int))
      (pss_cons (ps_set (i := 3) scDraw.nd rfl (.inl rfl) (pe_op op_mod (pe_callTy call_int1 (by rfl) mI PyProof.Rows.boot_int (pa_cons (pe_op op_add (pe_op op_mul (pv 3) (pv 3)) (kl (pv 0) pe_int)) pa_nil)) pe_int))
      (pss_one (ps_ret (pe_op op_mod (pe_callTy call_int1 (by rfl) mI PyProof.Rows.boot_int (pa_cons (pe_op op_fdiv (pv 3) pe_int) pa_nil)) (pv 1)))))))), ?_⟩
    refine ⟨.ref a, rfl, a, _, 0, _, rfl, rfl, SqL.of h1, at0, Nat.zero_le _, fun e he => ?_⟩
    have ne1 := ne_of_none h1 he
    have ne2 := ne_of_none h2 he
    have h1' : (upd H e (.lst [])) a = some (.lst [.ref c, .int st, .int n]) := by rw [upd_ne ne1]; exact h1
    have h2' : (upd H e (.lst [])) c = some (.lst (cells.map V.int)) := by rw [upd_ne ne2]; exact h2
    have k0 : Kp [a, c] H (upd H e (.lst [])) := Kp.new he
    refine ⟨_, _, .lst (SqL.of h2') (dp_ints cells), .lst (SqL.of upd_same) .nil, shaped_ints cells, shaped_ints [], _, rfl, ?_⟩
    generalize upd H e (.lst []) = H1 at h1' h2' k0
    rw [eqv_nil]
    cases cells with
    | nil =>
      refine iteF ?_
      -- deck[2] = deck[2] + 1
      refine ⟨.ref a, rfl, a, _, 2, _, rfl, rfl, SqL.of h1', at2, n, 1, rfl, rfl, .ref a, rfl, a, _, 2, 2, rfl, rfl, h1', ix2, ?_⟩
      have h1n : (upd H1 a (.lst [.ref c, .int st, .int (n + 1)])) a = some (.lst [.ref c, .int st, .int (n + 1)]) := upd_same
      have k1 : Kp [a, c] H (upd H1 a (.lst [.ref c, .int st, .int (n + 1)])) := k0.trans (Kp.put (by simp))
      have h2n : (upd H1 a (.lst [.ref c, .int st, .int (n + 1)])) c = some (.lst []) := by rw [upd_ne nac.symm]; exact h2'
      show tSeq _ _ _ _ (upd H1 a (.lst [.ref c, .int st, .int (n + 1)]))
      generalize upd H1 a (.lst [.ref c, .int st, .int (n + 1)]) = H2 at h1n h2n k1
      refine ⟨.ref a, rfl, a, _, 1, _, rfl, rfl, SqL.of h1n, at1, .ref a, rfl, a, _, 2, _, rfl, rfl, SqL.of h1n, at2, _, _, rfl, rfl, .inl ⟨by decide, by decide⟩, _, _, rfl, rfl, .inl ⟨_, rfl, _, _, rfl, rfl, (by show (0 : Int) < 4294967291; decide), ?_⟩⟩
      generalize hx : (st + 2654435761 * (n + 1)) % 4294967291 = x
      have hx0 : 0 ≤ x ∧ x < 4294967291 := by omega
      refine ⟨_, rfl, _, rfl, _, _, rfl, rfl, .inl ⟨by omega, by omega⟩, .ref a, rfl, a, _, 2, _, rfl, rfl, SqL.of h1n, at2, _, _, rfl, rfl, .inl ⟨by decide, by decide⟩, _, _, rfl, rfl, _, _, rfl, rfl, .inl ⟨_, rfl, _, _, rfl, rfl, (by show (0 : Int) < 4294967279; decide), ?_⟩⟩
      generalize hy : (x * x + 40503 * (n + 1) + 11) % 4294967279 = y
      have hy0 : 0 ≤ y ∧ y < 4294967279 := by omega
      refine ⟨_, rfl, _, rfl, _, _, rfl, rfl, .inl ⟨by omega, by omega⟩, .ref a, rfl, a, _, 1, _, rfl, rfl, SqL.of h1n, at1, _, _, rfl, rfl, .inl ⟨_, rfl, _, _, rfl, rfl, (by show (0 : Int) < 4294967231; decide), ?_⟩⟩
      refine ⟨_, rfl, _, _, rfl, rfl, ⟨by decide, by decide⟩, .inl ⟨_, rfl, .int m, rfl, _, _, rfl, rfl, hm0, ?_⟩⟩
      exact k H2 _ (Int.emod_nonneg _ (by omega)) (Int.emod_lt_of_pos _ hm0) ⟨[], st, n + 1, h1n, h2n, nac⟩ k1
    | cons x cells =>
      refine iteT ?_
      -- cell = deck[0][0]
      refine ⟨.ref a, rfl, a, _, 0, _, rfl, rfl, SqL.of h1', at0, c, _, 0, _, rfl, rfl, SqL.of h2', at0, ?_⟩
      -- deck[0][0] = cell // many
      refine ⟨_, rfl, _, rfl, _, _, rfl, rfl, ⟨hm0, hm1⟩, .ref a, rfl, a, _, 0, _, rfl, rfl, SqL.of h1', at0, c, _, 0, 0, rfl, rfl, h2', ix0 (by simp), ?_⟩
      have e3 : ((x :: cells).map V.int).set 0 (.int (x / m)) = (x / m :: cells).map V.int := rfl
      rw [e3]
      have h1n : (upd H1 c (.lst ((x / m :: cells).map V.int))) a = some (.lst [.ref c, .int st, .int n]) := by rw [upd_ne nac]; exact h1'
      have h2n : (upd H1 c (.lst ((x / m :: cells).map V.int))) c = some (.lst ((x / m :: cells).map V.int)) := upd_same
      have k1 : Kp [a, c] H (upd H1 c (.lst ((x / m :: cells).map V.int))) := k0.trans (Kp.put (by simp))
      generalize upd H1 c (.lst ((x / m :: cells).map V.int)) = H2 at h1n h2n k1
      -- if cell < many
      refine ⟨_, rfl, _, rfl, _, _, rfl, rfl, _, rfl, ite2 (fun _ => ?_) (fun _ => ?_)⟩
      · refine ⟨.ref a, rfl, a, _, 0, _, rfl, rfl, SqL.of h1n, at0, .inl ⟨rfl, _, SqL.of h2n⟩, c, _, 0, 0, _, rfl, rfl, h2n, by decide, by decide, seq0 (by simp), rfl, ?_⟩
        refine ⟨_, rfl, .inl ⟨_, rfl, .int m, rfl, _, _, rfl, rfl, hm0, ?_⟩⟩
        refine k _ _ (Int.emod_nonneg _ (by omega)) (Int.emod_lt_of_pos _ hm0) ⟨cells, st, n, by rw [upd_ne nac]; exact h1n, upd_same, nac⟩ (k1.trans (Kp.put (by simp)))
      · refine ⟨_, rfl, .inl ⟨_, rfl, .int m, rfl, _, _, rfl, rfl, hm0, ?_⟩⟩
        exact k _ _ (Int.emod_nonneg _ (by omega)) (Int.emod_lt_of_pos _ hm0) ⟨_, st, n, h1n, h2n, nac⟩ k1
end
end Kt

set_option Elab.async false
set_option linter.all false
set_option maxRecDepth 100000
set_option maxHeartbeats 4000000
namespace Kt
open PySem PySem.Spec PyProof.Rows L2
theorem map_ints_get {ns : List Int} {i : Nat} {y : V} (h : (ns.map V.int)[i]? = some y) : ∃ n, ns[i]? = some n ∧ y = .int n := by
  rw [List.getElem?_map] at h
  cases e : ns[i]? with
  | none => rw [e] at h; cases h
  | some n => rw [e] at h; exact ⟨n, rfl, (Option.some.inj h).symm⟩
theorem cutV_ints (ns : List Int) (lo hi : Option Int) : ∃ ms : List Int, cutV (ns.map V.int) lo hi = ms.map V.int ∧ ms.length ≤ ns.length := by
  refine ⟨(ns.drop (HT.sIx (ns.map V.int).length 0 lo)).take (HT.sIx (ns.map V.int).length (ns.map V.int).length hi - HT.sIx (ns.map V.int).length 0 lo), ?_, ?_⟩
  · unfold cutV
    rw [List.map_take, List.map_drop]
  · rw [List.length_take, List.length_drop]
    omega
theorem kz_seq {H H' : Hp} (h : Kp [] H H') : Same H H' := fun b o e => h b o (by simp) e
def spDeck (K : PySem.W.Frag) : Sp := fun vs H Q _ => ∃ (p : Addr) (ns : List Int), vs = [.ref p] ∧ SqL K H p (ns.map V.int) ∧ ns.length ≤ 63 ∧ ∀ (H' : Hp) (a c : Addr), DeckAt H' a c → Kp [] H H' → H a = none → H c = none → Q (.ref a) H'
section
variable {P : Program} {w : World} {K : PySem.W.Frag} {mg : Str → Option Value} {base : Heap}
theorem scDeck : FnScope ["script", "cell", "cells", "stirred"] ["script"] (defScope sDeck) := ⟨rfl, rfl, rfl, by decide +kernel, rfl, by decide +kernel, by decide +kernel⟩
theorem ok_deck {f : Addr} {fd : FuncData} (F : Fun K "_law_deck" "_law_deck" sDeck f fd) (mI : mg "int" = none) (mL : mg "len" = none) : FnOk P w K mg base CX0 1 f fd ["script"] (spDeck K) := by
  refine F.ok scDeck (fun vs H Q E h => ?_) (fun cdv A outer s H vs Q E hr h => ?_)
  · obtain ⟨p, ns, rfl, _⟩ := h
    rfl
  · obtain ⟨p, ns, rfl, hp, hlen, k⟩ := h
    refine ⟨_, pss_cons (ps_par (i := 2) (j := 3) rfl scDeck.nd rfl rfl (by decide) rfl rfl
        (pa_cons (pe_lc (own := [("cell", 1)]) (g := gName 1) rfl scDeck.nd (pi_list (pe_slice sl_list (pv 0) po_none (po_some pe_int))) (blkOk_by (own := [("cell", 1)]) (N := ["script", "cell", "cells", "stirred"]) (sc := defScope sDeck) (by decide +kernel))
            (fun _ _ _ _ _ => pg_name (i := 1) scDeck.nd rfl (.inl rfl)) (fun _ _ _ _ _ => pts_nil)
            (fun _ _ _ _ _ => pe_ifExp (pt_cmpR op_ge (pv 1) pe_int (nomark _)) (pe_op op_mul pe_int (pv 1)) (pe_op op_sub (pe_op op_mul (pe_un un_neg pe_int) (pv 1)) pe_int)))
          (pa_cons (pe_op op_add pe_int (pe_callB call_len_seq (by rfl) mL PySem.boot_len (pa_cons (pv 0) pa_nil))) pa_nil)) (by rfl))
      (pss_cons (ps_for PassesOwn.never rfl (pi_list (pv 2)) (pg_name (i := 1) scDeck.nd rfl (.inl rfl))
        (pss_one (ps_set (i := 3) scDeck.nd rfl (.inl rfl) (pe_op op_mod (pe_callTy call_int1 (by rfl) mI PyProof.Rows.boot_int (pa_cons (pe_op op_add (pe_op op_mul (pv 3) pe_int) (pv 1)) pa_nil)) pe_int))))
      (pss_one (ps_ret (pe_lst (pa_cons (pe_lc (own := [("cell", 1)]) (g := gName 1) rfl scDeck.nd (pi_list (pv 2)) (blkOk_by (own := [("cell", 1)]) (N := ["script", "cell", "cells", "stirred"]) (sc := defScope sDeck) (by decide +kernel))
            (fun _ _ _ _ _ => pg_name (i := 1) scDeck.nd rfl (.inl rfl)) (fun _ _ _ _ _ => pts_one (pt_cmpR op_ge (pv 1) (pe_op op_pow pe_int pe_int) (nomark _)))
            (fun _ _ _ _ _ => pv 1)) (pa_cons (pv 3) (pa_cons pe_int pa_nil))))))), ?_⟩
    obtain ⟨ms, ems, hms⟩ := cutV_ints ns none (some 63)
    refine ⟨.ref p, rfl, 63, rfl, p, _, rfl, hp, fun z hz => ?_⟩
    rw [ems]
    have kz : Kp [] H (upd H z (.lst (ms.map V.int))) := Kp.new hz
    have hz1 : (upd H z (.lst (ms.map V.int))) z = some (.lst (ms.map V.int)) := upd_same
    generalize upd H z (.lst (ms.map V.int)) = H0 at kz hz1
    refine ⟨z, rfl, ⟨_, SqL.of hz1⟩, fun D hD => ?_⟩
    have nzD : z ≠ D := ne_of_none hz1 hD
    have hDH : H D = none := by
      cases e : H D with
      | none => rfl
      | some o => exact absurd (kz _ _ (by simp) e) (by rw [hD]; simp)
    refine lc_list (K := K) (a := z) (xs := ms.map V.int) (fun i H' => ∃ ls : List Int, H' D = some (.lst (ls.map V.int)) ∧ ls.length ≤ i ∧ H' z = some (.lst (ms.map V.int)) ∧ Kp [] H H')
      ⟨[], upd_same, Nat.zero_le _, by rw [upd_ne nzD]; exact hz1, kz.trans (Kp.new hD)⟩ (fun i H' _ ⟨_, _, _, e, _⟩ => SqL.of e) ?_ ?_
    · rintro i x H' hx ⟨ls, e1, e2, e3, e4⟩
      obtain ⟨n, hn, rfl⟩ := map_ints_get hx
      have hi : i < ms.length := (List.getElem?_eq_some_iff.mp hn).1
      have fin : ∀ y : Int, ∃ acc, H' D = some (.lst acc) ∧ acc.length < sizeLine ∧ ∃ ls : List Int, (upd H' D (.lst (acc ++ [.int y]))) D = some (.lst (ls.map V.int)) ∧ ls.length ≤ i + 1 ∧ (upd H' D (.lst (acc ++ [.int y]))) z = some (.lst (ms.map V.int)) ∧ Kp [] H (upd H' D (.lst (acc ++ [.int y]))) := fun y => by
        refine ⟨_, e1, ?_, ls ++ [y], ?_, ?_, ?_, ?_⟩
        · rw [List.length_map]
          exact small1000 (by omega)
        · rw [upd_same, List.map_append]
          rfl
        · rw [List.length_append]
          simpa using e2
        · rw [upd_ne nzD]
          exact e3
        · exact (e4.mono (S' := [D]) (by simp)).trans (Kp.put (by simp)) |>.drop hDH
      refine ⟨rfl, yesGo ?_⟩
      refine ⟨_, rfl, _, _, rfl, rfl, _, rfl, ite2 (fun _ => ?_) (fun _ => ?_)⟩
      · exact ⟨_, rfl, _, _, rfl, rfl, .inl ⟨by decide, by decide⟩, fin _⟩
      · exact ⟨_, rfl, _, rfl, _, _, rfl, rfl, .inl ⟨by decide, by decide⟩, _, _, rfl, rfl, fin _⟩
    · rintro H' ⟨ls, e1, e2, e3, e4⟩
      rw [List.length_map] at e2
      -- 48009 + len(script); cells, stirred
      refine ⟨.ref p, rfl, p, _, rfl, .inl ((kz_seq e4).seq hp), _, _, rfl, rfl, _, _, rfl, ?_⟩
      -- for cell in cells
      refine ⟨_, rfl, D, rfl, ⟨_, SqL.of e1⟩, for_list (K := K) (a := D) (xs := ls.map V.int) (fun i σ H2 => H2 = H' ∧ ∃ (v : Option V) (st : Int), σ = [some (.ref p), v, some (.ref D), some (.int st)])
        ⟨rfl, _, _, rfl⟩ (fun i σ H2 _ ⟨e, _⟩ => by rw [e]; exact SqL.of e1) ?_ ?_⟩
      · rintro i y σ H2 hy ⟨rfl, v, st, rfl⟩
        obtain ⟨n, hn, rfl⟩ := map_ints_get hy
        refine ⟨_, rfl, _, _, rfl, rfl, .inr ⟨by decide, by decide⟩, _, rfl, _, _, rfl, rfl, .inl ⟨_, rfl, _, _, rfl, rfl, (by show (0 : Int) < 4294967291; decide), ?_⟩⟩
        exact ⟨rfl, _, _, rfl⟩
      · rintro σ H2 ⟨rfl, v, st, rfl⟩
        -- return [[..], stirred, 0]
        refine ⟨_, rfl, D, rfl, ⟨_, SqL.of e1⟩, fun C hC => ?_⟩
        have nDC : D ≠ C := ne_of_none e1 hC
        have hCH : H C = none := by
          cases e : H C with
          | none => rfl
          | some o => exact absurd (e4 _ _ (by simp) e) (by rw [hC]; simp)
        refine lc_list (K := K) (a := D) (xs := ls.map V.int) (fun i H3 => ∃ cs : List Int, H3 C = some (.lst (cs.map V.int)) ∧ cs.length ≤ i ∧ H3 D = some (.lst (ls.map V.int)) ∧ Kp [] H H3)
          ⟨[], upd_same, Nat.zero_le _, by rw [upd_ne nDC]; exact e1, e4.trans (Kp.new hC)⟩ (fun i H3 _ ⟨_, _, _, e, _⟩ => SqL.of e) ?_ ?_
        · rintro i x H3 hx ⟨cs, f1, f2, f3, f4⟩
          obtain ⟨n, hn, rfl⟩ := map_ints_get hx
          have hi : i < ls.length := (List.getElem?_eq_some_iff.mp hn).1
          refine ⟨rfl, _, rfl, _, _, rfl, rfl, ⟨by decide, by decide, by decide⟩, _, _, rfl, rfl, _, rfl, ite2 (fun _ => ?_) (fun _ => ?_)⟩
          · refine ⟨_, rfl, _, f1, ?_, cs ++ [n], ?_, ?_, ?_, ?_⟩
            · rw [List.length_map]
              exact small1000 (by omega)
            · rw [upd_same, List.map_append]
              rfl
            · rw [List.length_append]
              simpa using f2
            · rw [upd_ne nDC]
              exact f3
            · exact (f4.mono (S' := [C]) (by simp)).trans (Kp.put (by simp)) |>.drop hCH
          · exact ⟨cs, f1, Nat.le_succ_of_le f2, f3, f4⟩
        · rintro H3 ⟨cs, f1, f2, f3, f4⟩
          refine ⟨_, rfl, by show 3 ≤ sizeLine; decide, fun a ha => ?_⟩
          have nCa : C ≠ a := ne_of_none f1 ha
          have haH : H a = none := by
            cases e : H a with
            | none => rfl
            | some o => exact absurd (f4 _ _ (by simp) e) (by rw [ha]; simp)
          exact k _ a C ⟨cs, st, 0, upd_same, by rw [upd_ne nCa]; exact f1, nCa.symm⟩ (f4.trans (Kp.new ha)) haH hCH
end
end Kt

set_option Elab.async false
set_option linter.all false
set_option maxRecDepth 100000
set_option maxHeartbeats 4000000
namespace Kt
open PySem PySem.Spec PyProof.Rows L2
theorem erase_perm {α : Type} : ∀ (l : List α) (i : Nat) (h : i < l.length), (l[i] :: l.eraseIdx i).Perm l
  | x :: l, 0, _ => List.Perm.refl _
  | x :: l, i + 1, h => (List.Perm.swap x _ _).trans (List.Perm.cons x (erase_perm l i (Nat.lt_of_succ_lt_succ h)))
/-- some data that may be compared -/
def Sh (K : PySem.W.Frag) (H : Hp) (x : V) : Prop := ∃ d, Dp K H x d ∧ d.canLay0 = true ∧ d.depth ≤ 60
theorem Sh.same {K : PySem.W.Frag} {H H' : Hp} {x : V} (h : Sh K H x) (e : Same H H') : Sh K H' x := let ⟨d, h1, h2, h3⟩ := h; ⟨d, Dp.same e d h1, h2, h3⟩
theorem sh_all {K : PySem.W.Frag} {H : Hp} : ∀ {xs : List V}, (∀ x ∈ xs, Sh K H x) → ∃ ds, DpAll K H xs ds ∧ PyData.canLayAll0 ds = true ∧ PyData.depthAll ds ≤ 60 ∧ ds.isEmpty = xs.isEmpty
  | [], _ => ⟨[], .nil, by simp [PyData.canLayAll0], by simp [PyData.depthAll], rfl⟩
  | x :: xs, h => by
    obtain ⟨d, h1, h2, h3⟩ := h x List.mem_cons_self
    obtain ⟨ds, g1, g2, g3, _⟩ := sh_all (xs := xs) fun y hy => h y (List.mem_cons_of_mem _ hy)
    exact ⟨d :: ds, .cons h1 g1, by simp [PyData.canLayAll0, h2, g2], by simp only [PyData.depthAll]; omega, rfl⟩
/-- xs != [] -/
theorem ne_nil {K : PySem.W.Frag} {H : Hp} {p q : Addr} {xs : List V} {Q : VK} (hp : SqL K H p xs) (hx : ∀ x ∈ xs, Sh K H x) (hq : H q = some (.lst [])) (k : Q (.bl (!xs.isEmpty)) H) : rNeD K (.ref p) (.ref q) H Q := by
  obtain ⟨ds, g1, g2, g3, g4⟩ := sh_all hx
  refine ⟨_, _, .lst hp g1, .lst (SqL.of hq) .nil, shaped_of (by simpa [PyData.canLay0] using g2) (by simp only [PyData.depth]; omega), shaped_of (by simp [PyData.canLay0, PyData.canLayAll0]) (by simp [PyData.depth, PyData.depthAll]), ?_⟩
  rw [eqv_nil, g4]
  exact k
def spPick (K : PySem.W.Frag) : Sp := fun vs H Q _ => ∃ (a c l : Addr) (xs : List V), vs = [.ref a, .ref l] ∧ DeckAt H a c ∧ l ≠ a ∧ l ≠ c ∧ SqL K H l xs ∧ xs ≠ [] ∧ xs.length ≤ 100000 ∧
  ∀ (H' : Hp) (x : V), x ∈ xs → DeckAt H' a c → Kp [a, c] H H' → Q x H'
def spMixed (K : PySem.W.Frag) : Sp := fun vs H Q _ => ∃ (a c l : Addr) (xs : List V), vs = [.ref a, .ref l] ∧ DeckAt H a c ∧ (SqL K H l xs ∨ SqT K H l xs) ∧ xs.length ≤ 100000 ∧ (∀ x ∈ xs, Sh K (Ob [a, c] H) x) ∧
  ∀ (H' : Hp) (p : Addr) (ys : List V), ys.Perm xs → H p = none → H' p = some (.lst ys) → DeckAt H' a c → Kp [a, c] H H' → Q (.ref p) H'
section
variable {P : Program} {w : World} {K : PySem.W.Frag} {mg : Str → Option Value} {base : Heap}
theorem scPick : FnScope ["deck", "items"] ["deck", "items"] (defScope sPick) := ⟨rfl, rfl, rfl, by decide +kernel, rfl, by decide +kernel, by decide +kernel⟩
theorem mg_lst {H H' : Hp} {a c l : Addr} {xs : List V} (h : SqL K H l xs) (k : Kp [a, c] H H') (h1 : l ≠ a) (h2 : l ≠ c) : SqL K H' l xs := by
  rcases h with (h | ⟨o, h⟩) | h
  · exact .inl (.inl (k.get (by simp [h1, h2]) h))
  · exact .inl (.inr ⟨o, k.get (by simp [h1, h2]) h⟩)
  · exact .inr h
theorem ok_pick {f fD : Addr} {fd fdD : FuncData} (F : Fun K "_law_pick" "_law_pick" sPick f fd) (FD : Fun K "_law_draw" "_law_draw" sDraw fD fdD) (bD : Binds K fdD ["deck", "many"] []) (gD : mg "_law_draw" = some (.ref fD)) (mI : mg "int" = none) (mL : mg "len" = none) :
    FnOk P w K mg base CX0 2 f fd ["deck", "items"] (spPick K) := by
  have GD : FnOk P w K mg base CX0 1 fD fdD ["deck", "many"] spDraw := ok_draw FD mI
  refine F.ok scPick (fun vs H Q E h => ?_) (fun cdv A outer s H vs Q E hr h => ?_)
  · obtain ⟨a, c, l, xs, rfl, _⟩ := h
    rfl
  · obtain ⟨a, c, l, xs, rfl, hD, n1, n2, hl, hne, hlen, k⟩ := h
    refine ⟨_, pss_one (ps_ret (kl (pv 1) (pe_call GD hr (by rfl) gD FD.kp bD .nil pass0 (pa_cons (pv 0) (pa_cons (pe_callB call_len_seq (by rfl) mL PySem.boot_len (pa_cons (pv 1) pa_nil)) pa_nil))) (fun _ _ => rfl))), ?_⟩
    have hpos : 0 < xs.length := by
      cases xs with
      | nil => exact absurd rfl hne
      | cons x r => simp
    refine ⟨.ref l, rfl, .ref a, rfl, .ref l, rfl, l, _, rfl, .inl hl, a, c, _, rfl, hD, by omega, by omega, fun H' r r0 r1 hD' k' => ?_⟩
    have hi : r.toNat < xs.length := by omega
    have e : xs[r.toNat]? = some xs[r.toNat] := List.getElem?_eq_getElem hi
    exact ⟨l, xs, r, xs[r.toNat], rfl, rfl, mg_lst hl k' n1 n2, at_of (j := r.toNat) (by omega) e, k H' _ (List.getElem_mem hi) hD' k'⟩
theorem scMixed : FnScope ["deck", "items", "rest", "got"] ["deck", "items"] (defScope sMixed) := ⟨rfl, rfl, rfl, by decide +kernel, rfl, by decide +kernel, by decide +kernel⟩
theorem ok_mixed {f fD : Addr} {fd fdD : FuncData} (F : Fun K "_law_mixed" "_law_mixed" sMixed f fd) (FD : Fun K "_law_draw" "_law_draw" sDraw fD fdD) (bD : Binds K fdD ["deck", "many"] []) (gD : mg "_law_draw" = some (.ref fD)) (mI : mg "int" = none) (mL : mg "len" = none) (mT : mg "list" = none) :
    FnOk P w K mg base CX0 2 f fd ["deck", "items"] (spMixed K) := by
  have GD : FnOk P w K mg base CX0 1 fD fdD ["deck", "many"] spDraw := ok_draw FD mI
  refine F.ok scMixed (fun vs H Q E h => ?_) (fun cdv A outer s H vs Q E hr h => ?_)
  · obtain ⟨a, c, l, xs, rfl, _⟩ := h
    rfl
  · obtain ⟨a, c, l, xs, rfl, hD, hl, hlen, hsh, k⟩ := h
    refine ⟨_, pss_cons (ps_par (i := 2) (j := 3) rfl scMixed.nd rfl rfl (by decide) rfl rfl (pa_cons (pe_callTy call_list_of (by rfl) mT PyProof.Rows.boot_list (pa_cons (pv 1) pa_nil)) (pa_cons (pe_lst pa_nil) pa_nil)) (by rfl))
      (pss_cons (ps_while PassesOwn.never (pt_cmpR (op_neD hr.units) (pv 2) (pe_lst pa_nil) (nomark _))
        (pss_one (ps_expr (pe_bm PySem.F.plainAttrs_list PySem.F.slot_list_append PySem.F.type_list_append mt_append (pv 3)
          (pa_cons (pe_bm PySem.F.plainAttrs_list PySem.F.slot_list_pop PySem.F.type_list_pop mt_popAt (pv 2) (pa_cons (pe_call GD hr (by rfl) gD FD.kp bD .nil pass0 (pa_cons (pv 0) (pa_cons (pe_callB call_len_seq (by rfl) mL PySem.boot_len (pa_cons (pv 2) pa_nil)) pa_nil))) pa_nil)) pa_nil)))))
      (pss_one (ps_ret (pv 3)))), ?_⟩
    have na := fun {p : Addr} (hp : H p = none) => hD.ne hp
    refine ⟨.ref l, rfl, l, xs, rfl, hl, fun r hr0 => ⟨Nat.zero_le _, fun g hg0 => ?_⟩⟩
    obtain ⟨ra, rc⟩ := na hr0
    have hg : H g = none := by
      by_cases e : g = r
      · rw [e]; exact hr0
      · rw [upd_ne e] at hg0; exact hg0
    have rg : r ≠ g := fun e => by rw [← e, upd_same] at hg0; cases hg0
    obtain ⟨ga, gc⟩ := na hg
    have back : ∀ H', Kp [r, g, a, c] H H' → Kp [a, c] H H' := fun H' z => Kp.drop (Kp.drop z hr0) hg
    refine ⟨_, _, rfl, fun m σ H' => ∃ rs gs, m = rs.length ∧ σ = [some (.ref a), some (.ref l), some (.ref r), some (.ref g)] ∧ (gs ++ rs).Perm xs ∧ H' r = some (.lst rs) ∧ H' g = some (.lst gs) ∧ DeckAt H' a c ∧ Kp [r, g, a, c] H H',
      ⟨_, xs, [], rfl, rfl, List.Perm.refl _, by rw [upd_ne rg, upd_same], upd_same, (hD.new hr0).new hg0, (Kp.new hr0).trans (Kp.new hg0)⟩, ?_⟩
    rintro m σ H' ⟨rs, gs, rfl, rfl, hp, h1, h2, hD', kk⟩
    refine ⟨.ref r, rfl, Nat.zero_le _, fun e he => ?_⟩
    have kE : Kp [r, g, a, c] H (upd H' e (.lst [])) := kk.trans (Kp.new he)
    have h1e : (upd H' e (.lst [])) r = some (.lst rs) := by rw [upd_ne (ne_of_none h1 he)]; exact h1
    have h2e : (upd H' e (.lst [])) g = some (.lst gs) := by rw [upd_ne (ne_of_none h2 he)]; exact h2
    have hDe : DeckAt (upd H' e (.lst [])) a c := hD'.new he
    refine ne_nil (SqL.of h1e) (fun x hx => ((hsh x (hp.mem_iff.mp (List.mem_append_right _ hx))).same (back _ kE).same).same (Ob.le _ _)) upd_same ⟨_, rfl, ?_⟩
    generalize upd H' e (.lst []) = H1 at kE h1e h2e hDe
    have hlen2 : gs.length + rs.length = xs.length := by rw [← List.length_append]; exact hp.length_eq
    cases rs with
    | nil =>
      refine iteF ⟨.ref g, rfl, ?_⟩
      rw [List.append_nil] at hp
      exact k H1 g gs hp hg h2e hDe (back _ kE)
    | cons x rs =>
      refine iteT ⟨fun σ' H2 => ∃ rs1 gs1, rs1.length = rs.length ∧ σ' = [some (.ref a), some (.ref l), some (.ref r), some (.ref g)] ∧ (gs1 ++ rs1).Perm xs ∧ H2 r = some (.lst rs1) ∧ H2 g = some (.lst gs1) ∧ DeckAt H2 a c ∧ Kp [r, g, a, c] H H2, ?_, ?_⟩
      · rintro σ' H2 ⟨rs1, gs1, e1, e2, e3⟩
        exact ⟨rs1.length, by rw [e1]; simp, rs1, gs1, rfl, e2, e3⟩
      · refine ⟨.ref g, rfl, .inl ⟨rfl, _, SqL.of h2e⟩, .ref r, rfl, .inl ⟨rfl, _, SqL.of h1e⟩, .ref a, rfl, .ref r, rfl, r, _, rfl, .inl (SqL.of h1e), a, c, _, rfl, hDe, by simp, by simp at hlen2 ⊢; omega, fun H2 i i0 i1 hD2 k2 => ?_⟩
        have hi : i.toNat < (x :: rs).length := by omega
        have h1n : H2 r = some (.lst (x :: rs)) := k2.get (by simp [ra, rc]) h1e
        have h2n : H2 g = some (.lst gs) := k2.get (by simp [ga, gc]) h2e
        have e := List.getElem?_eq_getElem hi
        refine ⟨r, _, i, i.toNat, _, rfl, rfl, h1n, by omega, by simp at i1 hlen2; omega, ?_, e, ?_⟩
        · have q := (ixN_seq (n := (x :: rs).length) (i := i) (j := i.toNat) (by unfold ixN; rw [if_pos i0, if_pos i1])).1
          exact q
        · refine ⟨g, _, _, rfl, rfl, by rw [upd_ne rg.symm]; exact h2n, Nat.lt_of_le_of_lt (show gs.length ≤ 100000 by omega) (by decide), ?_⟩
          refine ⟨(x :: rs).eraseIdx i.toNat, gs ++ [(x :: rs)[i.toNat]], by rw [List.length_eraseIdx_of_lt hi]; simp, rfl, ?_, by rw [upd_ne rg, upd_same], upd_same, (hD2.put ra rc).put ga gc, ((kE.trans (k2.mono (fun b h => List.mem_cons_of_mem _ (List.mem_cons_of_mem _ h)))).trans (Kp.put (by simp))).trans (Kp.put (by simp))⟩
          rw [List.append_assoc]
          exact (List.Perm.append_left gs (erase_perm _ _ hi)).trans hp
end
end Kt

set_option Elab.async false
set_option linter.all false
set_option maxRecDepth 100000
set_option maxHeartbeats 4000000
namespace Kt
open PySem PySem.Spec PyProof.Rows L2
/-! data, read back -/
section
variable {K : PySem.W.Frag} {H : Hp}
theorem tup_inv {v : V} {ds : List PyData} (h : Dp K H v (.tuple ds)) : ∃ a xs, v = .ref a ∧ SqT K H a xs ∧ DpAll K H xs ds := by
  cases h with
  | tup h1 h2 => exact ⟨_, _, rfl, h1, h2⟩
theorem lst_inv {v : V} {ds : List PyData} (h : Dp K H v (.list ds)) : ∃ a xs, v = .ref a ∧ SqL K H a xs ∧ DpAll K H xs ds := by
  cases h with
  | lst h1 h2 => exact ⟨_, _, rfl, h1, h2⟩
theorem int_inv {v : V} {i : Int} (h : Dp K H v (.int i)) : v = .int i := by cases h; rfl
theorem str_inv {v : V} {i : Str} (h : Dp K H v (.str i)) : v = .str i := by cases h; rfl
theorem all_len : ∀ {xs : List V} {ds : List PyData}, DpAll K H xs ds → xs.length = ds.length
  | _, _, .nil => rfl
  | _, _, .cons _ h => by rw [List.length_cons, List.length_cons, all_len h]
theorem all_get : ∀ {xs : List V} {ds : List PyData} {i : Nat} {x : V}, DpAll K H xs ds → xs[i]? = some x → ∃ d, ds[i]? = some d ∧ Dp K H x d
  | _, _, i, x, .nil, h => by simp at h
  | _, _, 0, x, .cons h1 _, h => by
    have e := Option.some.inj h
    subst e
    exact ⟨_, rfl, h1⟩
  | _, _, i + 1, x, .cons _ h2, h => all_get (i := i) h2 h
theorem all_at : ∀ {xs : List V} {ds : List PyData} {i : Nat} {d : PyData}, DpAll K H xs ds → ds[i]? = some d → ∃ x, xs[i]? = some x ∧ Dp K H x d
  | _, _, i, x, .nil, h => by simp at h
  | _, _, 0, x, .cons h1 _, h => by
    have e := Option.some.inj h
    subst e
    exact ⟨_, rfl, h1⟩
  | _, _, i + 1, x, .cons _ h2, h => all_at (i := i) h2 h
theorem all_ints : ∀ {xs : List V} {ns : List Int}, DpAll K H xs (ns.map PyData.int) → xs = ns.map V.int
  | _, [], h => by cases h; rfl
  | _, n :: ns, h => by
    cases h with
    | cons h1 h2 => rw [int_inv h1, all_ints h2]; rfl
theorem all_app : ∀ {xs ys : List V} {ds es : List PyData}, DpAll K H xs ds → DpAll K H ys es → DpAll K H (xs ++ ys) (ds ++ es)
  | _, _, _, _, .nil, h => h
  | _, _, _, _, .cons a b, h => .cons a (all_app b h)
theorem all_mem : ∀ {xs : List V} {ds : List PyData} {x : V}, DpAll K H xs ds → x ∈ xs → ∃ d ∈ ds, Dp K H x d := fun {xs ds x} h hx => by
  obtain ⟨i, hi⟩ := List.mem_iff_getElem?.mp hx
  obtain ⟨d, e, q⟩ := all_get h hi
  exact ⟨d, List.mem_of_getElem? e, q⟩
end
/-- a pair of ints -/
def pD (r : Int × Int) : PyData := .tuple [.int r.1, .int r.2]
theorem pair_inv {K : PySem.W.Frag} {H : Hp} {v : V} {r : Int × Int} (h : Dp K H v (pD r)) : ∃ t, v = .ref t ∧ SqT K H t [.int r.1, .int r.2] := by
  obtain ⟨a, xs, rfl, hs, ha⟩ := tup_inv h
  cases ha with
  | cons h1 h2 =>
    cases h2 with
    | cons h3 h4 =>
      cases h4
      rw [int_inv h1, int_inv h3] at hs
      exact ⟨a, rfl, hs⟩
/-- a chart: many, roads, centres -/
def chD (n : Int) (rs : List (Int × Int)) (cs : List Int) : PyData := .tuple [.int n, .tuple (rs.map pD), .tuple (cs.map .int)]
theorem chart_inv {K : PySem.W.Frag} {H : Hp} {v : V} {n : Int} {rs : List (Int × Int)} {cs : List Int} (h : Dp K H v (chD n rs cs)) :
    ∃ a t u, v = .ref a ∧ SqT K H a [.int n, .ref t, .ref u] ∧ Dp K H (.ref t) (.tuple (rs.map pD)) ∧ Dp K H (.ref u) (.tuple (cs.map .int)) := by
  obtain ⟨a, xs, rfl, hs, ha⟩ := tup_inv h
  cases ha with
  | cons h1 h2 =>
    cases h2 with
    | cons h3 h4 =>
      cases h4 with
      | cons h5 h6 =>
        cases h6
        obtain ⟨t, _, rfl, _⟩ := tup_inv h3
        obtain ⟨u, _, rfl, _⟩ := tup_inv h5
        rw [int_inv h1] at hs
        exact ⟨a, t, u, rfl, hs, h3, h5⟩
/-- the fields beside f, in the roads' order -/
def bes (rs : List (Int × Int)) (f : Int) : List Int := (rs.filter fun r => decide (f = r.1) || decide (f = r.2)).map fun r => r.1 + r.2 - f
theorem bes_snoc (rs : List (Int × Int)) (r : Int × Int) (f : Int) : bes (rs ++ [r]) f = bes rs f ++ (if (decide (f = r.1) || decide (f = r.2)) = true then [r.1 + r.2 - f] else []) := by
  unfold bes
  rw [List.filter_append, List.map_append]
  congr 1
  by_cases h : (decide (f = r.1) || decide (f = r.2)) = true
  · rw [if_pos h, List.filter_cons, if_pos h]
    rfl
  · rw [if_neg h, List.filter_cons, if_neg h]
    rfl
theorem take_snoc {α : Type} {l : List α} {i : Nat} {x : α} (h : l[i]? = some x) : l.take (i + 1) = l.take i ++ [x] := by
  rw [List.take_add_one, h]
  rfl
def spBeside (K : PySem.W.Frag) : Sp := fun vs H Q _ => ∃ (v : V) (n : Int) (rs : List (Int × Int)) (cs : List Int) (f : Int), vs = [v, .int f] ∧ Dp K H v (chD n rs cs) ∧ rs.length ≤ 1000 ∧
  ∀ (H' : Hp) (p : Addr) (ms : List Int), ms.Perm (bes rs f) → ms.Pairwise (· ≤ ·) → H p = none → H' p = some (.lst (ms.map V.int)) → Kp [] H H' → Q (.ref p) H'
theorem fresh_of {H H' : Hp} {S : List Addr} {p : Addr} (k : Kp S H H') (n : p ∉ S) (hp : H' p = none) : H p = none := by
  cases e : H p with
  | none => rfl
  | some o =>
    have q := k.get n e
    rw [hp] at q
    cases q
theorem eqv_int (a b : Int) : eqV (.int a) (.int b) = decide (b = a) := by
  simp only [eqV]
  by_cases h : b = a
  · rw [decide_eq_true h, h]; simp
  · rw [decide_eq_false h]; simp [Ne.symm h]
section
variable {P : Program} {w : World} {K : PySem.W.Frag} {mg : Str → Option Value} {base : Heap}
theorem scBeside : FnScope ["chart", "field", "a", "b"] ["chart", "field"] (defScope sBeside) := ⟨rfl, rfl, rfl, by decide +kernel, rfl, by decide +kernel, by decide +kernel⟩
theorem ok_beside {f : Addr} {fd : FuncData} (F : Fun K "_law_beside" "_law_beside" sBeside f fd) (mS : mg "sorted" = none) : FnOk P w K mg base CX0 1 f fd ["chart", "field"] (spBeside K) := by
  refine F.ok scBeside (fun vs H Q E h => ?_) (fun cdv A outer s H vs Q E hr h => ?_)
  · obtain ⟨v, n, rs, cs, f, rfl, _⟩ := h
    rfl
  · obtain ⟨v, n, rs, cs, f, rfl, hc, hlen, k⟩ := h
    refine ⟨_, pss_one (ps_ret (pe_callB cr_sortedI (by rfl) mS PyProof.Rows.boot_sorted (pa_cons
      (pe_lc (own := [("a", 2), ("b", 3)]) (g := gTup K 2 (gCons (gName 2) (gCons (gName 3) gNil))) rfl scBeside.nd (pi_tup (kt (pv 0) pe_int)) (blkOk_by (own := [("a", 2), ("b", 3)]) (N := ["chart", "field", "a", "b"]) (sc := defScope sBeside) (by decide +kernel))
        (fun _ _ _ _ _ => pg_tup rfl (pgs_cons (pg_name (i := 2) scBeside.nd rfl (.inl rfl)) (pgs_cons (pg_name (i := 3) scBeside.nd rfl (.inl rfl)) pgs_nil)))
        (fun _ _ _ _ _ => pts_one (pt_cmpR (op_inK K) (pv 1) (pe_tup (pa_cons (pv 2) (pa_cons (pv 3) pa_nil))) (by rfl)))
        (fun _ _ _ _ _ => pe_op op_sub (pe_op op_add (pv 2) (pv 3)) (pv 1))) pa_nil))), ?_⟩
    obtain ⟨a, t, u, rfl, hs, ht, _⟩ := chart_inv hc
    obtain ⟨t', xs, et, hxs, hall⟩ := tup_inv ht
    cases et
    have hl : xs.length = rs.length := by rw [all_len hall, List.length_map]
    refine ⟨.ref a, rfl, a, _, 1, _, rfl, rfl, hs, at1, t, rfl, ⟨_, hxs⟩, fun D hD => ?_⟩
    refine lc_tup (K := K) (a := t) (xs := xs) (fun i H' => H' D = some (.lst ((bes (rs.take i) f).map V.int)) ∧ (bes (rs.take i) f).length ≤ i ∧ Kp [] H H') ⟨upd_same, Nat.zero_le _, Kp.new hD⟩ (fun i H' _ ⟨_, _, kk⟩ => sameT (kz_seq kk) hxs) ?_ ?_
    · rintro i x H' hx ⟨h1, h2, kk⟩
      obtain ⟨d, hd, hxd⟩ := all_get hall hx
      rw [List.getElem?_map] at hd
      obtain ⟨r, hr', rfl⟩ := Option.map_eq_some_iff.mp hd
      obtain ⟨q, rfl, hq⟩ := pair_inv (Dp.same (kz_seq kk) _ hxd)
      have hi : i < rs.length := (List.getElem?_eq_some_iff.mp hr').1
      refine ⟨q, _, rfl, hq, rfl, .int r.1, _, rfl, .int r.2, _, rfl, rfl, rfl, ?_⟩
      refine ⟨.int f, rfl, .int r.1, rfl, .int r.2, rfl, by show 2 ≤ sizeLine; decide, fun z hz => ⟨z, _, rfl, .inr (SqT.of upd_same), rfl, rfl, _, rfl, ?_⟩⟩
      have kz : Kp [] H (upd H' z (.tup [.int r.1, .int r.2])) := kk.trans (Kp.new hz)
      have h1z : (upd H' z (.tup [.int r.1, .int r.2])) D = some (.lst ((bes (rs.take i) f).map V.int)) := by rw [upd_ne (ne_of_none h1 hz)]; exact h1
      have hDH : H D = none := hD
      rw [show inV (.int f) [.int r.1, .int r.2] = (decide (f = r.1) || decide (f = r.2)) by
        unfold inV
        rw [List.any_cons, List.any_cons, List.any_nil, eqv_int, eqv_int, Bool.or_false]]
      rw [take_snoc hr', bes_snoc]
      refine ite2 (fun hy => ?_) (fun hn => ?_)
      · replace hy : (decide (f = r.1) || decide (f = r.2)) = true := hy
        rw [if_pos hy]
        refine ⟨.int r.1, rfl, .int r.2, rfl, r.1, r.2, rfl, rfl, .int f, rfl, _, _, rfl, rfl, _, h1z, ?_, ?_, ?_, ?_⟩
        · rw [List.length_map]
          exact small1000 (by omega)
        · rw [upd_same, List.map_append]
          rfl
        · rw [List.length_append]
          simpa using h2
        · exact (kz.mono (S' := [D]) (by simp)).trans (Kp.put (by simp)) |>.drop hDH
      · replace hn : ¬ (decide (f = r.1) || decide (f = r.2)) = true := hn
        rw [if_neg hn, List.append_nil]
        exact ⟨h1z, Nat.le_succ_of_le h2, kz⟩
    · rintro H' ⟨h1, h2, kk⟩
      rw [hl, List.take_length] at h1
      refine ⟨D, _, rfl, SqL.of h1, fun ms p hp1 hp2 hp => ?_⟩
      exact k _ p ms hp1 hp2 (fresh_of kk (by simp) hp) upd_same (kk.trans (Kp.new hp))
end
end Kt

set_option Elab.async false
set_option linter.all false
set_option maxRecDepth 100000
set_option maxHeartbeats 4000000
namespace Kt
open PySem PySem.Spec PyProof.Rows L2
/-! pairs of ints that stand in the heap -/
def PrAt (H : Hp) (x : V) (r : Int × Int) : Prop := ∃ t, x = .ref t ∧ H t = some (.tup [.int r.1, .int r.2])
abbrev Prs (H : Hp) : List V → List (Int × Int) → Prop := Paired (PrAt H)
/-- what is told of S: no tuple stands there -/
def NoTup (H : Hp) (S : List Addr) : Prop := ∀ s ∈ S, ∀ xs, H s ≠ some (.tup xs)
theorem PrAt.keep {H H' : Hp} {S : List Addr} {x : V} {r : Int × Int} (h : PrAt H x r) (k : Kp S H H') (n : NoTup H S) : PrAt H' x r := by
  obtain ⟨t, rfl, e⟩ := h
  exact ⟨t, rfl, k.get (fun z => n t z _ e) e⟩
theorem Prs.keep {H H' : Hp} {S : List Addr} (k : Kp S H H') (n : NoTup H S) : ∀ {xs : List V} {rs : List (Int × Int)}, Prs H xs rs → Prs H' xs rs
  | _, _, .nil => .nil
  | _, _, .cons h t => .cons (h.keep k n) (Prs.keep k n t)
theorem Prs.data {K : PySem.W.Frag} {H : Hp} {S : List Addr} (n : NoTup H S) : ∀ {xs : List V} {rs : List (Int × Int)}, Prs H xs rs → DpAll K (Ob S H) xs (rs.map pD)
  | _, _, .nil => .nil
  | _, _, .cons h t => by
    obtain ⟨a, rfl, e⟩ := h
    exact .cons (.tup (SqT.of (Ob.mk (fun z => n a z _ e) e)) (.cons (.int _) (.cons (.int _) .nil))) (Prs.data n t)
theorem Prs.snoc {H : Hp} {x : V} {r : Int × Int} (hx : PrAt H x r) : ∀ {xs : List V} {rs : List (Int × Int)}, Prs H xs rs → Prs H (xs ++ [x]) (rs ++ [r])
  | _, _, .nil => .cons hx .nil
  | _, _, .cons h t => .cons h (Prs.snoc hx t)
theorem Prs.len {H : Hp} : ∀ {xs : List V} {rs : List (Int × Int)}, Prs H xs rs → xs.length = rs.length
  | _, _, .nil => rfl
  | _, _, .cons _ t => by rw [List.length_cons, List.length_cons, Prs.len t]
def keyP (H : Hp) (x : V) : Int × Int := match x with
  | .ref t => match H t with
    | some (.tup [.int i, .int j]) => (i, j)
    | _ => (0, 0)
  | _ => (0, 0)
theorem keyP_at {H : Hp} {x : V} {r : Int × Int} (h : PrAt H x r) : keyP H x = r := by
  obtain ⟨t, rfl, e⟩ := h
  unfold keyP
  simp only [e]
theorem Prs.keys {H : Hp} : ∀ {xs : List V} {rs : List (Int × Int)}, Prs H xs rs → xs.map (keyP H) = rs ∧ ∀ x ∈ xs, PrAt H x (keyP H x)
  | _, _, .nil => ⟨rfl, fun _ h => absurd h (by simp)⟩
  | _, _, .cons h t => by
    obtain ⟨e1, e2⟩ := Prs.keys t
    refine ⟨by rw [List.map_cons, keyP_at h, e1], fun x hx => ?_⟩
    rcases List.mem_cons.mp hx with e | hx
    · rw [e, keyP_at h]
      exact h
    · exact e2 x hx
theorem prs_map {H : Hp} : ∀ {ys : List V}, (∀ x ∈ ys, PrAt H x (keyP H x)) → Prs H ys (ys.map (keyP H))
  | [], _ => .nil
  | y :: ys, h => .cons (h y List.mem_cons_self) (prs_map fun x hx => h x (List.mem_cons_of_mem _ hx))
theorem prs_sorted {H : Hp} {xs ys : List V} {rs : List (Int × Int)} (hp : Prs H xs rs) (h1 : SrtO.Srtd (ltP (keyP H)) ys) (h2 : SrtO.Stb (ltP (keyP H)) ys xs) :
    (ys.map (keyP H)).Perm rs ∧ (ys.map (keyP H)).Pairwise (fun u v => SrtO.lexB v u = false) ∧ Prs H ys (ys.map (keyP H)) := by
  obtain ⟨e1, e2⟩ := hp.keys
  refine ⟨?_, List.pairwise_map.mpr h1, prs_map fun x hx => e2 x (h2.perm.mem_iff.mp hx)⟩
  rw [← e1]
  exact h2.perm.map _
/-! (a, b) in pairs -/
theorem eqv_pair (r q : Int × Int) : PyData.eqv (pD r) (pD q) = decide (r = q) := by
  obtain ⟨a, b⟩ := r
  obtain ⟨c, d⟩ := q
  unfold pD
  simp only [PyData.eqv, PyData.eqvAll, Bool.and_true]
  by_cases h1 : a = c <;> by_cases h2 : b = d <;> simp [h1, h2]
theorem any_pair (rs : List (Int × Int)) (q : Int × Int) : ((rs.map pD).any fun z => PyData.eqv z (pD q)) = decide (q ∈ rs) := by
  induction rs with
  | nil => rfl
  | cons r rs ih =>
    rw [List.map_cons, List.any_cons, ih, eqv_pair]
    by_cases h : r = q
    · simp [h]
    · have h' : ¬ q = r := fun e => h e.symm
      simp [h, h']
theorem canLay_pairs : ∀ rs : List (Int × Int), PyData.canLayAll0 (rs.map pD) = true
  | [] => by simp [PyData.canLayAll0]
  | r :: rs => by simp [PyData.canLayAll0, PyData.canLay0, pD, canLay_pairs rs]
theorem depth_pairs : ∀ rs : List (Int × Int), PyData.depthAll (rs.map pD) ≤ 1
  | [] => by simp [PyData.depthAll]
  | r :: rs => by
    have := depth_pairs rs
    simp only [List.map_cons, PyData.depthAll, PyData.depth, pD]
    omega
theorem shaped_pairs (rs : List (Int × Int)) : SeqAt.shaped (.list (rs.map pD)) = true :=
  shaped_of (by simp [PyData.canLay0, canLay_pairs]) (by have := depth_pairs rs; simp only [PyData.depth]; omega)
theorem shaped_pair (r : Int × Int) : SeqAt.shaped (pD r) = true := shaped_of (by simp [PyData.canLay0, PyData.canLayAll0, pD]) (by simp [PyData.depth, PyData.depthAll, pD])
end Kt

set_option Elab.async false
set_option linter.all false
set_option maxRecDepth 100000
set_option maxHeartbeats 4000000
namespace Kt
open PySem PySem.Spec PyProof.Rows L2
/-- a chart of n fields as the law makes it -/
structure ChOk (n : Int) (rs : List (Int × Int)) (cs : List Int) : Prop where
  lo : 0 < n
  hi : n ≤ 24
  few : rs.length ≤ 200
  road : ∀ r ∈ rs, 0 ≤ r.1 ∧ r.1 < r.2 ∧ r.2 < n
  nd : rs.Nodup
  srt : rs.Pairwise fun u v => SrtO.lexB v u = false
  cen : ∀ c ∈ cs, 0 ≤ c ∧ c < n
  cfew : cs.length ≤ 24
  csrt : cs.Pairwise (· < ·)
theorem hu65 {k : Nat} {A : Around} (hr : Room k A) : A.units + 65 < cLine := by
  have := hr.un
  omega
theorem clip {x y : Int} (h : x < y) (h0 : 0 < y) : 0 ≤ (if x > 0 then x else 0) ∧ (if x > 0 then x else 0) < y := by
  split <;> omega
/-- the roads made so far, at R -/
structure Roads (H : Hp) (a c R : Addr) (B : Int) (xs : List V) (rs : List (Int × Int)) (H' : Hp) : Prop where
  at_ : H' R = some (.lst xs)
  prs : Prs H' xs rs
  deck : DeckAt H' a c
  keep : Kp [R, a, c] H H'
  road : ∀ r ∈ rs, 0 ≤ r.1 ∧ r.1 < r.2 ∧ r.2 < B
  nd : rs.Nodup
theorem Roads.noTup {H : Hp} {a c R : Addr} {B : Int} {xs : List V} {rs : List (Int × Int)} {H' : Hp} (h : Roads H a c R B xs rs H') : NoTup H' [R, a, c] := by
  obtain ⟨cs, s, n, e1, e2, _⟩ := h.deck
  intro q hq ys e
  rcases List.mem_cons.mp hq with z | hq
  · rw [z, h.at_] at e; cases e
  · rcases List.mem_cons.mp hq with z | hq
    · rw [z, e1] at e; cases e
    · have z : q = c := by simpa using hq
      rw [z, e2] at e; cases e
theorem Roads.draw {H : Hp} {a c R : Addr} {B : Int} {xs : List V} {rs : List (Int × Int)} {H' H2 : Hp} (h : Roads H a c R B xs rs H') (d : DeckAt H2 a c) (k : Kp [a, c] H' H2) (n1 : R ≠ a) (n2 : R ≠ c) : Roads H a c R B xs rs H2 :=
  ⟨k.get (by simp [n1, n2]) h.at_, h.prs.keep k (fun s hs => h.noTup s (List.mem_cons_of_mem _ hs)), d, h.keep.trans (k.mono fun b hb => List.mem_cons_of_mem _ hb), h.road, h.nd⟩
theorem Roads.wide {H : Hp} {a c R : Addr} {B B' : Int} {xs : List V} {rs : List (Int × Int)} {H' : Hp} (h : Roads H a c R B xs rs H') (e : B ≤ B') : Roads H a c R B' xs rs H' :=
  ⟨h.at_, h.prs, h.deck, h.keep, fun r hr => by have := h.road r hr; omega, h.nd⟩
theorem Roads.new {H : Hp} {a c R p : Addr} {B : Int} {xs : List V} {rs : List (Int × Int)} {H' : Hp} {o : HO} (h : Roads H a c R B xs rs H') (hp : H' p = none) : Roads H a c R B xs rs (upd H' p o) :=
  ⟨by rw [upd_ne (ne_of_none h.at_ hp)]; exact h.at_, h.prs.keep (Kp.new (S := [R, a, c]) hp) h.noTup, h.deck.new hp, h.keep.trans (Kp.new hp), h.road, h.nd⟩
/-- one road more, its pair at t -/
theorem Roads.more {H : Hp} {a c R t : Addr} {B : Int} {xs : List V} {rs : List (Int × Int)} {H' : Hp} {r : Int × Int} (h : Roads H a c R B xs rs H') (e : H' t = some (.tup [.int r.1, .int r.2])) (n1 : R ≠ a) (n2 : R ≠ c)
    (g : 0 ≤ r.1 ∧ r.1 < r.2 ∧ r.2 < B) (nr : r ∉ rs) : Roads H a c R B (xs ++ [.ref t]) (rs ++ [r]) (upd H' R (.lst (xs ++ [.ref t]))) := by
  have k : Kp [R, a, c] H' (upd H' R (.lst (xs ++ [.ref t]))) := Kp.put (by simp)
  refine ⟨upd_same, Prs.snoc (PrAt.keep ⟨t, rfl, e⟩ k h.noTup) (h.prs.keep k h.noTup), h.deck.put n1 n2, h.keep.trans k, fun q hq => ?_, ?_⟩
  · rcases List.mem_append.mp hq with z | z
    · exact h.road q z
    · rw [List.mem_singleton.mp z]
      exact g
  · rw [List.nodup_append]
    exact ⟨h.nd, by simp, fun x hx y hy e => nr (by rw [List.mem_singleton.mp hy] at e; rw [← e]; exact hx)⟩
def spChart (K : PySem.W.Frag) : Sp := fun vs H Q _ => ∃ (a c : Addr) (n m : Int), vs = [.ref a, .int n, .int m] ∧ DeckAt H a c ∧ 0 < n ∧ n ≤ 24 ∧ 0 ≤ m ∧ m ≤ 100 ∧
  ∀ (H' : Hp) (v : V) (rs : List (Int × Int)) (cs : List Int), ChOk n rs cs → Da K [a, c] H' v (chD n rs cs) → DeckAt H' a c → Kp [a, c] H H' → Q v H'
section
variable {P : Program} {w : World} {K : PySem.W.Frag} {mg : Str → Option Value} {base : Heap}
abbrev nChart : List Str := ["deck", "many", "more", "roads", "b", "turn", "a", "centres", "field"]
theorem scChart : FnScope nChart ["deck", "many", "more"] (defScope sChart) := ⟨rfl, rfl, rfl, by decide +kernel, rfl, by decide +kernel, by decide +kernel⟩
theorem ok_chart {f fD : Addr} {fd fdD : FuncData} (F : Fun K "_law_chart" "_law_chart" sChart f fd) (FD : Fun K "_law_draw" "_law_draw" sDraw fD fdD) (bD : Binds K fdD ["deck", "many"] []) (gD : mg "_law_draw" = some (.ref fD)) (mI : mg "int" = none)
    (mR : mg "range" = none) (mX : mg "max" = none) (mT : mg "tuple" = none) (mS : mg "sorted" = none) : FnOk P w K mg base CX0 2 f fd ["deck", "many", "more"] (spChart K) := by
  have GD : FnOk P w K mg base CX0 1 fD fdD ["deck", "many"] spDraw := ok_draw FD mI
  refine F.ok scChart (fun vs H Q E h => ?_) (fun cdv A outer s H vs Q E hr h => ?_)
  · obtain ⟨a, c, n, m, rfl, _⟩ := h
    rfl
  · obtain ⟨a, c, n, m, rfl, hD, hn0, hn1, hm0, hm1, k⟩ := h
    refine ⟨_, pss_cons (ps_set (i := 3) scChart.nd rfl (.inl rfl) (pe_lst pa_nil))
      (pss_cons (ps_for PassesOwn.never rfl (pi_range2 (by rfl) mR (pa_cons pe_int (pa_cons (pv 1) pa_nil))) (pg_name (i := 4) scChart.nd rfl (.inl rfl))
        (pss_one (ps_if (pt_cmpR op_gt (pe_call GD hr (by rfl) gD FD.kp bD .nil pass0 (pa_cons (pv 0) (pa_cons pe_int pa_nil))) pe_int (nomark _))
          (pss_one (ps_expr (pe_bm PySem.F.plainAttrs_list PySem.F.slot_list_append PySem.F.type_list_append mt_append (pv 3) (pa_cons (pe_tup (pa_cons
            (pe_callB (call_max2 rfl) (by rfl) mX PyProof.Rows.boot_max (pa_cons pe_int (pa_cons (pe_op op_sub (pe_op op_sub (pv 4) pe_int) (pe_call GD hr (by rfl) gD FD.kp bD .nil pass0 (pa_cons (pv 0) (pa_cons pe_int pa_nil)))) pa_nil)))
            (pa_cons (pv 4) pa_nil))) pa_nil)))) pss_nil)))
      (pss_cons (ps_for PassesOwn.never rfl (pi_range1 (by rfl) mR (pa_cons (pv 2) pa_nil)) (pg_name (i := 5) scChart.nd rfl (.inl rfl))
        (pss_cons (ps_par (i := 6) (j := 4) rfl scChart.nd rfl rfl (by decide) rfl rfl
            (pa_cons (pe_call GD hr (by rfl) gD FD.kp bD .nil pass0 (pa_cons (pv 0) (pa_cons (pv 1) pa_nil))) (pa_cons (pe_call GD hr (by rfl) gD FD.kp bD .nil pass0 (pa_cons (pv 0) (pa_cons (pv 1) pa_nil))) pa_nil)) (by rfl))
        (pss_one (ps_if (PW.pt (pw_and (pt_cmpR op_lt (pv 6) (pv 4) (nomark _)) (pw_and1 (pt_cmpR (op_notInD (hu65 hr)) (pe_tup (pa_cons (pv 6) (pa_cons (pv 4) pa_nil))) (pv 3) (by rfl)))))
          (pss_one (ps_expr (pe_bm PySem.F.plainAttrs_list PySem.F.slot_list_append PySem.F.type_list_append mt_append (pv 3) (pa_cons (pe_tup (pa_cons (pv 6) (pa_cons (pv 4) pa_nil))) pa_nil)))) pss_nil))))
      (pss_cons (ps_setLc (i := 7) (own := [("field", 8)]) (g := gName 8) rfl scChart.nd rfl rfl (sw_true rfl rfl rfl (by decide +kernel)) (pi_range1 (by rfl) mR (pa_cons (pv 1) pa_nil))
          (blkOk_by (own := [("field", 8)]) (N := nChart) (sc := defScope sChart) (by decide +kernel)) (fun _ _ _ _ _ => pg_name (i := 8) scChart.nd rfl (.inl rfl))
          (fun _ _ _ _ _ => pts_one (pt_cmpR op_eq (pe_call GD hr (by rfl) gD FD.kp bD .nil pass0 (pa_cons (pv 0) (pa_cons pe_int pa_nil))) pe_int (nomark _)))
          (fun _ _ _ _ _ => pv 8))
      (pss_one (ps_ret (pe_tup (pa_cons (pv 1) (pa_cons (pe_callTy call_tuple_of (by rfl) mT PyProof.Rows.boot_tuple (pa_cons (pe_callB cr_sortedPO (by rfl) mS PyProof.Rows.boot_sorted (pa_cons (pv 3) pa_nil)) pa_nil))
          (pa_cons (pe_callTy call_tuple_of (by rfl) mT PyProof.Rows.boot_tuple (pa_cons (pv 7) pa_nil)) pa_nil))))))))), ?_⟩
    refine ⟨Nat.zero_le _, fun R hR => ?_⟩
    obtain ⟨Ra, Rc⟩ := hD.ne hR
    -- for b in range(1, many)
    refine ⟨.int n, rfl, 1, n, rfl, ⟨by decide, by decide, by omega, by omega⟩, for_range (lo := 1) (n := (n - 1).toNat)
      (fun i σ H' => ∃ xs rs v4, σ = [some (.ref a), some (.int n), some (.int m), some (.ref R), v4, none, none, none, none] ∧ rs.length ≤ i ∧ Roads H a c R (1 + i) xs rs H')
      ⟨[], [], none, rfl, Nat.le_refl _, upd_same, .nil, hD.new hR, Kp.new hR, fun r hr => absurd hr (by simp), List.nodup_nil⟩ ?_ ?_⟩
    · rintro i σ H' hi ⟨xs, rs, v4, rfl, hl, G⟩
      refine ⟨.ref a, rfl, a, c, 9, rfl, G.deck, by decide, by decide, fun H1 r r0 r1 hD1 k1 => ⟨_, _, rfl, rfl, _, rfl, ?_⟩⟩
      have G1 := G.draw hD1 k1 Ra Rc
      refine ite2 (fun _ => ?_) (fun _ => ?_)
      · refine ⟨.ref R, rfl, .inl ⟨rfl, _, SqL.of G1.at_⟩, .int (1 + i), rfl, _, _, rfl, rfl, .ref a, rfl, a, c, 3, rfl, G1.deck, by decide, by decide, fun H2 q q0 q1 hD2 k2 => ⟨_, _, rfl, rfl, 0, _, rfl, .int (1 + i), rfl, by show 2 ≤ sizeLine; decide, fun t ht => ?_⟩⟩
        have G2 := (G1.draw hD2 k2 Ra Rc).new (o := .tup [.int (if 1 + (i : Int) - 1 - q > 0 then 1 + (i : Int) - 1 - q else 0), .int (1 + i)]) ht
        refine ⟨R, _, _, rfl, rfl, G2.at_, small1000 (by rw [G2.prs.len]; omega), xs ++ [.ref t], rs ++ [((if 1 + (i : Int) - 1 - q > 0 then 1 + (i : Int) - 1 - q else 0 : Int), (1 + (i : Int) : Int))], _, rfl, by rw [List.length_append]; simpa using hl, ?_⟩
        refine Roads.more (G2.wide (by push_cast; omega)) upd_same Ra Rc ⟨(clip (y := 1 + (i : Int)) (by omega) (by omega)).1, (clip (y := 1 + (i : Int)) (by omega) (by omega)).2, by push_cast; omega⟩ (fun z => ?_)
        · have := (G2.road _ z).2.2
          simp at this
      · exact ⟨xs, rs, _, rfl, Nat.le_succ_of_le hl, G1.wide (by push_cast; omega)⟩
    · rintro σ H1 ⟨xs, rs, v4, rfl, hl, G⟩
      have G : Roads H a c R n xs rs H1 := G.wide (by omega)
      -- for turn in range(more)
      refine ⟨.int m, rfl, m, rfl, by omega, by omega, for_range (lo := 0) (n := m.toNat)
        (fun i σ H' => ∃ xs rs v4 v5 v6, σ = [some (.ref a), some (.int n), some (.int m), some (.ref R), v4, v5, v6, none, none] ∧ rs.length ≤ 24 + i ∧ Roads H a c R n xs rs H')
        ⟨xs, rs, _, _, _, rfl, by omega, G⟩ ?_ ?_⟩
      · rintro i σ H' hi ⟨xs, rs, v4, v5, v6, rfl, hl, G⟩
        refine ⟨.ref a, rfl, .int n, rfl, a, c, n, rfl, G.deck, by omega, by omega, fun H2 x x0 x1 hD2 k2 => ?_⟩
        have G2 := G.draw hD2 k2 Ra Rc
        refine ⟨.ref a, rfl, .int n, rfl, a, c, n, rfl, G2.deck, by omega, by omega, fun H3 y y0 y1 hD3 k3 => ?_⟩
        have G3 := G2.draw hD3 k3 Ra Rc
        refine ⟨_, _, rfl, _, rfl, _, rfl, _, _, rfl, rfl, _, rfl, ?_⟩
        refine ite2 (fun hxy => ?_) (fun _ => ?_)
        · have hxy : x < y := of_decide_eq_true hxy
          refine ⟨_, rfl, _, rfl, by show 2 ≤ sizeLine; decide, fun t ht => ?_⟩
          have G4 := G3.new (o := .tup [.int x, .int y]) ht
          refine ⟨.ref R, rfl, pD (x, y), rs.map pD, .tup (SqT.of upd_same) (.cons (.int _) (.cons (.int _) .nil)), .lst (SqL.of G4.at_) (Dp_all (G4.prs.data G4.noTup)), shaped_pair _, shaped_pairs _, _, rfl, ?_⟩
          rw [any_pair]
          generalize upd H3 t (.tup [.int x, .int y]) = H4 at G4
          refine ite2 (fun hno => ?_) (fun _ => ?_)
          · have hno : (x, y) ∉ rs := by simpa using hno
            refine ⟨.ref R, rfl, .inl ⟨rfl, _, SqL.of G4.at_⟩, _, rfl, _, rfl, by show 2 ≤ sizeLine; decide, fun u hu => ?_⟩
            have G5 := G4.new (o := .tup [.int x, .int y]) hu
            refine ⟨R, _, _, rfl, rfl, G5.at_, small1000 (by rw [G5.prs.len]; omega), xs ++ [.ref u], rs ++ [(x, y)], _, _, _, rfl, by rw [List.length_append]; simp; omega, ?_⟩
            exact Roads.more (r := (x, y)) G5 upd_same Ra Rc ⟨x0, hxy, y1⟩ hno
          · exact ⟨xs, rs, _, _, _, rfl, by omega, G4⟩
        · exact ⟨xs, rs, _, _, _, rfl, by omega, G3⟩
      · rintro σ H2 ⟨xs, rs, v4, v5, v6, rfl, hl, G⟩
        -- centres
        refine ⟨.int n, rfl, n, rfl, by omega, by omega, fun C hC => ?_⟩
        have CR : C ≠ R := (ne_of_none G.at_ hC).symm
        obtain ⟨Ca, Cc⟩ := G.deck.ne hC
        have hCH : H C = none := fresh_of G.keep (by simp [CR, Ca, Cc]) hC
        refine lc_range (lo := 0) (n := n.toNat) (fun i H' => ∃ cs : List Int, H' C = some (.lst (cs.map V.int)) ∧ cs.length ≤ i ∧ (∀ z ∈ cs, 0 ≤ z ∧ z < i) ∧ cs.Pairwise (· < ·) ∧ Roads H a c R n xs rs H')
          ⟨[], upd_same, Nat.le_refl _, fun z hz => absurd hz (by simp), List.Pairwise.nil, G.new hC⟩ ?_ ?_
        · rintro i H' hi ⟨cs, e1, e2, e3, e4, G⟩
          refine ⟨rfl, .ref a, rfl, a, c, 2, rfl, G.deck, by decide, by decide, fun H3 q q0 q1 hD3 k3 => ⟨rfl, _, rfl, ?_⟩⟩
          have G3 := G.draw hD3 k3 Ra Rc
          have e13 : H3 C = some (.lst (cs.map V.int)) := k3.get (by simp [Ca, Cc]) e1
          refine ite2 (fun _ => ?_) (fun _ => ?_)
          · refine ⟨_, rfl, _, e13, small1000 (by rw [List.length_map]; omega), cs ++ [0 + (i : Int)], by rw [upd_same, List.map_append]; rfl, by rw [List.length_append]; simpa using e2, fun z hz => ?_, ?_, ?_⟩
            · rcases List.mem_append.mp hz with z1 | z1
              · have := e3 z z1
                push_cast
                omega
              · rw [List.mem_singleton.mp z1]
                push_cast
                omega
            · rw [List.pairwise_append]
              refine ⟨e4, by simp, fun x hx y hy => ?_⟩
              have := e3 x hx
              rw [List.mem_singleton.mp hy]
              omega
            · exact ⟨by rw [upd_ne CR.symm]; exact G3.at_, G3.prs.keep (Kp.put (S := [C]) (by simp)) (fun s hs xs e => by rw [List.mem_singleton.mp hs, e13] at e; cases e), G3.deck.put Ca Cc, (Kp.trans (G3.keep.mono fun b hb => List.mem_cons_of_mem C hb) (Kp.put (by simp))).drop hCH, G3.road, G3.nd⟩
          · exact ⟨cs, e13, Nat.le_succ_of_le e2, fun z hz => by have := e3 z hz; push_cast; omega, e4, G3⟩
        · rintro H3 ⟨cs, e1, e2, e3, e4, G⟩
          refine ⟨.int n, rfl, .ref R, rfl, R, xs, keyP H3, rfl, SqL.of G.at_, (Prs.keys G.prs).2, fun ys S s1 s2 hS => ?_⟩
          obtain ⟨p1, p2, p3⟩ := prs_sorted G.prs s1 s2
          generalize ys.map (keyP H3) = rs' at p1 p2 p3
          refine ⟨S, ys, rfl, .inl ⟨SqL.of upd_same, fun T hT => ?_⟩⟩
          have G4 := G.new (o := .lst ys) hS
          have q4 : Prs (upd H3 S (.lst ys)) ys rs' := p3.keep (Kp.new (S := [R, a, c]) hS) G.noTup
          have e14 : (upd H3 S (.lst ys)) C = some (.lst (cs.map V.int)) := by rw [upd_ne (ne_of_none e1 hS)]; exact e1
          generalize upd H3 S (.lst ys) = H4 at G4 q4 e14 hT
          have G5 := G4.new (o := .tup ys) hT
          have q5 : Prs (upd H4 T (.tup ys)) ys rs' := q4.keep (Kp.new (S := [R, a, c]) hT) G4.noTup
          have eT : (upd H4 T (.tup ys)) T = some (.tup ys) := upd_same
          have e15 : (upd H4 T (.tup ys)) C = some (.lst (cs.map V.int)) := by rw [upd_ne (ne_of_none e14 hT)]; exact e14
          generalize upd H4 T (.tup ys) = H5 at G5 q5 eT e15
          refine ⟨.ref C, rfl, C, _, rfl, .inl ⟨SqL.of e15, fun W hW => ?_⟩⟩
          have G6 := G5.new (o := .tup (cs.map V.int)) hW
          have q6 : Prs (upd H5 W (.tup (cs.map V.int))) ys rs' := q5.keep (Kp.new (S := [R, a, c]) hW) G5.noTup
          have eT6 : (upd H5 W (.tup (cs.map V.int))) T = some (.tup ys) := by rw [upd_ne (ne_of_none eT hW)]; exact eT
          have eW : (upd H5 W (.tup (cs.map V.int))) W = some (.tup (cs.map V.int)) := upd_same
          generalize upd H5 W (.tup (cs.map V.int)) = H6 at G6 q6 eT6 eW
          refine ⟨by show 3 ≤ sizeLine; decide, fun Z hZ => ?_⟩
          have G7 := G6.new (o := .tup [.int n, .ref T, .ref W]) hZ
          have q7 : Prs (upd H6 Z (.tup [.int n, .ref T, .ref W])) ys rs' := q6.keep (Kp.new (S := [R, a, c]) hZ) G6.noTup
          have eT7 : (upd H6 Z (.tup [.int n, .ref T, .ref W])) T = some (.tup ys) := by rw [upd_ne (ne_of_none eT6 hZ)]; exact eT6
          have eW7 : (upd H6 Z (.tup [.int n, .ref T, .ref W])) W = some (.tup (cs.map V.int)) := by rw [upd_ne (ne_of_none eW hZ)]; exact eW
          have eZ : (upd H6 Z (.tup [.int n, .ref T, .ref W])) Z = some (.tup [.int n, .ref T, .ref W]) := upd_same
          generalize upd H6 Z (.tup [.int n, .ref T, .ref W]) = H7 at G7 q7 eT7 eW7 eZ
          have nt := G7.noTup
          have out : ∀ {q : Addr} {zs : List V}, H7 q = some (.tup zs) → q ∉ [a, c] := fun {q zs} e hq => nt q (List.mem_cons_of_mem _ hq) _ e
          refine k H7 (.ref Z) rs' cs ⟨hn0, hn1, ?_, fun r hr => G.road r (p1.mem_iff.mp hr), p1.nodup_iff.mpr G.nd, p2, fun z hz => by have := e3 z hz; omega, by omega, e4⟩ ?_ G7.deck (G7.keep.drop hR)
          · rw [p1.length_eq]
            omega
          · exact .tup (SqT.of (Ob.mk (out eZ) eZ)) (.cons (.int n) (.cons (.tup (SqT.of (Ob.mk (out eT7) eT7)) (q7.data fun s hs => nt s (List.mem_cons_of_mem _ hs))) (.cons (.tup (SqT.of (Ob.mk (out eW7) eW7)) (dp_ints cs)) .nil)))
end
end Kt

set_option Elab.async false
set_option linter.all false
set_option maxRecDepth 100000
set_option maxHeartbeats 4000000
namespace Kt
open PySem PySem.Spec PyProof.Rows L2
/-! ints in values -/
def toI : V → Int
  | .int i => i
  | _ => 0
theorem perm_ints {ys : List V} {ns : List Int} (h : ys.Perm (ns.map V.int)) : ∃ ms : List Int, ys = ms.map V.int ∧ ms.Perm ns := by
  have e : ∀ zs : List V, (∀ z ∈ zs, ∃ n, z = V.int n) → zs = (zs.map toI).map V.int := fun zs hz => by
    induction zs with
    | nil => rfl
    | cons z zs ih =>
      obtain ⟨n, rfl⟩ := hz z List.mem_cons_self
      rw [List.map_cons, List.map_cons, ← ih fun x hx => hz x (List.mem_cons_of_mem _ hx)]
      rfl
  refine ⟨ys.map toI, e ys fun z hz => ?_, ?_⟩
  · obtain ⟨n, _, rfl⟩ := List.mem_map.mp (h.mem_iff.mp hz)
    exact ⟨n, rfl⟩
  · have q := h.map toI
    rw [List.map_map] at q
    have : (toI ∘ V.int) = id := rfl
    rw [this, List.map_id] at q
    exact q
def rgI (n : Int) : List Int := (List.range n.toNat).map fun i => ((i : Nat) : Int)
theorem rgV_ints (n : Int) : rgV 0 n = (rgI n).map V.int := by
  unfold rgV rgI
  rw [List.map_map, Int.sub_zero]
  refine List.map_congr_left fun i _ => ?_
  show V.int (0 + (i : Int)) = V.int (i : Int)
  rw [Int.zero_add]
theorem rgI_mem {n z : Int} : z ∈ rgI n ↔ 0 ≤ z ∧ z < n := by
  unfold rgI
  rw [List.mem_map]
  constructor
  · rintro ⟨i, hi, rfl⟩
    have := List.mem_range.mp hi
    omega
  · rintro ⟨h1, h2⟩
    exact ⟨z.toNat, List.mem_range.mpr (by omega), by omega⟩
theorem rgI_nodup (n : Int) : (rgI n).Nodup := by
  unfold rgI List.Nodup
  rw [List.pairwise_map]
  refine List.nodup_range.imp fun {i j} h e => h (by omega)
theorem rgI_len (n : Int) : (rgI n).length = n.toNat := by
  unfold rgI
  rw [List.length_map, List.length_range]
theorem cut_to (xs : List V) (k : Int) (h : 0 ≤ k) : cutV xs none (some k) = xs.take k.toNat := by
  have e : k = ((k.toNat : Nat) : Int) := by omega
  unfold cutV
  rw [HT.sIx_none, e, HT.sIx_nat, List.drop_zero, Nat.sub_zero]
  rw [List.take_eq_take_iff]
  have : (((k.toNat : Nat) : Int)).toNat = k.toNat := by omega
  rw [this]
  omega
theorem sh_int {K : PySem.W.Frag} {H : Hp} (n : Int) : Sh K H (.int n) := ⟨.int n, .int n, by simp [PyData.canLay0], by simp [PyData.depth]⟩
theorem sh_ints {K : PySem.W.Frag} {H : Hp} {ns : List Int} : ∀ x ∈ ns.map V.int, Sh K H x := fun x hx => by
  obtain ⟨n, _, rfl⟩ := List.mem_map.mp hx
  exact sh_int n
theorem strict {ms : List Int} (h1 : ms.Pairwise (· ≤ ·)) (h2 : ms.Nodup) : ms.Pairwise (· < ·) :=
  (List.Pairwise.and h1 h2).imp fun {a b} h => by
    have := h.1
    have := h.2
    omega
/-- pieces of a chart of n fields -/
structure PsOk (n : Int) (ps : List (Int × Int)) : Prop where
  fld : ∀ p ∈ ps, 0 ≤ p.1 ∧ p.1 < n ∧ 0 ≤ p.2 ∧ p.2 < 6
  asc : ps.Pairwise fun p q => p.1 < q.1
def spPieces (K : PySem.W.Frag) : Sp := fun vs H Q _ => ∃ (a c : Addr) (v : V) (n m : Int) (rs : List (Int × Int)) (cs : List Int), vs = [.ref a, v, .int m] ∧ DeckAt H a c ∧ Da K [a, c] H v (chD n rs cs) ∧ 0 < n ∧ n ≤ 24 ∧ 0 ≤ m ∧ m ≤ 100 ∧
  ∀ (H' : Hp) (u : V) (ps : List (Int × Int)), PsOk n ps → ps.length = min m.toNat n.toNat → Da K [a, c] H' u (.tuple (ps.map pD)) → DeckAt H' a c → Kp [a, c] H H' → Q u H'
section
variable {P : Program} {w : World} {K : PySem.W.Frag} {mg : Str → Option Value} {base : Heap}
abbrev nPieces : List Str := ["deck", "chart", "many", "players", "fields", "field"]
theorem scPieces : FnScope nPieces ["deck", "chart", "many"] (defScope sPieces) := ⟨rfl, rfl, rfl, by decide +kernel, rfl, by decide +kernel, by decide +kernel⟩
theorem ok_pieces {f fD fM fP : Addr} {fd fdD fdM fdP : FuncData} (F : Fun K "_law_pieces" "_law_pieces" sPieces f fd) (FD : Fun K "_law_draw" "_law_draw" sDraw fD fdD) (bD : Binds K fdD ["deck", "many"] []) (gD : mg "_law_draw" = some (.ref fD))
    (FM : Fun K "_law_mixed" "_law_mixed" sMixed fM fdM) (bM : Binds K fdM ["deck", "items"] []) (gM : mg "_law_mixed" = some (.ref fM)) (FP : Fun K "_law_pick" "_law_pick" sPick fP fdP) (bP : Binds K fdP ["deck", "items"] []) (gP : mg "_law_pick" = some (.ref fP))
    (mI : mg "int" = none) (mL : mg "len" = none) (mLi : mg "list" = none) (mR : mg "range" = none) (mT : mg "tuple" = none) (mS : mg "sorted" = none) : FnOk P w K mg base CX0 3 f fd ["deck", "chart", "many"] (spPieces K) := by
  have GD : FnOk P w K mg base CX0 1 fD fdD ["deck", "many"] spDraw := ok_draw FD mI
  have GM : FnOk P w K mg base CX0 2 fM fdM ["deck", "items"] (spMixed K) := ok_mixed FM FD bD gD mI mL mLi
  have GP : FnOk P w K mg base CX0 2 fP fdP ["deck", "items"] (spPick K) := ok_pick FP FD bD gD mI mL
  refine F.ok scPieces (fun vs H Q E h => ?_) (fun cdv A outer s H vs Q E hr h => ?_)
  · obtain ⟨a, c, v, n, m, rs, cs, rfl, _⟩ := h
    rfl
  · obtain ⟨a, c, v, n, m, rs, cs, rfl, hD, hv, hn0, hn1, hm0, hm1, k⟩ := h
    refine ⟨_, pss_cons (ps_set (i := 3) scPieces.nd rfl (.inr rfl) (pe_slice sl_list (pe_call GM hr (by rfl) gM FM.kp bM .nil pass0 (pa_cons (pv 0) (pa_cons (pe_listRg rfl (by rfl) mLi (prg_1 (by rfl) mR pe_int)) pa_nil)))
          po_none (po_some (pe_op op_add pe_int (pe_call GD (hr.mono (by decide)) (by rfl) gD FD.kp bD .nil pass0 (pa_cons (pv 0) (pa_cons pe_int pa_nil)))))))
      (pss_cons (ps_set (i := 4) scPieces.nd rfl (.inl rfl) (pe_callB cr_sortedI (by rfl) mS PyProof.Rows.boot_sorted (pa_cons (pe_slice sl_list (pe_call GM hr (by rfl) gM FM.kp bM .nil pass0 (pa_cons (pv 0)
          (pa_cons (pe_listRg rfl (by rfl) mLi (prg_1 (by rfl) mR (kt (pv 1) pe_int))) pa_nil))) po_none (po_some (pv 2))) pa_nil)))
      (pss_one (ps_ret (pe_callTy call_tuple_of (by rfl) mT PyProof.Rows.boot_tuple (pa_cons
        (pe_lc (own := [("field", 5)]) (g := gName 5) rfl scPieces.nd (pi_list (pv 4)) (blkOk_by (own := [("field", 5)]) (N := nPieces) (sc := defScope sPieces) (by decide +kernel)) (fun _ _ _ _ _ => pg_name (i := 5) scPieces.nd rfl (.inl rfl))
          (fun _ _ _ _ _ => pts_nil) (fun _ _ _ _ _ => pe_tup (pa_cons (pv 5) (pa_cons (pe_call GP hr (by rfl) gP FP.kp bP .nil pass0 (pa_cons (pv 0) (pa_cons (pv 3) pa_nil))) pa_nil)))) pa_nil))))), ?_⟩
    -- players
    refine ⟨.ref a, rfl, 6, rfl, RgOk.of_le (by decide) (by decide) (by decide) (by decide), fun q hq => ?_⟩
    rw [rgV_ints]
    refine ⟨a, c, q, _, rfl, hD.new hq, .inl (SqL.of upd_same), by decide, sh_ints, fun H1 p ys hp1 hp2 hp3 hD1 k1 => ?_⟩
    obtain ⟨ms, rfl, hms⟩ := perm_ints hp1
    have k1 : Kp [a, c] H H1 := (Kp.new hq).trans k1
    have hpH : H p = none := by
      by_cases e : p = q
      · rw [e]; exact hq
      · rw [upd_ne e] at hp2; exact hp2
    obtain ⟨pa, pc⟩ := hD.ne hpH
    refine ⟨.ref a, rfl, a, c, 2, rfl, hD1, by decide, by decide, fun H2 r r0 r1 hD2 k2 => ⟨2, r, rfl, rfl, 2 + r, rfl, p, _, rfl, SqL.of (k2.get (by simp [pa, pc]) hp3), fun p2 hp2 => ?_⟩⟩
    rw [cut_to _ _ (by omega), ← List.map_take]
    have hms6 : ms.length = 6 := by rw [hms.length_eq]; decide
    have hpl : ∀ z ∈ ms.take (2 + r).toNat, 0 ≤ z ∧ z < 6 := fun z hz => rgI_mem.mp (hms.mem_iff.mp (List.mem_of_mem_take hz))
    have hplne : ms.take (2 + r).toNat ≠ [] := fun e => by
      have e := congrArg List.length e
      rw [List.length_take, hms6] at e
      simp only [List.length_nil] at e
      omega
    have hpllen : (ms.take (2 + r).toNat).length ≤ 6 := by rw [List.length_take, hms6]; omega
    generalize ms.take (2 + r).toNat = pl at hpl hplne hpllen
    have k3 : Kp [a, c] H (upd H2 p2 (.lst (pl.map V.int))) := (k1.trans k2).trans (Kp.new hp2)
    have hD3 := hD2.new (o := .lst (pl.map V.int)) hp2
    obtain ⟨p2a, p2c⟩ := hD2.ne hp2
    have hP3 : (upd H2 p2 (.lst (pl.map V.int))) p2 = some (.lst (pl.map V.int)) := upd_same
    show tSeq _ _ _ _ (upd H2 p2 (.lst (pl.map V.int)))
    generalize upd H2 p2 (.lst (pl.map V.int)) = H3 at k3 hD3 hP3
    clear hp2 hD2 k2 hp3 hD1 k1 hp1
    -- fields
    have hv3 := hv.keep k3
    obtain ⟨ta, t1, t2, rfl, hs, _, _⟩ := chart_inv hv3.dp
    refine ⟨.ref a, rfl, .ref ta, rfl, ta, _, 0, _, rfl, rfl, hs, at0, n, rfl, RgOk.of_le (by decide) (by omega) (by decide) (by omega), fun q hq => ?_⟩
    rw [rgV_ints]
    refine ⟨a, c, q, _, rfl, hD3.new hq, .inl (SqL.of upd_same), ?_, sh_ints, fun H4 p4 ys hp1 hp2 hp3 hD4 k4 => ?_⟩
    · rw [List.length_map, rgI_len]
      omega
    obtain ⟨fs, rfl, hfs⟩ := perm_ints hp1
    have hp4 : H3 p4 = none := by
      by_cases e : p4 = q
      · rw [e]; exact hq
      · rw [upd_ne e] at hp2; exact hp2
    have k4 : Kp [a, c] H3 H4 := (Kp.new hq).trans k4
    have hP4 : H4 p2 = some (.lst (pl.map V.int)) := k4.get (by simp [p2a, p2c]) hP3
    refine ⟨.int m, rfl, m, rfl, p4, _, rfl, SqL.of hp3, fun p5 hp5 => ?_⟩
    rw [cut_to _ _ hm0, ← List.map_take]
    refine ⟨p5, _, rfl, SqL.of upd_same, fun gs p6 hg1 hg2 hp6 => ?_⟩
    have hgs : ∀ z ∈ gs, 0 ≤ z ∧ z < n := fun z hz => rgI_mem.mp (hfs.mem_iff.mp (List.mem_of_mem_take (hg1.mem_iff.mp hz)))
    have hgn : gs.Nodup := hg1.nodup_iff.mpr ((hfs.nodup_iff.mpr (rgI_nodup n)).sublist (List.take_sublist _ _))
    have hgl : gs.length = min m.toNat n.toNat := by rw [hg1.length_eq, List.length_take, hfs.length_eq, rgI_len]
    have k6 : Kp [a, c] H3 (upd (upd H4 p5 (.lst ((fs.take m.toNat).map V.int))) p6 (.lst (gs.map V.int))) := (k4.trans (Kp.new hp5)).trans (Kp.new hp6)
    have hD6 := (hD4.new (o := .lst ((fs.take m.toNat).map V.int)) hp5).new (o := .lst (gs.map V.int)) hp6
    have hP6 := k6.get (by simp [p2a, p2c]) hP3
    have hG6 : (upd (upd H4 p5 (.lst ((fs.take m.toNat).map V.int))) p6 (.lst (gs.map V.int))) p6 = some (.lst (gs.map V.int)) := upd_same
    obtain ⟨p6a, p6c⟩ := (hD4.new (o := .lst ((fs.take m.toNat).map V.int)) hp5).ne hp6
    generalize upd (upd H4 p5 (.lst ((fs.take m.toNat).map V.int))) p6 (.lst (gs.map V.int)) = H6 at k6 hD6 hP6 hG6
    have k6 : Kp [a, c] H H6 := k3.trans k6
    clear hp6 hp5 hp3 hD4 k4 hP4 hp1
    -- the pieces
    refine ⟨_, rfl, p6, rfl, ⟨_, SqL.of hG6⟩, fun D hD0 => ?_⟩
    have Dp6 : p6 ≠ D := ne_of_none hG6 hD0
    have Dp2 : p2 ≠ D := ne_of_none hP6 hD0
    obtain ⟨Da', Dc'⟩ := hD6.ne hD0
    have hDH : H D = none := fresh_of k6 (by simp [Da', Dc']) hD0
    refine lc_list (K := K) (a := p6) (xs := gs.map V.int) (fun i H' => ∃ xs ps, H' D = some (.lst xs) ∧ Prs H' xs ps ∧ ps.map (·.1) = gs.take i ∧ (∀ p ∈ ps, 0 ≤ p.2 ∧ p.2 < 6) ∧ H' p6 = some (.lst (gs.map V.int)) ∧ H' p2 = some (.lst (pl.map V.int)) ∧ DeckAt H' a c ∧ Kp [a, c] H H')
      ⟨[], [], upd_same, .nil, by simp, fun p hp => absurd hp (by simp), by rw [upd_ne Dp6]; exact hG6, by rw [upd_ne Dp2]; exact hP6, hD6.new hD0, k6.trans (Kp.new hD0)⟩ (fun i H' _ ⟨_, _, _, _, _, _, e, _⟩ => SqL.of e) ?_ ?_
    · rintro i x H' hx ⟨xs, ps, e1, e2, e3, e4, e5, e6, e7, e8⟩
      obtain ⟨z, hz, rfl⟩ := map_ints_get hx
      have hi : i < gs.length := (List.getElem?_eq_some_iff.mp hz).1
      refine ⟨rfl, yesGo ?_⟩
      refine ⟨.int z, rfl, .ref a, rfl, .ref p2, rfl, a, c, p2, _, rfl, e7, p2a, p2c, SqL.of e6, (by simpa using hplne), (by rw [List.length_map]; omega), fun H7 y hy hD7 k7 => ?_⟩
      obtain ⟨b, hb, rfl⟩ := List.mem_map.mp hy
      refine ⟨by show 2 ≤ sizeLine; decide, fun T hT => ?_⟩
      have f1 : H7 D = some (.lst xs) := k7.get (by simp [Da', Dc']) e1
      have nt7 : NoTup H' [a, c] := by
        obtain ⟨q1, q2, q3, g1, g2, _⟩ := e7
        intro s hs xs e
        rcases List.mem_cons.mp hs with w | hs
        · rw [w, g1] at e; cases e
        · rw [List.mem_singleton.mp hs, g2] at e; cases e
      have f2 : Prs H7 xs ps := e2.keep k7 nt7
      have f5 : H7 p6 = some (.lst (gs.map V.int)) := k7.get (by simp [p6a, p6c]) e5
      have f6 : H7 p2 = some (.lst (pl.map V.int)) := k7.get (by simp [p2a, p2c]) e6
      have kT : Kp ([] : List Addr) H7 (upd H7 T (.tup [.int z, .int b])) := Kp.new hT
      have g1 : (upd H7 T (.tup [.int z, .int b])) D = some (.lst xs) := kT.get (by simp) f1
      have g2 : Prs (upd H7 T (.tup [.int z, .int b])) xs ps := f2.keep kT (fun s hs => absurd hs (by simp))
      have g5 := kT.get (by simp) f5
      have g6 := kT.get (by simp) f6
      have gT : PrAt (upd H7 T (.tup [.int z, .int b])) (.ref T) (z, b) := ⟨T, rfl, upd_same⟩
      have g7 : DeckAt (upd H7 T (.tup [.int z, .int b])) a c := hD7.new hT
      have g8 : Kp [a, c] H (upd H7 T (.tup [.int z, .int b])) := (e8.trans k7).trans (Kp.new hT)
      generalize upd H7 T (.tup [.int z, .int b]) = H8 at g1 g2 g5 g6 gT g7 g8
      have kD : Kp [D] H8 (upd H8 D (.lst (xs ++ [.ref T]))) := Kp.put (by simp)
      have nD : NoTup H8 [D] := fun s hs ys e => by rw [List.mem_singleton.mp hs, g1] at e; cases e
      have hlx : xs.length = i := by
        rw [g2.len, ← List.length_map (f := (·.1)), e3, List.length_take]
        omega
      refine ⟨xs, g1, small1000 (by omega), xs ++ [.ref T], ps ++ [(z, b)], upd_same, Prs.snoc (gT.keep kD nD) (g2.keep kD nD), ?_, fun p hp => ?_, by rw [upd_ne Dp6]; exact g5, by rw [upd_ne Dp2]; exact g6, g7.put Da' Dc', ?_⟩
      · rw [List.map_append, e3, take_snoc hz]
        rfl
      · rcases List.mem_append.mp hp with w | w
        · exact e4 p w
        · rw [List.mem_singleton.mp w]
          exact hpl b hb
      · exact (Kp.trans (g8.mono fun b hb => List.mem_cons_of_mem D hb) (Kp.put (by simp))).drop hDH
    · rintro H7 ⟨xs, ps, e1, e2, e3, e4, e5, e6, e7, e8⟩
      rw [List.length_map, List.take_length] at e3
      refine ⟨D, xs, rfl, .inl ⟨SqL.of e1, fun T hT => ?_⟩⟩
      have kT : Kp ([] : List Addr) H7 (upd H7 T (.tup xs)) := Kp.new hT
      have g2 : Prs (upd H7 T (.tup xs)) xs ps := e2.keep kT (fun s hs => absurd hs (by simp))
      have g7 : DeckAt (upd H7 T (.tup xs)) a c := e7.new hT
      have nt : NoTup (upd H7 T (.tup xs)) [a, c] := by
        obtain ⟨q1, q2, q3, g1, g2, _⟩ := g7
        intro s hs xs e
        rcases List.mem_cons.mp hs with w | hs
        · rw [w, g1] at e; cases e
        · rw [List.mem_singleton.mp hs, g2] at e; cases e
      refine k _ (.ref T) ps ⟨fun p hp => ?_, ?_⟩ ?_ (.tup (SqT.of (Ob.mk (fun w => nt T w _ upd_same) upd_same)) (g2.data nt)) g7 (e8.trans (Kp.new hT))
      · have h1 := hgs p.1 (by rw [← e3]; exact List.mem_map.mpr ⟨p, hp, rfl⟩)
        have h2 := e4 p hp
        omega
      · have q := strict hg2 hgn
        rw [← e3] at q
        exact List.pairwise_map.mp q
      · rw [← hgl, ← e3, List.length_map]
end
end Kt

set_option Elab.async false
set_option linter.all false
set_option maxRecDepth 100000
set_option maxHeartbeats 4000000
/-! sorted of triples of one word and two ints -/
namespace Kt
open PySem PySem.Spec PyProof.Rows L2
/-- v is a tuple of the word z and two ints -/
def IsTri (z : Str) (h : Heap) (v : Value) (r : Int × Int) : Prop := ∃ a o t u w n, v = .ref a ∧ h.get? a = some o ∧ o.cls = .type "tuple" ∧ o.data = .seq #[.str z t, .int r.1 u, .int r.2 w] n
section
variable {prog : Program} {w : World} {A : Around} {E : Value → Shared → Prop} {s : Shared} {z : Str}
theorem IsTri.stays {h h' : Heap} {v : Value} {r : Int × Int} (p : IsTri z h v r) (k : ∀ b o, h.get? b = some o → o.cls = .type "tuple" → h'.get? b = some o) : IsTri z h' v r :=
  let ⟨a, o, t, u, w, n, e, ho, hc, hd⟩ := p
  ⟨a, o, t, u, w, n, e, k a o ho hc, hc, hd⟩
theorem tri_heads {h : Heap} {k : Value → Int × Int} : ∀ (vs : List Value), (∀ v ∈ vs, IsTri z h v (k v)) → ∃ fs : List Value, PySem.W.KatTups h vs fs ∧ fs.length = vs.length ∧ ∀ f ∈ fs, ∃ t, f = Value.str z t
  | [], _ => ⟨[], .nil, rfl, fun _ q => absurd q (by simp)⟩
  | v :: vs, hp => by
    obtain ⟨a, o, t, u, w, n, e, ho, hc, hd⟩ := hp v (by simp)
    obtain ⟨fs, g1, g2, g3⟩ := tri_heads vs fun x hx => hp x (by simp [hx])
    subst e
    refine ⟨.str z t :: fs, .cons ho hc hd rfl g1, congrArg Nat.succ g2, fun f hf => ?_⟩
    cases List.mem_cons.mp hf with
    | inl e => exact ⟨t, e⟩
    | inr hf => exact g3 f hf
theorem tri_cmp {vs : List Value} {k : Value → Int × Int} (hp : ∀ v ∈ vs, IsTri z s.heap v (k v)) : SrtO.Cmp prog w A s (tuples' true) (fun p => p.1 ∈ vs) (SrtO.lt2 fun v u => SrtO.lexB (k v) (k u)) := by
  intro p q hm hm'
  obtain ⟨a, o, t, u, w', n, e, ho, hc, hd⟩ := hp _ hm
  obtain ⟨a', o', t', u', w'', n', e', ho', hc', hd'⟩ := hp _ hm'
  show wpAny (model prog w) A (keyLt' (tuples' true) p.1 q.1) (fun r s' => s' = s ∧ r = SrtO.lexB (k p.1) (k q.1)) (fun _ _ => False) s
  generalize k p.1 = x at hd ⊢
  generalize k q.1 = y at hd' ⊢
  rw [e, e']
  refine PySem.W.kat_lt ho hd ho' hd' ?_
  show PySem.W.KatLex prog w A true (decide (3 < 3)) _ [(.str z t, .str z t'), (.int x.1 u, .int y.1 u'), (.int x.2 w', .int y.2 w'')] 0 s
  refine PySem.W.kat_cons (SeqAt.EqAt.str_str z t z t' prog w _ _ ?_)
  rw [show (z == z) = true from beq_self_eq_true z]
  refine PySem.W.kat_yes (PySem.W.kat_cons (SeqAt.EqAt.int_int x.1 u y.1 u' prog w _ _ ?_))
  refine PySem.W.kat_go (fun e1 => ?_) (fun e1 => ?_)
  · have ex : x.1 = y.1 := by simpa using e1
    refine PySem.W.kat_yes (PySem.W.kat_cons (SeqAt.EqAt.int_int x.2 w' y.2 w'' prog w _ _ ?_))
    refine PySem.W.kat_go (fun e2 => ?_) (fun e2 => ?_)
    · have ey : x.2 = y.2 := by simpa using e2
      refine PySem.W.kat_yes (PySem.W.kat_nil ⟨rfl, ?_⟩)
      exact (SrtO.lexB_no.mpr (by omega)).symm
    · refine PySem.W.kat_no (PySem.W.kat_one _ _ (PyProof.Rows.lt_int ⟨rfl, ?_⟩))
      unfold SrtO.lexB
      rw [if_pos ex]
  · have ex : ¬ x.1 = y.1 := by simpa using e1
    refine PySem.W.kat_no (PySem.W.kat_one _ _ (PyProof.Rows.lt_int ⟨rfl, ?_⟩))
    unfold SrtO.lexB
    rw [if_neg ex]
end
/-- where the heap has triples, told by k -/
def rSortTri (K : PySem.W.Frag) (z : Str) : List V → Hp → VK → Prop := fun vs H Q => ∃ (a : Addr) (xs : List V) (k : V → Int × Int), vs = [V.ref a] ∧ SqL K H a xs ∧ (∀ x ∈ xs, ∃ t, x = V.ref t ∧ H t = some (.tup [.str z, .int (k x).1, .int (k x).2])) ∧
  ∀ ys p, SrtO.Srtd (ltP k) ys → SrtO.Stb (ltP k) ys xs → H p = none → Q (.ref p) (upd H p (.lst ys))
theorem cr_sortTri {X : Cx} (z : Str) : CallR X (.builtin "sorted") (rSortTri X.K z) := by
  intro pins s σ H vs us Q I r h
  obtain ⟨a, xs, k, rfl, hs, hx, q⟩ := h
  obtain ⟨u, rfl, ru⟩ := vals1 r
  obtain rfl : u = Value.ref a := ru
  obtain ⟨its, rv, hl, hz⟩ := I.list hs
  have hz' : its.length ≤ sizeLine := by rw [← rv.length]; exact hz
  obtain ⟨e1, e2⟩ := refs_back rv fun x m => let ⟨t, e, _⟩ := hx x m; ⟨t, e⟩
  have tri : ∀ v ∈ its, IsTri z s.heap v (k (backV v)) := fun v hv => by
    obtain ⟨t, rfl⟩ := e2 v hv
    obtain ⟨t', e, ht⟩ := hx (V.ref t) (by rw [e1]; exact List.mem_map.mpr ⟨_, hv, rfl⟩)
    cases e
    obtain ⟨_, us, r3, o, ho, hc, n, hd⟩ := I.hok _ _ ht
    cases r3 with
    | cons r1 r3 =>
      cases r3 with
      | cons r2 r3 =>
        cases r3 with
        | cons r4 r5 =>
          cases r5
          obtain ⟨t1, rfl⟩ := r1
          obtain ⟨t2, rfl⟩ := r2
          obtain ⟨t3, rfl⟩ := r4
          exact ⟨t, o, t1, t2, t3, n, rfl, ho, hc, hd⟩
  refine SrtO.sorted_ord (SrtO.swo_lex fun u => k (backV u)) hl.isList hz' (fun h2 h₁ b hb kk => ?_) fun out hS hB => ?_
  · intro h' keep
    have tri' : ∀ v ∈ its, IsTri z h' v (k (backV v)) := fun v hv => (tri v hv).stays fun d o ho hc => keep d o (fun w => (kk d o ho).1 w) (kk d o ho).2
    obtain ⟨fs, g1, g2, g3⟩ := tri_heads its tri'
    refine ⟨tuples' true, fun Q E hq => ?_, tri_cmp tri'⟩
    refine PySem.W.kat_kind (T := .type "str") g1 (by omega) (fun f hm => ?_) (by rfl) ?_
    · obtain ⟨t, rfl⟩ := g3 f hm
      exact PySem.W.Looks.now
    · rw [show (Value.type "str" != Value.type "tuple") = true by decide +kernel]
      exact hq
  · have h3 : ∀ u ∈ out, ∃ a, u = Value.ref a := fun u hu => e2 u (hB.perm.mem_iff.mp hu)
    have hb : SrtO.Stb (ltP k) (out.map backV) xs := by
      rw [e1]
      exact SrtO.Stb.map (ltP_swo k) backV hB
    obtain ⟨n, hn⟩ := sortedAll_at s.heap its out.toArray
    refine ⟨.ref (s.heap.objs.size + 1), upd H (s.heap.objs.size + 1) (.lst (out.map backV)), I.laid (t' := s.toks) (fun b o e => sortedAll_old e) (Nat.le_succ _) ⟨?_, out, n, vals_back h3, hn⟩, rfl, q _ _ (SrtO.srtd_map hS) hb (I.hok.fresh (Nat.le_succ _))⟩
    rw [hb.len]
    exact hz
end Kt

set_option Elab.async false
set_option linter.all false
set_option maxRecDepth 100000
set_option maxHeartbeats 4000000
namespace Kt
open PySem PySem.Spec PyProof.Rows L2
/-! tuples of flat things that stand in the heap -/
section
variable {α : Type} {f : α → List V}
def TpAt (f : α → List V) (H : Hp) (x : V) (r : α) : Prop := ∃ t, x = .ref t ∧ H t = some (.tup (f r))
abbrev Ps (f : α → List V) (H : Hp) : List V → List α → Prop := Paired (TpAt f H)
theorem TpAt.keep {H H' : Hp} {S : List Addr} {x : V} {r : α} (h : TpAt f H x r) (k : Kp S H H') (n : NoTup H S) : TpAt f H' x r := by
  obtain ⟨t, rfl, e⟩ := h
  exact ⟨t, rfl, k.get (fun z => n t z _ e) e⟩
theorem Ps.keep {H H' : Hp} {S : List Addr} (k : Kp S H H') (n : NoTup H S) : ∀ {xs : List V} {rs : List α}, Ps f H xs rs → Ps f H' xs rs
  | _, _, .nil => .nil
  | _, _, .cons h t => .cons (h.keep k n) (Ps.keep k n t)
theorem Ps.snoc {H : Hp} {x : V} {r : α} (hx : TpAt f H x r) : ∀ {xs : List V} {rs : List α}, Ps f H xs rs → Ps f H (xs ++ [x]) (rs ++ [r])
  | _, _, .nil => .cons hx .nil
  | _, _, .cons h t => .cons h (Ps.snoc hx t)
theorem Ps.app {H : Hp} : ∀ {xs ys : List V} {rs qs : List α}, Ps f H xs rs → Ps f H ys qs → Ps f H (xs ++ ys) (rs ++ qs)
  | _, _, _, _, .nil, h => h
  | _, _, _, _, .cons a b, h => .cons a (Ps.app b h)
theorem Ps.len {H : Hp} : ∀ {xs : List V} {rs : List α}, Ps f H xs rs → xs.length = rs.length
  | _, _, .nil => rfl
  | _, _, .cons _ t => by rw [List.length_cons, List.length_cons, Ps.len t]
theorem Ps.at {H : Hp} : ∀ {xs : List V} {rs : List α} {i : Nat} {x : V}, Ps f H xs rs → xs[i]? = some x → ∃ r, rs[i]? = some r ∧ TpAt f H x r
  | _, _, i, x, .nil, h => by simp at h
  | _, _, 0, x, .cons a _, h => by
    have e := Option.some.inj h
    subst e
    exact ⟨_, rfl, a⟩
  | _, _, i + 1, x, .cons _ b, h => Ps.at (i := i) b h
theorem Ps.map {β : Type} {g : β → List V} {q : α → β} (e : ∀ r, g (q r) = f r) {H : Hp} : ∀ {xs : List V} {rs : List α}, Ps f H xs rs → Ps g H xs (rs.map q)
  | _, _, .nil => .nil
  | _, _, .cons ⟨t, h1, h2⟩ b => .cons ⟨t, h1, by rw [e]; exact h2⟩ (Ps.map e b)
end
theorem noTup_nil {H : Hp} : NoTup H [] := fun s hs => absurd hs (by simp)
theorem deck_noTup {H : Hp} {a c : Addr} (h : DeckAt H a c) : NoTup H [a, c] := by
  obtain ⟨q1, q2, q3, g1, g2, _⟩ := h
  intro s hs xs e
  rcases List.mem_cons.mp hs with w | hs
  · rw [w, g1] at e; cases e
  · rw [List.mem_singleton.mp hs, g2] at e; cases e
/-! orders -/
inductive Ord where
  | stay
  | go (g : Int)
  | back (f g : Int)
deriving DecidableEq
def oV : Ord → List V
  | .stay => [.str "stay"]
  | .go g => [.str "go", .int g]
  | .back f g => [.str "back", .int f, .int g]
def half (rs : List (Int × Int)) (own : Int) (reach : List Int) (f : Int) : List (Int × Int) := if f = own then [] else (reach.filter fun g => decide (g = f) || decide (g ∈ bes rs f)).map fun g => (f, g)
def backsOf (rs : List (Int × Int)) (own : Int) (reach fs : List Int) : List (Int × Int) := fs.flatMap (half rs own reach)
/-- the law's own orders of a piece in the field own -/
structure MenuOf (rs : List (Int × Int)) (ps : List (Int × Int)) (own : Int) (os : List Ord) : Prop where
  eq : ∃ (reach : List Int) (bs : List (Int × Int)), reach.Perm (bes rs own) ∧ reach.Pairwise (· ≤ ·) ∧ bs.Perm (backsOf rs own reach (ps.map (·.1))) ∧ bs.Pairwise (fun u v => SrtO.lexB v u = false) ∧ os = .stay :: (reach.map .go ++ bs.map fun q => .back q.1 q.2)
def bdD (n : Int) (rs : List (Int × Int)) (cs : List Int) (ps : List (Int × Int)) : PyData := .tuple [chD n rs cs, .tuple (ps.map pD)]
theorem board_inv {K : PySem.W.Frag} {H : Hp} {v : V} {n : Int} {rs : List (Int × Int)} {cs : List Int} {ps : List (Int × Int)} (h : Dp K H v (bdD n rs cs ps)) :
    ∃ a t u xs, v = .ref a ∧ SqT K H a [.ref t, .ref u] ∧ Dp K H (.ref t) (chD n rs cs) ∧ SqT K H u xs ∧ DpAll K H xs (ps.map pD) := by
  obtain ⟨a, xs, rfl, hs, ha⟩ := tup_inv h
  cases ha with
  | cons h1 h2 =>
    cases h2 with
    | cons h3 h4 =>
      cases h4
      obtain ⟨t, _, _, rfl, _⟩ := chart_inv h1
      obtain ⟨u, xs, rfl, hu, hx⟩ := tup_inv h3
      exact ⟨a, t, u, xs, rfl, hs, h1, hu, hx⟩
theorem inV_ints (g : Int) (ms : List Int) : inV (.int g) (ms.map V.int) = decide (g ∈ ms) := by
  induction ms with
  | nil => rfl
  | cons m ms ih =>
    unfold inV at ih ⊢
    rw [List.map_cons, List.any_cons, ih, eqv_int]
    by_cases h : g = m <;> simp [h]
theorem flat_ints (ms : List Int) : (ms.map V.int).all flatV = true := by
  induction ms with
  | nil => rfl
  | cons m ms ih => rw [List.map_cons, List.all_cons, ih]; rfl
theorem pairs_at {K : PySem.W.Frag} {H : Hp} {xs : List V} {ps : List (Int × Int)} {i : Nat} {x : V} (h : DpAll K H xs (ps.map pD)) (hx : xs[i]? = some x) : ∃ r t, ps[i]? = some r ∧ x = .ref t ∧ SqT K H t [.int r.1, .int r.2] := by
  obtain ⟨d, hd, hxd⟩ := all_get h hx
  rw [List.getElem?_map] at hd
  obtain ⟨r, hr, rfl⟩ := Option.map_eq_some_iff.mp hd
  obtain ⟨t, rfl, ht⟩ := pair_inv hxd
  exact ⟨r, t, hr, rfl, ht⟩
/-! triples by their ints -/
def bV (q : Int × Int) : List V := [.str "back", .int q.1, .int q.2]
def keyT (H : Hp) (x : V) : Int × Int := match x with
  | .ref t => match H t with
    | some (.tup [.str _, .int i, .int j]) => (i, j)
    | _ => (0, 0)
  | _ => (0, 0)
theorem keyT_at {H : Hp} {x : V} {r : Int × Int} (h : TpAt bV H x r) : keyT H x = r := by
  obtain ⟨t, rfl, e⟩ := h
  unfold keyT bV at *
  simp only [e]
theorem tri_keys {H : Hp} : ∀ {xs : List V} {rs : List (Int × Int)}, Ps bV H xs rs → xs.map (keyT H) = rs ∧ ∀ x ∈ xs, TpAt bV H x (keyT H x)
  | _, _, .nil => ⟨rfl, fun _ h => absurd h (by simp)⟩
  | _, _, .cons h t => by
    obtain ⟨e1, e2⟩ := tri_keys t
    refine ⟨by rw [List.map_cons, keyT_at h, e1], fun x hx => ?_⟩
    rcases List.mem_cons.mp hx with e | hx
    · rw [e, keyT_at h]
      exact h
    · exact e2 x hx
theorem tri_map {H : Hp} : ∀ {ys : List V}, (∀ x ∈ ys, TpAt bV H x (keyT H x)) → Ps bV H ys (ys.map (keyT H))
  | [], _ => .nil
  | y :: ys, h => .cons (h y List.mem_cons_self) (tri_map fun x hx => h x (List.mem_cons_of_mem _ hx))
theorem tri_sorted {H : Hp} {xs ys : List V} {rs : List (Int × Int)} (hp : Ps bV H xs rs) (h1 : SrtO.Srtd (ltP (keyT H)) ys) (h2 : SrtO.Stb (ltP (keyT H)) ys xs) :
    (ys.map (keyT H)).Perm rs ∧ (ys.map (keyT H)).Pairwise (fun u v => SrtO.lexB v u = false) ∧ Ps bV H ys (ys.map (keyT H)) := by
  obtain ⟨e1, e2⟩ := tri_keys hp
  refine ⟨?_, List.pairwise_map.mpr h1, tri_map fun x hx => e2 x (h2.perm.mem_iff.mp hx)⟩
  rw [← e1]
  exact h2.perm.map _
theorem map_snoc {α β : Type} (f : α → β) {l : List α} {i : Nat} {x : α} (h : l[i]? = some x) : (l.take (i + 1)).map f = (l.take i).map f ++ [f x] := by
  rw [take_snoc h, List.map_append]
  rfl
theorem upd_self {H : Hp} {p : Addr} {o u : HO} : upd (upd H p o) p u = upd H p u := upd_upd
/-- H' is H but for the place l, which was free, and new places -/
theorem Kp.fill {S : List Addr} {H H' : Hp} {l : Addr} {o : HO} (k : Kp S H H') (hl : H l = none) : Kp S H (upd H' l o) :=
  Kp.drop (l := l) (Kp.trans (k.mono fun _ h => List.mem_cons_of_mem _ h) (Kp.put List.mem_cons_self)) hl
theorem half_len (rs : List (Int × Int)) (own : Int) (reach : List Int) (f : Int) : (half rs own reach f).length ≤ reach.length := by
  unfold half
  split
  · simp
  · rw [List.length_map]
    exact List.length_filter_le _ _
theorem backsOf_len (rs : List (Int × Int)) (own : Int) (reach : List Int) : ∀ fs : List Int, (backsOf rs own reach fs).length ≤ fs.length * reach.length
  | [] => by simp [backsOf]
  | f :: fs => by
    have h1 := backsOf_len rs own reach fs
    have h2 := half_len rs own reach f
    unfold backsOf at h1 ⊢
    rw [List.flatMap_cons, List.length_append, List.length_cons, Nat.succ_mul]
    omega
theorem bes_len (rs : List (Int × Int)) (f : Int) : (bes rs f).length ≤ rs.length := by
  unfold bes
  rw [List.length_map]
  exact List.length_filter_le _ _
def spOrdersOf (K : PySem.W.Frag) : Sp := fun vs H Q _ => ∃ (v : V) (i : Nat) (n : Int) (rs : List (Int × Int)) (cs : List Int) (ps : List (Int × Int)) (pc : Int × Int), vs = [v, .int i] ∧ Dp K H v (bdD n rs cs ps) ∧ rs.length ≤ 200 ∧ ps.length ≤ 24 ∧ ps[i]? = some pc ∧
  ∀ (H' : Hp) (p : Addr) (xs : List V) (os : List Ord), MenuOf rs ps pc.1 os → H p = none → H' p = some (.lst xs) → Ps oV H' xs os → xs.length ≤ 10000 → Kp [] H H' → Q (.ref p) H'
section
variable {P : Program} {w : World} {K : PySem.W.Frag} {mg : Str → Option Value} {base : Heap}
abbrev nOrdersOf : List Str := ["board", "place", "chart", "pieces", "field", "own", "fields", "reach", "gos", "backs", "goal", "player"]
theorem scOrdersOf : FnScope nOrdersOf ["board", "place"] (defScope sOrdersOf) := ⟨rfl, rfl, rfl, by decide +kernel, rfl, by decide +kernel, by decide +kernel⟩
theorem ok_ordersOf {f fB : Addr} {fd fdB : FuncData} (F : Fun K "_law_orders_of" "_law_orders_of" sOrdersOf f fd) (FB : Fun K "_law_beside" "_law_beside" sBeside fB fdB) (bB : Binds K fdB ["chart", "field"] []) (gB : mg "_law_beside" = some (.ref fB))
    (mS : mg "sorted" = none) : FnOk P w K mg base CX0 2 f fd ["board", "place"] (spOrdersOf K) := by
  have GB : FnOk P w K mg base CX0 1 fB fdB ["chart", "field"] (spBeside K) := ok_beside FB mS
  refine F.ok scOrdersOf (fun vs H Q E h => ?_) (fun cdv A outer s H vs Q E hr h => ?_)
  · obtain ⟨v, i, n, rs, cs, ps, pc, rfl, _⟩ := h
    rfl
  · obtain ⟨v, i, n, rs, cs, ps, pc, rfl, hv, hrs, hps, hpc, k⟩ := h
    refine ⟨_, pss_cons (ps_asg (pv 0) (pg_tup rfl (pgs_cons (pg_name (i := 2) scOrdersOf.nd rfl (.inl rfl)) (pgs_cons (pg_name (i := 3) scOrdersOf.nd rfl (.inl rfl)) pgs_nil))))
      (pss_cons (ps_par (i := 5) (j := 6) rfl scOrdersOf.nd rfl rfl (by decide) rfl rfl (pa_cons (kt (kt (pv 3) (pv 1)) pe_int) (pa_cons
          (pe_lc (own := [("field", 4), ("player", 11)]) (g := gTup K 2 (gCons (gName 4) (gCons (gName 11) gNil))) rfl scOrdersOf.nd (pi_tup (pv 3)) (blkOk_by (own := [("field", 4), ("player", 11)]) (N := nOrdersOf) (sc := defScope sOrdersOf) (by decide +kernel))
            (fun _ _ _ _ _ => pg_tup rfl (pgs_cons (pg_name (i := 4) scOrdersOf.nd rfl (.inl rfl)) (pgs_cons (pg_name (i := 11) scOrdersOf.nd rfl (.inl rfl)) pgs_nil))) (fun _ _ _ _ _ => pts_nil) (fun _ _ _ _ _ => pv 4)) pa_nil)) (by rfl))
      (pss_cons (ps_set (i := 7) scOrdersOf.nd rfl (.inl rfl) (pe_call GB hr (by rfl) gB FB.kp bB .nil pass0 (pa_cons (pv 2) (pa_cons (pv 5) pa_nil))))
      (pss_cons (ps_par (i := 8) (j := 9) rfl scOrdersOf.nd rfl rfl (by decide) rfl rfl (pa_cons
          (pe_lc (own := [("field", 4)]) (g := gName 4) rfl scOrdersOf.nd (pi_list (pv 7)) (blkOk_by (own := [("field", 4)]) (N := nOrdersOf) (sc := defScope sOrdersOf) (by decide +kernel))
            (fun _ _ _ _ _ => pg_name (i := 4) scOrdersOf.nd rfl (.inl rfl)) (fun _ _ _ _ _ => pts_nil) (fun _ _ _ _ _ => pe_tup (pa_cons pe_str (pa_cons (pv 4) pa_nil)))) (pa_cons (pe_lst pa_nil) pa_nil)) (by rfl))
      (pss_cons (ps_for PassesOwn.never rfl (pi_list (pv 6)) (pg_name (i := 4) scOrdersOf.nd rfl (.inl rfl))
        (pss_one (ps_if (pt_cmpR op_ne (pv 4) (pv 5) (nomark _))
          (pss_one (ps_for PassesOwn.never rfl (pi_list (pv 7)) (pg_name (i := 10) scOrdersOf.nd rfl (.inl rfl))
            (pss_one (ps_if (PW.pt (pw_or (pt_cmpR op_eq (pv 10) (pv 4) (nomark _)) (pw_or1 (pt_cmpR op_in_seq (pv 10) (pe_call GB hr (by rfl) gB FB.kp bB .nil pass0 (pa_cons (pv 2) (pa_cons (pv 4) pa_nil))) (by rfl)))))
              (pss_one (ps_expr (pe_bm PySem.F.plainAttrs_list PySem.F.slot_list_append PySem.F.type_list_append mt_append (pv 9) (pa_cons (pe_tup (pa_cons pe_str (pa_cons (pv 4) (pa_cons (pv 10) pa_nil)))) pa_nil)))) pss_nil)))) pss_nil)))
      (pss_one (ps_ret (pe_op op_cat (pe_op op_cat (pe_lst (pa_cons (pe_tup (pa_cons pe_str pa_nil)) pa_nil)) (pv 8)) (pe_callB (cr_sortTri "back") (by rfl) mS PyProof.Rows.boot_sorted (pa_cons (pv 9) pa_nil))))))))), ?_⟩
    obtain ⟨ta, tc, tp, xs, rfl, hb, hch, hpt, hpx⟩ := board_inv hv
    -- chart, pieces = board
    refine ⟨_, rfl, ta, _, rfl, hb, rfl, .ref tc, _, rfl, .ref tp, _, rfl, rfl, ?_⟩
    -- own, fields
    obtain ⟨x, hx, hxd⟩ := all_at hpx (show (ps.map pD)[i]? = some (pD pc) by rw [List.getElem?_map, hpc]; rfl)
    obtain ⟨t, rfl, ht⟩ := pair_inv hxd
    have hlx : xs.length = ps.length := by rw [all_len hpx, List.length_map]
    refine ⟨.ref tp, rfl, .int i, rfl, tp, xs, i, _, rfl, rfl, hpt, atI_nat hx, t, _, 0, _, rfl, rfl, ht, at0, .ref tp, rfl, tp, rfl, ⟨_, hpt⟩, fun D hD => ?_⟩
    refine lc_tup (K := K) (a := tp) (xs := xs) (fun j H' => H' D = some (.lst (((ps.take j).map (·.1)).map V.int)) ∧ Kp [] H H') ⟨upd_same, Kp.new hD⟩ (fun j H' _ ⟨_, kk⟩ => sameT (kz_seq kk) hpt) ?_ ?_
    · rintro j x H' hx ⟨h1, kk⟩
      obtain ⟨r, q, hr', rfl, hq⟩ := pairs_at hpx hx
      refine ⟨q, _, rfl, sameT (kz_seq kk) hq, rfl, .int r.1, _, rfl, .int r.2, _, rfl, rfl, rfl, yesGo ?_⟩
      refine ⟨.int r.1, rfl, _, h1, small1000 ?_, ?_, kk.fill hD⟩
      · rw [List.length_map, List.length_map, List.length_take]
        omega
      · rw [upd_same, map_snoc _ hr', List.map_append]
        rfl
    rintro H1 ⟨hF1, k1⟩
    rw [hlx, List.take_length] at hF1
    refine ⟨_, _, rfl, ?_⟩
    -- reach
    refine ⟨.ref tc, rfl, .int pc.1, rfl, .ref tc, n, rs, cs, pc.1, rfl, Dp.same (kz_seq k1) _ hch, by omega, fun H2 R reach hr1 hr2 hR0 hR2 k2 => ?_⟩
    have hrl : reach.length ≤ 200 := by
      rw [hr1.length_eq]
      exact Nat.le_trans (bes_len _ _) hrs
    have hF2 := k2.get (by simp) hF1
    have k12 := k1.trans k2
    have hRH : H R = none := fresh_of k1 (by simp) hR0
    have nDR : D ≠ R := ne_of_none hF1 hR0
    -- gos, backs
    refine ⟨.ref R, rfl, R, rfl, ⟨_, SqL.of hR2⟩, fun G hG => ?_⟩
    have nRG : R ≠ G := ne_of_none hR2 hG
    have nDG : D ≠ G := ne_of_none hF2 hG
    have hGH : H G = none := fresh_of k12 (by simp) hG
    refine lc_list (K := K) (a := R) (xs := reach.map V.int) (fun j H' => ∃ ys, H' G = some (.lst ys) ∧ Ps (fun g => oV (.go g)) H' ys (reach.take j) ∧ H' R = some (.lst (reach.map V.int)) ∧ H' D = some (.lst ((ps.map (·.1)).map V.int)) ∧ Kp [] H H')
      ⟨[], upd_same, .nil, by rw [upd_ne nRG]; exact hR2, by rw [upd_ne nDG]; exact hF2, k12.trans (Kp.new hG)⟩ (fun j H' _ ⟨_, _, _, e, _⟩ => SqL.of e) ?_ ?_
    · rintro j x H' hx ⟨ys, e1, e2, e3, e4, kk⟩
      obtain ⟨z, hz, rfl⟩ := map_ints_get hx
      have hj : j < reach.length := (List.getElem?_eq_some_iff.mp hz).1
      refine ⟨rfl, yesGo ?_⟩
      refine ⟨.int z, rfl, by show 2 ≤ sizeLine; decide, fun T hT => ?_⟩
      have kT : Kp ([] : List Addr) H' (upd H' T (.tup [.str "go", .int z])) := Kp.new hT
      have f1 := kT.get (by simp) e1
      have f2 := e2.keep kT noTup_nil
      have f3 := kT.get (by simp) e3
      have f4 := kT.get (by simp) e4
      have fT : TpAt (fun g => oV (.go g)) (upd H' T (.tup [.str "go", .int z])) (.ref T) z := ⟨T, rfl, upd_same⟩
      have f5 := kk.trans kT
      generalize upd H' T (.tup [.str "go", .int z]) = H8 at f1 f2 f3 f4 fT f5
      have kG : Kp [G] H8 (upd H8 G (.lst (ys ++ [.ref T]))) := Kp.put (by simp)
      have nG : NoTup H8 [G] := fun s hs ys e => by rw [List.mem_singleton.mp hs, f1] at e; cases e
      refine ⟨ys, f1, small1000 ?_, ys ++ [.ref T], upd_same, ?_, by rw [upd_ne nRG]; exact f3, by rw [upd_ne nDG]; exact f4, f5.fill hGH⟩
      · rw [f2.len, List.length_take]
        omega
      · rw [take_snoc hz]
        exact Ps.snoc (fT.keep kG nG) (f2.keep kG nG)
    rintro H3 ⟨gs, hG3, hgs, hR3, hF3, k3⟩
    rw [List.length_map, List.take_length] at hgs
    refine ⟨Nat.zero_le _, fun B hB => ⟨_, _, rfl, ?_⟩⟩
    have hBH : H B = none := fresh_of k3 (by simp) hB
    have nGB : G ≠ B := ne_of_none hG3 hB
    have nRB : R ≠ B := ne_of_none hR3 hB
    have nDB : D ≠ B := ne_of_none hF3 hB
    -- the state of the loops
    let M : List (Int × Int) → Hp → Prop := fun qs H' => ∃ ys, H' B = some (.lst ys) ∧ Ps bV H' ys qs ∧ Ps (fun g => oV (.go g)) H' gs reach ∧ H' G = some (.lst gs) ∧ H' R = some (.lst (reach.map V.int)) ∧ H' D = some (.lst ((ps.map (·.1)).map V.int)) ∧ Kp [] H H'
    have M0 : M [] (upd H3 B (.lst [])) := by
      have kB : Kp ([] : List Addr) H3 (upd H3 B (.lst [])) := Kp.new hB
      exact ⟨[], upd_same, .nil, hgs.keep kB noTup_nil, kB.get (by simp) hG3, kB.get (by simp) hR3, kB.get (by simp) hF3, k3.trans kB⟩
    have Mk : ∀ {qs H' H''}, M qs H' → Kp [] H' H'' → M qs H'' := fun {qs H' H''} ⟨ys, e1, e2, e3, e4, e5, e6, e7⟩ kk =>
      ⟨ys, kk.get (by simp) e1, e2.keep kk noTup_nil, e3.keep kk noTup_nil, kk.get (by simp) e4, kk.get (by simp) e5, kk.get (by simp) e6, e7.trans kk⟩
    have Mp : ∀ {qs H' T f g}, M qs H' → H' T = some (.tup [.str "back", .int f, .int g]) → ∀ ys, H' B = some (.lst ys) → M (qs ++ [(f, g)]) (upd H' B (.lst (ys ++ [.ref T]))) := fun {qs H' T f g} ⟨ys, e1, e2, e3, e4, e5, e6, e7⟩ eT ys' ey => by
      obtain rfl : ys = ys' := HO.lst.inj (Option.some.inj (e1.symm.trans ey))
      have kB : Kp [B] H' (upd H' B (.lst (ys ++ [.ref T]))) := Kp.put (by simp)
      have nB : NoTup H' [B] := fun s hs ys e => by rw [List.mem_singleton.mp hs, e1] at e; cases e
      exact ⟨_, upd_same, Ps.snoc (TpAt.keep (show TpAt bV H' (.ref T) (f, g) from ⟨T, rfl, eT⟩) kB nB) (e2.keep kB nB), e3.keep kB nB, by rw [upd_ne nGB]; exact e4, by rw [upd_ne nRB]; exact e5, by rw [upd_ne nDB]; exact e6, e7.fill hBH⟩
    have Ml : ∀ {qs H'}, M qs H' → ∀ ys, H' B = some (.lst ys) → ys.length = qs.length := fun {qs H'} ⟨ys, e1, e2, _⟩ ys' ey => by
      rw [e1] at ey
      cases ey
      exact e2.len
    refine ⟨_, rfl, D, rfl, ⟨_, SqL.of (by rw [upd_ne nDB]; exact hF3)⟩, for_list (K := K) (a := D) (xs := (ps.map (·.1)).map V.int)
      (fun j σ H' => ∃ v4 v10, σ = [some (.ref ta), some (.int i), some (.ref tc), some (.ref tp), v4, some (.int pc.1), some (.ref D), some (.ref R), some (.ref G), some (.ref B), v10, none] ∧ M (backsOf rs pc.1 reach ((ps.map (·.1)).take j)) H')
      ⟨_, _, rfl, M0⟩ (fun j σ H' _ ⟨_, _, _, _, _, _, _, _, _, e, _⟩ => SqL.of e) ?_ ?_⟩
    · rintro j x σ H' hx ⟨v4, v10, rfl, hM⟩
      obtain ⟨f, hf, rfl⟩ := map_ints_get hx
      have hj : j < (ps.map (·.1)).length := (List.getElem?_eq_some_iff.mp hf).1
      have hstep : backsOf rs pc.1 reach ((ps.map (·.1)).take (j + 1)) = backsOf rs pc.1 reach ((ps.map (·.1)).take j) ++ half rs pc.1 reach f := by
        rw [take_snoc hf]
        unfold backsOf
        rw [List.flatMap_append]
        simp
      have hbl : (backsOf rs pc.1 reach ((ps.map (·.1)).take j)).length ≤ 4800 := by
        refine Nat.le_trans (backsOf_len _ _ _ _) ?_
        rw [List.length_take]
        refine Nat.le_trans (Nat.mul_le_mul (show min j (ps.map (·.1)).length ≤ 24 by rw [List.length_map] at hj ⊢; omega) hrl) (by decide)
      refine ⟨.int f, rfl, .int pc.1, rfl, rfl, _, rfl, ?_⟩
      refine ite2 (fun hne => ?_) (fun heq => ?_)
      · have hne : ¬ f = pc.1 := fun e => by simp [e] at hne
        have hR' : H' R = some (.lst (reach.map V.int)) := by obtain ⟨_, _, _, _, _, e, _⟩ := hM; exact e
        refine ⟨.ref R, rfl, R, rfl, ⟨_, SqL.of hR'⟩, for_list (K := K) (a := R) (xs := reach.map V.int)
          (fun l σ H' => ∃ v10, σ = [some (.ref ta), some (.int i), some (.ref tc), some (.ref tp), some (.int f), some (.int pc.1), some (.ref D), some (.ref R), some (.ref G), some (.ref B), v10, none] ∧
            M (backsOf rs pc.1 reach ((ps.map (·.1)).take j) ++ ((reach.take l).filter fun g => decide (g = f) || decide (g ∈ bes rs f)).map fun g => (f, g)) H')
          ⟨_, rfl, by simpa using hM⟩ (fun l σ H' _ ⟨_, _, _, _, _, _, _, e, _⟩ => SqL.of e) ?_ ?_⟩
        · rintro l x σ H' hx ⟨v10, rfl, hM⟩
          obtain ⟨g, hg, rfl⟩ := map_ints_get hx
          have hl : l < reach.length := (List.getElem?_eq_some_iff.mp hg).1
          have hql : (backsOf rs pc.1 reach ((ps.map (·.1)).take j) ++ ((reach.take l).filter fun g => decide (g = f) || decide (g ∈ bes rs f)).map fun g => (f, g)).length < 100000 := by
            rw [List.length_append, List.length_map]
            have := List.length_filter_le (fun g => decide (g = f) || decide (g ∈ bes rs f)) (reach.take l)
            rw [List.length_take] at this
            omega
          have app : ∀ H'', M (backsOf rs pc.1 reach ((ps.map (·.1)).take j) ++ ((reach.take l).filter fun g => decide (g = f) || decide (g ∈ bes rs f)).map fun g => (f, g)) H'' → (decide (g = f) || decide (g ∈ bes rs f)) = true →
              ∃ ys, H'' B = some (.lst ys) ∧ ∀ T, H'' T = none → ∃ (_ : ys.length < sizeLine), (upd H'' T (.tup [.str "back", .int f, .int g])) B = some (.lst ys) ∧
                M (backsOf rs pc.1 reach ((ps.map (·.1)).take j) ++ ((reach.take (l + 1)).filter fun g => decide (g = f) || decide (g ∈ bes rs f)).map fun g => (f, g)) (upd (upd H'' T (.tup [.str "back", .int f, .int g])) B (.lst (ys ++ [.ref T]))) := fun H'' hM2 hyes => by
            obtain ⟨ys, ey, _⟩ := id hM2
            refine ⟨ys, ey, fun T hT => ⟨Nat.lt_of_lt_of_le (by rw [Ml hM2 ys ey]; exact hql) (show 100000 ≤ sizeLine by decide), by rw [upd_ne (ne_of_none ey hT)]; exact ey, ?_⟩⟩
            have q := Mp (T := T) (f := f) (g := g) (Mk hM2 (Kp.new hT)) upd_same ys (by rw [upd_ne (ne_of_none ey hT)]; exact ey)
            rw [take_snoc hg, List.filter_append, List.map_append, ← List.append_assoc]
            rw [show ([g].filter fun g => decide (g = f) || decide (g ∈ bes rs f)) = [g] by rw [List.filter_cons, if_pos hyes]; rfl]
            exact q
          have skip : ∀ H'', M (backsOf rs pc.1 reach ((ps.map (·.1)).take j) ++ ((reach.take l).filter fun g => decide (g = f) || decide (g ∈ bes rs f)).map fun g => (f, g)) H'' → (decide (g = f) || decide (g ∈ bes rs f)) = false →
              M (backsOf rs pc.1 reach ((ps.map (·.1)).take j) ++ ((reach.take (l + 1)).filter fun g => decide (g = f) || decide (g ∈ bes rs f)).map fun g => (f, g)) H'' := fun H'' hM2 hno => by
            rw [take_snoc hg, List.filter_append, List.map_append, ← List.append_assoc]
            rw [show ([g].filter fun g => decide (g = f) || decide (g ∈ bes rs f)) = [] by rw [List.filter_cons, if_neg (by rw [hno]; decide)]; rfl]
            simpa using hM2
          refine ⟨.int g, rfl, .int f, rfl, rfl, _, rfl, ?_⟩
          refine ite2 (fun he => ?_) (fun he => ?_)
          · obtain ⟨ys, ey, z⟩ := app H' hM (by
              have : g = f := by simpa using he
              simp [this])
            refine iteT ⟨.ref B, rfl, .inl ⟨rfl, _, SqL.of ey⟩, .int f, rfl, .int g, rfl, by show 3 ≤ sizeLine; decide, fun T hT => ?_⟩
            obtain ⟨z1, z2, z3⟩ := z T hT
            exact ⟨B, ys, _, rfl, rfl, z2, z1, _, rfl, z3⟩
          · have hne2 : ¬ g = f := fun e => he (by simp [e])
            refine ⟨.int g, rfl, .ref tc, rfl, .int f, rfl, .ref tc, n, rs, cs, f, rfl, Dp.same (kz_seq (by obtain ⟨_, _, _, _, _, _, _, e⟩ := hM; exact e)) _ hch, by omega, fun H4 p4 ms hm1 hm2 hp4 hP4 k4 => ?_⟩
            refine ⟨p4, _, rfl, .inl (SqL.of hP4), rfl, flat_ints ms, _, rfl, ?_⟩
            have hM4 := Mk hM k4
            rw [inV_ints]
            refine ite2 (fun hin => ?_) (fun hin => ?_)
            · have hin : g ∈ ms := of_decide_eq_true hin
              obtain ⟨ys, ey, z⟩ := app H4 hM4 (by simp [hm1.mem_iff.mp hin])
              refine ⟨.ref B, rfl, .inl ⟨rfl, _, SqL.of ey⟩, .int f, rfl, .int g, rfl, by show 3 ≤ sizeLine; decide, fun T hT => ?_⟩
              obtain ⟨z1, z2, z3⟩ := z T hT
              exact ⟨B, ys, _, rfl, rfl, z2, z1, _, rfl, z3⟩
            · have hin : g ∉ ms := fun e => hin (decide_eq_true e)
              refine ⟨_, rfl, skip H4 hM4 ?_⟩
              have : g ∉ bes rs f := fun e => hin (hm1.mem_iff.mpr e)
              simp [hne2, this]
        · rintro σ H' ⟨v10, rfl, hM⟩
          rw [List.length_map, List.take_length] at hM
          refine ⟨_, _, rfl, ?_⟩
          rw [hstep]
          unfold half
          rw [if_neg hne]
          exact hM
      · have heq : f = pc.1 := by
          by_cases e : f = pc.1
          · exact e
          · exact absurd (by simp [e]) heq
        refine ⟨_, _, rfl, ?_⟩
        rw [hstep]
        unfold half
        rw [if_pos heq, List.append_nil]
        exact hM
    · rintro σ H4 ⟨v4, v10, rfl, hM⟩
      rw [List.length_map, List.take_length] at hM
      obtain ⟨ys, e1, e2, e3, e4, e5, e6, e7⟩ := hM
      have hyl : ys.length ≤ 4800 := by
        rw [e2.len]
        refine Nat.le_trans (backsOf_len _ _ _ _) ?_
        rw [List.length_map]
        exact Nat.le_trans (Nat.mul_le_mul hps hrl) (by decide)
      have hgl : gs.length ≤ 200 := by rw [e3.len]; exact hrl
      refine ⟨by show 1 ≤ sizeLine; decide, fun T hT => ⟨by show 1 ≤ sizeLine; decide, fun L hL => ?_⟩⟩
      have kT : Kp ([] : List Addr) H4 (upd (upd H4 T (.tup [.str "stay"])) L (.lst [.ref T])) := (Kp.new hT).trans (Kp.new hL)
      have fT : TpAt oV (upd (upd H4 T (.tup [.str "stay"])) L (.lst [.ref T])) (.ref T) .stay := ⟨T, rfl, Kp.get (S := []) (Kp.new hL) (by simp) upd_same⟩
      have fL : (upd (upd H4 T (.tup [.str "stay"])) L (.lst [.ref T])) L = some (.lst [.ref T]) := upd_same
      have f1 := kT.get (by simp) e1
      have f2 := e2.keep kT noTup_nil
      have f3 := e3.keep kT noTup_nil
      have f4 := kT.get (by simp) e4
      have f7 := e7.trans kT
      generalize upd (upd H4 T (.tup [.str "stay"])) L (.lst [.ref T]) = H5 at fT fL f1 f2 f3 f4 f7
      refine ⟨.ref G, rfl, L, G, _, _, rfl, rfl, fL, f4, Nat.le_trans (show 1 + gs.length ≤ 1000 by omega) (by decide), fun N hN => ?_⟩
      have kN : Kp ([] : List Addr) H5 (upd H5 N (.lst ([.ref T] ++ gs))) := Kp.new hN
      have g1 := kN.get (by simp) f1
      have g2 := f2.keep kN noTup_nil
      have gN : (upd H5 N (.lst ([.ref T] ++ gs))) N = some (.lst ([.ref T] ++ gs)) := upd_same
      have gP : Ps oV (upd H5 N (.lst ([.ref T] ++ gs))) ([.ref T] ++ gs) (.stay :: reach.map .go) := .cons (fT.keep kN noTup_nil) (Ps.map (q := Ord.go) (fun _ => rfl) (f3.keep kN noTup_nil))
      have g7 := f7.trans kN
      generalize upd H5 N (.lst ([.ref T] ++ gs)) = H6 at g1 g2 gN gP g7
      refine ⟨.ref B, rfl, B, ys, keyT H6, rfl, SqL.of g1, (tri_keys g2).2, fun zs S s1 s2 hS => ?_⟩
      obtain ⟨p1, p2, p3⟩ := tri_sorted g2 s1 s2
      have hzl : zs.length ≤ 4800 := by rw [s2.perm.length_eq]; exact hyl
      generalize zs.map (keyT H6) = bs at p1 p2 p3
      have kS : Kp ([] : List Addr) H6 (upd H6 S (.lst zs)) := Kp.new hS
      have i1 := kS.get (by simp) gN
      have iP := gP.keep kS noTup_nil
      have iZ := p3.keep kS noTup_nil
      have iS : (upd H6 S (.lst zs)) S = some (.lst zs) := upd_same
      have i7 := g7.trans kS
      generalize upd H6 S (.lst zs) = H7 at i1 iP iZ iS i7
      refine ⟨N, S, _, _, rfl, rfl, i1, iS, Nat.le_trans (show (([V.ref T] ++ gs : List V)).length + zs.length ≤ 100000 by rw [List.length_append, List.length_singleton]; omega) (by decide), fun p hp => ?_⟩
      have kp : Kp ([] : List Addr) H7 (upd H7 p (.lst ([.ref T] ++ gs ++ zs))) := Kp.new hp
      refine k _ p _ (.stay :: (reach.map .go ++ bs.map fun q => .back q.1 q.2)) ⟨⟨reach, bs, hr1, hr2, p1, p2, rfl⟩⟩ (fresh_of i7 (by simp) hp) upd_same ?_ ?_ (i7.trans kp)
      · rw [← List.cons_append]
        exact Ps.app (iP.keep kp noTup_nil) (Ps.map (q := fun q : Int × Int => Ord.back q.1 q.2) (fun _ => rfl) (iZ.keep kp noTup_nil))
      · rw [List.length_append, List.length_append, List.length_singleton]
        omega
end
end Kt

set_option Elab.async false
set_option linter.all false
set_option maxRecDepth 100000
set_option maxHeartbeats 4000000
namespace Kt
open PySem PySem.Spec PyProof.Rows L2
theorem Kp.up {S : List Addr} {H H' : Hp} (k : Kp S H H') : Same (Ob S H) H' := fun b o e => k b o (Ob.of e).1 (Ob.of e).2
theorem Kp.all {S : List Addr} {H H' : Hp} (k : Kp [] H H') : Kp S H H' := k.mono (fun b h => absurd h (by simp))
theorem filter_snoc {α : Type} {t : α → Bool} {l : List α} {i : Nat} {x : α} (h : l[i]? = some x) : (l.take (i + 1)).filter t = (l.take i).filter t ++ (if t x = true then [x] else []) := by
  rw [take_snoc h, List.filter_append]
  congr 1
  by_cases e : t x = true <;> simp [List.filter_cons, e]
/-- [x for x in ints if t(x)] -/
theorem lc_ints {K : PySem.W.Frag} {L D : Addr} {ms : List Int} (t : Int → Bool) {i : Nat} {tt : TT} {vs : List Nat} {σ : Sl} {H1 : Hp} {Qd : Hp → Prop} (hL : H1 L = some (.lst (ms.map V.int))) (hD : H1 D = none) (hlen : ms.length ≤ 1000)
    (hi : ∀ x, ((wipe σ vs).set i x)[i]? = some x) (hw : ∀ x, wipe ((wipe σ vs).set i x) vs = wipe σ vs)
    (ht : ∀ z ∈ ms, ∀ (H' : Hp), Kp [] H1 H' → ∀ (Q : Bool → Hp → Prop), (∀ H'', Kp [] H' H'' → Q (t z) H'') → tt ((wipe σ vs).set i (some (.int z))) H' Q)
    (hd : ∀ H', H' D = some (.lst ((ms.filter t).map V.int)) → Kp [] H1 H' → Qd H') :
    ∃ W : Nat → Nat → Hp → Prop, (∃ m, W 0 m (upd H1 D (.lst []))) ∧ ∀ i' m H, W i' m H →
      ((Itl K L).stop i' H ∧ Qd H) ∨ ((Itl K L).go i' H ∧ ∃ Nx : Hp → Prop, (∀ H', Nx H' → ∃ m', m' < m ∧ W (i' + 1) m' H') ∧ ∀ x H', (Itl K L).yld i' H x H' → gName i x (wipe σ vs) H' fun σ2 H2 => wipe σ2 vs = wipe σ vs ∧ tt σ2 H2 fun b H3 =>
        if b = true then tVar i σ2 H3 fun y H4 => ∃ acc, H4 D = some (.lst acc) ∧ acc.length < sizeLine ∧ Nx (upd H4 D (.lst (acc ++ [y]))) else Nx H3) := by
  refine lc_list (K := K) (a := L) (xs := ms.map V.int) (fun j H' => H' D = some (.lst (((ms.take j).filter t).map V.int)) ∧ Kp [] H1 H') ⟨upd_same, Kp.new hD⟩ (fun j H' _ ⟨_, k⟩ => SqL.of (k.get (by simp) hL)) ?_ ?_
  · rintro j x H' hx ⟨h1, k⟩
    obtain ⟨z, hz, rfl⟩ := map_ints_get hx
    have hj : j < ms.length := (List.getElem?_eq_some_iff.mp hz).1
    refine ⟨hw _, ht z (List.mem_of_getElem? hz) H' k _ fun H'' k2 => ?_⟩
    have h2 := k2.get (by simp) h1
    have k3 := k.trans k2
    rw [filter_snoc hz]
    by_cases e : t z = true
    · rw [if_pos e]
      refine ⟨.int z, hi _, _, h2, small1000 ?_, ?_, k3.fill hD⟩
      · rw [List.length_map]
        have := List.length_filter_le t (ms.take j)
        rw [List.length_take] at this
        omega
      · rw [upd_same, if_pos e, List.map_append]
        rfl
    · rw [if_neg e]
      refine ⟨?_, k3⟩
      rw [if_neg e, List.append_nil]
      exact h2
  · rintro H' ⟨h1, k⟩
    rw [List.length_map, List.take_length] at h1
    exact hd H' h1 k
theorem sh_pair {K : PySem.W.Frag} {H : Hp} {x : V} {r : Int × Int} (h : PrAt H x r) : Sh K H x := by
  obtain ⟨t, rfl, e⟩ := h
  exact ⟨pD r, .tup (SqT.of e) (.cons (.int _) (.cons (.int _) .nil)), by simp [pD, PyData.canLay0, PyData.canLayAll0], by simp [pD, PyData.depth, PyData.depthAll]⟩
theorem Prs.mem {H : Hp} : ∀ {xs : List V} {rs : List (Int × Int)} {x : V}, Prs H xs rs → x ∈ xs → ∃ r ∈ rs, PrAt H x r
  | _, _, _, .nil, h => absurd h (by simp)
  | _, _, _, .cons a b, h => by
    rcases List.mem_cons.mp h with e | h
    · rw [e]
      exact ⟨_, List.mem_cons_self, a⟩
    · obtain ⟨r, hr, q⟩ := Prs.mem b h
      exact ⟨r, List.mem_cons_of_mem _ hr, q⟩
theorem Prs.app {H : Hp} : ∀ {xs ys : List V} {rs qs : List (Int × Int)}, Prs H xs rs → Prs H ys qs → Prs H (xs ++ ys) (rs ++ qs)
  | _, _, _, _, .nil, h => h
  | _, _, _, _, .cons a b, h => .cons a (Prs.app b h)
end Kt

set_option Elab.async false
set_option linter.all false
set_option maxRecDepth 100000
set_option maxHeartbeats 4000000
namespace Kt
open PySem PySem.Spec PyProof.Rows L2
/-- pairs of a field of fs and one beside it, as a dict -/
def GosOk (rs : List (Int × Int)) (fs : List Int) (kvs : List (Key × V)) : Prop := ∀ kv ∈ kvs, ∃ f g : Int, kv = (.inl f, .int g) ∧ f ∈ fs ∧ g ∈ bes rs f
theorem GosOk.put {rs : List (Int × Int)} {fs : List Int} {kvs : List (Key × V)} {f g : Int} (h : GosOk rs fs kvs) (hf : f ∈ fs) (hg : g ∈ bes rs f) : GosOk rs fs (putK kvs (.inl f) (.int g)) := fun kv hkv => by
  unfold putK at hkv
  split at hkv
  · obtain ⟨q, hq, e⟩ := List.mem_map.mp hkv
    split at e
    · rename_i z
      exact ⟨f, g, by rw [← e, z], hf, hg⟩
    · rw [← e]
      exact h q hq
  · rcases List.mem_append.mp hkv with w | w
    · exact h kv w
    · rw [List.mem_singleton.mp w]
      exact ⟨f, g, rfl, hf, hg⟩
theorem putK_len {kvs : List (Key × V)} {k : Key} {v : V} : (putK kvs k v).length ≤ kvs.length + 1 := by
  unfold putK
  split
  · rw [List.length_map]
    omega
  · rw [List.length_append]
    simp
theorem bes_mem {rs : List (Int × Int)} {f g : Int} : g ∈ bes rs f ↔ ∃ r ∈ rs, (f = r.1 ∧ g = r.2) ∨ (f = r.2 ∧ g = r.1) := by
  unfold bes
  rw [List.mem_map]
  constructor
  · rintro ⟨r, hr, rfl⟩
    obtain ⟨h1, h2⟩ := List.mem_filter.mp hr
    simp only [Bool.or_eq_true, decide_eq_true_eq] at h2
    refine ⟨r, h1, ?_⟩
    rcases h2 with h2 | h2
    · exact .inl ⟨h2, by omega⟩
    · exact .inr ⟨h2, by omega⟩
  · rintro ⟨r, hr, h⟩
    refine ⟨r, List.mem_filter.mpr ⟨hr, ?_⟩, by omega⟩
    simp only [Bool.or_eq_true, decide_eq_true_eq]
    omega
theorem bes_symm {rs : List (Int × Int)} {f g : Int} (h : g ∈ bes rs f) : f ∈ bes rs g := by
  obtain ⟨r, hr, h⟩ := bes_mem.mp h
  refine bes_mem.mpr ⟨r, hr, ?_⟩
  omega
def spGos (K : PySem.W.Frag) : Sp := fun vs H Q _ => ∃ (a c : Addr) (v : V) (n : Int) (rs : List (Int × Int)) (cs : List Int) (ps : List (Int × Int)), vs = [.ref a, v] ∧ DeckAt H a c ∧ Da K [a, c] H v (bdD n rs cs ps) ∧ rs.length ≤ 200 ∧ ps.length ≤ 24 ∧
  ∀ (H' : Hp) (g : Addr) (kvs : List (Key × V)), H g = none → H' g = some (.dK kvs) → GosOk rs (ps.map (·.1)) kvs → kvs.length ≤ 100 → DeckAt H' a c → Kp [a, c] H H' → Q (.ref g) H'
section
variable {P : Program} {w : World} {K : PySem.W.Frag} {mg : Str → Option Value} {base : Heap}
abbrev nGos : List Str := ["deck", "board", "chart", "pieces", "field", "player", "fields", "gos", "fights", "reach", "goal", "one", "taken", "a", "b", "c", "foe"]
theorem scGos : FnScope nGos ["deck", "board"] (defScope sGos) := ⟨rfl, rfl, rfl, by decide +kernel, rfl, by decide +kernel, by decide +kernel⟩
theorem ok_gos {f fD fB fP : Addr} {fd fdD fdB fdP : FuncData} (F : Fun K "_law_gos" "_law_gos" sGos f fd) (FD : Fun K "_law_draw" "_law_draw" sDraw fD fdD) (bD : Binds K fdD ["deck", "many"] []) (gD : mg "_law_draw" = some (.ref fD))
    (FB : Fun K "_law_beside" "_law_beside" sBeside fB fdB) (bB : Binds K fdB ["chart", "field"] []) (gB : mg "_law_beside" = some (.ref fB)) (FP : Fun K "_law_pick" "_law_pick" sPick fP fdP) (bP : Binds K fdP ["deck", "items"] []) (gP : mg "_law_pick" = some (.ref fP))
    (mI : mg "int" = none) (mL : mg "len" = none) (mS : mg "sorted" = none) : FnOk P w K mg base CX0 3 f fd ["deck", "board"] (spGos K) := by
  have GD : FnOk P w K mg base CX0 1 fD fdD ["deck", "many"] spDraw := ok_draw FD mI
  have GB : FnOk P w K mg base CX0 1 fB fdB ["chart", "field"] (spBeside K) := ok_beside FB mS
  have GP : FnOk P w K mg base CX0 2 fP fdP ["deck", "items"] (spPick K) := ok_pick FP FD bD gD mI mL
  refine F.ok scGos (fun vs H Q E h => ?_) (fun cdv A outer s H vs Q E hr h => ?_)
  · obtain ⟨a, c, v, n, rs, cs, ps, rfl, _⟩ := h
    rfl
  · obtain ⟨a, c, v, n, rs, cs, ps, rfl, hD, hv, hrs, hps, k⟩ := h
    have hr1 := hr.mono (show 1 ≤ 2 by decide)
    refine ⟨_, pss_cons (ps_asg (pv 1) (pg_tup rfl (pgs_cons (pg_name (i := 2) scGos.nd rfl (.inr rfl)) (pgs_cons (pg_name (i := 3) scGos.nd rfl (.inl rfl)) pgs_nil))))
      (pss_cons (ps_asg (pe_tup (pa_cons (pe_lc (own := [("field", 4), ("player", 5)]) (g := gTup K 2 (gCons (gName 4) (gCons (gName 5) gNil))) rfl scGos.nd (pi_tup (pv 3)) (blkOk_by (own := [("field", 4), ("player", 5)]) (N := nGos) (sc := defScope sGos) (by decide +kernel))
            (fun _ _ _ _ _ => pg_tup rfl (pgs_cons (pg_name (i := 4) scGos.nd rfl (.inl rfl)) (pgs_cons (pg_name (i := 5) scGos.nd rfl (.inl rfl)) pgs_nil))) (fun _ _ _ _ _ => pts_nil) (fun _ _ _ _ _ => pv 4))
          (pa_cons pe_dnewK (pa_cons (pe_lst pa_nil) pa_nil)))) (pg_tup rfl (pgs_cons (pg_name (i := 6) scGos.nd rfl (.inr rfl)) (pgs_cons (pg_name (i := 7) scGos.nd rfl (.inl rfl)) (pgs_cons (pg_name (i := 8) scGos.nd rfl (.inl rfl)) pgs_nil)))))
      (pss_cons (ps_for PassesOwn.never rfl (pi_tup (pv 3)) (pg_tup rfl (pgs_cons (pg_name (i := 4) scGos.nd rfl (.inr rfl)) (pgs_cons (pg_name (i := 5) scGos.nd rfl (.inr rfl)) pgs_nil)))
        (pss_cons (ps_set (i := 9) scGos.nd rfl (.inr rfl) (pe_call GB hr1 (by rfl) gB FB.kp bB .nil pass0 (pa_cons (pv 2) (pa_cons (pv 4) pa_nil))))
        (pss_one (ps_set (i := 8) scGos.nd rfl (.inl rfl) (pe_op op_cat (pv 8)
          (pe_lc (own := [("goal", 10), ("foe", 16)]) (g := gTup K 2 (gCons (gName 10) (gCons (gName 16) gNil))) rfl scGos.nd (pi_tup (pv 3)) (blkOk_by (own := [("goal", 10), ("foe", 16)]) (N := nGos) (sc := defScope sGos) (by decide +kernel))
            (fun _ _ _ _ _ => pg_tup rfl (pgs_cons (pg_name (i := 10) scGos.nd rfl (.inl rfl)) (pgs_cons (pg_name (i := 16) scGos.nd rfl (.inl rfl)) pgs_nil)))
            (fun _ _ _ _ _ => pts_one (PW.pt (pw_and (pt_cmpR op_ne (pv 16) (pv 5) (nomark _)) (pw_and1 (pt_cmpR (op_inK K) (pv 10) (pv 9) (by rfl))))))
            (fun _ _ _ _ _ => pe_tup (pa_cons (pv 4) (pa_cons (pv 10) pa_nil)))))))))
      (Evl.pss_cut (ps_if (PW.pt (pw_and (pt_cmpR (op_neD hr.units) (pv 8) (pe_lst pa_nil) (nomark _)) (pw_and1 (pt_cmpR op_eq (pe_call GD hr1 (by rfl) gD FD.kp bD .nil pass0 (pa_cons (pv 0) (pa_cons pe_int pa_nil))) pe_int (nomark _)))))
        (pss_cons (ps_asg (pe_call GP hr (by rfl) gP FP.kp bP .nil pass0 (pa_cons (pv 0) (pa_cons (pv 8) pa_nil))) (pg_tup rfl (pgs_cons (pg_name (i := 11) scGos.nd rfl (.inl rfl)) (pgs_cons (pg_name (i := 10) scGos.nd rfl (.inl rfl)) pgs_nil))))
        (pss_one (ps_ret (pe_disp (pps_cons (pv 11) (pv 10) pps_nil) (by rfl) (by rfl) (fun z => by cases z) (by decide))))) pss_nil)
      (pss_cons (ps_for PassesOwn.never rfl (pi_list (pv 6)) (pg_name (i := 4) scGos.nd rfl (.inr rfl))
        (pss_cons (ps_set (i := 9) scGos.nd rfl (.inr rfl) (pe_call GB hr1 (by rfl) gB FB.kp bB .nil pass0 (pa_cons (pv 2) (pa_cons (pv 4) pa_nil))))
        (pss_one (ps_if (PW.pt (pw_and (pt_cmpR (op_neD hr.units) (pv 9) (pe_lst pa_nil) (nomark _)) (pw_and1 (pt_cmpR op_lt (pe_call GD hr1 (by rfl) gD FD.kp bD .nil pass0 (pa_cons (pv 0) (pa_cons pe_int pa_nil))) pe_int (nomark _)))))
          (pss_cons (ps_setLc (i := 12) (own := [("goal", 10)]) (g := gName 10) rfl scGos.nd rfl rfl (sw_true rfl rfl rfl (by decide +kernel)) (pi_list (pv 9)) (blkOk_by (own := [("goal", 10)]) (N := nGos) (sc := defScope sGos) (by decide +kernel))
              (fun _ _ _ _ _ => pg_name (i := 10) scGos.nd rfl (.inl rfl)) (fun _ _ _ _ _ => pts_one (pt_cmpR (op_inK K) (pv 10) (pv 6) (by rfl))) (fun _ _ _ _ _ => pv 10))
          (pss_one (ps_asg (pe_call GP hr (by rfl) gP FP.kp bP .nil pass0 (pa_cons (pv 0) (pa_cons (pe_ifExp (PW.pt (pw_and (pt_cmpR (op_neD hr.units) (pv 12) (pe_lst pa_nil) (nomark _)) (pw_and1 (pt_cmpR op_gt (pe_call GD hr1 (by rfl) gD FD.kp bD .nil pass0 (pa_cons (pv 0) (pa_cons pe_int pa_nil))) pe_int (nomark _))))) (pv 12) (pv 9)) pa_nil)))
            (pg_sub (pv 7) (pv 4) (set_dict (hu_of hr)))))) pss_nil))))
      (pss_cons (ps_if (pt_cmpR op_eq (pe_call GD hr1 (by rfl) gD FD.kp bD .nil pass0 (pa_cons (pv 0) (pa_cons pe_int pa_nil))) pe_int (nomark _))
        (pss_one (ps_for PassesOwn.never rfl (pi_list (pv 6)) (pg_name (i := 13) scGos.nd rfl (.inr rfl))
          (pss_one (ps_for PassesOwn.never rfl (pi_list (pe_lc (own := [("field", 4)]) (g := gName 4) rfl scGos.nd (pi_list (pe_call GB hr1 (by rfl) gB FB.kp bB .nil pass0 (pa_cons (pv 2) (pa_cons (pv 13) pa_nil)))) (blkOk_by (own := [("field", 4)]) (N := nGos) (sc := defScope sGos) (by decide +kernel))
                (fun _ _ _ _ _ => pg_name (i := 4) scGos.nd rfl (.inl rfl)) (fun _ _ _ _ _ => pts_one (pt_cmpR (op_inK K) (pv 4) (pv 6) (by rfl))) (fun _ _ _ _ _ => pv 4))) (pg_name (i := 14) scGos.nd rfl (.inl rfl))
            (pss_one (ps_for PassesOwn.never rfl (pi_list (pe_lc (own := [("field", 4)]) (g := gName 4) rfl scGos.nd (pi_list (pe_call GB hr1 (by rfl) gB FB.kp bB .nil pass0 (pa_cons (pv 2) (pa_cons (pv 14) pa_nil)))) (blkOk_by (own := [("field", 4)]) (N := nGos) (sc := defScope sGos) (by decide +kernel))
                  (fun _ _ _ _ _ => pg_name (i := 4) scGos.nd rfl (.inl rfl)) (fun _ _ _ _ _ => pts_one (pt_cmpR (op_inK K) (pv 4) (pe_call GB hr1 (by rfl) gB FB.kp bB .nil pass0 (pa_cons (pv 2) (pa_cons (pv 13) pa_nil))) (by rfl))) (fun _ _ _ _ _ => pv 4))) (pg_name (i := 15) scGos.nd rfl (.inl rfl))
              (pss_one (ps_if (pt_cmpR op_in_seq (pv 15) (pv 6) (by rfl))
                (pss_cons (ps_asg (pe_tup (pa_cons (pv 14) (pa_cons (pv 15) (pa_cons (pv 13) pa_nil)))) (pg_tup rfl (pgs_cons (pg_sub (pv 7) (pv 13) (set_dict (hu_of hr))) (pgs_cons (pg_sub (pv 7) (pv 14) (set_dict (hu_of hr))) (pgs_cons (pg_sub (pv 7) (pv 15) (set_dict (hu_of hr))) pgs_nil)))))
                (pss_one (ps_ret (pv 7)))) pss_nil)))))))) pss_nil)
      (pss_one (ps_ret (pv 7)))))))), ?_⟩
    obtain ⟨ta, tc, tp, xs, rfl, hb, hch, hpt, hpx⟩ := board_inv (show Dp K (Ob [a, c] H) v _ from hv)
    have up := fun {H' : Hp} (kk : Kp [a, c] H H') => kk.up
    have hlx : xs.length = ps.length := by rw [all_len hpx, List.length_map]
    have hfl : (ps.map (·.1)).length ≤ 24 := by rw [List.length_map]; exact hps
    -- chart, pieces = board
    refine ⟨_, rfl, ta, _, rfl, sameT (up Kp.refl) hb, rfl, .ref tc, _, rfl, .ref tp, _, rfl, rfl, ?_⟩
    -- fields, gos, fights
    refine ⟨.ref tp, rfl, tp, rfl, ⟨_, sameT (up Kp.refl) hpt⟩, fun Fl hFl0 => ?_⟩
    refine lc_tup (K := K) (a := tp) (xs := xs) (fun j H' => H' Fl = some (.lst (((ps.take j).map (·.1)).map V.int)) ∧ Kp [] H H') ⟨upd_same, Kp.new hFl0⟩ (fun j H' _ ⟨_, kk⟩ => sameT (up kk.all) hpt) ?_ ?_
    · rintro j x H' hx ⟨h1, kk⟩
      obtain ⟨r, q, hr', rfl, hq⟩ := pairs_at hpx hx
      refine ⟨q, _, rfl, sameT (up kk.all) hq, rfl, .int r.1, _, rfl, .int r.2, _, rfl, rfl, rfl, yesGo ?_⟩
      refine ⟨.int r.1, rfl, _, h1, small1000 ?_, ?_, kk.fill hFl0⟩
      · rw [List.length_map, List.length_map, List.length_take]
        omega
      · rw [upd_same, map_snoc _ hr', List.map_append]
        rfl
    rintro H1 ⟨hF1, k1⟩
    rw [hlx, List.take_length] at hF1
    obtain ⟨Fa, Fc⟩ := hD.ne hFl0
    have hD1 := hD.keep k1 (by simp) (by simp)
    refine fun G hG0 => ⟨Nat.zero_le _, fun I0 hI0 => ?_⟩
    have kG : Kp [] H1 (upd (upd H1 G (.dK [])) I0 (.lst [])) := (Kp.new hG0).trans (Kp.new hI0)
    have hG1 : (upd (upd H1 G (.dK [])) I0 (.lst [])) G = some (.dK []) := Kp.get (S := []) (Kp.new hI0) (by simp) upd_same
    have hI1 : (upd (upd H1 G (.dK [])) I0 (.lst [])) I0 = some (.lst []) := upd_same
    have hGH : H G = none := fresh_of k1 (by simp) hG0
    obtain ⟨Ga, Gc⟩ := hD.ne hGH
    have FG : Fl ≠ G := ne_of_none hF1 hG0
    have hF2 := kG.get (by simp) hF1
    have hD2 := hD1.keep kG (by simp) (by simp)
    have k2 := k1.trans kG
    have I0a := (hD1.new (o := .dK []) hG0).ne hI0
    have I0G : I0 ≠ G := (ne_of_none (show (upd H1 G (.dK [])) G = some (.dK []) from upd_same) hI0).symm
    generalize upd (upd H1 G (.dK [])) I0 (.lst []) = H2 at kG hG1 hI1 hF2 hD2 k2
    refine ⟨by show 3 ≤ sizeLine; decide, fun Z hZ => ⟨Z, _, rfl, SqT.of upd_same, rfl, .ref Fl, _, rfl, .ref G, _, rfl, .ref I0, _, rfl, rfl, ?_⟩⟩
    have kZ : Kp [] H2 (upd H2 Z (.tup [.ref Fl, .ref G, .ref I0])) := Kp.new hZ
    have hG3 := kZ.get (by simp) hG1
    have hI3 := kZ.get (by simp) hI1
    have hF3 := kZ.get (by simp) hF2
    have hD3 := hD2.keep kZ (by simp) (by simp)
    have k3 : Kp [a, c] H _ := (k2.trans kZ).all
    show tSeq _ _ _ _ (upd H2 Z (.tup [.ref Fl, .ref G, .ref I0]))
    generalize upd H2 Z (.tup [.ref Fl, .ref G, .ref I0]) = H3 at hG3 hI3 hF3 hD3 k3
    clear hZ kZ kG hG1 hI1 hF2 hD2 k2 hF1 hD1 hI0 hG0
    -- for field, player in pieces: reach, fights
    let M : List (Key × V) → Hp → Prop := fun kvs H' => H' G = some (.dK kvs) ∧ GosOk rs (ps.map (·.1)) kvs ∧ H' Fl = some (.lst ((ps.map (·.1)).map V.int)) ∧ DeckAt H' a c ∧ Kp [a, c] H H'
    have Mk : ∀ {kvs H' H''}, M kvs H' → Kp [] H' H'' → M kvs H'' := fun {kvs H' H''} ⟨e1, e2, e3, e4, e5⟩ kk => ⟨kk.get (by simp) e1, e2, kk.get (by simp) e3, e4.keep kk (by simp) (by simp), e5.trans kk.all⟩
    have Md : ∀ {kvs H' H''}, M kvs H' → DeckAt H'' a c → Kp [a, c] H' H'' → M kvs H'' := fun {kvs H' H''} ⟨e1, e2, e3, e4, e5⟩ d kk => ⟨kk.get (by simp [Ga, Gc]) e1, e2, kk.get (by simp [Fa, Fc]) e3, d, e5.trans kk⟩
    have Mp : ∀ {kvs H' f g}, M kvs H' → f ∈ ps.map (·.1) → g ∈ bes rs f → M (putK kvs (.inl f) (.int g)) (upd H' G (.dK (putK kvs (.inl f) (.int g)))) := fun {kvs H' f g} ⟨e1, e2, e3, e4, e5⟩ hf hg =>
      ⟨upd_same, e2.put hf hg, by rw [upd_ne FG]; exact e3, e4.put Ga Gc, e5.fill hGH⟩
    have Mout : ∀ {kvs H'}, M kvs H' → kvs.length ≤ 100 → Q (.ref G) H' := fun {kvs H'} ⟨e1, e2, e3, e4, e5⟩ hl => k H' G kvs hGH e1 e2 hl e4 e5
    have bside : ∀ {kvs H'}, M kvs H' → ∀ (f : Int) (R : VK), (∀ (H'' : Hp) (p : Addr) (ms : List Int), ms.Perm (bes rs f) → H' p = none → H'' p = some (.lst (ms.map V.int)) → Kp [] H' H'' → R (.ref p) H'') → spBeside K [.ref tc, .int f] H' R E0 :=
      fun {kvs H'} hM f R kr => ⟨.ref tc, n, rs, cs, f, rfl, Dp.same (up hM.2.2.2.2) _ hch, by omega, fun H'' p ms h1 _ h3 h4 h5 => kr H'' p ms h1 h3 h4 h5⟩
    refine ⟨.ref tp, rfl, tp, rfl, ⟨_, sameT (up k3) hpt⟩, for_tup (K := K) (a := tp) (xs := xs)
      (fun j σ H' => ∃ v4 v5 v9 I ys qs, σ = [some (.ref a), some (.ref ta), some (.ref tc), some (.ref tp), v4, v5, some (.ref Fl), some (.ref G), some (.ref I), v9, none, none, none, none, none, none, none] ∧
        M [] H' ∧ H' I = some (.lst ys) ∧ Prs H' ys qs ∧ (∀ q ∈ qs, q.1 ∈ ps.map (·.1) ∧ q.2 ∈ bes rs q.1) ∧ qs.length ≤ j * 24 ∧ I ≠ a ∧ I ≠ c)
      ⟨_, _, _, I0, [], [], rfl, ⟨hG3, fun _ h => absurd h (by simp), hF3, hD3, k3⟩, hI3, .nil, fun _ h => absurd h (by simp), by simp, I0a.1, I0a.2⟩
      (fun j σ H' _ ⟨_, _, _, _, _, _, _, hM, _⟩ => sameT (up hM.2.2.2.2) hpt) ?_ ?_⟩
    · rintro j x σ H' hx ⟨v4, v5, v9, I, ys, qs, rfl, hM, hI, hP, hq, hl, Ia, Ic⟩
      obtain ⟨r, q, hr', rfl, hqt⟩ := pairs_at hpx hx
      have hj : j < ps.length := (List.getElem?_eq_some_iff.mp hr').1
      have hr1m : r.1 ∈ ps.map (·.1) := List.mem_map.mpr ⟨r, List.mem_of_getElem? hr', rfl⟩
      refine ⟨q, _, rfl, sameT (up hM.2.2.2.2) hqt, rfl, .int r.1, _, rfl, .int r.2, _, rfl, rfl, ?_⟩
      refine ⟨.ref tc, rfl, .int r.1, rfl, .ref tc, n, rs, cs, r.1, rfl, Dp.same (up hM.2.2.2.2) _ hch, by omega, fun H4 R ms m1 _ hR0 hR4 k4 => ?_⟩
      have hM4 := Mk hM k4
      have hI4 := k4.get (by simp) hI
      have hP4 := hP.keep k4 noTup_nil
      refine ⟨.ref I, rfl, .ref tp, rfl, tp, rfl, ⟨_, sameT (up hM4.2.2.2.2) hpt⟩, fun D hD0 => ?_⟩
      refine lc_tup (K := K) (a := tp) (xs := xs) (fun l H5 => ∃ zs us, H5 D = some (.lst zs) ∧ Prs H5 zs us ∧ (∀ u ∈ us, u.1 = r.1 ∧ u.2 ∈ bes rs r.1) ∧ us.length ≤ l ∧ Kp [] H4 H5)
        ⟨[], [], upd_same, .nil, fun _ h => absurd h (by simp), Nat.le_refl _, Kp.new hD0⟩ (fun l H5 _ ⟨_, _, _, _, _, _, kk⟩ => sameT (up (Mk hM4 kk).2.2.2.2) hpt) ?_ ?_
      · rintro l x H5 hx ⟨zs, us, e1, e2, e3, e4, k5⟩
        obtain ⟨w', q2, hw', rfl, hq2⟩ := pairs_at hpx hx
        have hl2 : l < ps.length := (List.getElem?_eq_some_iff.mp hw').1
        have hM5 := Mk hM4 k5
        have no : ∃ zs us, H5 D = some (.lst zs) ∧ Prs H5 zs us ∧ (∀ u ∈ us, u.1 = r.1 ∧ u.2 ∈ bes rs r.1) ∧ us.length ≤ l + 1 ∧ Kp [] H4 H5 := ⟨zs, us, e1, e2, e3, Nat.le_succ_of_le e4, k5⟩
        refine ⟨q2, _, rfl, sameT (up hM5.2.2.2.2) hq2, rfl, .int w'.1, _, rfl, .int w'.2, _, rfl, rfl, rfl, ?_⟩
        refine ⟨.int w'.2, rfl, .int r.2, rfl, rfl, _, rfl, ?_⟩
        refine ite2 (fun _ => ?_) (fun _ => iteF no)
        refine ⟨.int w'.1, rfl, .ref R, rfl, R, _, rfl, .inl (SqL.of (k5.get (by simp) hR4)), rfl, flat_ints ms, _, rfl, ?_⟩
        rw [inV_ints]
        refine ite2 (fun hin => ?_) (fun _ => no)
        have hin : w'.1 ∈ ms := of_decide_eq_true hin
        refine ⟨.int r.1, rfl, .int w'.1, rfl, by show 2 ≤ sizeLine; decide, fun T hT => ?_⟩
        have kT : Kp ([] : List Addr) H5 (upd H5 T (.tup [.int r.1, .int w'.1])) := Kp.new hT
        have f1 := kT.get (by simp) e1
        have f2 := e2.keep kT noTup_nil
        have fT : PrAt (upd H5 T (.tup [.int r.1, .int w'.1])) (.ref T) (r.1, w'.1) := ⟨T, rfl, upd_same⟩
        have k6 := k5.trans kT
        generalize upd H5 T (.tup [.int r.1, .int w'.1]) = H6 at f1 f2 fT k6
        have kD : Kp [D] H6 (upd H6 D (.lst (zs ++ [.ref T]))) := Kp.put (by simp)
        have nD : NoTup H6 [D] := fun s hs ys e => by rw [List.mem_singleton.mp hs, f1] at e; cases e
        refine ⟨zs, f1, small1000 (by rw [f2.len]; omega), zs ++ [.ref T], us ++ [(r.1, w'.1)], upd_same, Prs.snoc (fT.keep kD nD) (f2.keep kD nD), fun u hu => ?_, by rw [List.length_append]; simpa using e4, k6.fill hD0⟩
        rcases List.mem_append.mp hu with z | z
        · exact e3 u z
        · rw [List.mem_singleton.mp z]
          exact ⟨rfl, m1.mem_iff.mp hin⟩
      · rintro H5 ⟨zs, us, e1, e2, e3, e4, k5⟩
        have hM5 := Mk hM4 k5
        have hI5 := k5.get (by simp) hI4
        have hP5 := hP4.keep k5 noTup_nil
        rw [hlx] at e4
        have hlen : ys.length + zs.length ≤ (j + 1) * 24 := by
          rw [hP5.len, e2.len, Nat.succ_mul]
          omega
        refine ⟨I, D, _, _, rfl, rfl, hI5, e1, Nat.le_trans hlen (Nat.le_trans (Nat.mul_le_mul_right 24 (show j + 1 ≤ 24 by omega)) (by decide)), fun N hN => ?_⟩
        have kN : Kp ([] : List Addr) H5 (upd H5 N (.lst (ys ++ zs))) := Kp.new hN
        obtain ⟨Na, Nc⟩ := hM5.2.2.2.1.ne hN
        refine ⟨_, _, _, N, ys ++ zs, qs ++ us, rfl, Mk hM5 kN, upd_same, Prs.app (hP5.keep kN noTup_nil) (e2.keep kN noTup_nil), fun u hu => ?_, ?_, Na, Nc⟩
        · rcases List.mem_append.mp hu with z | z
          · exact hq u z
          · rw [(e3 u z).1]
            exact ⟨hr1m, (e3 u z).2⟩
        · rw [List.length_append, ← hP5.len, ← e2.len]
          exact hlen
    · rintro σ H4 ⟨v4, v5, v9, I, ys, qs, rfl, hM, hI, hP, hq, hl, Ia, Ic⟩
      have hys : ys.length ≤ 576 := by
        rw [hP.len]
        rw [hlx] at hl
        exact Nat.le_trans hl (Nat.le_trans (Nat.mul_le_mul_right 24 hps) (by decide))
      -- if fights != [] and draw == 0
      refine ⟨fun σ H' => M [] H' ∧ ∃ v4 v5 v8 v9, σ = [some (.ref a), some (.ref ta), some (.ref tc), some (.ref tp), v4, v5, some (.ref Fl), some (.ref G), v8, v9, none, none, none, none, none, none, none], ?_, ?_⟩
      case refine_2 =>
        clear hM hI hP hq hl hys
        rintro σ H4 ⟨hM, v4, v5, v8, v9, rfl⟩
        refine ⟨.ref Fl, rfl, Fl, rfl, ⟨_, SqL.of hM.2.2.1⟩, for_list (K := K) (a := Fl) (xs := (ps.map (·.1)).map V.int)
          (fun j σ H' => ∃ v4 v9 v12 kvs, σ = [some (.ref a), some (.ref ta), some (.ref tc), some (.ref tp), v4, v5, some (.ref Fl), some (.ref G), v8, v9, none, none, v12, none, none, none, none] ∧ M kvs H' ∧ kvs.length ≤ j)
          ⟨_, _, _, [], rfl, hM, Nat.le_refl _⟩ (fun j σ H' _ ⟨_, _, _, _, _, hM, _⟩ => SqL.of hM.2.2.1) ?_ ?_⟩
        · rintro j x σ H' hx ⟨v4, v9, v12, kvs, rfl, hM, hl⟩
          obtain ⟨f, hf, rfl⟩ := map_ints_get hx
          have hfm : f ∈ ps.map (·.1) := List.mem_of_getElem? hf
          have hj : j < 24 := Nat.lt_of_lt_of_le (List.getElem?_eq_some_iff.mp hf).1 hfl
          refine ⟨.ref tc, rfl, .int f, rfl, .ref tc, n, rs, cs, f, rfl, Dp.same (up hM.2.2.2.2) _ hch, by omega, fun H5 R ms m1 _ hR0 hR5 k5 => ?_⟩
          have hM5 := Mk hM k5
          obtain ⟨Ra, Rc⟩ := hM.2.2.2.1.ne hR0
          have hml : ms.length ≤ 200 := by
            rw [m1.length_eq]
            exact Nat.le_trans (bes_len _ _) hrs
          have hmb : ∀ g ∈ ms, g ∈ bes rs f := fun g hg => m1.mem_iff.mp hg
          -- if reach != [] and draw(5) < 2
          refine ⟨.ref R, rfl, Nat.zero_le _, fun Z hZ => ?_⟩
          have kZ : Kp ([] : List Addr) H5 (upd H5 Z (.lst [])) := Kp.new hZ
          have hM6 := Mk hM5 kZ
          have hR6 := kZ.get (by simp) hR5
          refine ne_nil (SqL.of hR6) sh_ints upd_same ⟨_, rfl, ?_⟩
          generalize upd H5 Z (.lst []) = H6 at hM6 hR6
          clear hZ kZ
          have stay : ∀ H7, M kvs H7 → ∃ v4' v9' v12' kvs', ([some (.ref a), some (.ref ta), some (.ref tc), some (.ref tp), some (.int f), v5, some (.ref Fl), some (.ref G), v8, some (.ref R), none, none, v12, none, none, none, none] : Sl) = [some (.ref a), some (.ref ta), some (.ref tc), some (.ref tp), v4', v5, some (.ref Fl), some (.ref G), v8, v9', none, none, v12', none, none, none, none] ∧ M kvs' H7 ∧ kvs'.length ≤ j + 1 :=
            fun H7 h => ⟨_, _, _, kvs, rfl, h, Nat.le_succ_of_le hl⟩
          refine ite2 (fun hne => ?_) (fun _ => iteF (stay H6 hM6))
          have hne : ms ≠ [] := fun e => by simp [e] at hne
          refine ⟨.ref a, rfl, a, c, 5, rfl, hM6.2.2.2.1, by decide, by decide, fun H7 z z0 z1 hD7 k7 => ⟨_, _, rfl, rfl, _, rfl, ?_⟩⟩
          have hM7 := Md hM6 hD7 k7
          have hR7 := k7.get (by simp [Ra, Rc]) hR6
          refine ite2 (fun _ => ?_) (fun _ => stay H7 hM7)
          -- taken
          refine ⟨.ref R, rfl, R, rfl, ⟨_, SqL.of hR7⟩, fun D hD0 => ?_⟩
          refine lc_ints (K := K) (L := R) (ms := ms) (fun g => decide (g ∈ ps.map (·.1))) (i := 10) hR7 hD0 (by omega) (fun x => rfl) (fun x => rfl) (fun g hg H8 k8 R8 kk => ?_) fun H8 hD8 k8 => ?_
          · refine ⟨.int g, rfl, .ref Fl, rfl, Fl, _, rfl, .inl (SqL.of (Mk hM7 k8).2.2.1), rfl, flat_ints _, _, rfl, ?_⟩
            rw [inV_ints]
            exact kk H8 Kp.refl
          · have hM8 := Mk hM7 k8
            have hR8 := k8.get (by simp) hR7
            obtain ⟨Da', Dc'⟩ := hM7.2.2.2.1.ne hD0
            have hfb : ∀ g ∈ ms.filter (fun g => decide (g ∈ ps.map (·.1))), g ∈ bes rs f := fun g hg => hmb g (List.mem_filter.mp hg).1
            have hfll : (ms.filter (fun g => decide (g ∈ ps.map (·.1)))).length ≤ 200 := Nat.le_trans (List.length_filter_le _ _) hml
            generalize ms.filter (fun g => decide (g ∈ ps.map (·.1))) = tk at hD8 hfb hfll
            have put : ∀ (H9 : Hp) (g : Int), M kvs H9 → g ∈ bes rs f → ∃ H', DPut H9 G (.int f) (.int g) H' ∧ ∃ kvs', M kvs' H' ∧ kvs'.length ≤ j + 1 := fun H9 g h9 hg =>
              ⟨_, DPut.k (k := .inl f) h9.1 (Nat.lt_of_le_of_lt (show kvs.length ≤ 1000 by omega) (by decide)), _, Mp h9 hfm hg, Nat.le_trans putK_len (by omega)⟩
            -- gos[field] = ..
            refine ⟨.ref a, rfl, .ref D, rfl, Nat.zero_le _, fun Z hZ => ?_⟩
            have kZ : Kp ([] : List Addr) H8 (upd H8 Z (.lst [])) := Kp.new hZ
            have hM9 := Mk hM8 kZ
            have hR9 := kZ.get (by simp) hR8
            have hD9 := kZ.get (by simp) hD8
            refine ne_nil (SqL.of hD9) sh_ints upd_same ⟨_, rfl, ?_⟩
            generalize upd H8 Z (.lst []) = H9 at hM9 hR9 hD9
            clear hZ kZ
            have viaR : ∀ H10, M kvs H10 → H10 R = some (.lst (ms.map V.int)) → ∃ (a' c' l : Addr) (xs : List V), ([.ref a, .ref R] : List V) = [.ref a', .ref l] ∧ DeckAt H10 a' c' ∧ l ≠ a' ∧ l ≠ c' ∧ SqL K H10 l xs ∧ xs ≠ [] ∧ xs.length ≤ 100000 ∧ (∀ (H' : Hp) (x : V), x ∈ xs → DeckAt H' a' c' → Kp [a', c'] H10 H' → ∃ g, x = .int g ∧ g ∈ bes rs f ∧ M kvs H') := fun H10 h10 hR10 =>
              ⟨a, c, R, _, rfl, h10.2.2.2.1, Ra, Rc, SqL.of hR10, by simpa using hne, by rw [List.length_map]; omega, fun H' x hx hD' k' => by
                obtain ⟨g, hg, rfl⟩ := List.mem_map.mp hx
                exact ⟨g, rfl, hmb g hg, Md h10 hD' k'⟩⟩
            have fin : ∀ (H11 : Hp) (x : V), (∃ g, x = .int g ∧ g ∈ bes rs f ∧ M kvs H11) → ∃ a' H', V.ref G = .ref a' ∧ DPut H11 a' (.int f) x H' ∧ ∃ v4' v9' v12' kvs', ([some (.ref a), some (.ref ta), some (.ref tc), some (.ref tp), some (.int f), v5, some (.ref Fl), some (.ref G), v8, some (.ref R), none, none, some (.ref D), none, none, none, none] : Sl) = [some (.ref a), some (.ref ta), some (.ref tc), some (.ref tp), v4', v5, some (.ref Fl), some (.ref G), v8, v9', none, none, v12', none, none, none, none] ∧ M kvs' H' ∧ kvs'.length ≤ j + 1 := fun H11 x ⟨g, e, hg, h11⟩ => by
              subst e
              obtain ⟨H', p1, kvs', p2, p3⟩ := put H11 g h11 hg
              exact ⟨G, H', rfl, p1, _, _, _, kvs', rfl, p2, p3⟩
            refine ite2 (fun htk => ?_) (fun _ => iteF ?_)
            · have htk : tk ≠ [] := fun e => by simp [e] at htk
              refine ⟨.ref a, rfl, a, c, 4, rfl, hM9.2.2.2.1, by decide, by decide, fun H10 z z0 z1 hD10 k10 => ⟨_, _, rfl, rfl, _, rfl, ?_⟩⟩
              have hM10 := Md hM9 hD10 k10
              have hR10 := k10.get (by simp [Ra, Rc]) hR9
              have hD11 := k10.get (by simp [Da', Dc']) hD9
              refine ite2 (fun _ => ?_) (fun _ => ?_)
              · refine ⟨.ref D, rfl, a, c, D, _, rfl, hD10, Da', Dc', SqL.of hD11, by simpa using htk, by rw [List.length_map]; omega, fun H' x hx hD' k' => ?_⟩
                obtain ⟨g, hg, rfl⟩ := List.mem_map.mp hx
                exact ⟨.ref G, rfl, .int f, rfl, fin H' _ ⟨g, rfl, hfb g hg, Md hM10 hD' k'⟩⟩
              · obtain ⟨a', c', l, xs', e, q1, q2, q3, q4, q5, q6, q7⟩ := viaR H10 hM10 hR10
                exact ⟨.ref R, rfl, a', c', l, xs', e, q1, q2, q3, q4, q5, q6, fun H' x hx hD' k' => ⟨.ref G, rfl, .int f, rfl, fin H' x (q7 H' x hx hD' k')⟩⟩
            · obtain ⟨a', c', l, xs', e, q1, q2, q3, q4, q5, q6, q7⟩ := viaR H9 hM9 hR9
              exact ⟨.ref R, rfl, a', c', l, xs', e, q1, q2, q3, q4, q5, q6, fun H' x hx hD' k' => ⟨.ref G, rfl, .int f, rfl, fin H' x (q7 H' x hx hD' k')⟩⟩
        · rintro σ H5 ⟨v4, v9, v12, kvs, rfl, hM, hl⟩
          rw [List.length_map] at hl
          have hl : kvs.length ≤ 24 := Nat.le_trans hl hfl
          -- if draw(6) == 0
          refine ⟨.ref a, rfl, a, c, 6, rfl, hM.2.2.2.1, by decide, by decide, fun H6 z z0 z1 hD6 k6 => ⟨rfl, _, rfl, ?_⟩⟩
          have hM6 := Md hM hD6 k6
          clear hM z0 z1 hD6 k6
          refine ite2 (fun _ => ?_) (fun _ => ⟨.ref G, rfl, Mout hM6 (by omega)⟩)
          have bs : ∀ (H' : Hp) (f : Int), M kvs H' → ∃ (v : V) (n' : Int) (rs' : List (Int × Int)) (cs' : List Int) (f' : Int), ([.ref tc, .int f] : List V) = [v, .int f'] ∧ Dp K H' v (chD n' rs' cs') ∧ rs'.length ≤ 1000 ∧ rs' = rs ∧ f' = f := fun H' f hM =>
            ⟨.ref tc, n, rs, cs, f, rfl, Dp.same (up hM.2.2.2.2) _ hch, by omega, rfl, rfl⟩
          refine ⟨.ref Fl, rfl, Fl, rfl, ⟨_, SqL.of hM6.2.2.1⟩, for_list (K := K) (a := Fl) (xs := (ps.map (·.1)).map V.int)
            (fun j σ H' => ∃ v13 v14 v15, σ = [some (.ref a), some (.ref ta), some (.ref tc), some (.ref tp), v4, v5, some (.ref Fl), some (.ref G), v8, v9, none, none, v12, v13, v14, v15, none] ∧ M kvs H')
            ⟨_, _, _, rfl, hM6⟩ (fun j σ H' _ ⟨_, _, _, _, hM⟩ => SqL.of hM.2.2.1) ?_ ?_⟩
          · rintro j x σ H' hx ⟨v13, v14, v15, rfl, hM⟩
            obtain ⟨fa, hfa, rfl⟩ := map_ints_get hx
            have hfam : fa ∈ ps.map (·.1) := List.mem_of_getElem? hfa
            refine ⟨.ref tc, rfl, .int fa, rfl, .ref tc, n, rs, cs, fa, rfl, Dp.same (up hM.2.2.2.2) _ hch, by omega, fun H7 p7 ms m1 _ hp0 hp7 k7 => ⟨p7, rfl, ⟨_, SqL.of hp7⟩, fun D hD0 => ?_⟩⟩
            have hM7 := Mk hM k7
            have hml : ms.length ≤ 200 := by rw [m1.length_eq]; exact Nat.le_trans (bes_len _ _) hrs
            refine lc_ints (K := K) (L := p7) (ms := ms) (fun g => decide (g ∈ ps.map (·.1))) (i := 4) hp7 hD0 (by omega) (fun x => rfl) (fun x => rfl) (fun g hg H8 k8 R8 kk => ?_) fun H8 hD8 k8 => ?_
            · refine ⟨.int g, rfl, .ref Fl, rfl, Fl, _, rfl, .inl (SqL.of (Mk hM7 k8).2.2.1), rfl, flat_ints _, _, rfl, ?_⟩
              rw [inV_ints]
              exact kk H8 Kp.refl
            have hM8 := Mk hM7 k8
            have hbm : ∀ g ∈ ms.filter (fun g => decide (g ∈ ps.map (·.1))), g ∈ ps.map (·.1) ∧ g ∈ bes rs fa := fun g hg => ⟨of_decide_eq_true (List.mem_filter.mp hg).2, m1.mem_iff.mp (List.mem_filter.mp hg).1⟩
            have hDa := hM7.2.2.2.1.ne hD0
            have hDG : D ≠ G := (ne_of_none hM7.1 hD0).symm
            generalize ms.filter (fun g => decide (g ∈ ps.map (·.1))) = bl at hD8 hbm
            clear hp7 hD0 k8 hM7 k7 hp0
            refine ⟨D, rfl, ⟨_, SqL.of hD8⟩, for_list (K := K) (a := D) (xs := bl.map V.int)
              (fun j σ H' => ∃ v14 v15, σ = [some (.ref a), some (.ref ta), some (.ref tc), some (.ref tp), v4, v5, some (.ref Fl), some (.ref G), v8, v9, none, none, v12, some (.int fa), v14, v15, none] ∧ M kvs H' ∧ H' D = some (.lst (bl.map V.int)))
              ⟨_, _, rfl, hM8, hD8⟩ (fun j σ H' _ ⟨_, _, _, _, e⟩ => SqL.of e) ?_ ?_⟩
            · rintro l x σ H9 hx ⟨v14, v15, rfl, hM9, hD9⟩
              obtain ⟨fb, hfb, rfl⟩ := map_ints_get hx
              obtain ⟨hfb1, hfb2⟩ := hbm fb (List.mem_of_getElem? hfb)
              refine ⟨.ref tc, rfl, .int fb, rfl, .ref tc, n, rs, cs, fb, rfl, Dp.same (up hM9.2.2.2.2) _ hch, by omega, fun H10 p10 ns n1 _ hq0 hq10 k10 => ⟨p10, rfl, ⟨_, SqL.of hq10⟩, fun D2 hD20 => ?_⟩⟩
              have hM10 := Mk hM9 k10
              have hnl : ns.length ≤ 200 := by rw [n1.length_eq]; exact Nat.le_trans (bes_len _ _) hrs
              refine lc_ints (K := K) (L := p10) (ms := ns) (fun g => decide (g ∈ bes rs fa)) (i := 4) hq10 hD20 (by omega) (fun x => rfl) (fun x => rfl) (fun g hg H11 k11 R11 kk => ?_) fun H11 hD11 k11 => ?_
              · refine ⟨.int g, rfl, .ref tc, rfl, .int fa, rfl, .ref tc, n, rs, cs, fa, rfl, Dp.same (up (Mk hM10 k11).2.2.2.2) _ hch, by omega, fun H12 p12 os o1 _ ho0 ho12 k12 => ⟨p12, _, rfl, .inl (SqL.of ho12), rfl, flat_ints _, _, rfl, ?_⟩⟩
                rw [inV_ints, show decide (g ∈ os) = decide (g ∈ bes rs fa) from decide_eq_decide.mpr o1.mem_iff]
                exact kk H12 k12
              have hM11 := Mk hM10 k11
              have hD11' : H11 D = some (.lst (bl.map V.int)) := k11.get (by simp) (k10.get (by simp) hD9)
              have hcm : ∀ g ∈ ns.filter (fun g => decide (g ∈ bes rs fa)), g ∈ bes rs fb ∧ g ∈ bes rs fa := fun g hg => ⟨n1.mem_iff.mp (List.mem_filter.mp hg).1, of_decide_eq_true (List.mem_filter.mp hg).2⟩
              generalize ns.filter (fun g => decide (g ∈ bes rs fa)) = cl at hD11 hcm
              clear hq10 hD20 k11 hM10 k10 hq0
              refine ⟨D2, rfl, ⟨_, SqL.of hD11⟩, for_list (K := K) (a := D2) (xs := cl.map V.int)
                (fun j σ H' => ∃ v15, σ = [some (.ref a), some (.ref ta), some (.ref tc), some (.ref tp), v4, v5, some (.ref Fl), some (.ref G), v8, v9, none, none, v12, some (.int fa), some (.int fb), v15, none] ∧ M kvs H' ∧ H' D = some (.lst (bl.map V.int)) ∧ H' D2 = some (.lst (cl.map V.int)))
                ⟨_, rfl, hM11, hD11', hD11⟩ (fun j σ H' _ ⟨_, _, _, _, e⟩ => SqL.of e) ?_ ?_⟩
              · rintro u x σ H12 hx ⟨v15, rfl, hM12, hD12, hE12⟩
                obtain ⟨fc, hfc, rfl⟩ := map_ints_get hx
                obtain ⟨hfc1, hfc2⟩ := hcm fc (List.mem_of_getElem? hfc)
                refine ⟨.int fc, rfl, .ref Fl, rfl, Fl, _, rfl, .inl (SqL.of hM12.2.2.1), rfl, flat_ints _, _, rfl, ?_⟩
                rw [inV_ints]
                refine ite2 (fun hin => ?_) (fun _ => ⟨_, rfl, hM12, hD12, hE12⟩)
                have hin : fc ∈ ps.map (·.1) := of_decide_eq_true hin
                refine ⟨.int fb, rfl, .int fc, rfl, .int fa, rfl, by show 3 ≤ sizeLine; decide, fun T hT => ⟨T, _, rfl, SqT.of upd_same, rfl, ?_⟩⟩
                have hM13 := Mk hM12 (Kp.new (o := .tup [.int fb, .int fc, .int fa]) hT)
                generalize upd H12 T (.tup [.int fb, .int fc, .int fa]) = H13 at hM13
                have hM14 := Mp hM13 hfam hfb2
                have hM15 := Mp hM14 hfb1 hfc1
                have hM16 := Mp hM15 hin (bes_symm hfc2)
                have l1 := putK_len (kvs := kvs) (k := .inl fa) (v := .int fb)
                have l2 := putK_len (kvs := putK kvs (.inl fa) (.int fb)) (k := .inl fb) (v := .int fc)
                have l3 := putK_len (kvs := putK (putK kvs (.inl fa) (.int fb)) (.inl fb) (.int fc)) (k := .inl fc) (v := .int fa)
                have big : 1000 < sizeLine := by decide
                refine ⟨.int fb, _, rfl, .ref G, rfl, .int fa, rfl, G, _, rfl, DPut.k (k := .inl fa) hM13.1 (by omega), .int fc, _, rfl, .ref G, rfl, .int fb, rfl, G, _, rfl, DPut.k (k := .inl fb) hM14.1 (by omega),
                  .int fa, _, rfl, .ref G, rfl, .int fc, rfl, G, _, rfl, DPut.k (k := .inl fc) hM15.1 (by omega), rfl, .ref G, rfl, Mout hM16 (by omega)⟩
              · rintro σ H12 ⟨v15, rfl, hM12, hD12, hE12⟩
                exact ⟨_, _, rfl, hM12, hD12⟩
            · rintro σ H9 ⟨v14, v15, rfl, hM9, hD9⟩
              exact ⟨_, _, _, rfl, hM9⟩
          · rintro σ H7 ⟨v13, v14, v15, rfl, hM⟩
            exact ⟨.ref G, rfl, Mout hM (by omega)⟩
      refine ⟨.ref I, rfl, Nat.zero_le _, fun Z hZ => ?_⟩
      have kZ : Kp ([] : List Addr) H4 (upd H4 Z (.lst [])) := Kp.new hZ
      have hM5 := Mk hM kZ
      have hI5 := kZ.get (by simp) hI
      have hP5 := hP.keep kZ noTup_nil
      refine ne_nil (SqL.of hI5) (fun x hx => let ⟨r, _, z⟩ := hP5.mem hx; sh_pair z) upd_same ⟨_, rfl, ?_⟩
      generalize upd H4 Z (.lst []) = H5 at hM5 hI5 hP5
      clear hZ kZ hM hI hP
      have out : M [] H5 ∧ ∃ v4' v5' v8 v9', ([some (.ref a), some (.ref ta), some (.ref tc), some (.ref tp), v4, v5, some (.ref Fl), some (.ref G), some (.ref I), v9, none, none, none, none, none, none, none] : Sl) = [some (.ref a), some (.ref ta), some (.ref tc), some (.ref tp), v4', v5', some (.ref Fl), some (.ref G), v8, v9', none, none, none, none, none, none, none] := ⟨hM5, _, _, _, _, rfl⟩
      refine ite2 (fun hne => ?_) (fun _ => iteF out)
      have hne : ys ≠ [] := fun e => by simp [e] at hne
      refine ⟨.ref a, rfl, a, c, 2, rfl, hM5.2.2.2.1, by decide, by decide, fun H6 z z0 z1 hD6 k6 => ⟨rfl, _, rfl, ?_⟩⟩
      have hM6 := Md hM5 hD6 k6
      have hI6 := k6.get (by simp [Ia, Ic]) hI5
      have hP6 := hP5.keep k6 (deck_noTup hM5.2.2.2.1)
      refine ite2 (fun _ => ?_) (fun _ => ⟨hM6, _, _, _, _, rfl⟩)
      refine ⟨.ref a, rfl, .ref I, rfl, a, c, I, _, rfl, hD6, Ia, Ic, SqL.of hI6, hne, by omega, fun H7 x hx hD7 k7 => ?_⟩
      obtain ⟨r, hr, hxr⟩ := (hP6.keep k7 (deck_noTup hD6)).mem hx
      obtain ⟨T, rfl, hT⟩ := hxr
      have hM7 := Md hM6 hD7 k7
      refine ⟨T, _, rfl, SqT.of hT, rfl, .int r.1, _, rfl, .int r.2, _, rfl, rfl, fun Z hZ => ?_⟩
      refine ⟨.int r.1, rfl, .int r.2, rfl, upd_same, [(.inl r.1, .int r.2)], rfl, by simp, ?_⟩
      have kf : Kp [a, c] H (upd (upd H7 Z (.dK [])) Z (.dK (mergeK [] [(.inl r.1, .int r.2)]))) := by
        rw [upd_upd]
        exact hM7.2.2.2.2.trans (Kp.new hZ)
      refine k _ Z [(.inl r.1, .int r.2)] (fresh_of hM7.2.2.2.2 (by have := hD7.ne hZ; simp [this]) hZ) (by rw [upd_same]; rfl) (fun kv hkv => ?_) (by simp) ?_ kf
      · rw [List.mem_singleton.mp hkv]
        exact ⟨r.1, r.2, rfl, hq r hr⟩
      · rw [upd_upd]
        exact hD7.new hZ
end
end Kt

set_option Elab.async false
set_option linter.all false
set_option maxRecDepth 100000
set_option maxHeartbeats 4000000
namespace Kt
open PySem PySem.Spec PyProof.Rows L2
def isBack : Ord → Bool
  | .back _ _ => true
  | _ => false
def word : Ord → Str
  | .stay => "stay"
  | .go _ => "go"
  | .back _ _ => "back"
theorem oV_word (o : Ord) : ∃ r, oV o = .str (word o) :: r := by cases o <;> exact ⟨_, rfl⟩
theorem word_back (o : Ord) : decide (V.str (word o) = V.str "back") = isBack o := by
  cases o with
  | stay => exact decide_eq_false fun e => absurd (V.str.inj e) (by decide +kernel)
  | go g => exact decide_eq_false fun e => absurd (V.str.inj e) (show ¬ (("go" : Str) = "back") by decide +kernel)
  | back f g => exact decide_eq_true rfl
theorem word_go (o : Ord) : decide (V.str (word o) = V.str "go") = (match o with | .go _ => true | _ => false) := by
  cases o with
  | stay => exact decide_eq_false fun e => absurd (V.str.inj e) (by decide +kernel)
  | go g => exact decide_eq_true rfl
  | back f g => exact decide_eq_false fun e => absurd (V.str.inj e) (show ¬ (("back" : Str) = "go") by decide +kernel)
/-- an order of the piece in the field own -/
def OrdOk (rs ps : List (Int × Int)) (own : Int) : Ord → Prop
  | .stay => True
  | .go g => g ∈ bes rs own
  | .back f g => f ∈ ps.map (·.1) ∧ f ≠ own ∧ g ∈ bes rs own ∧ (g = f ∨ g ∈ bes rs f)
theorem MenuOf.ok {rs ps : List (Int × Int)} {own : Int} {os : List Ord} (h : MenuOf rs ps own os) : ∀ o ∈ os, OrdOk rs ps own o := by
  obtain ⟨reach, bs, h1, h2, h3, h4, rfl⟩ := h.eq
  intro o ho
  rcases List.mem_cons.mp ho with e | ho
  · rw [e]
    trivial
  · rcases List.mem_append.mp ho with ho | ho
    · obtain ⟨g, hg, rfl⟩ := List.mem_map.mp ho
      exact h1.mem_iff.mp hg
    · obtain ⟨q, hq, rfl⟩ := List.mem_map.mp ho
      have hq := h3.mem_iff.mp hq
      unfold backsOf at hq
      obtain ⟨f, hf, hq⟩ := List.mem_flatMap.mp hq
      unfold half at hq
      split at hq
      · cases hq
      · rename_i hne
        obtain ⟨g, hg, rfl⟩ := List.mem_map.mp hq
        obtain ⟨hg1, hg2⟩ := List.mem_filter.mp hg
        simp only [Bool.or_eq_true, decide_eq_true_eq] at hg2
        exact ⟨hf, hne, h1.mem_iff.mp hg1, hg2⟩
theorem Ps.mem {α : Type} {f : α → List V} {H : Hp} : ∀ {xs : List V} {rs : List α} {x : V}, Ps f H xs rs → x ∈ xs → ∃ r ∈ rs, TpAt f H x r
  | _, _, _, .nil, h => absurd h (by simp)
  | _, _, _, .cons a b, h => by
    rcases List.mem_cons.mp h with e | h
    · rw [e]
      exact ⟨_, List.mem_cons_self, a⟩
    · obtain ⟨r, hr, q⟩ := Ps.mem b h
      exact ⟨r, List.mem_cons_of_mem _ hr, q⟩
theorem dp_flat {K : PySem.W.Frag} {H : Hp} : ∀ o : Ord, ∃ ds, DpAll K H (oV o) ds ∧ PyData.canLayAll0 ds = true ∧ PyData.depthAll ds ≤ 1
  | .stay => ⟨_, .cons (.str _) .nil, by decide +kernel, by simp [PyData.depthAll, PyData.depth]⟩
  | .go g => ⟨_, .cons (.str _) (.cons (.int _) .nil), by
      have : PyData.strOk "go" = true := by decide +kernel
      simp [PyData.canLayAll0, PyData.canLay0, this], by simp [PyData.depthAll, PyData.depth]⟩
  | .back f g => ⟨_, .cons (.str _) (.cons (.int _) (.cons (.int _) .nil)), by
      have : PyData.strOk "back" = true := by decide +kernel
      simp [PyData.canLayAll0, PyData.canLay0, this], by simp [PyData.depthAll, PyData.depth]⟩
theorem sh_ord {K : PySem.W.Frag} {H : Hp} {x : V} {o : Ord} (h : TpAt oV H x o) : Sh K H x := by
  obtain ⟨t, rfl, e⟩ := h
  obtain ⟨ds, h1, h2, h3⟩ := dp_flat (K := K) (H := H) o
  exact ⟨_, .tup (SqT.of e) h1, by simpa [PyData.canLay0] using h2, by simp only [PyData.depth]; omega⟩
/-- [x for x in orders if t(x)] -/
theorem lc_ords {K : PySem.W.Frag} {L D : Addr} {xs : List V} {os : List Ord} (t : Ord → Bool) {i : Nat} {tt : TT} {vs : List Nat} {σ : Sl} {H1 : Hp} {Qd : Hp → Prop} (hL : H1 L = some (.lst xs)) (hP : Ps oV H1 xs os) (hD : H1 D = none) (hlen : xs.length ≤ 10000)
    (hi : ∀ x, ((wipe σ vs).set i x)[i]? = some x) (hw : ∀ x, wipe ((wipe σ vs).set i x) vs = wipe σ vs)
    (ht : ∀ o ∈ os, ∀ (T : Addr) (H' : Hp), Kp [] H1 H' → H' T = some (.tup (oV o)) → ∀ (Q : Bool → Hp → Prop), (∀ H'', Kp [] H' H'' → Q (t o) H'') → tt ((wipe σ vs).set i (some (.ref T))) H' Q)
    (hd : ∀ H' zs, H' D = some (.lst zs) → Ps oV H' zs (os.filter t) → Kp [] H1 H' → Qd H') :
    ∃ W : Nat → Nat → Hp → Prop, (∃ m, W 0 m (upd H1 D (.lst []))) ∧ ∀ i' m H, W i' m H →
      ((Itl K L).stop i' H ∧ Qd H) ∨ ((Itl K L).go i' H ∧ ∃ Nx : Hp → Prop, (∀ H', Nx H' → ∃ m', m' < m ∧ W (i' + 1) m' H') ∧ ∀ x H', (Itl K L).yld i' H x H' → gName i x (wipe σ vs) H' fun σ2 H2 => wipe σ2 vs = wipe σ vs ∧ tt σ2 H2 fun b H3 =>
        if b = true then tVar i σ2 H3 fun y H4 => ∃ acc, H4 D = some (.lst acc) ∧ acc.length < sizeLine ∧ Nx (upd H4 D (.lst (acc ++ [y]))) else Nx H3) := by
  refine lc_list (K := K) (a := L) (xs := xs) (fun j H' => ∃ zs, H' D = some (.lst zs) ∧ Ps oV H' zs ((os.take j).filter t) ∧ Kp [] H1 H') ⟨[], upd_same, .nil, Kp.new hD⟩ (fun j H' _ ⟨_, _, _, k⟩ => SqL.of (k.get (by simp) hL)) ?_ ?_
  · rintro j x H' hx ⟨zs, h1, h2, k⟩
    obtain ⟨o, ho, T, rfl, hT⟩ := (hP.keep k noTup_nil).at hx
    have hj : j < xs.length := (List.getElem?_eq_some_iff.mp hx).1
    refine ⟨hw _, ht o (List.mem_of_getElem? ho) T H' k hT _ fun H'' k2 => ?_⟩
    have g1 := k2.get (by simp) h1
    have g2 := h2.keep k2 noTup_nil
    have gT := k2.get (by simp) hT
    have k3 := k.trans k2
    rw [filter_snoc ho]
    by_cases e : t o = true
    · rw [if_pos e]
      have kD : Kp [D] H'' (upd H'' D (.lst (zs ++ [.ref T]))) := Kp.put (by simp)
      have nD : NoTup H'' [D] := fun s hs ys e => by rw [List.mem_singleton.mp hs, g1] at e; cases e
      refine ⟨.ref T, hi _, _, g1, ?_, zs ++ [.ref T], upd_same, ?_, k3.fill hD⟩
      · rw [g2.len]
        have := List.length_filter_le t (os.take j)
        rw [List.length_take] at this
        exact Nat.lt_of_le_of_lt (show _ ≤ 10000 by omega) (by decide)
      · rw [if_pos e]
        exact Ps.snoc (TpAt.keep (show TpAt oV H'' (.ref T) o from ⟨T, rfl, gT⟩) kD nD) (g2.keep kD nD)
    · rw [if_neg e]
      refine ⟨zs, g1, ?_, k3⟩
      rw [if_neg e, List.append_nil]
      exact g2
  · rintro H' ⟨zs, h1, h2, k⟩
    rw [hP.len, List.take_length] at h2
    exact hd H' zs h1 h2 k
theorem valV_mem {kvs : List (Key × V)} {k : Key} {v : V} (h : valV kvs k = some v) : (k, v) ∈ kvs := by
  unfold valV at h
  obtain ⟨q, hq, rfl⟩ := Option.map_eq_some_iff.mp h
  have h1 := List.mem_of_find?_eq_some hq
  have h2 := List.find?_some hq
  have h3 : q.1 = k := of_decide_eq_true h2
  rw [← h3]
  exact h1
theorem GosOk.get {rs : List (Int × Int)} {fs : List Int} {kvs : List (Key × V)} {f : Int} {v : V} (h : GosOk rs fs kvs) (e : valV kvs (.inl f) = some v) : ∃ g, v = .int g ∧ f ∈ fs ∧ g ∈ bes rs f := by
  obtain ⟨f', g, e', h1, h2⟩ := h _ (valV_mem e)
  have e1 := congrArg Prod.fst e'
  have e2 := congrArg Prod.snd e'
  have e3 : f = f' := Sum.inl.inj e1
  subst e3
  exact ⟨g, e2, h1, h2⟩
def fitGo (kvs : List (Key × V)) : Ord → Bool
  | .back f g => decide ((valV kvs (.inl f)).getD (.int (-1)) = .int g)
  | _ => false
def fitStay : Ord → Bool
  | .back f g => decide (V.int f = V.int g)
  | _ => false
theorem Ps.take {α : Type} {f : α → List V} {H : Hp} : ∀ {xs : List V} {rs : List α} (n : Nat), Ps f H xs rs → Ps f H (xs.take n) (rs.take n)
  | _, _, 0, _ => .nil
  | _, _, _ + 1, .nil => .nil
  | _, _, n + 1, .cons a b => .cons a (Ps.take n b)
/-- orders as data -/
def oD : Ord → PyData
  | .stay => .tuple [.str "stay"]
  | .go g => .tuple [.str "go", .int g]
  | .back f g => .tuple [.str "back", .int f, .int g]
theorem Ps.ords {K : PySem.W.Frag} {H : Hp} {S : List Addr} (n : NoTup H S) : ∀ {xs : List V} {os : List Ord}, Ps oV H xs os → DpAll K (Ob S H) xs (os.map oD)
  | _, _, .nil => .nil
  | _, o :: _, .cons h t => by
    obtain ⟨a, rfl, e⟩ := h
    refine .cons ?_ (Ps.ords n t)
    have e' := SqT.of (K := K) (Ob.mk (fun z => n a z _ e) e)
    cases o with
    | stay => exact .tup e' (.cons (.str _) .nil)
    | go g => exact .tup e' (.cons (.str _) (.cons (.int _) .nil))
    | back f g => exact .tup e' (.cons (.str _) (.cons (.int _) (.cons (.int _) .nil)))
def OrdsOk (rs ps : List (Int × Int)) (os : List Ord) : Prop := os.length = ps.length ∧ ∀ (i : Nat) (o : Ord) (p : Int × Int), os[i]? = some o → ps[i]? = some p → OrdOk rs ps p.1 o
def spOrders (K : PySem.W.Frag) : Sp := fun vs H Q _ => ∃ (a c : Addr) (v : V) (n : Int) (rs : List (Int × Int)) (cs : List Int) (ps : List (Int × Int)), vs = [.ref a, v] ∧ DeckAt H a c ∧ Da K [a, c] H v (bdD n rs cs ps) ∧ rs.length ≤ 200 ∧ ps.length ≤ 24 ∧
  ∀ (H' : Hp) (p : Addr) (ys : List V) (os : List Ord), OrdsOk rs ps os → H p = none → H' p = some (.tup ys) → Ps oV H' ys os → DeckAt H' a c → Kp [a, c] H H' → Q (.ref p) H'
section
variable {P : Program} {w : World} {K : PySem.W.Frag} {mg : Str → Option Value} {base : Heap}
abbrev nOrders : List Str := ["deck", "board", "chart", "pieces", "gos", "told", "place", "field", "player", "menu", "good", "way", "order"]
theorem scOrders : FnScope nOrders ["deck", "board"] (defScope sOrders) := ⟨rfl, rfl, rfl, by decide +kernel, rfl, by decide +kernel, by decide +kernel⟩
theorem ok_orders {f fD fG fO fP : Addr} {fd fdD fdG fdO fdP : FuncData} (F : Fun K "_law_orders" "_law_orders" sOrders f fd) (FD : Fun K "_law_draw" "_law_draw" sDraw fD fdD) (bD : Binds K fdD ["deck", "many"] []) (gD : mg "_law_draw" = some (.ref fD))
    (FG : Fun K "_law_gos" "_law_gos" sGos fG fdG) (bG : Binds K fdG ["deck", "board"] []) (gG : mg "_law_gos" = some (.ref fG)) (GG : FnOk P w K mg base CX0 3 fG fdG ["deck", "board"] (spGos K))
    (FO : Fun K "_law_orders_of" "_law_orders_of" sOrdersOf fO fdO) (bO : Binds K fdO ["board", "place"] []) (gO : mg "_law_orders_of" = some (.ref fO)) (GO : FnOk P w K mg base CX0 2 fO fdO ["board", "place"] (spOrdersOf K))
    (FP : Fun K "_law_pick" "_law_pick" sPick fP fdP) (bP : Binds K fdP ["deck", "items"] []) (gP : mg "_law_pick" = some (.ref fP))
    (mI : mg "int" = none) (mL : mg "len" = none) (mE : mg "enumerate" = none) (mT : mg "tuple" = none) : FnOk P w K mg base CX0 4 f fd ["deck", "board"] (spOrders K) := by
  have GD : FnOk P w K mg base CX0 1 fD fdD ["deck", "many"] spDraw := ok_draw FD mI
  have GP : FnOk P w K mg base CX0 2 fP fdP ["deck", "items"] (spPick K) := ok_pick FP FD bD gD mI mL
  refine F.ok scOrders (fun vs H Q E h => ?_) (fun cdv A outer s H vs Q E hr h => ?_)
  · obtain ⟨a, c, v, n, rs, cs, ps, rfl, _⟩ := h
    rfl
  · obtain ⟨a, c, v, n, rs, cs, ps, rfl, hD, hv, hrs, hps, k⟩ := h
    have hr1 := hr.mono (show 1 ≤ 3 by decide)
    have hr2 := hr.mono (show 2 ≤ 3 by decide)
    refine ⟨_, pss_cons (ps_asg (pv 1) (pg_tup rfl (pgs_cons (pg_name (i := 2) scOrders.nd rfl (.inl rfl)) (pgs_cons (pg_name (i := 3) scOrders.nd rfl (.inl rfl)) pgs_nil))))
      (pss_cons (ps_asg (pe_tup (pa_cons (pe_call GG hr (by rfl) gG FG.kp bG .nil pass0 (pa_cons (pv 0) (pa_cons (pv 1) pa_nil))) (pa_cons (pe_lst pa_nil) pa_nil))) (pg_tup rfl (pgs_cons (pg_name (i := 4) scOrders.nd rfl (.inr rfl)) (pgs_cons (pg_name (i := 5) scOrders.nd rfl (.inl rfl)) pgs_nil))))
      (pss_cons (ps_for PassesOwn.never rfl (pi_enumT (by rfl) mE (pa_cons (pv 3) pa_nil)) (pg_tup rfl (pgs_cons (pg_name (i := 6) scOrders.nd rfl (.inl rfl)) (pgs_cons (pg_tup rfl (pgs_cons (pg_name (i := 7) scOrders.nd rfl (.inl rfl)) (pgs_cons (pg_name (i := 8) scOrders.nd rfl (.inl rfl)) pgs_nil))) pgs_nil)))
        (pss_cons (ps_if (pt_cmp (pc_din (hu_of hr) (pv 7) (pv 4)))
          (pss_cons (ps_expr (pe_bm PySem.F.plainAttrs_list PySem.F.slot_list_append PySem.F.type_list_append mt_append (pv 5) (pa_cons (pe_tup (pa_cons pe_str (pa_cons (pe_dget (hu_of hr) (pv 4) (pv 7) (fun _ _ => rfl)) pa_nil))) pa_nil))) (pss_one ps_continue)) pss_nil)
        (pss_cons (ps_set (i := 9) scOrders.nd rfl (.inl rfl) (pe_call GO hr2 (by rfl) gO FO.kp bO .nil pass0 (pa_cons (pv 1) (pa_cons (pv 6) pa_nil))))
        (pss_cons (ps_setLc (i := 10) (own := [("order", 12)]) (g := gName 12) rfl scOrders.nd rfl rfl (sw_true rfl rfl rfl (by decide +kernel)) (pi_list (pv 9)) (blkOk_by (own := [("order", 12)]) (N := nOrders) (sc := defScope sOrders) (by decide +kernel))
            (fun _ _ _ _ _ => pg_name (i := 12) scOrders.nd rfl (.inl rfl))
            (fun _ _ _ _ _ => pts_one (PW.pt (pw_and (pt_cmpR op_eq (ktK K (pv 12) pe_int) pe_str (nomark _)) (pw_and1 (pt_cmpR op_eq (pe_dget2 (hu_of hr) (pv 4) (ktK K (pv 12) pe_int) (pe_un un_neg pe_int) ⟨rfl, rfl, rfl, rfl⟩) (ktK K (pv 12) pe_int) (nomark _))))))
            (fun _ _ _ _ _ => pv 12))
        (Evl.pss_cut (ps_set (i := 10) scOrders.nd rfl (.inl rfl) (pe_ifExp (pt_cmpR (op_neD hr.units) (pv 10) (pe_lst pa_nil) (nomark _)) (pv 10)
            (pe_lc (own := [("order", 12)]) (g := gName 12) rfl scOrders.nd (pi_list (pv 9)) (blkOk_by (own := [("order", 12)]) (N := nOrders) (sc := defScope sOrders) (by decide +kernel))
              (fun _ _ _ _ _ => pg_name (i := 12) scOrders.nd rfl (.inl rfl))
              (fun _ _ _ _ _ => pts_one (PW.pt (pw_and (pt_cmpR op_eq (ktK K (pv 12) pe_int) pe_str (nomark _)) (pw_and1 (pt_cmpR op_eq (ktK K (pv 12) pe_int) (ktK K (pv 12) pe_int) (nomark _))))))
              (fun _ _ _ _ _ => pv 12))))
        (pss_cons (ps_set (i := 11) scOrders.nd rfl (.inl rfl) (pe_call GD hr1 (by rfl) gD FD.kp bD .nil pass0 (pa_cons (pv 0) (pa_cons pe_int pa_nil))))
        (Evl.pss_cut (ps_set (i := 9) scOrders.nd rfl (.inl rfl) (pe_ifExp (PW.pt (pw_and (pt_cmpR (op_neD hr.units) (pv 10) (pe_lst pa_nil) (nomark _)) (pw_and1 (pt_cmpR op_lt (pv 11) pe_int (nomark _))))) (pv 10)
            (pe_ifExp (pt_cmpR op_eq (pv 11) pe_int (nomark _)) (pv 9) (pe_slice sl_list (pv 9) po_none (po_some pe_int)))))
        (pss_one (ps_expr (pe_bm PySem.F.plainAttrs_list PySem.F.slot_list_append PySem.F.type_list_append mt_append (pv 5) (pa_cons (pe_call GP hr2 (by rfl) gP FP.kp bP .nil pass0 (pa_cons (pv 0) (pa_cons (pv 9) pa_nil))) pa_nil)))))))))))
      (pss_one (ps_ret (pe_callTy call_tuple_of (by rfl) mT PyProof.Rows.boot_tuple (pa_cons (pv 5) pa_nil)))))), ?_⟩
    obtain ⟨ta, tc, tp, xs, rfl, hb, hch, hpt, hpx⟩ := board_inv (show Dp K (Ob [a, c] H) v _ from hv)
    have up := fun {H' : Hp} (kk : Kp [a, c] H H') => kk.up
    have hlx : xs.length = ps.length := by rw [all_len hpx, List.length_map]
    -- chart, pieces = board
    refine ⟨_, rfl, ta, _, rfl, sameT (up Kp.refl) hb, rfl, .ref tc, _, rfl, .ref tp, _, rfl, rfl, ?_⟩
    -- gos, told
    refine ⟨.ref a, rfl, .ref ta, rfl, a, c, .ref ta, n, rs, cs, ps, rfl, hD, hv, hrs, hps, fun H1 G kvs hG0 hG1 hgo hgl hD1 k1 => ⟨Nat.zero_le _, fun Tl hT0 => ⟨by show 2 ≤ sizeLine; decide, fun Z hZ => ⟨Z, _, rfl, SqT.of upd_same, rfl, .ref G, _, rfl, .ref Tl, _, rfl, rfl, ?_⟩⟩⟩⟩
    obtain ⟨Ga, Gc⟩ := hD.ne hG0
    obtain ⟨Ta, Tc⟩ := hD1.ne hT0
    have TG : Tl ≠ G := (ne_of_none hG1 hT0).symm
    have hTH : H Tl = none := fresh_of k1 (by simp [Ta, Tc]) hT0
    let M : List V → List Ord → Hp → Prop := fun ys os H' => H' G = some (.dK kvs) ∧ H' Tl = some (.lst ys) ∧ Ps oV H' ys os ∧ DeckAt H' a c ∧ Kp [a, c] H H'
    have Mk : ∀ {ys os H' H''}, M ys os H' → Kp [] H' H'' → M ys os H'' := fun {ys os H' H''} ⟨e1, e2, e3, e4, e5⟩ kk => ⟨kk.get (by simp) e1, kk.get (by simp) e2, e3.keep kk noTup_nil, e4.keep kk (by simp) (by simp), e5.trans kk.all⟩
    have Md : ∀ {ys os H' H''}, M ys os H' → DeckAt H'' a c → Kp [a, c] H' H'' → M ys os H'' := fun {ys os H' H''} ⟨e1, e2, e3, e4, e5⟩ d kk => ⟨kk.get (by simp [Ga, Gc]) e1, kk.get (by simp [Ta, Tc]) e2, e3.keep kk (deck_noTup e4), d, e5.trans kk⟩
    have Mp : ∀ {ys os H' T o}, M ys os H' → H' T = some (.tup (oV o)) → M (ys ++ [.ref T]) (os ++ [o]) (upd H' Tl (.lst (ys ++ [.ref T]))) := fun {ys os H' T o} ⟨e1, e2, e3, e4, e5⟩ eT => by
      have kT : Kp [Tl] H' (upd H' Tl (.lst (ys ++ [.ref T]))) := Kp.put (by simp)
      have nT : NoTup H' [Tl] := fun s hs zs e => by rw [List.mem_singleton.mp hs, e2] at e; cases e
      exact ⟨by rw [upd_ne TG.symm]; exact e1, upd_same, Ps.snoc (TpAt.keep (show TpAt oV H' (.ref T) o from ⟨T, rfl, eT⟩) kT nT) (e3.keep kT nT), e4.put Ta Tc, e5.fill hTH⟩
    have M0 : M [] [] (upd (upd H1 Tl (.lst [])) Z (.tup [.ref G, .ref Tl])) := by
      have kk : Kp ([] : List Addr) H1 (upd (upd H1 Tl (.lst [])) Z (.tup [.ref G, .ref Tl])) := (Kp.new hT0).trans (Kp.new hZ)
      exact ⟨kk.get (by simp) hG1, Kp.get (S := []) (Kp.new hZ) (by simp) upd_same, .nil, hD1.keep kk (by simp) (by simp), k1.trans kk.all⟩
    have okc : ∀ {os : List Ord} {o : Ord} {r : Int × Int} {j : Nat}, os.length = j → (∀ (i : Nat) (o : Ord) (p : Int × Int), os[i]? = some o → ps[i]? = some p → OrdOk rs ps p.1 o) → ps[j]? = some r → OrdOk rs ps r.1 o →
        (os ++ [o]).length = j + 1 ∧ ∀ (i : Nat) (q : Ord) (p : Int × Int), (os ++ [o])[i]? = some q → ps[i]? = some p → OrdOk rs ps p.1 q := fun {os o r j} hl h hr ho => by
      refine ⟨by rw [List.length_append, hl]; rfl, fun i q p hq hp => ?_⟩
      by_cases hi : i < os.length
      · rw [List.getElem?_append_left hi] at hq
        exact h i q p hq hp
      · rw [List.getElem?_append_right (by omega)] at hq
        have hi0 : i - os.length = 0 := by
          by_cases e : i - os.length = 0
          · exact e
          · rw [List.getElem?_eq_none (by simp; omega)] at hq
            cases hq
        rw [hi0] at hq
        have e : o = q := Option.some.inj hq
        have ei : i = j := by omega
        rw [ei, hr] at hp
        cases hp
        rw [← e]
        exact ho
    refine ⟨.ref tp, rfl, tp, xs, rfl, sameT (up M0.2.2.2.2) hpt, for_it walk_enumT
      (fun j σ H' => ∃ v6 v7 v8 v9 v10 v11 ys os, σ = [some (.ref a), some (.ref ta), some (.ref tc), some (.ref tp), some (.ref G), some (.ref Tl), v6, v7, v8, v9, v10, v11, none] ∧ M ys os H' ∧ os.length = j ∧ (∀ (i : Nat) (o : Ord) (p : Int × Int), os[i]? = some o → ps[i]? = some p → OrdOk rs ps p.1 o))
      ⟨_, _, _, _, _, _, [], [], rfl, M0, rfl, fun i o p h => by simp at h⟩ (fun j σ H' _ ⟨_, _, _, _, _, _, _, _, _, hM, _⟩ => sameT (up hM.2.2.2.2) hpt) ?_ ?_⟩
    · rintro j x σ H' H'' hj ⟨v6, v7, v8, v9, v10, v11, ys, os, rfl, hM, hol, hok⟩ ⟨Tq, x1, x2, rfl, hTq, rfl, ex1, ex2⟩
      cases ex1
      obtain ⟨r, q, hr', rfl, hqt⟩ := pairs_at hpx ex2
      have kq : Kp ([] : List Addr) H' (upd H' Tq (.tup [.int (j : Nat), .ref q])) := Kp.new hTq
      have hM := Mk hM kq
      refine ⟨Tq, _, rfl, SqT.of upd_same, rfl, .int (j : Nat), _, rfl, .ref q, _, rfl, ⟨q, _, rfl, sameT (up hM.2.2.2.2) hqt, rfl, .int r.1, _, rfl, .int r.2, _, rfl, rfl, rfl, ?_⟩⟩
      generalize upd H' Tq (.tup [.int (j : Nat), .ref q]) = H2 at hM
      have hj24 : j < 24 := by omega
      have hyl : ys.length ≤ 1000 := by rw [hM.2.2.1.len, hol]; omega
      -- if field in gos
      refine ⟨.int r.1, rfl, .ref G, rfl, G, _, rfl, DGet.k (k := .inl r.1) hM.1, _, rfl, ?_⟩
      cases eg : valV kvs (.inl r.1) with
      | some w' =>
        obtain ⟨g, rfl, hg1, hg2⟩ := hgo.get eg
        refine iteT ⟨.ref Tl, rfl, .inl ⟨rfl, _, SqL.of hM.2.1⟩, .ref G, rfl, .int r.1, rfl, G, .int g, rfl, (by have z := DGet.k (k := .inl r.1) hM.1; rw [eg] at z; exact z), by show 2 ≤ sizeLine; decide, fun T hT => ?_⟩
        have kT : Kp ([] : List Addr) H2 (upd H2 T (.tup [.str "go", .int g])) := Kp.new hT
        have hM3 := Mk hM kT
        refine ⟨Tl, _, _, rfl, rfl, hM3.2.1, small1000 hyl, ?_⟩
        have ho := okc (o := .go g) hol hok hr' hg2
        exact ⟨_, _, _, _, _, _, _, _, rfl, Mp (o := .go g) hM3 upd_same, ho.1, ho.2⟩
      | none =>
        refine iteF ?_
        -- menu
        refine ⟨.ref ta, rfl, .int (j : Nat), rfl, .ref ta, j, n, rs, cs, ps, r, rfl, Dp.same (up hM.2.2.2.2) _ hv, hrs, hps, hr', fun H3 Lm zs os3 hmenu hL0 hL3 hP3 hzl k3 => ?_⟩
        have hM3 := Mk hM k3
        obtain ⟨La, Lc⟩ := hM.2.2.2.1.ne hL0
        have hok3 := hmenu.ok
        have hne3 : zs ≠ [] := fun e => by
          obtain ⟨reach, bs, _, _, _, _, e3⟩ := hmenu.eq
          have := hP3.len
          rw [e, e3] at this
          simp at this
        -- good
        refine ⟨.ref Lm, rfl, Lm, rfl, ⟨_, SqL.of hL3⟩, fun D hD0 => ?_⟩
        refine lc_ords (K := K) (L := Lm) (xs := zs) (os := os3) (fitGo kvs) (i := 12) hL3 hP3 hD0 hzl (fun x => rfl) (fun x => rfl) (fun o ho T H4 k4 hT R kk => ?_) fun H4 us hD4 hP4 k4 => ?_
        · have hM4 := Mk hM3 k4
          cases o with
          | stay =>
            refine ⟨.ref T, rfl, T, _, 0, _, rfl, rfl, SqT.of hT, at0, rfl, _, rfl, ?_⟩
            rw [show decide (V.str "stay" = V.str "back") = false from word_back .stay]
            exact iteF (kk H4 Kp.refl)
          | go g =>
            refine ⟨.ref T, rfl, T, _, 0, _, rfl, rfl, SqT.of hT, at0, rfl, _, rfl, ?_⟩
            rw [show decide (V.str "go" = V.str "back") = false from word_back (.go g)]
            exact iteF (kk H4 Kp.refl)
          | back f g =>
            refine ⟨.ref T, rfl, T, _, 0, _, rfl, rfl, SqT.of hT, at0, rfl, _, rfl, ?_⟩
            rw [show decide (V.str "back" = V.str "back") = true from word_back (.back f g)]
            refine iteT ⟨.ref G, rfl, G, rfl, .inl ⟨_, .inl hM4.1⟩, .ref T, rfl, T, _, 1, _, rfl, rfl, SqT.of hT, at1, 1, rfl, _, DGet.k (k := .inl f) hM4.1, .ref T, rfl, T, _, 2, _, rfl, rfl, SqT.of hT, at2, ?_⟩
            have hz : ∃ z, (valV kvs (.inl f)).getD (.int (-1)) = .int z := by
              cases e : valV kvs (.inl f) with
              | none => exact ⟨-1, rfl⟩
              | some y =>
                obtain ⟨z, rfl, _⟩ := hgo.get e
                exact ⟨z, rfl⟩
            obtain ⟨z, hz⟩ := hz
            refine ⟨by rw [hz]; rfl, _, rfl, ?_⟩
            exact kk H4 Kp.refl
        have hM4 := Mk hM3 k4
        have hL4 := k4.get (by simp) hL3
        have hP34 := hP3.keep k4 noTup_nil
        have hDa := hM3.2.2.2.1.ne hD0
        -- good, again
        refine ⟨fun σ H5 => ∃ v12 L5 us os5, σ = [some (.ref a), some (.ref ta), some (.ref tc), some (.ref tp), some (.ref G), some (.ref Tl), some (.int (j : Nat)), some (.int r.1), some (.int r.2), some (.ref Lm), some (.ref L5), v12, none] ∧ M ys os H5 ∧ H5 Lm = some (.lst zs) ∧ Ps oV H5 zs os3 ∧
          H5 L5 = some (.lst us) ∧ Ps oV H5 us os5 ∧ (∀ o ∈ os5, OrdOk rs ps r.1 o) ∧ us.length ≤ 10000 ∧ L5 ≠ a ∧ L5 ≠ c, ?_, ?_⟩
        · have hul : us.length ≤ 10000 := by
            rw [hP4.len]
            refine Nat.le_trans (List.length_filter_le _ _) ?_
            rw [← hP3.len]
            exact hzl
          refine ⟨.ref D, rfl, Nat.zero_le _, fun Z2 hZ2 => ?_⟩
          have kZ : Kp ([] : List Addr) H4 (upd H4 Z2 (.lst [])) := Kp.new hZ2
          have hM5 := Mk hM4 kZ
          have hL5 := kZ.get (by simp) hL4
          have hP5 := hP34.keep kZ noTup_nil
          have hD5 := kZ.get (by simp) hD4
          have hQ5 := hP4.keep kZ noTup_nil
          refine ne_nil (SqL.of hD5) (fun x hx => let ⟨_, _, z⟩ := hQ5.mem hx; sh_ord z) upd_same ⟨_, rfl, ?_⟩
          generalize upd H4 Z2 (.lst []) = H5 at hM5 hL5 hP5 hD5 hQ5
          refine ite2 (fun _ => ?_) (fun _ => ?_)
          · exact ⟨.ref D, rfl, _, D, us, _, rfl, hM5, hL5, hP5, hD5, hQ5, fun o ho => hok3 o (List.mem_filter.mp ho).1, hul, hDa.1, hDa.2⟩
          · refine ⟨.ref Lm, rfl, Lm, rfl, ⟨_, SqL.of hL5⟩, fun D2 hD20 => ?_⟩
            refine lc_ords (K := K) (L := Lm) (xs := zs) (os := os3) fitStay (i := 12) hL5 hP5 hD20 hzl (fun x => rfl) (fun x => rfl) (fun o ho T H6 k6 hT R kk => ?_) fun H6 us2 hD6 hP6 k6 => ?_
            · cases o with
              | stay =>
                refine ⟨.ref T, rfl, T, _, 0, _, rfl, rfl, SqT.of hT, at0, rfl, _, rfl, ?_⟩
                rw [show decide (V.str "stay" = V.str "back") = false from word_back .stay]
                exact iteF (kk H6 Kp.refl)
              | go g =>
                refine ⟨.ref T, rfl, T, _, 0, _, rfl, rfl, SqT.of hT, at0, rfl, _, rfl, ?_⟩
                rw [show decide (V.str "go" = V.str "back") = false from word_back (.go g)]
                exact iteF (kk H6 Kp.refl)
              | back f g =>
                refine ⟨.ref T, rfl, T, _, 0, _, rfl, rfl, SqT.of hT, at0, rfl, _, rfl, ?_⟩
                rw [show decide (V.str "back" = V.str "back") = true from word_back (.back f g)]
                refine iteT ⟨.ref T, rfl, T, _, 1, _, rfl, rfl, SqT.of hT, at1, .ref T, rfl, T, _, 2, _, rfl, rfl, SqT.of hT, at2, rfl, _, rfl, ?_⟩
                exact kk H6 Kp.refl
            have hM6 := Mk hM5 k6
            have hD2a := hM5.2.2.2.1.ne hD20
            refine ⟨_, D2, us2, _, rfl, hM6, k6.get (by simp) hL5, hP5.keep k6 noTup_nil, hD6, hP6, fun o ho => hok3 o (List.mem_filter.mp ho).1, ?_, hD2a.1, hD2a.2⟩
            rw [hP6.len]
            refine Nat.le_trans (List.length_filter_le _ _) ?_
            rw [← hP3.len]
            exact hzl
        · clear hM4 hL4 hP34 hDa hD4 hP4 k4
          rintro σ H5 ⟨v12, L5, us, os5, rfl, hM5, hL5, hP5, hU5, hQ5, hok5, hul, L5a, L5c⟩
          -- way
          refine ⟨.ref a, rfl, a, c, 7, rfl, hM5.2.2.2.1, by decide, by decide, fun H6 w' w0 w1 hD6 k6 => ?_⟩
          have hM6 := Md hM5 hD6 k6
          have hL6 := k6.get (by simp [La, Lc]) hL5
          have hP6 := hP5.keep k6 (deck_noTup hM5.2.2.2.1)
          have hU6 := k6.get (by simp [L5a, L5c]) hU5
          have hQ6 := hQ5.keep k6 (deck_noTup hM5.2.2.2.1)
          clear hM5 hL5 hP5 hU5 hQ5 w0 w1 hD6 k6
          -- menu
          refine ⟨fun σ H7 => ∃ v10 v11 L7 us os7, σ = [some (.ref a), some (.ref ta), some (.ref tc), some (.ref tp), some (.ref G), some (.ref Tl), some (.int (j : Nat)), some (.int r.1), some (.int r.2), some (.ref L7), v10, v11, none] ∧ M ys os H7 ∧
            H7 L7 = some (.lst us) ∧ Ps oV H7 us os7 ∧ (∀ o ∈ os7, OrdOk rs ps r.1 o) ∧ us ≠ [] ∧ us.length ≤ 10000 ∧ L7 ≠ a ∧ L7 ≠ c, ?_, ?_⟩
          · refine ⟨.ref L5, rfl, Nat.zero_le _, fun Z2 hZ2 => ?_⟩
            have kZ : Kp ([] : List Addr) H6 (upd H6 Z2 (.lst [])) := Kp.new hZ2
            have hM7 := Mk hM6 kZ
            have hL7 := kZ.get (by simp) hL6
            have hP7 := hP6.keep kZ noTup_nil
            have hU7 := kZ.get (by simp) hU6
            have hQ7 := hQ6.keep kZ noTup_nil
            refine ne_nil (SqL.of hU7) (fun x hx => let ⟨_, _, z⟩ := hQ7.mem hx; sh_ord z) upd_same ⟨_, rfl, ?_⟩
            generalize upd H6 Z2 (.lst []) = H7 at hM7 hL7 hP7 hU7 hQ7
            have other : tIf (tTest (tOp rEq (tVar 11) (tC (.int 5)))) (tVar 9) (tSl (rSlL K) (tVar 9) tNoPart (tPart (tC (.int 1)))) [some (.ref a), some (.ref ta), some (.ref tc), some (.ref tp), some (.ref G), some (.ref Tl), some (.int (j : Nat)), some (.int r.1), some (.int r.2), some (.ref Lm), some (.ref L5), some (.int w'), none] H7
                (fun x H8 => ∃ v10 v11 L7 us os7, ([some (.ref a), some (.ref ta), some (.ref tc), some (.ref tp), some (.ref G), some (.ref Tl), some (.int (j : Nat)), some (.int r.1), some (.int r.2), some x, some (.ref L5), some (.int w'), none] : Sl) = [some (.ref a), some (.ref ta), some (.ref tc), some (.ref tp), some (.ref G), some (.ref Tl), some (.int (j : Nat)), some (.int r.1), some (.int r.2), some (.ref L7), v10, v11, none] ∧ M ys os H8 ∧
                  H8 L7 = some (.lst us) ∧ Ps oV H8 us os7 ∧ (∀ o ∈ os7, OrdOk rs ps r.1 o) ∧ us ≠ [] ∧ us.length ≤ 10000 ∧ L7 ≠ a ∧ L7 ≠ c) := by
              refine ⟨_, rfl, rfl, _, rfl, ?_⟩
              refine ite2 (fun _ => ?_) (fun _ => ?_)
              · exact ⟨.ref Lm, rfl, _, _, Lm, zs, os3, rfl, hM7, hL7, hP7, hok3, hne3, hzl, La, Lc⟩
              · refine ⟨.ref Lm, rfl, 1, rfl, Lm, _, rfl, SqL.of hL7, fun N hN => ?_⟩
                rw [cut_to _ _ (by decide)]
                have kN : Kp ([] : List Addr) H7 (upd H7 N (.lst (zs.take (1 : Int).toNat))) := Kp.new hN
                have hNa := hM7.2.2.2.1.ne hN
                refine ⟨_, _, N, _, os3.take (1 : Int).toNat, rfl, Mk hM7 kN, upd_same, (hP7.keep kN noTup_nil).take _, fun o ho => hok3 o (List.mem_of_mem_take ho), ?_, ?_, hNa.1, hNa.2⟩
                · cases zs with
                  | nil => exact absurd rfl hne3
                  | cons z zs => simp
                · rw [List.length_take]
                  omega
            refine ite2 (fun hne => ?_) (fun _ => iteF other)
            have hne : us ≠ [] := fun e => by simp [e] at hne
            refine ⟨.int w', rfl, _, _, rfl, rfl, _, rfl, ite2 (fun _ => ?_) (fun _ => other)⟩
            exact ⟨.ref L5, rfl, _, _, L5, us, os5, rfl, hM7, hU7, hQ7, hok5, hne, hul, L5a, L5c⟩
          · clear hM6 hL6 hP6 hU6 hQ6 hul L5a L5c hok5
            rintro σ H7 ⟨v10, v11, L7, us, os7, rfl, hM7, hU7, hQ7, hok7, hne7, hul, L7a, L7c⟩
            -- told.append(pick)
            refine ⟨.ref Tl, rfl, .inl ⟨rfl, _, SqL.of hM7.2.1⟩, .ref a, rfl, .ref L7, rfl, a, c, L7, us, rfl, hM7.2.2.2.1, L7a, L7c, SqL.of hU7, hne7, by omega, fun H8 x hx hD8 k8 => ?_⟩
            have hM8 := Md hM7 hD8 k8
            obtain ⟨o, ho, T, rfl, hT⟩ := (hQ7.keep k8 (deck_noTup hM7.2.2.2.1)).mem hx
            refine ⟨Tl, _, _, rfl, rfl, hM8.2.1, small1000 hyl, ?_⟩
            have hoo := okc (o := o) hol hok hr' (hok7 o ho)
            exact ⟨_, _, _, _, _, _, _, _, rfl, Mp hM8 hT, hoo.1, hoo.2⟩
    · rintro σ H2 ⟨v6, v7, v8, v9, v10, v11, ys, os, rfl, hM, hol, hok⟩
      refine ⟨.ref Tl, rfl, Tl, _, rfl, .inl ⟨SqL.of hM.2.1, fun p hp => ?_⟩⟩
      have kp : Kp ([] : List Addr) H2 (upd H2 p (.tup ys)) := Kp.new hp
      have hMp := Mk hM kp
      exact k _ p ys os ⟨by rw [hol, hlx], hok⟩ (fresh_of hM.2.2.2.2 (by have := hM.2.2.2.1.ne hp; simp [this]) hp) upd_same hMp.2.2.1 hMp.2.2.2.1 hMp.2.2.2.2
end
end Kt

set_option Elab.async false
set_option linter.all false
set_option maxRecDepth 100000
set_option maxHeartbeats 4000000
namespace Kt
open PySem PySem.Spec PyProof.Rows L2
def spotOf (ps : List (Int × Int)) (f : Int) : Nat := ps.findIdx fun p => decide (p.1 = f)
theorem spot_lt {ps : List (Int × Int)} {f : Int} (h : f ∈ ps.map (·.1)) : spotOf ps f < ps.length := by
  obtain ⟨p, hp, rfl⟩ := List.mem_map.mp h
  exact List.findIdx_lt_length_of_exists ⟨p, hp, by simp⟩
theorem spot_eq {ps : List (Int × Int)} {f : Int} {j : Nat} {p : Int × Int} (hj : ps[j]? = some p) (hp : p.1 = f) (h : ∀ (i : Nat) (q : Int × Int), i < j → ps[i]? = some q → q.1 ≠ f) : spotOf ps f = j := by
  obtain ⟨hl, e⟩ := List.getElem?_eq_some_iff.mp hj
  unfold spotOf
  refine (List.findIdx_eq hl).mpr ⟨by rw [e]; simp [hp], fun i hi => ?_⟩
  have := h i _ hi (List.getElem?_eq_getElem (by omega))
  simp [this]
def isGo : Ord → Bool
  | .go _ => true
  | _ => false
theorem word_go' (o : Ord) : decide (V.str (word o) = V.str "go") = isGo o := by
  rw [word_go]
  cases o <;> rfl
def fitO (o : Ord) (f g : Int) : Bool := if g = f then !isGo o else decide (o = .go g)
/-- what the back of f at g is told -/
def fitF (ps : List (Int × Int)) (os : List Ord) (f g : Int) : Bool := match os[spotOf ps f]? with
  | some o => fitO o f g
  | none => false
theorem eqv_go (o : Ord) (g : Int) : PyData.eqv (oD o) (.tuple [.str "go", .int g]) = decide (o = .go g) := by
  have h1 : (("stay" : Str) == "go") = false := by decide +kernel
  have h2 : (("back" : Str) == "go") = false := by decide +kernel
  cases o with
  | stay => simp [oD, PyData.eqv, PyData.eqvAll, h1]
  | go z => by_cases h : z = g <;> simp [oD, PyData.eqv, PyData.eqvAll, h]
  | back f z => simp [oD, PyData.eqv, PyData.eqvAll, h2]
theorem ord_data {K : PySem.W.Frag} {H : Hp} {x : V} {o : Ord} (h : TpAt oV H x o) : Dp K H x (oD o) := by
  obtain ⟨t, rfl, e⟩ := h
  cases o with
  | stay => exact .tup (SqT.of e) (.cons (.str _) .nil)
  | go g => exact .tup (SqT.of e) (.cons (.str _) (.cons (.int _) .nil))
  | back f g => exact .tup (SqT.of e) (.cons (.str _) (.cons (.int _) (.cons (.int _) .nil)))
theorem shaped_ord (o : Ord) : SeqAt.shaped (oD o) = true := by
  have h1 : PyData.strOk "stay" = true := by decide +kernel
  have h2 : PyData.strOk "go" = true := by decide +kernel
  have h3 : PyData.strOk "back" = true := by decide +kernel
  cases o <;> exact shaped_of (by simp [oD, PyData.canLay0, PyData.canLayAll0, h1, h2, h3]) (by simp [oD, PyData.depth, PyData.depthAll])
def spFits (K : PySem.W.Frag) : Sp := fun vs H Q _ => ∃ (v : V) (n : Int) (rs : List (Int × Int)) (cs : List Int) (ps : List (Int × Int)) (t : Addr) (ys : List V) (os : List Ord) (i : Nat) (f g : Int), vs = [v, .ref t, .int i] ∧ Dp K H v (bdD n rs cs ps) ∧ SqT K H t ys ∧ Ps oV H ys os ∧
  os.length = ps.length ∧ os[i]? = some (.back f g) ∧ f ∈ ps.map (·.1) ∧ ps.length ≤ 24 ∧ ∀ H', Kp [] H H' → Q (.bl (fitF ps os f g)) H'
def spPlaceIn (K : PySem.W.Frag) : Sp := fun vs H Q _ => ∃ (v : V) (n : Int) (rs : List (Int × Int)) (cs : List Int) (ps : List (Int × Int)) (f : Int), vs = [v, .int f] ∧ Dp K H v (bdD n rs cs ps) ∧ f ∈ ps.map (·.1) ∧ ∀ H', Kp [] H H' → Q (.int (spotOf ps f : Nat)) H'
def spBoard (K : PySem.W.Frag) : Sp := fun vs H Q _ => ∃ (a c : Addr) (n m : Int), vs = [.ref a, .int n, .int m] ∧ DeckAt H a c ∧ 0 < n ∧ n ≤ 24 ∧ 0 ≤ m ∧ m ≤ 100 ∧
  ∀ (H' : Hp) (v : V) (rs : List (Int × Int)) (cs : List Int) (ps : List (Int × Int)), ChOk n rs cs → PsOk n ps → ps.length = min m.toNat n.toNat → Da K [a, c] H' v (bdD n rs cs ps) → DeckAt H' a c → Kp [a, c] H H' → Q v H'
section
variable {P : Program} {w : World} {K : PySem.W.Frag} {mg : Str → Option Value} {base : Heap}
theorem scBoard : FnScope ["deck", "fields", "many", "chart"] ["deck", "fields", "many"] (defScope sBoard) := ⟨rfl, rfl, rfl, by decide +kernel, rfl, by decide +kernel, by decide +kernel⟩
theorem ok_board {f fD fC fP : Addr} {fd fdD fdC fdP : FuncData} (F : Fun K "_law_board" "_law_board" sBoard f fd) (FD : Fun K "_law_draw" "_law_draw" sDraw fD fdD) (bD : Binds K fdD ["deck", "many"] []) (gD : mg "_law_draw" = some (.ref fD))
    (FC : Fun K "_law_chart" "_law_chart" sChart fC fdC) (bC : Binds K fdC ["deck", "many", "more"] []) (gC : mg "_law_chart" = some (.ref fC)) (GC : FnOk P w K mg base CX0 2 fC fdC ["deck", "many", "more"] (spChart K))
    (FP : Fun K "_law_pieces" "_law_pieces" sPieces fP fdP) (bP : Binds K fdP ["deck", "chart", "many"] []) (gP : mg "_law_pieces" = some (.ref fP)) (GP : FnOk P w K mg base CX0 3 fP fdP ["deck", "chart", "many"] (spPieces K))
    (mI : mg "int" = none) : FnOk P w K mg base CX0 4 f fd ["deck", "fields", "many"] (spBoard K) := by
  have GD : FnOk P w K mg base CX0 1 fD fdD ["deck", "many"] spDraw := ok_draw FD mI
  refine F.ok scBoard (fun vs H Q E h => ?_) (fun cdv A outer s H vs Q E hr h => ?_)
  · obtain ⟨a, c, n, m, rfl, _⟩ := h
    rfl
  · obtain ⟨a, c, n, m, rfl, hD, hn0, hn1, hm0, hm1, k⟩ := h
    refine ⟨_, pss_cons (ps_set (i := 3) scBoard.nd rfl (.inl rfl) (pe_call GC (hr.mono (by decide)) (by rfl) gC FC.kp bC .nil pass0 (pa_cons (pv 0) (pa_cons (pv 1) (pa_cons (pe_op op_add pe_int (pe_call GD (hr.mono (by decide)) (by rfl) gD FD.kp bD .nil pass0 (pa_cons (pv 0) (pa_cons pe_int pa_nil)))) pa_nil)))))
      (pss_one (ps_ret (pe_tup (pa_cons (pv 3) (pa_cons (pe_call GP hr (by rfl) gP FP.kp bP .nil pass0 (pa_cons (pv 0) (pa_cons (pv 3) (pa_cons (pv 2) pa_nil)))) pa_nil))))), ?_⟩
    refine ⟨.ref a, rfl, .int n, rfl, .ref a, rfl, a, c, 4, rfl, hD, by decide, by decide, fun H1 r r0 r1 hD1 k1 => ⟨1, r, rfl, rfl, a, c, n, 1 + r, rfl, hD1, hn0, hn1, by omega, by omega, fun H2 v rs cs hch hv hD2 k2 => ?_⟩⟩
    refine ⟨v, rfl, .ref a, rfl, v, rfl, .int m, rfl, a, c, v, n, m, rs, cs, rfl, hD2, hv, hn0, hn1, hm0, hm1, fun H3 u ps hps hpl hu hD3 k3 => ⟨by show 2 ≤ sizeLine; decide, fun p hp => ?_⟩⟩
    have kp : Kp ([] : List Addr) H3 (upd H3 p (.tup [v, u])) := Kp.new hp
    have hDp := hD3.keep kp (by simp) (by simp)
    have hne := hD3.ne hp
    refine k _ (.ref p) rs cs ps hch hps hpl ?_ hDp ((k1.trans k2).trans (k3.trans kp.all))
    exact .tup (SqT.of (Ob.mk (by simp [hne]) upd_same)) (.cons ((hv.keep k3).keep kp.all) (.cons (hu.keep kp.all) .nil))
end
end Kt

set_option Elab.async false
set_option linter.all false
set_option maxRecDepth 100000
set_option maxHeartbeats 4000000
namespace Kt
open PySem PySem.Spec PyProof.Rows L2
abbrev sClash : Stmt := s_cls_Clash
abbrev sInit : Stmt := inClass sClash 0
abbrev sIsFit : Stmt := inClass sClash 10
def FS (t : V) (lf lp dp dg lb : Addr) : List (Str × V) := putF "_backers" (.ref lb) (putF "_goers" (.ref dg) (putF "_places" (.ref dp) (putF "players" (.ref lp) (putF "fields" (.ref lf) (putF "orders" t [])))))
theorem fs_orders {t : V} {lf lp dp dg lb : Addr} : (FS t lf lp dp dg lb).lookup ("orders" : Str) = some t := by
  unfold FS
  rw [lookup_putF, if_neg (by decide +kernel), lookup_putF, if_neg (by decide +kernel), lookup_putF, if_neg (by decide +kernel), lookup_putF, if_neg (by decide +kernel), lookup_putF, if_neg (by decide +kernel), lookup_putF, if_pos rfl]
theorem fs_places {t : V} {lf lp dp dg lb : Addr} : (FS t lf lp dp dg lb).lookup ("_places" : Str) = some (.ref dp) := by
  unfold FS
  rw [lookup_putF, if_neg (by decide +kernel), lookup_putF, if_neg (by decide +kernel), lookup_putF, if_pos rfl]
theorem fs_goers {t : V} {lf lp dp dg lb : Addr} : (FS t lf lp dp dg lb).lookup ("_goers" : Str) = some (.ref dg) := by
  unfold FS
  rw [lookup_putF, if_neg (by decide +kernel), lookup_putF, if_pos rfl]
theorem fs_backers {t : V} {lf lp dp dg lb : Addr} : (FS t lf lp dp dg lb).lookup ("_backers" : Str) = some (.ref lb) := by
  unfold FS
  rw [lookup_putF, if_pos rfl]
theorem fs_fit {t : V} {lf lp dp dg lb : Addr} : (FS t lf lp dp dg lb).lookup ("is_fitting" : Str) = none := by
  unfold FS
  rw [lookup_putF, if_neg (by decide +kernel), lookup_putF, if_neg (by decide +kernel), lookup_putF, if_neg (by decide +kernel), lookup_putF, if_neg (by decide +kernel), lookup_putF, if_neg (by decide +kernel), lookup_putF, if_neg (by decide +kernel)]
  rfl
structure ClT (K : PySem.W.Frag) (mg : Str → Option Value) (C : Addr) : Prop where
  cl : Cls K C
  nO : NoAttr K C "orders"
  nF : NoAttr K C "fields"
  nP : NoAttr K C "players"
  nL : NoAttr K C "_places"
  nG : NoAttr K C "_goers"
  nB : NoAttr K C "_backers"
  mgC : mg "Clash" = some (.ref C)
/-- the places by fields -/
def PlD (H : Hp) (dp : Addr) (ps : List (Int × Int)) : Prop := ∃ kvs, H dp = some (.dK kvs) ∧ kvs.length ≤ 100 ∧ ∀ f ∈ ps.map (·.1), valV kvs (.inl f) = some (.int (spotOf ps f : Nat))
def spIsFit (K : PySem.W.Frag) (C : Addr) : Sp := fun vs H Q _ => ∃ (me dx t lf lp dp dg lb : Addr) (ys : List V) (os : List Ord) (ps : List (Int × Int)) (i : Nat) (f g : Int), vs = [.ref me, .int i] ∧ H me = some (.ins C dx (FS (.ref t) lf lp dp dg lb)) ∧ SqT K H t ys ∧ Ps oV H ys os ∧ PlD H dp ps ∧
  os.length = ps.length ∧ os[i]? = some (.back f g) ∧ f ∈ ps.map (·.1) ∧ ∀ H', Kp [] H H' → Q (.bl (fitF ps os f g)) H'
section
variable {P : Program} {w : World} {K : PySem.W.Frag} {mg : Str → Option Value} {base : Heap}
/-- whether an order of backing fits the order it backs -/
def spIsFitD (K : PySem.W.Frag) : Sp := fun vs H Q _ => ∃ (T1 T2 : Addr) (f g : Int) (o : Ord), vs = [.ref T1, .ref T2] ∧ H T1 = some (.tup (oV (.back f g))) ∧ H T2 = some (.tup (oV o)) ∧ ∀ H', Kp [] H H' → Q (.bl (fitO o f g)) H'
theorem scIsFitD : FnScope ["back", "backed", "_", "field", "aim"] ["back", "backed"] (defScope s_is_fit) := ⟨rfl, rfl, rfl, by decide +kernel, rfl, by decide +kernel, by decide +kernel⟩
theorem ok_isFitD {f : Addr} {fd : FuncData} (F : Fun K "is_fit" "is_fit" s_is_fit f fd) : FnOk P w K mg base CX0 1 f fd ["back", "backed"] (spIsFitD K) := by
  refine F.ok scIsFitD (fun vs H Q E h => ?_) (fun cdv A outer s H vs Q E hr h => ?_)
  · obtain ⟨T1, T2, f, g, o, rfl, _⟩ := h
    rfl
  · obtain ⟨T1, T2, f, g, o, rfl, hT, hT2, k⟩ := h
    refine ⟨_, pss_cons (ps_asg (pv 0) (pg_tup rfl (pgs_cons (pg_name (i := 2) scIsFitD.nd rfl (.inl rfl)) (pgs_cons (pg_name (i := 3) scIsFitD.nd rfl (.inl rfl)) (pgs_cons (pg_name (i := 4) scIsFitD.nd rfl (.inl rfl)) pgs_nil)))))
      (pss_cons (ps_if (pt_cmpR op_eq (pv 4) (pv 3) (nomark _)) (pss_one (ps_ret (pe_cmpR op_ne (kt (pv 1) pe_int) pe_str (nomark _)))) pss_nil)
      (pss_one (ps_ret (pe_cmpR (op_eqD hr.units) (pv 1) (pe_tup (pa_cons pe_str (pa_cons (pv 4) pa_nil))) (nomark _))))), ?_⟩
    refine ⟨.ref T1, rfl, T1, _, rfl, SqT.of hT, rfl, .str "back", _, rfl, .int f, _, rfl, .int g, _, rfl, rfl, ?_⟩
    refine ⟨.int g, rfl, .int f, rfl, rfl, _, rfl, ?_⟩
    refine ite2 (fun he => ?_) (fun he => ?_)
    · have he : g = f := by simpa using he
      obtain ⟨rr, er⟩ := oV_word o
      refine ⟨.ref T2, rfl, T2, _, 0, _, rfl, rfl, SqT.of hT2, by rw [er]; exact at0, rfl, ?_⟩
      rw [word_go']
      have e : fitO o f g = !isGo o := by unfold fitO; rw [if_pos he]
      rw [e] at k
      exact k H Kp.refl
    · have he : ¬ g = f := fun e => he (by simp [e])
      refine ⟨.ref T2, rfl, .int g, rfl, by show 2 ≤ sizeLine; decide, fun Z hZ => ?_⟩
      have kZ : Kp ([] : List Addr) H (upd H Z (.tup [.str "go", .int g])) := Kp.new hZ
      refine ⟨oD o, .tuple [.str "go", .int g], ord_data ⟨T2, rfl, kZ.get (by simp) hT2⟩, .tup (SqT.of upd_same) (.cons (.str _) (.cons (.int _) .nil)), shaped_ord o, shaped_ord (.go g), ?_⟩
      rw [eqv_go]
      have e : fitO o f g = decide (o = .go g) := by unfold fitO; rw [if_neg he]
      rw [e] at k
      exact k _ kZ
theorem scIsFit : FnScope ["self", "place", "order"] ["self", "place"] (defScope sIsFit) := ⟨rfl, rfl, rfl, by decide +kernel, rfl, by decide +kernel, by decide +kernel⟩
theorem ok_isFit {f C fD : Addr} {fd fdD : FuncData} (F : Fun K "is_fitting" "Clash.is_fitting" sIsFit f fd) (T : ClT K mg C) (FD : Fun K "is_fit" "is_fit" s_is_fit fD fdD) (bD : Binds K fdD ["back", "backed"] []) (gD : mg "is_fit" = some (.ref fD)) : FnOk P w K mg base CX0 2 f fd ["self", "place"] (spIsFit K C) := by
  have GD : FnOk P w K mg base CX0 1 fD fdD ["back", "backed"] (spIsFitD K) := ok_isFitD FD
  refine F.ok scIsFit (fun vs H Q E h => ?_) (fun cdv A outer s H vs Q E hr h => ?_)
  · obtain ⟨me, dx, t, lf, lp, dp, dg, lb, ys, os, ps, i, f, g, rfl, _⟩ := h
    rfl
  · obtain ⟨me, dx, t, lf, lp, dp, dg, lb, ys, os, ps, i, f, g, rfl, hM, ht, hy, ⟨kvs, hd, hk, hv⟩, hlen, hi, hf, k⟩ := h
    refine ⟨_, pss_cons (ps_set (i := 2) scIsFit.nd rfl (.inl rfl) (kt (pe_fld (pv 0) rfl) (pv 1)))
      (pss_one (ps_ret (pe_call GD hr (by rfl) gD FD.kp bD .nil pass0 (pa_cons (pv 2) (pa_cons (kt (pe_fld (pv 0) rfl) (pe_dget (hu_of hr) (pe_fld (pv 0) rfl) (kt (pv 2) pe_int) (fun _ _ => rfl)) (fun _ _ => rfl)) pa_nil))))), ?_⟩
    have hyl := hy.len
    obtain ⟨x, hx⟩ : ∃ x, ys[i]? = some x := ⟨_, List.getElem?_eq_getElem (by have := (List.getElem?_eq_some_iff.mp hi).1; omega)⟩
    obtain ⟨o, ho, T1, rfl, hT⟩ := hy.at hx
    rw [hi] at ho
    cases ho
    have hsl := spot_lt hf
    obtain ⟨x2, hx2⟩ : ∃ x, ys[spotOf ps f]? = some x := ⟨_, List.getElem?_eq_getElem (by omega)⟩
    obtain ⟨o, ho, T2, rfl, hT2⟩ := hy.at hx2
    have eF : fitF ps os f g = fitO o f g := by unfold fitF; rw [ho]
    rw [eF] at k
    have hg := DGet.k (k := .inl f) hd
    rw [hv f hf] at hg
    refine ⟨.ref me, rfl, me, C, dx, _, _, rfl, hM, T.cl, T.nO, fs_orders, .int i, rfl, t, ys, i, _, rfl, rfl, ht, atI_nat hx, ?_⟩
    refine ⟨.ref T1, rfl, .ref me, rfl, me, C, dx, _, _, rfl, hM, T.cl, T.nO, fs_orders, .ref me, rfl, me, C, dx, _, _, rfl, hM, T.cl, T.nL, fs_places, .ref T1, rfl, T1, _, 1, .int f, rfl, rfl, SqT.of hT, at1, dp, _, rfl, hg, t, ys, _, _, rfl, rfl, ht, atI_nat hx2, ?_⟩
    exact ⟨T1, T2, f, g, o, rfl, hT, hT2, k⟩
end
end Kt

set_option Elab.async false
set_option linter.all false
set_option maxRecDepth 100000
set_option maxHeartbeats 4000000
namespace Kt
open PySem PySem.Spec PyProof.Rows L2
section
variable {J : It} {n : Nat} {G : Hp → Prop} {Y : Nat → Hp → V → Hp → Prop}
/-- a dict made over a walk -/
theorem dc_it (w : Walk J n G Y) {g : TG} {tt : TT} {tk tv : TE} {vs : List Nat} {σ : L2.St} {H1 : Hp} {D : Addr} {Qd : Hp → Prop} (Pv : Nat → Hp → Prop) (h0 : Pv 0 (upd H1 D (.dK []))) (hG : ∀ i H, i ≤ n → Pv i H → G H)
    (hs : ∀ i x H H', i < n → Pv i H → Y i H x H' → g x (wipe σ vs) H' fun σ2 H2 => wipe σ2 vs = wipe σ vs ∧ tt σ2 H2 fun b H3 =>
      if b = true then tk σ2 H3 fun y H4 => tv σ2 H4 fun z H5 => ∃ kvs k, y = kV k ∧ H5 D = some (.dK kvs) ∧ kvs.length < sizeLine ∧ Pv (i + 1) (upd H5 D (.dK (putK kvs k z))) else Pv (i + 1) H3) (hd : ∀ H, Pv n H → Qd H) :
    ∃ W : Nat → Nat → Hp → Prop, (∃ m, W 0 m (upd H1 D (.dK []))) ∧ ∀ i m H, W i m H →
      (J.stop i H ∧ Qd H) ∨ (J.go i H ∧ ∃ Nx : Hp → Prop, (∀ H', Nx H' → ∃ m', m' < m ∧ W (i + 1) m' H') ∧ ∀ x H', J.yld i H x H' → g x (wipe σ vs) H' fun σ2 H2 => wipe σ2 vs = wipe σ vs ∧ tt σ2 H2 fun b H3 =>
        if b = true then tk σ2 H3 fun y H4 => tv σ2 H4 fun z H5 => ∃ kvs k, y = kV k ∧ H5 D = some (.dK kvs) ∧ kvs.length < sizeLine ∧ Nx (upd H5 D (.dK (putK kvs k z))) else Nx H3) := by
  refine ⟨fun i m H => m = n - i ∧ i ≤ n ∧ Pv i H, ⟨n, by simp, Nat.zero_le _, h0⟩, ?_⟩
  rintro i m H ⟨rfl, hi, p⟩
  have q := hG i H hi p
  by_cases hlt : i < n
  · refine .inr ⟨w.goes i H hlt q, Pv (i + 1), fun H' p' => ⟨n - (i + 1), by omega, rfl, hlt, p'⟩, fun x H' y => hs i x H H' hlt p (w.yields i H x H' hlt q y)⟩
  · have e : i = n := by omega
    subst e
    exact .inl ⟨w.stops H q, hd H p⟩
end
theorem putF_len (f : Str) (v : V) : ∀ fs : List (Str × V), (putF f v fs).length ≤ fs.length + 1
  | [] => Nat.le_refl _
  | (g, u) :: fs => by
    have h := putF_len f v fs
    unfold putF
    split <;> simp <;> omega
theorem same_put {H0 H : Hp} {a : Addr} {o : HO} (h : Same H0 H) (ha : H0 a = none) : Same H0 (upd H a o) := fun b u e => by
  rw [upd_ne (fun z => by rw [z, ha] at e; cases e)]
  exact h b u e
/-- the lists that the values name -/
def Ls (H0 H : Hp) (lb : Addr) (m : Nat) (vs : List V) : Prop := ∀ v ∈ vs, ∃ l xs, v = .ref l ∧ H0 l = none ∧ l ≠ lb ∧ H l = some (.lst xs) ∧ xs.length ≤ m
theorem Ls.keep {H0 H H' : Hp} {lb : Addr} {m m' : Nat} {vs : List V} (h : Ls H0 H lb m vs) (k : Kp [] H H') (hm : m ≤ m') : Ls H0 H' lb m' vs := fun v hv => by
  obtain ⟨l, xs, e1, e2, e3, e4, e5⟩ := h v hv
  exact ⟨l, xs, e1, e2, e3, k.get (by simp) e4, Nat.le_trans e5 hm⟩
theorem Ls.put {H0 H : Hp} {lb l : Addr} {m : Nat} {vs ys : List V} (h : Ls H0 H lb m vs) (hl : ys.length ≤ m + 1) : Ls H0 (upd H l (.lst ys)) lb (m + 1) vs := fun v hv => by
  obtain ⟨l', xs, e1, e2, e3, e4, e5⟩ := h v hv
  by_cases z : l' = l
  · exact ⟨l', ys, e1, e2, e3, by rw [z, upd_same], hl⟩
  · exact ⟨l', xs, e1, e2, e3, by rw [upd_ne z]; exact e4, by omega⟩
/-- while the orders are gone through -/
structure IV (H0 : Hp) (me : Addr) (o : HO) (dp dg lb : Addr) (ps : List (Int × Int)) (m : Nat) (H : Hp) : Prop where
  s : Same H0 H
  me : H me = some o
  pl : PlD H dp ps
  gk : ∃ gk, H dg = some (.dK gk) ∧ gk.length ≤ m ∧ Ls H0 H lb m (gk.map (·.2))
  bs : ∃ bs, H lb = some (.lst bs) ∧ bs.length = ps.length ∧ Ls H0 H lb m bs
theorem ps_keep {H H' : Hp} {ys : List V} {os : List Ord} (h : Ps oV H ys os) (s : Same H H') : Ps oV H' ys os := by
  induction h with
  | nil => exact .nil
  | cons hd _ ih =>
    obtain ⟨t, e1, e2⟩ := hd
    exact .cons ⟨t, e1, s _ _ e2⟩ ih
theorem PlD.keep {H H' : Hp} {dp : Addr} {ps : List (Int × Int)} (h : PlD H dp ps) (k : Kp [] H H') : PlD H' dp ps := by
  obtain ⟨kvs, e, r⟩ := h
  exact ⟨kvs, k.get (by simp) e, r⟩
theorem IV.keep {H0 H H' : Hp} {me dp dg lb : Addr} {o : HO} {ps : List (Int × Int)} {m m' : Nat} (h : IV H0 me o dp dg lb ps m H) (k : Kp [] H H') (hm : m ≤ m') : IV H0 me o dp dg lb ps m' H' := by
  obtain ⟨gk, g1, g2, g3⟩ := h.gk
  obtain ⟨bs, b1, b2, b3⟩ := h.bs
  exact ⟨fun b u e => k b u (by simp) (h.s b u e), k.get (by simp) h.me, h.pl.keep k, ⟨gk, k.get (by simp) g1, Nat.le_trans g2 hm, g3.keep k hm⟩, ⟨bs, k.get (by simp) b1, b2, b3.keep k hm⟩⟩
theorem IV.app {H0 H : Hp} {me dp dg lb l : Addr} {C dx : Addr} {fs : List (Str × V)} {ps : List (Int × Int)} {m : Nat} {xs : List V} {v : V} (h : IV H0 me (.ins C dx fs) dp dg lb ps m H) (hl : H l = some (.lst xs)) (h0 : H0 l = none) (hb : l ≠ lb) (hx : xs.length ≤ m) : IV H0 me (.ins C dx fs) dp dg lb ps (m + 1) (upd H l (.lst (xs ++ [v]))) := by
  obtain ⟨gk, g1, g2, g3⟩ := h.gk
  obtain ⟨bs, b1, b2, b3⟩ := h.bs
  obtain ⟨kvs, p1, p2⟩ := h.pl
  have n1 : me ≠ l := fun z => by have := h.me; rw [z, hl] at this; cases this
  have n2 : dg ≠ l := fun z => by rw [z, hl] at g1; cases g1
  have n3 : dp ≠ l := fun z => by rw [z, hl] at p1; cases p1
  have hlen : (xs ++ [v]).length ≤ m + 1 := by rw [List.length_append, List.length_singleton]; omega
  exact ⟨same_put h.s h0, by rw [upd_ne n1]; exact h.me, ⟨kvs, by rw [upd_ne n3]; exact p1, p2⟩, ⟨gk, by rw [upd_ne n2]; exact g1, by omega, g3.put hlen⟩, ⟨bs, by rw [upd_ne hb.symm]; exact b1, b2, b3.put hlen⟩⟩
theorem val_mem {κ : Type} [DecidableEq κ] {kvs : List (κ × V)} {k : κ} {v : V} (h : valV kvs k = some v) : v ∈ kvs.map (·.2) := by
  unfold valV at h
  obtain ⟨p, hp, rfl⟩ := Option.map_eq_some_iff.mp h
  exact List.mem_map_of_mem (List.mem_of_find?_eq_some hp)
theorem IV.set {H0 H : Hp} {me dp dg lb z : Addr} {C dx : Addr} {fs : List (Str × V)} {ps : List (Int × Int)} {m : Nat} {gk : List (Key × V)} {k : Key} (h : IV H0 me (.ins C dx fs) dp dg lb ps m H) (hg : H dg = some (.dK gk)) (hn : valV gk k = none) (hz : H z = some (.lst [])) (h0 : H0 z = none) (hb : z ≠ lb) (d0 : H0 dg = none) (dd : dp ≠ dg) : IV H0 me (.ins C dx fs) dp dg lb ps (m + 1) (upd H dg (.dK (putK gk k (.ref z)))) := by
  obtain ⟨gk', g1, g2, g3⟩ := h.gk
  rw [hg] at g1
  cases g1
  obtain ⟨bs, b1, b2, b3⟩ := h.bs
  obtain ⟨kvs, p1, p2⟩ := h.pl
  have n1 : me ≠ dg := fun z => by have := h.me; rw [z, hg] at this; cases this
  have n2 : lb ≠ dg := fun z => by rw [z, hg] at b1; cases b1
  have kl : ∀ vs : List V, Ls H0 H lb m vs → Ls H0 (upd H dg (.dK (putK gk k (.ref z)))) lb (m + 1) vs := fun vs hv v hm => by
    obtain ⟨l, xs, e1, e2, e3, e4, e5⟩ := hv v hm
    exact ⟨l, xs, e1, e2, e3, by rw [upd_ne (fun q => by rw [q, hg] at e4; cases e4)]; exact e4, by omega⟩
  refine ⟨same_put h.s d0, by rw [upd_ne n1]; exact h.me, ⟨kvs, by rw [upd_ne dd]; exact p1, p2⟩, ⟨_, upd_same, ?_, ?_⟩, ⟨bs, by rw [upd_ne n2]; exact b1, b2, kl _ b3⟩⟩
  · have := length_putK gk k (.ref z)
    omega
  · rw [putK_new _ hn]
    intro v hv
    rw [List.map_append] at hv
    rcases List.mem_append.mp hv with q | q
    · rw [← putK_new (.ref z) hn]; exact kl _ g3 v q
    · simp at q
      exact ⟨z, [], q, h0, hb, by rw [upd_ne (fun q => by rw [q, hg] at hz; cases hz)]; exact hz, by simp⟩
abbrev nInit : List Str := ["self", "board", "orders", "place", "order", "field", "_", "player"]
theorem scInit : FnScope nInit ["self", "board", "orders"] (defScope sInit) := ⟨rfl, rfl, rfl, by decide +kernel, rfl, by decide +kernel, by decide +kernel⟩
def spInit (K : PySem.W.Frag) (C : Addr) : Sp := fun vs H Q _ => ∃ (H0 : Hp) (me dx : Addr) (v : V) (t : Addr) (n : Int) (rs : List (Int × Int)) (cs : List Int) (ps : List (Int × Int)) (ys : List V) (os : List Ord), vs = [.ref me, v, .ref t] ∧ Same H0 H ∧ H0 me = none ∧ H me = some (.ins C dx []) ∧
  Dp K H0 v (bdD n rs cs ps) ∧ SqT K H0 t ys ∧ Ps oV H0 ys os ∧ os.length = ps.length ∧ ps.length ≤ 24 ∧ (ps.map (·.1)).Nodup ∧ (∀ (j : Nat) (f g : Int), os[j]? = some (.back f g) → f ∈ ps.map (·.1)) ∧
  ∀ (H' : Hp) (lf lp dp dg lb : Addr), Same H0 H' → H' me = some (.ins C dx (FS (.ref t) lf lp dp dg lb)) → PlD H' dp ps → Q .non H'
section
variable {P : Program} {w : World} {K : PySem.W.Frag} {mg : Str → Option Value} {base : Heap}
theorem ok_init {f C fF : Addr} {fd fdF : FuncData} (F : Fun K "__init__" "Clash.__init__" sInit f fd) (T : ClT K mg C) (FF : Fun K "is_fitting" "Clash.is_fitting" sIsFit fF fdF) (bF : Binds K fdF ["self", "place"] []) (mF : Meth K C "is_fitting" fF) (GF : FnOk P w K mg base CX0 2 fF fdF ["self", "place"] (spIsFit K C)) (mE : mg "enumerate" = none) :
    FnOk P w K mg base CX0 3 f fd ["self", "board", "orders"] (spInit K C) := by
  refine F.ok scInit (fun vs H Q E h => ?_) (fun cdv A outer s H vs Q E hr h => ?_)
  · obtain ⟨H0, me, dx, v, t, n, rs, cs, ps, ys, os, rfl, _⟩ := h
    rfl
  · obtain ⟨H0, me, dx, v, t, n, rs, cs, ps, ys, os, rfl, s0, m0, hme, hv, ht, hy, hlen, hps, hnd, hbk, k⟩ := h
    refine ⟨_, pss_cons (ps_fld (pv 0) (pv 2) rfl)
      (pss_cons (ps_fld (pv 0) (pe_lc (own := [("field", 5), ("_", 6)]) (g := gTup K 2 (gCons (gName 5) (gCons (gName 6) gNil))) rfl scInit.nd (pi_tup (kt (pv 1) pe_int)) (blkOk_by (own := [("field", 5), ("_", 6)]) (N := nInit) (sc := defScope sInit) (by decide +kernel))
          (fun _ _ _ _ _ => pg_tup rfl (pgs_cons (pg_name (i := 5) scInit.nd rfl (.inl rfl)) (pgs_cons (pg_name (i := 6) scInit.nd rfl (.inl rfl)) pgs_nil))) (fun _ _ _ _ _ => pts_nil) (fun _ _ _ _ _ => pv 5)) rfl)
      (pss_cons (ps_fld (pv 0) (pe_lc (own := [("_", 6), ("player", 7)]) (g := gTup K 2 (gCons (gName 6) (gCons (gName 7) gNil))) rfl scInit.nd (pi_tup (kt (pv 1) pe_int)) (blkOk_by (own := [("_", 6), ("player", 7)]) (N := nInit) (sc := defScope sInit) (by decide +kernel))
          (fun _ _ _ _ _ => pg_tup rfl (pgs_cons (pg_name (i := 6) scInit.nd rfl (.inl rfl)) (pgs_cons (pg_name (i := 7) scInit.nd rfl (.inl rfl)) pgs_nil))) (fun _ _ _ _ _ => pts_nil) (fun _ _ _ _ _ => pv 7)) rfl)
      (pss_cons (ps_fld (pv 0) (pe_dc (own := [("place", 3), ("field", 5)]) (g := gTup K 2 (gCons (gName 3) (gCons (gName 5) gNil))) rfl scInit.nd (pi_enum (by rfl) mE (pa_cons (pe_fld (pv 0) rfl) pa_nil)) (blkOk_by (own := [("place", 3), ("field", 5)]) (N := nInit) (sc := defScope sInit) (by decide +kernel))
          (fun _ _ _ _ _ => pg_tup rfl (pgs_cons (pg_name (i := 3) scInit.nd rfl (.inl rfl)) (pgs_cons (pg_name (i := 5) scInit.nd rfl (.inl rfl)) pgs_nil))) (fun _ _ _ _ _ => pts_nil) (fun _ _ _ _ _ => pv 5) (fun _ _ _ _ _ => pv 3)) rfl)
      (pss_cons (ps_fld (pv 0) pe_dnewK rfl)
      (pss_cons (ps_fld (pv 0) (pe_lc (own := [("_", 6)]) (g := gName 6) rfl scInit.nd (pi_tup (pv 2)) (blkOk_by (own := [("_", 6)]) (N := nInit) (sc := defScope sInit) (by decide +kernel))
          (fun _ _ _ _ _ => pg_name (i := 6) scInit.nd rfl (.inl rfl)) (fun _ _ _ _ _ => pts_nil) (fun _ _ _ _ _ => pe_lst pa_nil)) rfl)
      (pss_one (ps_for PassesOwn.never rfl (pi_enumT (by rfl) mE (pa_cons (pv 2) pa_nil)) (pg_tup rfl (pgs_cons (pg_name (i := 3) scInit.nd rfl (.inl rfl)) (pgs_cons (pg_name (i := 4) scInit.nd rfl (.inl rfl)) pgs_nil)))
        (Evl.pss_cut (ps_if (pt_cmpR op_eq (kt (pv 4) pe_int) pe_str (nomark _)) (pss_one (ps_expr (pe_bm PySem.F.plainAttrs_list PySem.F.slot_list_append PySem.F.type_list_append mt_append (pe_dsetd (pe_fld (pv 0) rfl) (kt (pv 4) pe_int) (pe_lst pa_nil) ⟨rfl, rfl, rfl, rfl⟩) (pa_cons (pv 3) pa_nil)))) pss_nil)
        (pss_one (ps_if (PW.pt (pw_and (pt_cmpR op_eq (kt (pv 4) pe_int) pe_str (nomark _)) (pw_and1 (pt_val (pe_meth (pv 0) T.cl mF GF hr bF .nil pass0 (pa_cons (pv 3) pa_nil))))))
          (pss_one (ps_expr (pe_bm PySem.F.plainAttrs_list PySem.F.slot_list_append PySem.F.type_list_append mt_append (kl (pe_fld (pv 0) rfl) (pe_dget (hu_of hr) (pe_fld (pv 0) rfl) (kt (pv 4) pe_int) (fun _ _ => rfl)) (fun _ _ => rfl)) (pa_cons (pv 3) pa_nil)))) pss_nil))))))))))
      , ?_⟩
    -- orders
    refine ⟨.ref t, rfl, .ref me, rfl, me, C, dx, [], rfl, hme, T.cl, T.nO, (by show 0 < 1000; decide), ?_⟩
    have sA := same_put (o := .ins C dx (putF "orders" (.ref t) [])) s0 m0
    have hA : (upd H me (.ins C dx (putF "orders" (.ref t) []))) me = _ := upd_same
    generalize upd H me (.ins C dx (putF "orders" (.ref t) [])) = HA at sA hA
    obtain ⟨ta, tc, tp, xs, rfl, hb, hch, hpt, hpx⟩ := board_inv hv
    have hlx : xs.length = ps.length := by rw [all_len hpx, List.length_map]
    -- fields
    refine ⟨.ref ta, rfl, ta, _, 1, _, rfl, rfl, sameT sA hb, at1, tp, rfl, ⟨_, sameT sA hpt⟩, fun lf hlf => ?_⟩
    refine lc_tup (K := K) (a := tp) (xs := xs) (fun j H' => H' lf = some (.lst (((ps.take j).map (·.1)).map V.int)) ∧ Kp [] HA H') ⟨upd_same, Kp.new hlf⟩ (fun j H' _ ⟨_, kk⟩ => sameT (sA.trans (kz_seq kk)) hpt) ?_ ?_
    · rintro j x H' hx ⟨h1, kk⟩
      obtain ⟨r, q, hr', rfl, hq⟩ := pairs_at hpx hx
      refine ⟨q, _, rfl, sameT (sA.trans (kz_seq kk)) hq, rfl, .int r.1, _, rfl, .int r.2, _, rfl, rfl, rfl, yesGo ?_⟩
      refine ⟨.int r.1, rfl, _, h1, small1000 ?_, ?_, kk.fill hlf⟩
      · rw [List.length_map, List.length_map, List.length_take]
        omega
      · rw [upd_same, map_snoc _ hr', List.map_append]
        rfl
    rintro HB ⟨hF, kB⟩
    rw [hlx, List.take_length] at hF
    have l1 := putF_len "orders" (.ref t) []
    have f0 : H0 lf = none := sA.free hlf
    have sB := sA.trans (kz_seq kB)
    refine ⟨.ref me, rfl, me, C, dx, _, rfl, kB.get (by simp) hA, T.cl, T.nF, (by simp at l1; omega), ?_⟩
    have mB := kB.get (by simp) hA
    have nlf : lf ≠ me := fun z => by rw [z, mB] at hF; cases hF
    have sC := same_put (o := .ins C dx (putF "fields" (.ref lf) (putF "orders" (.ref t) []))) sB m0
    have mC : (upd HB me (.ins C dx (putF "fields" (.ref lf) (putF "orders" (.ref t) [])))) me = _ := upd_same
    have fC : (upd HB me (.ins C dx (putF "fields" (.ref lf) (putF "orders" (.ref t) [])))) lf = _ := (upd_ne nlf).trans hF
    generalize upd HB me (.ins C dx (putF "fields" (.ref lf) (putF "orders" (.ref t) []))) = HC at sC mC fC
    -- players
    refine ⟨.ref ta, rfl, ta, _, 1, _, rfl, rfl, sameT sC hb, at1, tp, rfl, ⟨_, sameT sC hpt⟩, fun lp hlp => ?_⟩
    refine lc_tup (K := K) (a := tp) (xs := xs) (fun j H' => (∃ zs, H' lp = some (.lst zs) ∧ zs.length ≤ j) ∧ Kp [] HC H') ⟨⟨[], upd_same, Nat.le_refl _⟩, Kp.new hlp⟩ (fun j H' _ ⟨_, kk⟩ => sameT (sC.trans (kz_seq kk)) hpt) ?_ ?_
    · rintro j x H' hx ⟨⟨zs, h1, h2⟩, kk⟩
      obtain ⟨r, q, hr', rfl, hq⟩ := pairs_at hpx hx
      have hj : j < ps.length := (List.getElem?_eq_some_iff.mp hr').1
      refine ⟨q, _, rfl, sameT (sC.trans (kz_seq kk)) hq, rfl, .int r.1, _, rfl, .int r.2, _, rfl, rfl, rfl, yesGo ?_⟩
      exact ⟨.int r.2, rfl, _, h1, small1000 (by omega), ⟨_, upd_same, by rw [List.length_append, List.length_singleton]; omega⟩, kk.fill hlp⟩
    rintro HD ⟨_, kD⟩
    have l2 := putF_len "fields" (.ref lf) (putF "orders" (.ref t) [])
    have sD := sC.trans (kz_seq kD)
    have mD := kD.get (by simp) mC
    have fD := kD.get (by simp) fC
    refine ⟨.ref me, rfl, me, C, dx, _, rfl, mD, T.cl, T.nP, (by simp at l1; omega), ?_⟩
    have sE := same_put (o := .ins C dx (putF "players" (.ref lp) (putF "fields" (.ref lf) (putF "orders" (.ref t) [])))) sD m0
    have mE' : (upd HD me (.ins C dx (putF "players" (.ref lp) (putF "fields" (.ref lf) (putF "orders" (.ref t) []))))) me = _ := upd_same
    have fE : (upd HD me (.ins C dx (putF "players" (.ref lp) (putF "fields" (.ref lf) (putF "orders" (.ref t) []))))) lf = _ := (upd_ne nlf).trans fD
    generalize upd HD me (.ins C dx (putF "players" (.ref lp) (putF "fields" (.ref lf) (putF "orders" (.ref t) [])))) = HE at sE mE' fE
    have lkF : (putF "players" (.ref lp) (putF "fields" (.ref lf) (putF "orders" (.ref t) []))).lookup ("fields" : Str) = some (V.ref lf) := by
      rw [lookup_putF, if_neg (by decide +kernel), lookup_putF, if_pos rfl]
    -- places
    refine ⟨.ref me, rfl, me, C, dx, _, _, rfl, mE', T.cl, T.nF, lkF, lf, _, rfl, SqL.of fE, fun dp hdp => ?_⟩
    refine dc_it (walk_enum (K := K) (a := lf) (xs := (ps.map (·.1)).map V.int)) (fun j H' => (∃ kvs, H' dp = some (.dK kvs) ∧ kvs.length ≤ j ∧ ∀ (i : Nat) (p : Int × Int), i < j → ps[i]? = some p → valV kvs (.inl p.1) = some (.int (i : Nat))) ∧ Kp [] HE H')
      ⟨⟨[], upd_same, Nat.le_refl _, fun i p hi => absurd hi (Nat.not_lt_zero _)⟩, Kp.new hdp⟩ (fun j H' _ ⟨_, kk⟩ => SqL.of (kk.get (by simp) fE)) ?_ ?_
    · rintro j x H' H'' hj ⟨⟨kvs, h1, h2, h3⟩, kk⟩ ⟨Tq, x1, x2, rfl, hTq, rfl, ex1, ex2⟩
      cases ex1
      rw [List.length_map, List.length_map] at hj
      obtain ⟨z, hz, rfl⟩ := map_ints_get ex2
      rw [List.getElem?_map] at hz
      obtain ⟨p, hp, rfl⟩ := Option.map_eq_some_iff.mp hz
      have nT : dp ≠ Tq := ne_of_none h1 hTq
      have kq := kk.trans (Kp.new (o := .tup [.int (j : Nat), .int p.1]) hTq)
      refine ⟨Tq, _, rfl, SqT.of upd_same, rfl, .int (j : Nat), _, rfl, .int p.1, _, rfl, rfl, rfl, yesGo ?_⟩
      refine ⟨.int p.1, rfl, .int (j : Nat), rfl, kvs, .inl p.1, rfl, by rw [upd_ne nT]; exact h1, small1000 (by omega), ⟨_, upd_same, ?_, fun i q hi hq => ?_⟩, kq.fill hdp⟩
      · have := length_putK kvs (.inl p.1) (.int (j : Nat))
        omega
      · rw [valV_put]
        by_cases e : i = j
        · subst e
          rw [hp] at hq
          cases hq
          rw [if_pos rfl]
        · have hij : i < j := by omega
          have ne : ¬ (Sum.inl q.1 : Key) = .inl p.1 := fun z => by
            have z : q.1 = p.1 := Sum.inl.inj z
            obtain ⟨li, gi⟩ := List.getElem?_eq_some_iff.mp hq
            obtain ⟨lj, gj⟩ := List.getElem?_eq_some_iff.mp hp
            have := (List.pairwise_iff_getElem.mp hnd) i j (by rw [List.length_map]; exact li) (by rw [List.length_map]; exact lj) hij
            rw [List.getElem_map, List.getElem_map, gi, gj] at this
            exact this z
          rw [if_neg ne]
          exact h3 i q hij hq
    rintro HG ⟨⟨kvs, pG, pl, pv⟩, kG⟩
    rw [List.length_map, List.length_map] at pl pv
    have l3 := putF_len "players" (.ref lp) (putF "fields" (.ref lf) (putF "orders" (.ref t) []))
    have sG := sE.trans (kz_seq kG)
    have mG := kG.get (by simp) mE'
    refine ⟨.ref me, rfl, me, C, dx, _, rfl, mG, T.cl, T.nL, (by simp at l1; omega), ?_⟩
    have ndp : dp ≠ me := fun z => by rw [z, mG] at pG; cases pG
    have sI := same_put (o := .ins C dx (putF "_places" (.ref dp) (putF "players" (.ref lp) (putF "fields" (.ref lf) (putF "orders" (.ref t) []))))) sG m0
    have mI : (upd HG me (.ins C dx (putF "_places" (.ref dp) (putF "players" (.ref lp) (putF "fields" (.ref lf) (putF "orders" (.ref t) [])))))) me = _ := upd_same
    have pI : (upd HG me (.ins C dx (putF "_places" (.ref dp) (putF "players" (.ref lp) (putF "fields" (.ref lf) (putF "orders" (.ref t) [])))))) dp = _ := (upd_ne ndp).trans pG
    generalize upd HG me (.ins C dx (putF "_places" (.ref dp) (putF "players" (.ref lp) (putF "fields" (.ref lf) (putF "orders" (.ref t) []))))) = HI at sI mI pI
    have l4 := putF_len "_places" (.ref dp) (putF "players" (.ref lp) (putF "fields" (.ref lf) (putF "orders" (.ref t) [])))
    -- goers
    refine fun dg hdg => ?_
    have kJ : Kp ([] : List Addr) HI (upd HI dg (.dK [])) := Kp.new hdg
    have dd : dp ≠ dg := ne_of_none pI hdg
    have d0 : H0 dg = none := sI.free hdg
    have gJ : (upd HI dg (.dK [])) dg = _ := upd_same
    have sJ := sI.trans (kz_seq kJ)
    have mJ := kJ.get (by simp) mI
    have pJ := kJ.get (by simp) pI
    generalize upd HI dg (.dK []) = HJ at gJ sJ mJ pJ kJ
    have ndg : dg ≠ me := fun z => by rw [z, mJ] at gJ; cases gJ
    refine ⟨.ref me, rfl, me, C, dx, _, rfl, mJ, T.cl, T.nG, (by simp at l1; omega), ?_⟩
    have sL := same_put (o := .ins C dx (putF "_goers" (.ref dg) (putF "_places" (.ref dp) (putF "players" (.ref lp) (putF "fields" (.ref lf) (putF "orders" (.ref t) [])))))) sJ m0
    have mL : (upd HJ me (.ins C dx (putF "_goers" (.ref dg) (putF "_places" (.ref dp) (putF "players" (.ref lp) (putF "fields" (.ref lf) (putF "orders" (.ref t) []))))))) me = _ := upd_same
    have pL : (upd HJ me (.ins C dx (putF "_goers" (.ref dg) (putF "_places" (.ref dp) (putF "players" (.ref lp) (putF "fields" (.ref lf) (putF "orders" (.ref t) []))))))) dp = _ := (upd_ne ndp).trans pJ
    have gL : (upd HJ me (.ins C dx (putF "_goers" (.ref dg) (putF "_places" (.ref dp) (putF "players" (.ref lp) (putF "fields" (.ref lf) (putF "orders" (.ref t) []))))))) dg = _ := (upd_ne ndg).trans gJ
    generalize upd HJ me (.ins C dx (putF "_goers" (.ref dg) (putF "_places" (.ref dp) (putF "players" (.ref lp) (putF "fields" (.ref lf) (putF "orders" (.ref t) [])))))) = HL at sL mL pL gL
    have l5 := putF_len "_goers" (.ref dg) (putF "_places" (.ref dp) (putF "players" (.ref lp) (putF "fields" (.ref lf) (putF "orders" (.ref t) []))))
    have hyl := hy.len
    -- backers
    refine ⟨.ref t, rfl, t, rfl, ⟨_, sameT sL ht⟩, fun lb hlb => ?_⟩
    refine lc_tup (K := K) (a := t) (xs := ys) (fun j H' => (∃ bs, H' lb = some (.lst bs) ∧ bs.length = j ∧ ∀ b ∈ bs, ∃ l, b = .ref l ∧ H0 l = none ∧ l ≠ lb ∧ H' l = some (.lst [])) ∧ Kp [] HL H') ⟨⟨[], upd_same, rfl, by simp⟩, Kp.new hlb⟩ (fun j H' _ ⟨_, kk⟩ => sameT (sL.trans (kz_seq kk)) ht) ?_ ?_
    · rintro j x H' hx ⟨⟨bs, h1, h2, h3⟩, kk⟩
      have hj : j < ys.length := (List.getElem?_eq_some_iff.mp hx).1
      refine ⟨rfl, yesGo ⟨Nat.zero_le _, fun z hz => ⟨bs, ?_, small1000 (by omega), ⟨_, upd_same, by rw [List.length_append, List.length_singleton, h2], fun b hb => ?_⟩, (kk.trans (Kp.new hz)).fill hlb⟩⟩⟩
      · rw [upd_ne (ne_of_none h1 hz)]
        exact h1
      · rcases List.mem_append.mp hb with q | q
        · obtain ⟨l, e1, e2, e3, e4⟩ := h3 b q
          exact ⟨l, e1, e2, e3, by rw [upd_ne e3, upd_ne (ne_of_none e4 hz)]; exact e4⟩
        · have nz : z ≠ lb := (ne_of_none h1 hz).symm
          exact ⟨z, List.mem_singleton.mp q, (sL.trans (kz_seq kk)).free hz, nz, by rw [upd_ne nz, upd_same]⟩
    rintro HM ⟨⟨bs, b1, b2, b3⟩, kM⟩
    have sM := sL.trans (kz_seq kM)
    have mM := kM.get (by simp) mL
    have pM := kM.get (by simp) pL
    have gM := kM.get (by simp) gL
    have nlb : lb ≠ me := fun z => by rw [z, mM] at b1; cases b1
    refine ⟨.ref me, rfl, me, C, dx, _, rfl, mM, T.cl, T.nB, (by simp at l1; omega), ?_⟩
    have iv0 : IV H0 me (.ins C dx (FS (.ref t) lf lp dp dg lb)) dp dg lb ps (3 * 0) (upd HM me (.ins C dx (FS (.ref t) lf lp dp dg lb))) := by
      refine ⟨same_put sM m0, upd_same, ⟨kvs, (upd_ne ndp).trans pM, by omega, fun f hf => ?_⟩, ⟨[], (upd_ne ndg).trans gM, by simp, by intro v hv; simp at hv⟩, ⟨bs, (upd_ne nlb).trans b1, by omega, fun b hb => ?_⟩⟩
      · obtain ⟨p, hp, rfl⟩ := List.mem_map.mp hf
        obtain ⟨i, hi⟩ := List.mem_iff_getElem?.mp hp
        have li := (List.getElem?_eq_some_iff.mp hi).1
        have e : spotOf ps p.1 = i := spot_eq hi rfl fun i' q hlt hq z => by
          obtain ⟨la, ga⟩ := List.getElem?_eq_some_iff.mp hq
          obtain ⟨lb', gb⟩ := List.getElem?_eq_some_iff.mp hi
          have := (List.pairwise_iff_getElem.mp hnd) i' i (by rw [List.length_map]; exact la) (by rw [List.length_map]; exact lb') hlt
          rw [List.getElem_map, List.getElem_map, ga, gb] at this
          exact this z
        rw [e]
        exact pv i p (by omega) hi
      · obtain ⟨l, e1, e2, e3, e4⟩ := b3 b hb
        exact ⟨l, [], e1, e2, e3, (upd_ne (fun z => by rw [z, mM] at e4; cases e4)).trans e4, by simp⟩
    have iv1 : ∀ HN, HN = upd HM me (.ins C dx (FS (.ref t) lf lp dp dg lb)) → IV H0 me (.ins C dx (FS (.ref t) lf lp dp dg lb)) dp dg lb ps (3 * 0) HN := by
      rintro _ rfl
      exact iv0
    clear iv0
    generalize hHN : upd HM me (.ins C dx (putF "_backers" (.ref lb) (putF "_goers" (.ref dg) (putF "_places" (.ref dp) (putF "players" (.ref lp) (putF "fields" (.ref lf) (putF "orders" (.ref t) []))))))) = HN
    have iv0 := iv1 HN hHN.symm
    clear iv1 hHN b1 b2 b3 pM gM mM sM kM pL gL mL sL
    refine ⟨.ref t, rfl, t, ys, rfl, sameT iv0.s ht, for_it walk_enumT (fun j σ H' => ∃ v3 v4, σ = [some (.ref me), some (.ref ta), some (.ref t), v3, v4, none, none, none] ∧ IV H0 me (.ins C dx (FS (.ref t) lf lp dp dg lb)) dp dg lb ps (3 * j) H')
      ⟨_, _, rfl, iv0⟩ (fun j σ H' _ ⟨_, _, _, iv⟩ => sameT iv.s ht) ?_ ?_⟩
    · rintro j x σ H' H'' hj ⟨v3, v4, rfl, iv⟩ ⟨Tq, x1, x2, rfl, hTq, rfl, ex1, ex2⟩
      cases ex1
      obtain ⟨o, ho, T1, rfl, hT1⟩ := hy.at ex2
      have kq : Kp ([] : List Addr) H' (upd H' Tq (.tup [.int (j : Nat), .ref T1])) := Kp.new hTq
      have iv := iv.keep kq (Nat.le_refl _)
      refine ⟨Tq, _, rfl, SqT.of upd_same, rfl, .int (j : Nat), _, rfl, .ref T1, _, rfl, rfl, ?_⟩
      generalize upd H' Tq (.tup [.int (j : Nat), .ref T1]) = H2 at iv
      clear kq
      have hj24 : j < 24 := by omega
      obtain ⟨rr, er⟩ := oV_word o
      refine ⟨fun σ' H3 => σ' = [some (.ref me), some (.ref ta), some (.ref t), some (.int (j : Nat)), some (.ref T1), none, none, none] ∧ IV H0 me (.ins C dx (FS (.ref t) lf lp dp dg lb)) dp dg lb ps (3 * j + 2) H3, ?_, ?_⟩
      · refine ⟨.ref T1, rfl, T1, _, 0, _, rfl, rfl, SqT.of (iv.s _ _ hT1), by rw [er]; exact at0, rfl, _, rfl, ?_⟩
        refine ite2 (fun he => ?_) (fun he => ?_)
        · have he : isGo o = true := by rw [← word_go']; exact he
          cases o with
          | stay => cases he
          | back _ _ => cases he
          | go g =>
            obtain ⟨gk, g1, g2, g3⟩ := iv.gk
            obtain ⟨bs', b1, b2, b3⟩ := iv.bs
            refine ⟨.ref me, rfl, me, C, dx, _, _, rfl, iv.me, T.cl, T.nG, fs_goers, dg, rfl, .inl ⟨_, .inl g1⟩, .ref T1, rfl, T1, _, 1, _, rfl, rfl, SqT.of (iv.s _ _ hT1), at1, Nat.zero_le _, fun z hz => ?_⟩
            have kz : Kp ([] : List Addr) H2 (upd H2 z (.lst [])) := Kp.new hz
            have nzg : dg ≠ z := ne_of_none g1 hz
            have iv3 := iv.keep kz (Nat.le_refl _)
            have hzz : (upd H2 z (.lst [])) z = some (.lst []) := upd_same
            have z0 : H0 z = none := iv.s.free hz
            have zb : z ≠ lb := (ne_of_none b1 hz).symm
            have g1' := kz.get (by simp) g1
            have g3' := g3.keep kz (Nat.le_refl _)
            generalize upd H2 z (.lst []) = H3 at iv3 hzz g1' g3'
            refine ⟨gk, .inl g, g1', rfl, small1000 (by omega), fun v hv => ?_, fun hn => ?_⟩
            · obtain ⟨l, ls, rfl, e2, e3, e4, e5⟩ := g3' v (val_mem hv)
              exact ⟨.inl ⟨rfl, _, SqL.of e4⟩, .int (j : Nat), rfl, l, _, _, rfl, rfl, e4, small1000 (by omega), rfl, (iv3.app e4 e2 e3 e5).keep Kp.refl (by omega)⟩
            · have iv4 := iv3.set g1' hn hzz z0 zb d0 dd
              have hz4 : (upd H3 dg (.dK (putK gk (.inl g) (.ref z)))) z = some (.lst []) := by rw [upd_ne nzg.symm]; exact hzz
              exact ⟨.inl ⟨rfl, _, SqL.of hz4⟩, .int (j : Nat), rfl, z, _, _, rfl, rfl, hz4, small1000 (by simp), rfl, iv4.app hz4 z0 zb (by simp)⟩
        · exact ⟨rfl, iv.keep Kp.refl (by omega)⟩
      · rintro σ' H3 ⟨rfl, iv⟩
        refine ⟨.ref T1, rfl, T1, _, 0, _, rfl, rfl, SqT.of (iv.s _ _ hT1), by rw [er]; exact at0, rfl, ?_⟩
        refine ⟨_, rfl, ite2 (fun he => ?_) (fun he => ?_)⟩
        · have he : isBack o = true := by rw [← word_back]; exact he
          cases o with
          | stay => cases he
          | go _ => cases he
          | back f g =>
            have hf := hbk j f g ho
            have hy3 : Ps oV H3 ys os := ps_keep hy iv.s
            refine ⟨.ref me, rfl, me, dx, _, rfl, iv.me, fs_fit, .int (j : Nat), rfl, me, dx, t, lf, lp, dp, dg, lb, ys, os, ps, j, f, g, rfl, iv.me, sameT iv.s ht, hy3, iv.pl, hlen, ho, hf, fun H4 k4 => ?_⟩
            have iv4 := iv.keep k4 (Nat.le_refl _)
            refine ⟨_, rfl, ite2 (fun _ => ?_) (fun _ => ?_)⟩
            · obtain ⟨bs', b1, b2, b3⟩ := iv4.bs
              obtain ⟨kvs', p1, p2, p3⟩ := iv4.pl
              have hg := DGet.k (k := .inl f) p1
              rw [p3 f hf] at hg
              have hsl := spot_lt hf
              have hx : bs'[spotOf ps f]? = some bs'[spotOf ps f] := List.getElem?_eq_getElem (by omega)
              obtain ⟨l, ls, e1, e2, e3, e4, e5⟩ := b3 _ (List.mem_of_getElem? hx)
              rw [e1] at hx
              exact ⟨.ref me, rfl, me, C, dx, _, _, rfl, iv4.me, T.cl, T.nB, fs_backers, .ref me, rfl, me, C, dx, _, _, rfl, iv4.me, T.cl, T.nL, fs_places, .ref T1, rfl, T1, _, 1, .int f, rfl, rfl, SqT.of (iv4.s _ _ hT1), at1, dp, _, rfl, hg, lb, _, _, _, rfl, rfl, SqL.of b1, atI_nat hx, .inl ⟨rfl, _, SqL.of e4⟩, .int (j : Nat), rfl, l, _, _, rfl, rfl, e4, small1000 (by omega), _, _, rfl, (iv4.app e4 e2 e3 e5).keep Kp.refl (by omega)⟩
            · exact ⟨_, _, rfl, iv4.keep Kp.refl (by omega)⟩
        · exact ⟨_, _, rfl, iv.keep Kp.refl (by omega)⟩
    · rintro σ H' ⟨_, _, rfl, iv⟩
      exact k H' lf lp dp dg lb iv.s iv.me iv.pl
end
end Kt

set_option Elab.async false
set_option linter.all false
set_option maxRecDepth 100000
set_option maxHeartbeats 4000000
namespace Kt
open PySem PySem.Spec PyProof.Rows L2
theorem spot_le {ps : List (Int × Int)} {f : Int} {j : Nat} {p : Int × Int} (hj : ps[j]? = some p) (hp : p.1 = f) : spotOf ps f ≤ j := by
  by_cases h : spotOf ps f ≤ j
  · exact h
  · exfalso
    obtain ⟨hl, e⟩ := List.getElem?_eq_some_iff.mp hj
    have hlt : j < ps.findIdx fun p => decide (p.1 = f) := by unfold spotOf at h; omega
    have := List.not_of_lt_findIdx hlt
    rw [e] at this
    simp [hp] at this
theorem spot_at {ps : List (Int × Int)} {f : Int} {p : Int × Int} (hj : ps[spotOf ps f]? = some p) : p.1 = f := by
  obtain ⟨hl, e⟩ := List.getElem?_eq_some_iff.mp hj
  have := List.findIdx_getElem (w := show ps.findIdx (fun p => decide (p.1 = f)) < ps.length from hl)
  have e2 := of_decide_eq_true this
  rw [← e]
  exact e2
section
variable {P : Program} {w : World} {K : PySem.W.Frag} {mg : Str → Option Value} {base : Heap}
abbrev nBackFits : List Str := ["board", "orders", "place", "word", "field", "goal", "order", "spot", "piece"]
theorem scBackFits : FnScope nBackFits ["board", "orders", "place"] (defScope sBackFits) := ⟨rfl, rfl, rfl, by decide +kernel, rfl, by decide +kernel, by decide +kernel⟩
theorem ok_backFits {f : Addr} {fd : FuncData} (F : Fun K "_law_back_fits" "_law_back_fits" sBackFits f fd) (mE : mg "enumerate" = none) : FnOk P w K mg base CX0 1 f fd ["board", "orders", "place"] (spFits K) := by
  refine F.ok scBackFits (fun vs H Q E h => ?_) (fun cdv A outer s H vs Q E hr h => ?_)
  · obtain ⟨v, n, rs, cs, ps, t, ys, os, i, f, g, rfl, _⟩ := h
    rfl
  · obtain ⟨v, n, rs, cs, ps, t, ys, os, i, f, g, rfl, hv, ht, hy, hlen, hi, hf, hps, k⟩ := h
    refine ⟨_, pss_cons (ps_asg (kt (pv 1) (pv 2)) (pg_tup rfl (pgs_cons (pg_name (i := 3) scBackFits.nd rfl (.inl rfl)) (pgs_cons (pg_name (i := 4) scBackFits.nd rfl (.inr rfl)) (pgs_cons (pg_name (i := 5) scBackFits.nd rfl (.inl rfl)) pgs_nil)))))
      (pss_cons (ps_set (i := 6) scBackFits.nd rfl (.inl rfl) (kt (pv 1) (kl (pe_lc (own := [("spot", 7), ("piece", 8)]) (g := gTup K 2 (gCons (gName 7) (gCons (gName 8) gNil))) rfl scBackFits.nd (pi_enumT (by rfl) mE (pa_cons (kt (pv 0) pe_int) pa_nil))
            (blkOk_by (own := [("spot", 7), ("piece", 8)]) (N := nBackFits) (sc := defScope sBackFits) (by decide +kernel))
            (fun _ _ _ _ _ => pg_tup rfl (pgs_cons (pg_name (i := 7) scBackFits.nd rfl (.inl rfl)) (pgs_cons (pg_name (i := 8) scBackFits.nd rfl (.inl rfl)) pgs_nil)))
            (fun _ _ _ _ _ => pts_one (pt_cmpR op_eq (ktK K (pv 8) pe_int) (pv 4) (nomark _)))
            (fun _ _ _ _ _ => pv 7)) pe_int) (fun _ _ => rfl)))
      (pss_one (ps_ret (pe_ifExp (pt_cmpR op_ne (pv 5) (pv 4) (nomark _)) (pe_cmpR (op_eqD hr.units) (pv 6) (pe_tup (pa_cons pe_str (pa_cons (pv 5) pa_nil))) (nomark _)) (pe_cmpR op_ne (kt (pv 6) pe_int) pe_str (nomark _)))))), ?_⟩
    have hyl := hy.len
    obtain ⟨x, hx⟩ : ∃ x, ys[i]? = some x := ⟨_, List.getElem?_eq_getElem (by have := (List.getElem?_eq_some_iff.mp hi).1; omega)⟩
    obtain ⟨o, ho, T, rfl, hT⟩ := hy.at hx
    rw [hi] at ho
    cases ho
    have hsl := spot_lt hf
    obtain ⟨x2, hx2⟩ : ∃ x, ys[spotOf ps f]? = some x := ⟨_, List.getElem?_eq_getElem (by omega)⟩
    obtain ⟨o, ho, T2, rfl, hT2⟩ := hy.at hx2
    have eF : fitF ps os f g = fitO o f g := by unfold fitF; rw [ho]
    rw [eF] at k
    obtain ⟨ta, tc, tp, xs, rfl, hb, hch, hpt, hpx⟩ := board_inv hv
    have hlx : xs.length = ps.length := by rw [all_len hpx, List.length_map]
    refine ⟨.ref t, rfl, .int i, rfl, t, ys, i, _, rfl, rfl, ht, atI_nat hx, T, _, rfl, SqT.of hT, rfl, .str "back", _, rfl, .int f, _, rfl, .int g, _, rfl, rfl, ?_⟩
    -- order = orders[[..][0]]
    refine ⟨.ref t, rfl, .ref ta, rfl, ta, _, 1, _, rfl, rfl, hb, at1, tp, xs, rfl, hpt, fun D hD => ?_⟩
    refine lc_it walk_enumT (fun j H' => ∃ ns : List Int, H' D = some (.lst (ns.map V.int)) ∧ ns.length ≤ j ∧ (spotOf ps f < j → ∃ r, ns = ((spotOf ps f : Nat) : Int) :: r) ∧ (j ≤ spotOf ps f → ns = []) ∧ Kp [] H H')
      ⟨[], upd_same, Nat.le_refl 0, fun h => absurd h (by simp), fun _ => rfl, Kp.new hD⟩ (fun j H' _ ⟨_, _, _, _, _, kk⟩ => sameT (kz_seq kk) hpt) ?_ ?_
    · rintro j x H' H'' hj ⟨ns, h1, h2, h3, h4, kk⟩ ⟨Tq, x1, x2, rfl, hTq, rfl, ex1, ex2⟩
      cases ex1
      obtain ⟨r, q, hr', rfl, hqt⟩ := pairs_at hpx ex2
      have kN : Kp ([] : List Addr) H' (upd H' Tq (.tup [.int (j : Nat), .ref q])) := Kp.new hTq
      have kq := kk.trans kN
      have h1' := kN.get (by simp) h1
      refine ⟨Tq, _, rfl, SqT.of upd_same, rfl, .int (j : Nat), _, rfl, .ref q, _, rfl, rfl, rfl, .ref q, rfl, q, _, 0, _, rfl, rfl, sameT (kz_seq kq) hqt, at0, .int f, rfl, rfl, _, rfl, ?_⟩
      by_cases he : r.1 = f
      · have hle := spot_le hr' he
        rw [decide_eq_true (by rw [he])]
        refine ⟨.int (j : Nat), rfl, _, h1', by rw [List.length_map]; exact small1000 (by omega), ?_⟩
        refine ⟨ns ++ [(j : Int)], by rw [upd_same, List.map_append]; rfl, by simp; omega, fun _ => ?_, fun h => absurd h (by omega), kq.fill hD⟩
        by_cases e : spotOf ps f = j
        · rw [h4 (by omega), ← e]
          exact ⟨[], rfl⟩
        · obtain ⟨r', e'⟩ := h3 (by omega)
          exact ⟨r' ++ [(j : Int)], by rw [e']; rfl⟩
      · rw [decide_eq_false (fun e => he (V.int.inj e))]
        refine ⟨ns, h1', by omega, fun h => h3 (Nat.lt_of_le_of_ne (by omega) fun e => he ?_), fun h => h4 (by omega), kq⟩
        rw [← e] at hr'
        exact spot_at hr'
    · rintro H1 ⟨ns, h1, h2, h3, h4, k1⟩
      obtain ⟨r, rfl⟩ := h3 (by omega)
      refine ⟨D, _, 0, .int (spotOf ps f : Nat), rfl, rfl, SqL.of h1, at0, ?_⟩
      refine ⟨t, ys, _, _, rfl, rfl, sameT (kz_seq k1) ht, atI_nat hx2, ?_⟩
      have hT3 := k1.get (by simp) hT2
      refine ⟨.int g, rfl, .int f, rfl, rfl, _, rfl, ?_⟩
      refine ite2 (fun he => ?_) (fun he => ?_)
      · have he : ¬ g = f := fun e => by simp [e] at he
        refine ⟨.ref T2, rfl, .int g, rfl, by show 2 ≤ sizeLine; decide, fun Z hZ => ?_⟩
        have kZ : Kp ([] : List Addr) H1 (upd H1 Z (.tup [.str "go", .int g])) := Kp.new hZ
        refine ⟨oD o, .tuple [.str "go", .int g], ord_data ⟨T2, rfl, kZ.get (by simp) hT3⟩, .tup (SqT.of upd_same) (.cons (.str _) (.cons (.int _) .nil)), shaped_ord o, shaped_ord (.go g), ?_⟩
        rw [eqv_go]
        have e : fitO o f g = decide (o = .go g) := by unfold fitO; rw [if_neg he]
        rw [e] at k
        exact k _ (k1.trans kZ)
      · have he : g = f := by
          by_cases e : g = f
          · exact e
          · exact absurd (by simp [e]) he
        obtain ⟨rr, er⟩ := oV_word o
        refine ⟨.ref T2, rfl, T2, _, 0, _, rfl, rfl, SqT.of hT3, by rw [er]; exact at0, rfl, ?_⟩
        rw [word_go']
        have e : fitO o f g = !isGo o := by unfold fitO; rw [if_pos he]
        rw [e] at k
        exact k H1 k1
end
end Kt

set_option Elab.async false
set_option linter.all false
set_option maxRecDepth 100000
set_option maxHeartbeats 4000000
namespace Kt
open PySem PySem.Spec PyProof.Rows L2
/-! ### a call that hands all by name -/
section
variable {X : Cx} {CX : CXT} {k : Nat} {f : Addr} {fd : FuncData} {ps ks : List Str} {sp : Sp} {E : XK} {x : Str} {p pos : Pos} {tk : TA} {kws : List Keyword} {g : List Value → List Value → List Value} {gV : List V → List V → List V}
theorem pe_callNames (F : FnOk X.prog X.w X.K X.mg X.base CX k f fd ps sp) (hr : Room k X.A) (hg : Gl X x) (hm : X.mg x = some (.ref f)) (hk : PySem.W.keepIn X.K (.ref f) = true) (hb : KBinds X.K fd ps ks g gV) (hx : Passes CX X E)
    (hkw : PK X kws tk) (hall : (backToKw pos (keywordEach kws X.env)).all (·.1.isSome) = true := by rfl) (hks : (backToKw pos (keywordEach kws X.env)).filterMap (·.1) = ks := by rfl)
    (hdb : (x == ("__debug__" : Str)) = false := by decide)
    (hpl : ((backTo pos (starEach [] X.env)).any (·.1) || (backToKw pos (keywordEach kws X.env)).any (·.1.isNone)) = false := by rfl) :
    PE X (.Call (.Name x p) [] kws pos) (fun σ H Q => tk σ H fun zs H2 => sp (gV [] zs) H2 Q E) := by
  refine ⟨fun pins s σ H Q I h => ?_⟩
  refine wpAny_Call_Name_kw (ld_glob I hg hm ?_ hdb)
  refine PySem.W.callWith_KW0 (h₀ := X.base) I.ok.mod.kin hk hall (thn (hkw.run pos pins s σ H _ I h) fun ws s2 ⟨zs, H2, I2, rz, q2⟩ => ⟨I2.kIn, ?_⟩) hpl
  rw [hks]
  exact run_fnk F hr hb hx I2 (us := []) (vs := []) .nil rz q2
end
def turn3 {α : Type} : List α → List α → List α
  | [], [p, o, b] => [b, o, p]
  | _, _ => []
theorem turn3_inv {α : Type} {us ws : List α} (h : (turn3 us ws).length = 3) : us = [] ∧ ∃ p o b, ws = [p, o, b] := by
  unfold turn3 at h
  split at h
  · exact ⟨rfl, _, _, _, rfl⟩
  · simp at h
theorem kb_fits {K : PySem.W.Frag} {f : Addr} {fd : FuncData} (F : Fun K "fits" "fits" sFits f fd) : KBinds K fd ["board", "orders", "place"] ["place", "orders", "board"] turn3 turn3 := by
  refine ⟨fun s us ws _ hl => ?_, fun {vs us zs ws} r1 r2 => ?_⟩
  · obtain ⟨rfl, p, o, b, rfl⟩ := turn3_inv hl
    obtain ⟨oc, od, kV, doc, pm, an, cdv, ct, osl, rfl, lk, hcd⟩ := F.ex
    exact BindsTo.of_eq rfl
  · cases r1 with
    | cons _ _ => exact .nil
    | nil =>
      cases r2 with
      | nil => exact .nil
      | cons a r2 =>
        cases r2 with
        | nil => exact .nil
        | cons b r2 =>
          cases r2 with
          | nil => exact .nil
          | cons c r2 =>
            cases r2 with
            | nil => exact .cons c (.cons b (.cons a .nil))
            | cons _ _ => exact .nil
/-! ### data that can be shown -/
structure Nc (d : PyData) (k m : Nat) : Prop where
  sh : d.showable = true
  nd : d.hasDict = false
  sm : PyData.leavesShort 13 d = true
  ly : d.canLay0 = true
  wt : d.weight ≤ k
  dp : d.depth ≤ m
structure NcA (ds : List PyData) (k m : Nat) : Prop where
  sh : PyData.showableAll ds = true
  nd : PyData.hasDictAll ds = false
  sm : PyData.leavesShortAll 13 ds = true
  ly : PyData.canLayAll0 ds = true
  wt : PyData.weightAll ds ≤ k
  dp : PyData.depthAll ds ≤ m
theorem Nc.int {i : Int} (h0 : 0 ≤ i) (h1 : i < 1000) : Nc (.int i) 10 0 := by
  have hl : i.natAbs.log2 ≤ 9 := by
    by_cases e : i.natAbs = 0
    · rw [e]
      decide
    · have : i.natAbs.log2 < 10 := (Nat.log2_lt e).mpr (by omega)
      omega
  refine ⟨?_, by simp [PyData.hasDict], ?_, by simp [PyData.canLay0], ?_, by simp [PyData.depth]⟩
  · rw [PyData.showable.eq_4]
    exact decide_eq_true (by omega)
  · rw [PyData.leavesShort.eq_3]
    exact decide_eq_true (PyData.shown_int_le2 (by omega) (by omega))
  · rw [PyData.weight.eq_5]
    split <;> omega
theorem NcA.nil : NcA [] 0 0 := ⟨by simp [PyData.showableAll], by simp [PyData.hasDictAll], by simp [PyData.leavesShortAll], by simp [PyData.canLayAll0], by simp [PyData.weightAll], by simp [PyData.depthAll]⟩
theorem NcA.cons {d : PyData} {ds : List PyData} {k m k' m' : Nat} (a : Nc d k m) (b : NcA ds k' m') : NcA (d :: ds) (k + 1 + k') (max m m') := by
  refine ⟨by simp [PyData.showableAll, a.sh, b.sh], by simp [PyData.hasDictAll, a.nd, b.nd], by simp [PyData.leavesShortAll, a.sm, b.sm], by simp [PyData.canLayAll0, a.ly, b.ly], ?_, ?_⟩
  · rw [PyData.weightAll.eq_2]
    have := a.wt
    have := b.wt
    omega
  · simp only [PyData.depthAll]
    have := a.dp
    have := b.dp
    omega
theorem Nc.tup {ds : List PyData} {k m : Nat} (a : NcA ds k m) : Nc (.tuple ds) k (m + 1) := by
  refine ⟨by simp [PyData.showable, a.sh], by simp [PyData.hasDict, a.nd], by simp [PyData.leavesShort, a.sm], by simp [PyData.canLay0, a.ly], by simpa [PyData.weight] using a.wt, ?_⟩
  have := a.dp
  simp only [PyData.depth]
  omega
theorem Nc.lst {ds : List PyData} {k m : Nat} (a : NcA ds k m) : Nc (.list ds) k (m + 1) := by
  refine ⟨by simp [PyData.showable, a.sh], by simp [PyData.hasDict, a.nd], by simp [PyData.leavesShort, a.sm], by simp [PyData.canLay0, a.ly], by simpa [PyData.weight] using a.wt, ?_⟩
  have := a.dp
  simp only [PyData.depth]
  omega
theorem Nc.mono {d : PyData} {k m k' m' : Nat} (a : Nc d k m) (h : k ≤ k') (h' : m ≤ m') : Nc d k' m' := ⟨a.sh, a.nd, a.sm, a.ly, Nat.le_trans a.wt h, Nat.le_trans a.dp h'⟩
theorem NcA.mono {d : List PyData} {k m k' m' : Nat} (a : NcA d k m) (h : k ≤ k') (h' : m ≤ m') : NcA d k' m' := ⟨a.sh, a.nd, a.sm, a.ly, Nat.le_trans a.wt h, Nat.le_trans a.dp h'⟩
theorem NcA.map {α : Type} {f : α → PyData} {k m : Nat} : ∀ {xs : List α}, (∀ x ∈ xs, Nc (f x) k m) → NcA (xs.map f) (xs.length * (k + 1)) m
  | [], _ => NcA.nil.mono (by simp) (Nat.zero_le _)
  | x :: xs, h => (NcA.cons (h x List.mem_cons_self) (NcA.map fun y hy => h y (List.mem_cons_of_mem _ hy))).mono (by
      rw [List.length_cons, Nat.add_mul]
      omega) (by omega)
theorem Nc.pair {r : Int × Int} (h : 0 ≤ r.1 ∧ r.1 < 1000 ∧ 0 ≤ r.2 ∧ r.2 < 1000) : Nc (pD r) 22 1 :=
  (Nc.tup (NcA.cons (Nc.int h.1 h.2.1) (NcA.cons (Nc.int h.2.2.1 h.2.2.2) .nil))).mono (by omega) (by omega)
theorem nc_stay : Nc (.str "stay") 4 0 := ⟨by simp [PyData.showable], by simp [PyData.hasDict], by rw [PyData.leavesShort.eq_4]; decide +kernel, by rw [PyData.canLay0]; decide +kernel, by rw [PyData.weight.eq_1]; decide +kernel, by simp [PyData.depth]⟩
theorem nc_go : Nc (.str "go") 4 0 := ⟨by simp [PyData.showable], by simp [PyData.hasDict], by rw [PyData.leavesShort.eq_4]; decide +kernel, by rw [PyData.canLay0]; decide +kernel, by rw [PyData.weight.eq_1]; decide +kernel, by simp [PyData.depth]⟩
theorem nc_back : Nc (.str "back") 4 0 := ⟨by simp [PyData.showable], by simp [PyData.hasDict], by rw [PyData.leavesShort.eq_4]; decide +kernel, by rw [PyData.canLay0]; decide +kernel, by rw [PyData.weight.eq_1]; decide +kernel, by simp [PyData.depth]⟩
theorem bes_lt {n : Int} {rs : List (Int × Int)} {cs : List Int} (h : ChOk n rs cs) {f g : Int} (hg : g ∈ bes rs f) : 0 ≤ g ∧ g < n := by
  obtain ⟨r, hr, e⟩ := bes_mem.mp hg
  have := h.road r hr
  rcases e with ⟨_, e⟩ | ⟨_, e⟩ <;> omega
theorem nc_ord {n : Int} {rs ps : List (Int × Int)} {cs : List Int} (h : ChOk n rs cs) (hp : PsOk n ps) {own : Int} {o : Ord} (ho : OrdOk rs ps own o) : Nc (oD o) 27 1 := by
  have hn := h.hi
  have fit : ∀ {f g : Int}, g ∈ bes rs f → Nc (.int g) 10 0 := fun hg => Nc.int (bes_lt h hg).1 (by have := (bes_lt h hg).2; omega)
  cases o with
  | stay => exact (Nc.tup (NcA.cons nc_stay .nil)).mono (by omega) (by omega)
  | go g => exact (Nc.tup (NcA.cons nc_go (NcA.cons (fit ho) .nil))).mono (by omega) (by omega)
  | back f g =>
    obtain ⟨hf, _, hg, _⟩ := ho
    obtain ⟨q, hq, rfl⟩ := List.mem_map.mp hf
    have := hp.fld q hq
    exact (Nc.tup (NcA.cons nc_back (NcA.cons (Nc.int this.1 (by omega)) (NcA.cons (fit hg) .nil)))).mono (by omega) (by omega)
theorem nc_orders {n : Int} {rs ps : List (Int × Int)} {cs : List Int} {os : List Ord} (h : ChOk n rs cs) (hp : PsOk n ps) (hps : ps.length ≤ 24) (ho : OrdsOk rs ps os) : Nc (.tuple (os.map oD)) 672 2 := by
  refine (Nc.tup (NcA.map (k := 27) (m := 1) fun o hm => ?_)).mono ?_ (by omega)
  · obtain ⟨i, hi, e⟩ := List.mem_iff_getElem.mp hm
    have hl := ho.1
    exact nc_ord h hp (ho.2 i o ps[i] (by rw [List.getElem?_eq_getElem hi, e]) (List.getElem?_eq_getElem (by omega)))
  · have := ho.1
    omega
theorem nc_board {n : Int} {rs ps : List (Int × Int)} {cs : List Int} (h : ChOk n rs cs) (hp : PsOk n ps) (hps : ps.length ≤ 24) : Nc (bdD n rs cs ps) 6000 4 := by
  have hn := h.hi
  have h0 := h.lo
  have a1 : Nc (.tuple (rs.map pD)) 4600 2 := (Nc.tup (NcA.map (k := 22) (m := 1) fun r hr => Nc.pair (by have := h.road r hr; omega))).mono (by have := h.few; omega) (by omega)
  have a2 : Nc (.tuple (cs.map PyData.int)) 264 1 := (Nc.tup (NcA.map (k := 10) (m := 0) fun c hc => Nc.int (h.cen c hc).1 (by have := (h.cen c hc).2; omega))).mono (by have := h.cfew; omega) (by omega)
  have a3 : Nc (.tuple (ps.map pD)) 552 2 := (Nc.tup (NcA.map (k := 22) (m := 1) fun r hr => Nc.pair (by have := hp.fld r hr; omega))).mono (by omega) (by omega)
  have a4 : Nc (chD n rs cs) 5000 3 := (Nc.tup (NcA.cons (Nc.int (by omega) (by omega)) (NcA.cons a1 (NcA.cons a2 .nil)))).mono (by omega) (by omega)
  exact (Nc.tup (NcA.cons a4 (NcA.cons a3 .nil))).mono (by omega) (by omega)
theorem Nc.shown {d : PyData} {k m : Nat} (a : Nc d k m) (h : k ≤ 100000) (hm : m ≤ 60) : d.showable = true ∧ d.hasDict = false ∧ d.shown.length ≤ sizeLine ∧ d.depth ≤ 60 :=
  ⟨a.sh, a.nd, PyData.shown_fits (B := 13) (by decide) (by decide) a.sm (by have := a.wt; omega), Nat.le_trans a.dp hm⟩
theorem Nc.shaped {d : PyData} {k m : Nat} (a : Nc d k m) (hm : m ≤ 60) : SeqAt.shaped d = true := shaped_of a.ly (by have := a.dp; omega)
theorem nc_bool (b : Bool) : Nc (.bool b) 0 0 := ⟨by simp [PyData.showable], by simp [PyData.hasDict], by simp [PyData.leavesShort], by simp [PyData.canLay0], by simp [PyData.weight], by simp [PyData.depth]⟩
/-! ### tuples put together -/
theorem cat_read {K : PySem.W.Frag} {H : Hp} {a b : Addr} {xs ys : List V} {Q : VK} (ha : SqT K H a xs) (hb : SqT K H b ys) (h1 : H a = some (.tup xs)) (h2 : H b = some (.tup ys)) (hl : xs.length + ys.length ≤ 1000)
    (k : ∀ q H', Kp [] H H' → H' q = some (.tup (xs ++ ys)) → Q (.ref q) H') : rCatA K (.ref a) (.ref b) H Q := by
  refine ⟨a, b, xs, ys, rfl, rfl, ha, hb, Nat.le_trans hl (by decide), fun e => ?_, fun _ e => ?_, fun _ _ p hp => k p _ (Kp.new hp) upd_same⟩
  · subst e
    exact k b H Kp.refl h2
  · subst e
    exact k a H Kp.refl (by rw [List.append_nil]; exact h1)
theorem slice_read {K : PySem.W.Frag} {H : Hp} {a : Addr} {xs : List V} {lo hi : Option Int} {Q : VK} (h1 : H a = some (.tup xs))
    (k : ∀ q H', Kp [] H H' → H' q = some (.tup (cutV xs lo hi)) → Q (.ref q) H') : rSlA K (.ref a) lo hi H Q := by
  refine ⟨a, xs, rfl, SqT.of h1, fun e => ?_, fun _ p hp => k p _ (Kp.new hp) upd_same⟩
  refine k a H Kp.refl ?_
  rw [h1]
  unfold cutV
  rw [e.1, e.2]
  simp
theorem cut_rest (xs : List V) (k : Int) (h : 0 ≤ k) : cutV xs (some k) none = xs.drop k.toNat := by
  unfold cutV
  have e : HT.sIx xs.length 0 (some k) = min k.toNat xs.length := by
    show (if k < 0 then _ else _) = _
    rw [if_neg (by omega)]
  have e2 : HT.sIx xs.length xs.length none = xs.length := rfl
  rw [e, e2]
  by_cases hk : k.toNat ≤ xs.length
  · rw [Nat.min_eq_left hk]
    exact List.take_of_length_le (by simp)
  · rw [Nat.min_eq_right (by omega), List.drop_length, List.drop_of_length_le (by omega)]
    simp
theorem Ps.drop {α : Type} {f : α → List V} {H : Hp} : ∀ {xs : List V} {rs : List α} (n : Nat), Ps f H xs rs → Ps f H (xs.drop n) (rs.drop n)
  | _, _, 0, h => h
  | _, _, _ + 1, .nil => .nil
  | _, _, n + 1, .cons _ b => Ps.drop n b
theorem Ps.set {α : Type} {f : α → List V} {H : Hp} {x : V} {r : α} (hx : TpAt f H x r) : ∀ {xs : List V} {rs : List α} (n : Nat), Ps f H xs rs → Ps f H (xs.set n x) (rs.set n r)
  | _, _, _, .nil => .nil
  | _, _, 0, .cons _ b => .cons hx b
  | _, _, n + 1, .cons a b => .cons a (Ps.set hx n b)
theorem set_split {α : Type} {xs : List α} {s : Nat} {x : α} (h : s < xs.length) : xs.take s ++ [x] ++ xs.drop (s + 1) = xs.set s x := by
  rw [List.set_eq_take_append_cons_drop, if_pos h]
  simp
theorem OrdsOk.set {rs ps : List (Int × Int)} {os : List Ord} (h : OrdsOk rs ps os) {s : Nat} {o : Ord} {p : Int × Int} (hp : ps[s]? = some p) (ho : OrdOk rs ps p.1 o) : OrdsOk rs ps (os.set s o) := by
  refine ⟨by rw [List.length_set]; exact h.1, fun i o' p' hi hp' => ?_⟩
  rw [List.getElem?_set] at hi
  split at hi
  · rename_i e
    subst e
    split at hi
    · cases hi
      rw [hp] at hp'
      cases hp'
      exact ho
    · cases hi
  · exact h.2 i o' p' hi hp'
end Kt

set_option Elab.async false
set_option linter.all false
set_option maxRecDepth 100000
set_option maxHeartbeats 4000000
namespace Kt
open PySem PySem.Spec PyProof.Rows L2
def spFitsC (K : PySem.W.Frag) : Sp := fun vs H Q _ => ∃ (v : V) (n : Int) (rs : List (Int × Int)) (cs : List Int) (ps : List (Int × Int)) (t : Addr) (ys : List V) (os : List Ord) (i : Nat) (f g : Int), vs = [v, .ref t, .int i] ∧ Dp K H v (bdD n rs cs ps) ∧ SqT K H t ys ∧ Ps oV H ys os ∧
  os.length = ps.length ∧ os[i]? = some (.back f g) ∧ f ∈ ps.map (·.1) ∧ ps.length ≤ 24 ∧ (ps.map (·.1)).Nodup ∧ (∀ (j : Nat) (f g : Int), os[j]? = some (.back f g) → f ∈ ps.map (·.1)) ∧ ∀ H', Kp [] H H' → Q (.bl (fitF ps os f g)) H'
section
variable {P : Program} {w : World} {K : PySem.W.Frag} {mg : Str → Option Value} {base : Heap}
theorem scFits : FnScope ["board", "orders", "place"] ["board", "orders", "place"] (defScope sFits) := ⟨rfl, rfl, rfl, by decide +kernel, rfl, by decide +kernel, by decide +kernel⟩
theorem ok_fitsC {f C fI fF fD : Addr} {fd fdI fdF fdD : FuncData} (F : Fun K "fits" "fits" sFits f fd) (T : ClT K mg C) (M : Mk K C fI) (FI : Fun K "__init__" "Clash.__init__" sInit fI fdI) (bI : Binds K fdI ["self", "board", "orders"] [])
    (FF : Fun K "is_fitting" "Clash.is_fitting" sIsFit fF fdF) (bF : Binds K fdF ["self", "place"] []) (mF : Meth K C "is_fitting" fF) (FD : Fun K "is_fit" "is_fit" s_is_fit fD fdD) (bD : Binds K fdD ["back", "backed"] []) (gD : mg "is_fit" = some (.ref fD)) (mE : mg "enumerate" = none) : FnOk P w K mg base CX0 5 f fd ["board", "orders", "place"] (spFitsC K) := by
  have GF : FnOk P w K mg base CX0 2 fF fdF ["self", "place"] (spIsFit K C) := ok_isFit FF T FD bD gD
  have GI : FnOk P w K mg base CX0 3 fI fdI ["self", "board", "orders"] (spInit K C) := ok_init FI T FF bF mF GF mE
  refine F.ok (k := 4) scFits (fun vs H Q E h => ?_) (fun cdv A outer s H vs Q E hr h => ?_)
  · obtain ⟨v, n, rs, cs, ps, t, ys, os, i, f, g, rfl, _⟩ := h
    rfl
  · obtain ⟨v, n, rs, cs, ps, t, ys, os, i, f, g, rfl, hv, ht, hy, hlen, hi, hf, hps, hnd, hbk, k⟩ := h
    refine ⟨_, pss_one (ps_ret (pe_meth (pe_make M GI hr (by rfl) T.mgC bI .nil pass0 (pa_cons (pv 0) (pa_cons (pv 1) pa_nil))) T.cl mF GF (hr.mono (by decide)) bF .nil pass0 (pa_cons (pv 2) pa_nil))), ?_⟩
    refine ⟨v, rfl, .ref t, rfl, fun x dx nx ndx nex => ?_⟩
    have s0 : Same H (upd (upd H dx (.own x)) x (.ins C dx [])) := fun b o e => by
      rw [upd_ne (ne_of_none e nx), upd_ne (ne_of_none e ndx)]
      exact e
    exact ⟨H, x, dx, v, t, n, rs, cs, ps, ys, os, rfl, s0, nx, upd_same, hv, ht, hy, hlen, hps, hnd, hbk, fun H' lf lp dp dg lb sm hm pl => ⟨rfl, x, dx, _, rfl, hm, fs_fit, .int i, rfl, x, dx, t, lf, lp, dp, dg, lb, ys, os, ps, i, f, g, rfl, hm, sameT sm ht, ps_keep hy sm, pl, hlen, hi, hf, fun H4 k4 => k H4 ((Kp.of_same sm).trans k4)⟩⟩
end
end Kt

set_option Elab.async false
set_option linter.all false
set_option maxRecDepth 100000
set_option maxHeartbeats 4000000
namespace Kt
open PySem PySem.Spec PyProof.Rows L2
def spLaw (K : PySem.W.Frag) : Sp := fun vs H Q _ => ∃ (p : Addr) (ns : List Int), vs = [.ref p] ∧ SqL K H p (ns.map V.int) ∧ ns.length ≤ 63 ∧ ∀ H', Q (.bl true) H'
/-- values that are tuples of orders -/
def TrOk (rs ps : List (Int × Int)) (H : Hp) (vs : List V) : Prop := ∀ x ∈ vs, ∃ (q : Addr) (zs : List V) (os : List Ord), x = .ref q ∧ H q = some (.tup zs) ∧ Ps oV H zs os ∧ OrdsOk rs ps os
theorem TrOk.keep {rs ps : List (Int × Int)} {H H' : Hp} {vs : List V} {S : List Addr} (h : TrOk rs ps H vs) (k : Kp S H H') (n : NoTup H S) : TrOk rs ps H' vs := fun x hx => by
  obtain ⟨q, zs, os, e, h1, h2, h3⟩ := h x hx
  exact ⟨q, zs, os, e, k.get (fun z => n q z _ h1) h1, h2.keep k n, h3⟩
theorem TrOk.snoc {rs ps : List (Int × Int)} {H : Hp} {vs : List V} {q : Addr} {zs : List V} {os : List Ord} (h : TrOk rs ps H vs) (h1 : H q = some (.tup zs)) (h2 : Ps oV H zs os) (h3 : OrdsOk rs ps os) : TrOk rs ps H (vs ++ [.ref q]) := fun x hx => by
  rcases List.mem_append.mp hx with z | z
  · exact h x z
  · rw [List.mem_singleton] at z
    exact ⟨q, zs, os, z, h1, h2, h3⟩
theorem slice_from {K : PySem.W.Frag} {σ : Sl} {H : Hp} {a : Addr} {xs : List V} {lo : Option Int} {Q : VK} (h1 : H a = some (.tup xs))
    (k : ∀ q H', Kp [] H H' → H' q = some (.tup (cutV xs lo none)) → Q (.ref q) H') : tNoPart σ H (fun u H3 => rSlA K (.ref a) lo u H3 Q) := slice_read h1 k
abbrev nLaw : List Str := ["script", "deck", "turn", "board", "orders", "tried", "spot", "order", "value", "kept", "place", "due", "told"]
theorem scLaw : FnScope nLaw ["script"] (defScope sLaw) := ⟨rfl, rfl, rfl, by decide +kernel, rfl, by decide +kernel, by decide +kernel⟩
section
variable {P : Program} {w : World} {K : PySem.W.Frag} {mg : Str → Option Value} {base : Heap}
theorem ok_law {f fK fD fB fO fM fX fT : Addr} {fd fdK fdD fdB fdO fdM fdX fdT : FuncData} (F : Fun K "law" "law" sLaw f fd)
    (FK : Fun K "_law_deck" "_law_deck" sDeck fK fdK) (bK : Binds K fdK ["script"] []) (gK : mg "_law_deck" = some (.ref fK)) (GK : FnOk P w K mg base CX0 1 fK fdK ["script"] (spDeck K))
    (FD : Fun K "_law_draw" "_law_draw" sDraw fD fdD) (bD : Binds K fdD ["deck", "many"] []) (gD : mg "_law_draw" = some (.ref fD)) (GD : FnOk P w K mg base CX0 1 fD fdD ["deck", "many"] spDraw)
    (FB : Fun K "_law_board" "_law_board" sBoard fB fdB) (bB : Binds K fdB ["deck", "fields", "many"] []) (gB : mg "_law_board" = some (.ref fB)) (GB : FnOk P w K mg base CX0 4 fB fdB ["deck", "fields", "many"] (spBoard K))
    (FO : Fun K "_law_orders" "_law_orders" sOrders fO fdO) (bO : Binds K fdO ["deck", "board"] []) (gO : mg "_law_orders" = some (.ref fO)) (GO : FnOk P w K mg base CX0 4 fO fdO ["deck", "board"] (spOrders K))
    (FM : Fun K "_law_orders_of" "_law_orders_of" sOrdersOf fM fdM) (bM : Binds K fdM ["board", "place"] []) (gM : mg "_law_orders_of" = some (.ref fM)) (GM : FnOk P w K mg base CX0 2 fM fdM ["board", "place"] (spOrdersOf K))
    (FX : Fun K "_law_back_fits" "_law_back_fits" sBackFits fX fdX) (bX : Binds K fdX ["board", "orders", "place"] []) (gX : mg "_law_back_fits" = some (.ref fX)) (GX : FnOk P w K mg base CX0 1 fX fdX ["board", "orders", "place"] (spFits K))
    (FT : Fun K "fits" "fits" sFits fT fdT) (bT : Binds K fdT ["board", "orders", "place"] []) (gT : mg "fits" = some (.ref fT)) (GT : FnOk P w K mg base CX0 5 fT fdT ["board", "orders", "place"] (spFitsC K))
    (mL : mg "len" = none) (mR : mg "range" = none) (mE : mg "enumerate" = none) (mS : mg "repr" = none) : FnG P w K mg base CX0 6 f fd ["script"] (spLaw K) := by
  refine okG (k := 5) F scLaw (fun vs H Q E h => ?_) (fun cdv A fr s H vs Q E hg hr h => ?_)
  · obtain ⟨p, ns, rfl, _⟩ := h
    rfl
  · obtain ⟨p, ns, rfl, hp, hns, k⟩ := h
    have hr1 := hr.mono (show 1 ≤ 5 by decide)
    have hr2 := hr.mono (show 2 ≤ 5 by decide)
    have hr4 := hr.mono (show 4 ≤ 5 by decide)
    refine ⟨_, pss_cons (ps_set (i := 1) scLaw.nd rfl (.inl rfl) (pe_call GK hr1 (by rfl) gK FK.kp bK .nil pass0 (pa_cons (pv 0) pa_nil)))
      (pss_cons (ps_for PassesOwn.never rfl (pi_range1 (by rfl) mR (pa_cons pe_int pa_nil)) (pg_name (i := 2) scLaw.nd rfl (.inl rfl))
        (pss_cons (ps_set (i := 3) scLaw.nd rfl (.inl rfl) (pe_call GB hr4 (by rfl) gB FB.kp bB .nil pass0 (pa_cons (pv 1)
            (pa_cons (pe_op op_add pe_int (pe_call GD hr1 (by rfl) gD FD.kp bD .nil pass0 (pa_cons (pv 1) (pa_cons pe_int pa_nil))))
            (pa_cons (pe_op op_add pe_int (pe_call GD hr1 (by rfl) gD FD.kp bD .nil pass0 (pa_cons (pv 1) (pa_cons pe_int pa_nil)))) pa_nil)))))
        (pss_cons (ps_set (i := 4) scLaw.nd rfl (.inl rfl) (pe_call GO hr4 (by rfl) gO FO.kp bO .nil pass0 (pa_cons (pv 1) (pa_cons (pv 3) pa_nil))))
        (pss_cons (ps_par (i := 5) (j := 6) rfl scLaw.nd rfl rfl (by decide) rfl rfl (pa_cons (pe_lst (pa_cons (pv 4) pa_nil)) (pa_cons (pe_call GD hr1 (by rfl) gD FD.kp bD .nil pass0 (pa_cons (pv 1) (pa_cons (pe_callB call_len_seq (by rfl) mL PySem.boot_len (pa_cons (pv 4) pa_nil)) pa_nil))) pa_nil)) (by rfl))
        (pss_cons (ps_for PassesOwn.never rfl (pi_list (pe_call GM hr2 (by rfl) gM FM.kp bM .nil pass0 (pa_cons (pv 3) (pa_cons (pv 6) pa_nil)))) (pg_name (i := 7) scLaw.nd rfl (.inl rfl))
          (pss_one (ps_if (pt_cmpR op_eq (kt (pv 7) pe_int) pe_str (nomark _))
            (pss_one (ps_expr (pe_bm PySem.F.plainAttrs_list PySem.F.slot_list_append PySem.F.type_list_append mt_append (pv 5) (pa_cons (pe_op op_catA (pe_op op_catA (pe_slice sl_tupA (pv 4) po_none (po_some (pv 6))) (pe_tup (pa_cons (pv 7) pa_nil))) (pe_slice sl_tupA (pv 4) (po_some (pe_op op_add (pv 6) pe_int)) po_none)) pa_nil)))) pss_nil)))
        (pss_one (ps_for PassesOwn.never rfl (pi_list (pv 5)) (pg_name (i := 8) scLaw.nd rfl (.inl rfl))
          (pss_cons (ps_set (i := 9) scLaw.nd rfl (.inl rfl) (pe_callB (cr_repr hg hr.units) (by rfl) mS PyProof.Rows.boot_repr (pa_cons (pe_lst (pa_cons (pv 3) (pa_cons (pv 8) pa_nil))) pa_nil)))
          (pss_cons (ps_for PassesOwn.never rfl (pi_enumT (by rfl) mE (pa_cons (pv 8) pa_nil)) (pg_tup rfl (pgs_cons (pg_name (i := 10) scLaw.nd rfl (.inl rfl)) (pgs_cons (pg_name (i := 7) scLaw.nd rfl (.inl rfl)) pgs_nil)))
            (pss_one (ps_if (PW.pt (pw_and (pt_cmpR op_eq (kt (pv 7) pe_int) pe_str (nomark _)) (pw_and1 (PW.pt (pw_or (pt_cmpR (op_eqD hr.units) (pv 8) (pv 4) (nomark _)) (pw_or1 (pt_cmpR op_eq (pv 10) (pv 6) (nomark _))))))))
              (pss_cons (ps_set (i := 11) scLaw.nd rfl (.inl rfl) (pe_callB (cr_repr hg hr.units) (by rfl) mS PyProof.Rows.boot_repr (pa_cons (pe_call GX hr1 (by rfl) gX FX.kp bX .nil pass0 (pa_cons (pv 3) (pa_cons (pv 8) (pa_cons (pv 10) pa_nil)))) pa_nil)))
              (Evl.pss_cut (ps_set (i := 12) scLaw.nd rfl (.inl rfl) (pe_ifExp (pt_cmpR op_eq (pe_op op_mod (pv 10) pe_int) pe_int (nomark _))
                  (pe_callNames GT hr (by rfl) gT FT.kp (kb_fits FT) pass0 (pk_cons (pv 10) (pk_cons (pv 8) (pk_cons (pv 3) pk_nil))))
                  (pe_call GT hr (by rfl) gT FT.kp bT .nil pass0 (pa_cons (pv 3) (pa_cons (pv 8) (pa_cons (pv 10) pa_nil))))))
              (pss_one (ps_if (PW.pt (pw_or (pt_cmpR op_ne (pe_callB (cr_repr hg hr.units) (by rfl) mS PyProof.Rows.boot_repr (pa_cons (pv 12) pa_nil)) (pv 11) (nomark _))
                  (pw_or1 (pt_cmpR op_ne (pe_callB (cr_repr hg hr.units) (by rfl) mS PyProof.Rows.boot_repr (pa_cons (pe_call GT hr (by rfl) gT FT.kp bT .nil pass0 (pa_cons (pv 3) (pa_cons (pv 8) (pa_cons (pv 10) pa_nil)))) pa_nil)) (pv 11) (nomark _)))))
                (pss_one (ps_ret pe_bl)) pss_nil)))) pss_nil)))
          (pss_one (ps_if (pt_cmpR op_ne (pe_callB (cr_repr hg hr.units) (by rfl) mS PyProof.Rows.boot_repr (pa_cons (pe_lst (pa_cons (pv 3) (pa_cons (pv 8) pa_nil))) pa_nil)) (pv 9) (nomark _)) (pss_one (ps_ret pe_bl)) pss_nil)))))))))))
      (pss_one (ps_ret pe_bl))), ?_⟩
    refine ⟨.ref p, rfl, p, ns, rfl, hp, hns, fun H0 a c hD0 k0 ha hc => ?_⟩
    -- for turn in range(5)
    refine ⟨5, rfl, by decide, by decide, for_range (lo := 0) (n := 5)
      (fun i σ H' => ∃ v2 v3 v4 v5 v6 v7 v8 v9 v10 v11 v12, σ = [some (.ref p), some (.ref a), v2, v3, v4, v5, v6, v7, v8, v9, v10, v11, v12] ∧ DeckAt H' a c)
      ⟨_, _, _, _, _, _, _, _, _, _, _, rfl, hD0⟩ ?_ (fun σ H' _ => k H')⟩
    rintro i σ H hi ⟨v2, v3, v4, v5, v6, v7, v8, v9, v10, v11, v12, rfl, hD⟩
    -- board, orders
    refine ⟨.ref a, rfl, .ref a, rfl, a, c, 6, rfl, hD, by decide, by decide, fun H1 r r0 r1 hD1 k1 => ⟨4, r, rfl, rfl, .ref a, rfl, a, c, 6, rfl, hD1, by decide, by decide, fun H2 q q0 q1 hD2 k2 =>
      ⟨3, q, rfl, rfl, a, c, 4 + r, 3 + q, rfl, hD2, by omega, by omega, by omega, by omega, fun H3 v rs cs ps hch hps hpl hv3 hD3 k3 => ?_⟩⟩⟩
    have hp24 : ps.length ≤ 24 := by omega
    have hp3 : 3 ≤ ps.length := by omega
    refine ⟨.ref a, rfl, v, rfl, a, c, v, 4 + r, rs, cs, ps, rfl, hD3, hv3, hch.few, hp24, fun H4 po ys os hos hpo hpo4 hP4 hD4 k4 => ?_⟩
    have hv4 := hv3.keep k4
    have hyl : ys.length = ps.length := by rw [hP4.len]; exact hos.1
    -- tried, spot
    refine ⟨.ref po, rfl, by show 1 ≤ sizeLine; decide, fun Lt hLt => ?_⟩
    have kL : Kp ([] : List Addr) H4 (upd H4 Lt (.lst [.ref po])) := Kp.new hLt
    obtain ⟨La, Lc⟩ := hD4.ne hLt
    have hD5 := hD4.keep kL (by simp) (by simp)
    refine ⟨.ref a, rfl, .ref po, rfl, po, ys, rfl, .inr (SqT.of (kL.get (by simp) hpo4)), a, c, (ys.length : Nat), rfl, hD5, by omega, by omega, fun H5 r6 s0 s1 hD6 k5 => ?_⟩
    obtain ⟨s, rfl⟩ := Int.eq_ofNat_of_zero_le s0
    have hs : s < ps.length := by omega
    have nT4 : NoTup (upd H4 Lt (.lst [.ref po])) [a, c] := deck_noTup hD5
    have hT5 : H5 Lt = some (.lst [.ref po]) := k5.get (by simp [La, Lc]) upd_same
    have hP5 : Ps oV H5 ys os := (hP4.keep kL noTup_nil).keep k5 nT4
    have hpo' := kL.get (by simp) hpo4
    have hpo5 : H5 po = some (.tup ys) := k5.get (fun z => nT4 po z ys hpo') hpo'
    have hv5 : Da K [Lt, a, c] H5 v (bdD (4 + r) rs cs ps) := (Da.keep (hv4.free hLt) kL.all).keep (k5.mono (fun b hb => List.mem_cons_of_mem _ hb))
    clear hv4 hv3 hD1 hD2 hD3 hD4 hD5 k1 k2 k3 k4 hpo4 hP4 hpo' kL nT4 hpo hLt k5
    let M : Hp → Prop := fun H' => DeckAt H' a c ∧ Da K [Lt, a, c] H' v (bdD (4 + r) rs cs ps) ∧ H' po = some (.tup ys) ∧ Ps oV H' ys os
    have Mk : ∀ {H' H''}, M H' → Kp [] H' H'' → M H'' := fun {H' H''} ⟨e1, e2, e3, e4⟩ kk => ⟨e1.keep kk (by simp) (by simp), e2.keep kk.all, kk.get (by simp) e3, e4.keep kk noTup_nil⟩
    have hM5 : M H5 := ⟨hD6, hv5, hpo5, hP5⟩
    obtain ⟨pc, hpc⟩ : ∃ pc, ps[s]? = some pc := ⟨_, List.getElem?_eq_getElem hs⟩
    refine ⟨_, _, rfl, ?_⟩
    -- for order in orders_of
    refine ⟨v, rfl, .int s, rfl, v, s, 4 + r, rs, cs, ps, pc, rfl, hv5.dp, hch.few, hp24, hpc, fun H6 Lm zs ms hms hLm hLm6 hPm6 hzl k6 => ?_⟩
    have Lml : Lm ≠ Lt := fun e => by rw [e, hT5] at hLm; cases hLm
    have hM6 := Mk hM5 k6
    have hT6 := k6.get (by simp) hT5
    refine ⟨Lm, rfl, ⟨_, SqL.of hLm6⟩, for_list (K := K) (a := Lm) (xs := zs)
      (fun j σ H' => ∃ v7 ts, σ = [some (.ref p), some (.ref a), some (.int (0 + (i : Nat))), some v, some (.ref po), some (.ref Lt), some (.int s), v7, v8, v9, v10, v11, v12] ∧ M H' ∧ H' Lt = some (.lst ts) ∧ TrOk rs ps H' ts ∧ ts.length ≤ 1 + j ∧ H' Lm = some (.lst zs) ∧ Ps oV H' zs ms)
      ⟨_, _, rfl, hM6, hT6, ?_, Nat.le_refl _, hLm6, hPm6⟩ (fun j σ H' _ ⟨_, _, _, _, _, _, _, h, _⟩ => SqL.of h) ?_ ?_⟩
    · intro x hx
      rw [List.mem_singleton] at hx
      exact ⟨po, ys, os, hx, hM6.2.2.1, hM6.2.2.2, hos⟩
    · rintro j x σ H' hx ⟨v7, ts, rfl, hM, hT, hTr, htl, hLm', hPm'⟩
      obtain ⟨o, ho, T, rfl, hTo⟩ := hPm'.at hx
      have hj := (List.getElem?_eq_some_iff.mp hx).1
      obtain ⟨rr, er⟩ := oV_word o
      refine ⟨.ref T, rfl, T, _, 0, _, rfl, rfl, SqT.of hTo, by rw [er]; exact at0, rfl, _, rfl, ?_⟩
      refine ite2 (fun _ => ?_) (fun _ => ⟨_, ts, rfl, hM, hT, hTr, by omega, hLm', hPm'⟩)
      refine ⟨.ref Lt, rfl, .inl ⟨rfl, _, SqL.of hT⟩, .ref po, rfl, .int s, rfl, s, rfl, ?_⟩
      refine slice_read hM.2.2.1 fun q1 Ha kA hq1 => ?_
      refine ⟨.ref T, rfl, by show 1 ≤ sizeLine; decide, fun Z hZ => ?_⟩
      have kZ : Kp ([] : List Addr) Ha (upd Ha Z (.tup [.ref T])) := Kp.new hZ
      have hq2 := kZ.get (by simp) hq1
      rw [cut_to _ _ (by omega)] at hq2
      refine cat_read (SqT.of hq2) (SqT.of upd_same) hq2 upd_same (by simp; omega) fun q3 Hc kC hq3 => ?_
      have kAC : Kp ([] : List Addr) H' Hc := kA.trans (kZ.trans kC)
      refine ⟨.ref po, rfl, .int s, rfl, s, 1, rfl, rfl, (s : Int) + 1, rfl, ?_⟩
      refine slice_from (kAC.get (by simp) hM.2.2.1) fun q4 Hd kD hq4 => ?_
      rw [cut_rest _ _ (by omega)] at hq4
      have hq5 := kD.get (by simp) hq3
      refine cat_read (SqT.of hq5) (SqT.of hq4) hq5 hq4 (by simp; omega) fun q6 He kE hq6 => ?_
      have e1 : ((s : Nat) : Int).toNat = s := by omega
      have e2 : (((s : Nat) : Int) + 1).toNat = s + 1 := by omega
      rw [e1, e2, set_split (by omega)] at hq6
      have kk : Kp ([] : List Addr) H' He := kAC.trans (kD.trans kE)
      have hM7 := Mk hM kk
      have hT7 := kk.get (by simp) hT
      have hP7 : Ps oV He (ys.set s (.ref T)) (os.set s o) := Ps.set ⟨T, rfl, kk.get (by simp) hTo⟩ s hM7.2.2.2
      have hO7 : OrdsOk rs ps (os.set s o) := hos.set hpc (hms.ok o (List.mem_of_getElem? ho))
      have hlz : zs.length ≤ 10000 := hzl
      refine ⟨Lt, ts, _, rfl, rfl, hT7, Nat.lt_of_le_of_lt (show ts.length ≤ 11000 by omega) (by decide), ?_⟩
      have kP : Kp [Lt] He (upd He Lt (.lst (ts ++ [.ref q6]))) := Kp.put (by simp)
      have nP : NoTup He [Lt] := fun z hz xs e => by rw [List.mem_singleton.mp hz, hT7] at e; cases e
      refine ⟨_, _, rfl, ⟨hM7.1.put La Lc, ?_, kP.get (fun z => nP po z _ hM7.2.2.1) hM7.2.2.1, hM7.2.2.2.keep kP nP⟩, upd_same, ?_, by simp; omega, ?_, ?_⟩
      · exact hM7.2.1.keep (Kp.put (by simp))
      · exact ((hTr.keep kk noTup_nil).snoc hq6 hP7 hO7).keep kP nP
      · rw [upd_ne Lml]
        exact kk.get (by simp) hLm'
      · exact (hPm'.keep kk noTup_nil).keep kP nP
    · rintro σ H7 ⟨v7, ts, rfl, hM7, hT7, hTr7, htl, _, _⟩
      have hzl2 : zs.length ≤ 10000 := hzl
      -- for value in tried
      refine ⟨.ref Lt, rfl, Lt, rfl, ⟨_, SqL.of hT7⟩, for_list (K := K) (a := Lt) (xs := ts)
        (fun j σ H' => ∃ v7 v8 v9 v10 v11 v12, σ = [some (.ref p), some (.ref a), some (.int (0 + (i : Nat))), some v, some (.ref po), some (.ref Lt), some (.int s), v7, v8, v9, v10, v11, v12] ∧ M H' ∧ H' Lt = some (.lst ts) ∧ TrOk rs ps H' ts)
        ⟨_, _, _, _, _, _, rfl, hM7, hT7, hTr7⟩ (fun j σ H' _ ⟨_, _, _, _, _, _, _, _, h, _⟩ => SqL.of h) ?_ (fun σ H' ⟨_, _, _, _, _, _, e, hM, _⟩ => ⟨_, _, _, _, _, _, _, _, _, _, _, e, hM.1⟩)⟩
      clear hTr7 hT7 hM7 hM6 hT6 hLm6 hPm6 hM5 hT5 hP5 hpo5 hv5 hD6 hLm k6 v7 v8 v9 v10 v11 v12 htl
      rintro j x σ H hx ⟨v7, v8, v9, v10, v11, v12, rfl, hM, hT, hTr⟩
      obtain ⟨q, zv, ov, rfl, hq, hPq, hOq⟩ := hTr x (List.mem_of_getElem? hx)
      have shp : Nc (.list [bdD (4 + r) rs cs ps, .tuple (ov.map oD)]) 7000 5 := (Nc.lst (NcA.cons (nc_board hch hps hp24) (NcA.cons (nc_orders hch hps hp24 hOq) .nil))).mono (by omega) (by omega)
      obtain ⟨d1, d2, d3, d4⟩ := shp.shown (by omega) (by omega)
      have dat : ∀ {H' : Hp} {Z : Addr}, M H' → H' q = some (.tup zv) → Ps oV H' zv ov → H' Z = some (.lst [v, .ref q]) → Dp K H' (.ref Z) (.list [bdD (4 + r) rs cs ps, .tuple (ov.map oD)]) :=
        fun {H' Z} a1 a2 a3 a4 => .lst (SqL.of a4) (.cons a1.2.1.dp (.cons (.tup (SqT.of a2) (Dp_all (Ps.ords noTup_nil a3))) .nil))
      -- kept = repr([board, value])
      refine ⟨v, rfl, .ref q, rfl, by show 2 ≤ sizeLine; decide, fun Z hZ => ?_⟩
      have kZ : Kp ([] : List Addr) H (upd H Z (.lst [v, .ref q])) := Kp.new hZ
      have hM1 := Mk hM kZ
      have hT1 := kZ.get (by simp) hT
      have hTr1 := hTr.keep kZ noTup_nil
      have hq1 := kZ.get (by simp) hq
      have hP1 := hPq.keep kZ noTup_nil
      refine ⟨.ref Z, _, rfl, dat hM1 hq1 hP1 upd_same, d1, d2, d3, d4, ?_⟩
      generalize upd H Z (.lst [v, .ref q]) = H1 at hM1 hT1 hTr1 hq1 hP1
      clear hM hT hTr hq hPq kZ hZ
      -- for place, order in enumerate(value)
      refine ⟨.ref q, rfl, q, zv, rfl, SqT.of hq1, for_it walk_enumT
        (fun j σ H' => ∃ v7 v10 v11 v12, σ = [some (.ref p), some (.ref a), some (.int (0 + (i : Nat))), some v, some (.ref po), some (.ref Lt), some (.int s), v7, some (.ref q), some (.str (PyData.list [bdD (4 + r) rs cs ps, .tuple (ov.map oD)]).shown), v10, v11, v12] ∧ M H' ∧ H' Lt = some (.lst ts) ∧ TrOk rs ps H' ts ∧ H' q = some (.tup zv) ∧ Ps oV H' zv ov)
        ⟨_, _, _, _, rfl, hM1, hT1, hTr1, hq1, hP1⟩ (fun j σ H' _ ⟨_, _, _, _, _, _, _, _, h, _⟩ => SqT.of h) ?_ ?_⟩
      · clear hM1 hT1 hTr1 hq1 hP1
        rintro j2 x σ H2 H3 hj2 ⟨v7, v10, v11, v12, rfl, hM, hT, hTr, hq, hP⟩ ⟨Tq, x1, x2, rfl, hTq, rfl, ex1, ex2⟩
        cases ex1
        obtain ⟨o, ho, T, rfl, hTo⟩ := hP.at ex2
        have kq : Kp ([] : List Addr) H2 (upd H2 Tq (.tup [.int (j2 : Nat), .ref T])) := Kp.new hTq
        have hM3 := Mk hM kq
        have hT3 := kq.get (by simp) hT
        have hTr3 := hTr.keep kq noTup_nil
        have hq3 := kq.get (by simp) hq
        have hP3 := hP.keep kq noTup_nil
        have hTo3 := kq.get (by simp) hTo
        refine ⟨Tq, _, rfl, SqT.of upd_same, rfl, .int (j2 : Nat), _, rfl, .ref T, _, rfl, rfl, ?_⟩
        generalize upd H2 Tq (.tup [.int (j2 : Nat), .ref T]) = H3 at hM3 hT3 hTr3 hq3 hP3 hTo3
        clear hM hT hTr hq hP hTo kq hTq
        obtain ⟨rr, er⟩ := oV_word o
        refine ⟨.ref T, rfl, T, _, 0, _, rfl, rfl, SqT.of hTo3, by rw [er]; exact at0, rfl, _, rfl, ?_⟩
        rw [word_back]
        cases o with
        | stay => exact iteF (iteF ⟨_, _, _, _, rfl, hM3, hT3, hTr3, hq3, hP3⟩)
        | go g => exact iteF (iteF ⟨_, _, _, _, rfl, hM3, hT3, hTr3, hq3, hP3⟩)
        | back bf bg =>
          refine iteT ?_
          have hjl := (List.getElem?_eq_some_iff.mp ho).1
          have hj3 : j2 < ps.length := by have := hOq.1; omega
          have hbf : bf ∈ ps.map (·.1) := (hOq.2 j2 _ ps[j2] ho (List.getElem?_eq_getElem hj3)).1
          obtain ⟨b1, b2, b3, b4⟩ := (nc_bool (fitF ps ov bf bg)).shown (by omega) (by omega)
          have hnd : (ps.map (·.1)).Nodup := by
            unfold List.Nodup
            rw [List.pairwise_map]
            exact hps.asc.imp fun h e => by omega
          have hbks : ∀ (j : Nat) (f g : Int), ov[j]? = some (.back f g) → f ∈ ps.map (·.1) := fun j f g hj => by
            have hl := (List.getElem?_eq_some_iff.mp hj).1
            have hj3 : j < ps.length := by have := hOq.1; omega
            exact (hOq.2 j _ ps[j] hj (List.getElem?_eq_getElem hj3)).1
          refine ⟨.ref q, rfl, .ref po, rfl, .tuple (ov.map oD), .tuple (os.map oD), .tup (SqT.of hq3) (Dp_all (Ps.ords noTup_nil hP3)), .tup (SqT.of hM3.2.2.1) (Dp_all (Ps.ords noTup_nil hM3.2.2.2)), (nc_orders hch hps hp24 hOq).shaped (by omega), (nc_orders hch hps hp24 hos).shaped (by omega), _, rfl, ?_⟩
          refine ite2 (fun _ => iteT ?_) (fun _ => ⟨_, rfl, _, rfl, rfl, _, rfl, ite2 (fun _ => ?_) (fun _ => ⟨_, _, _, _, rfl, hM3, hT3, hTr3, hq3, hP3⟩)⟩)
          all_goals
            refine ⟨v, rfl, .ref q, rfl, .int j2, rfl, v, 4 + r, rs, cs, ps, q, zv, ov, j2, bf, bg, rfl, hM3.2.1.dp, SqT.of hq3, hP3, hOq.1, ho, hbf, hp24, fun H4 k4 => ?_⟩
            refine ⟨.bl (fitF ps ov bf bg), .bool (fitF ps ov bf bg), rfl, .bl _, b1, b2, b3, b4, ?_⟩
            have hM4 := Mk hM3 k4
            have hT4 := k4.get (by simp) hT3
            have hTr4 := hTr3.keep k4 noTup_nil
            have hq4 := k4.get (by simp) hq3
            have hP4 := hP3.keep k4 noTup_nil
            clear hM3 hT3 hTr3 hq3 hP3 hTo3 k4
            refine ⟨fun σ H' => σ = [some (.ref p), some (.ref a), some (.int (0 + (i : Nat))), some v, some (.ref po), some (.ref Lt), some (.int s), some (.ref T), some (.ref q), some (.str (PyData.list [bdD (4 + r) rs cs ps, .tuple (ov.map oD)]).shown), some (.int (j2 : Nat)), some (.str (PyData.bool (fitF ps ov bf bg)).shown), some (.bl (fitF ps ov bf bg))] ∧ M H' ∧ H' Lt = some (.lst ts) ∧ TrOk rs ps H' ts ∧ H' q = some (.tup zv) ∧ Ps oV H' zv ov, ?_, ?_⟩
            · refine ⟨.int (j2 : Nat), rfl, (j2 : Nat), 3, rfl, rfl, (by decide : (0 : Int) < 3), rfl, _, rfl, ite2 (fun _ => ?_) (fun _ => ?_)⟩
              · refine ⟨.int (j2 : Nat), rfl, .ref q, rfl, v, rfl, v, 4 + r, rs, cs, ps, q, zv, ov, j2, bf, bg, rfl, hM4.2.1.dp, SqT.of hq4, hP4, hOq.1, ho, hbf, hp24, hnd, hbks, fun H5 k5 => ?_⟩
                exact ⟨rfl, Mk hM4 k5, k5.get (by simp) hT4, hTr4.keep k5 noTup_nil, k5.get (by simp) hq4, hP4.keep k5 noTup_nil⟩
              · refine ⟨v, rfl, .ref q, rfl, .int (j2 : Nat), rfl, v, 4 + r, rs, cs, ps, q, zv, ov, j2, bf, bg, rfl, hM4.2.1.dp, SqT.of hq4, hP4, hOq.1, ho, hbf, hp24, hnd, hbks, fun H5 k5 => ?_⟩
                exact ⟨rfl, Mk hM4 k5, k5.get (by simp) hT4, hTr4.keep k5 noTup_nil, k5.get (by simp) hq4, hP4.keep k5 noTup_nil⟩
            · clear hM4 hT4 hTr4 hq4 hP4
              rintro σ H5 ⟨rfl, hM5, hT5, hTr5, hq5, hP5⟩
              refine ⟨.bl (fitF ps ov bf bg), rfl, .bl (fitF ps ov bf bg), .bool (fitF ps ov bf bg), rfl, .bl _, b1, b2, b3, b4, .str _, rfl, rfl, _, rfl, ?_⟩
              refine ite2 (fun h => by simp at h) (fun _ => ?_)
              refine ⟨v, rfl, .ref q, rfl, .int (j2 : Nat), rfl, v, 4 + r, rs, cs, ps, q, zv, ov, j2, bf, bg, rfl, hM5.2.1.dp, SqT.of hq5, hP5, hOq.1, ho, hbf, hp24, hnd, hbks, fun H6 k6 => ?_⟩
              refine ⟨.bl (fitF ps ov bf bg), .bool (fitF ps ov bf bg), rfl, .bl _, b1, b2, b3, b4, .str _, rfl, rfl, _, rfl, ?_⟩
              refine ite2 (fun h => by simp at h) (fun _ => ?_)
              exact ⟨_, _, _, _, rfl, Mk hM5 k6, k6.get (by simp) hT5, hTr5.keep k6 noTup_nil, k6.get (by simp) hq5, hP5.keep k6 noTup_nil⟩
      · rintro σ H2 ⟨v7, v10, v11, v12, rfl, hM2, hT2, hTr2, hq2, hP2⟩
        -- repr again
        refine ⟨v, rfl, .ref q, rfl, by show 2 ≤ sizeLine; decide, fun Z2 hZ2 => ?_⟩
        have kZ2 : Kp ([] : List Addr) H2 (upd H2 Z2 (.lst [v, .ref q])) := Kp.new hZ2
        have hM3 := Mk hM2 kZ2
        refine ⟨.ref Z2, _, rfl, dat hM3 (kZ2.get (by simp) hq2) (hP2.keep kZ2 noTup_nil) upd_same, d1, d2, d3, d4, .str _, rfl, rfl, _, rfl, ?_⟩
        refine ite2 (fun h => by simp at h) (fun _ => ?_)
        exact ⟨_, _, _, _, _, _, rfl, hM3, kZ2.get (by simp) hT2, hTr2.keep kZ2 noTup_nil⟩
end
end Kt

set_option Elab.async false
set_option linter.all false
set_option maxRecDepth 100000
set_option maxHeartbeats 4000000
namespace Kt
open PySem PySem.Spec PyProof.Rows L2
/-- a def of the text stands in the law's globals -/
def Dat (K : PySem.W.Frag) (mg : Str → Option Value) (x : Str) (st : Stmt) : Prop := ∃ f fd, Fun K x x st f fd ∧ mg x = some (.ref f)
theorem dat_mk {K : PySem.W.Frag} {h : Heap} {mg : Str → Option Value} {x : Str} {st : Stmt} {f : Addr} {od an : Option Addr} {sl : Array (Option Value)} {oc kV dc pm cd ct : Value} (X : K.In h) (G : h.Ns mainGlobals mg)
    (a : PySem.W.nsIn K mainGlobals x = some (some (.ref f))) (l : K.lookup f = some ⟨oc, od, .func (PySem.W.fnOf x x (defArgs st) (defBody st) (defScope st) .none kV dc pm an cd ct), sl⟩) (c : PySem.W.codeIn K cd x = true) (k : PySem.W.keepIn K (.ref f) = true) : Dat K mg x st :=
  ⟨f, _, fun_mk (st := st) l c k, PySem.W.mg_of X G a⟩
theorem all_mk {P : Program} {w : World} {K : PySem.W.Frag} {h : Heap} {mg : Str → Option Value} {fa : Addr} (X : K.In h) (G : h.Ns mainGlobals mg) (hfa : mg "law" = some (.ref fa))
    (d0 : Dat K mg "is_fit" s_is_fit) (d3 : Dat K mg "fits" sFits) (d5 : Dat K mg "_law_deck" sDeck) (d6 : Dat K mg "_law_draw" sDraw) (d7 : Dat K mg "_law_pick" sPick) (d8 : Dat K mg "_law_mixed" sMixed) (d9 : Dat K mg "_law_beside" sBeside)
    (d10 : Dat K mg "_law_chart" sChart) (d11 : Dat K mg "_law_pieces" sPieces) (d12 : Dat K mg "_law_orders_of" sOrdersOf) (d13 : Dat K mg "_law_gos" sGos) (d14 : Dat K mg "_law_orders" sOrders) (d15 : Dat K mg "_law_board" sBoard) (d16 : Dat K mg "_law_back_fits" sBackFits)
    {C i1 i2 : Addr} {odI anI odJ anJ : Option Addr} {slI slJ : Array (Option Value)} {ocI kVI dcI pmI cdI ctI ocJ kVJ dcJ pmJ cdJ ctJ : Value}
    (aC : PySem.W.nsIn K mainGlobals "Clash" = some (some (.ref C)))
    (aI : PySem.W.findIn K (.ref C) "__init__" = some (some (.ref i1))) (fI : PySem.W.isFn K (.ref i1) = true) (lI : K.lookup i1 = some ⟨ocI, odI, .func (PySem.W.fnOf "__init__" "Clash.__init__" (defArgs sInit) (defBody sInit) (defScope sInit) .none kVI dcI pmI anI cdI ctI), slI⟩) (cI : PySem.W.codeIn K cdI "Clash.__init__" = true) (kI : PySem.W.keepIn K (.ref i1) = true)
    (aJ : PySem.W.findIn K (.ref C) "is_fitting" = some (some (.ref i2))) (fJ : PySem.W.isFn K (.ref i2) = true) (lJ : K.lookup i2 = some ⟨ocJ, odJ, .func (PySem.W.fnOf "is_fitting" "Clash.is_fitting" (defArgs sIsFit) (defBody sIsFit) (defScope sIsFit) .none kVJ dcJ pmJ anJ cdJ ctJ), slJ⟩) (cJ : PySem.W.codeIn K cdJ "Clash.is_fitting" = true) (kJ : PySem.W.keepIn K (.ref i2) = true)
    (pg : PySem.W.plainGet K C Str.empty = true) (hd : PySem.W.hasDictIn K C = true) (po : PySem.W.plainOver K C = true) (sa : PySem.W.findIn K (.ref C) "__setattr__" = some (some (.builtin "object.__setattr__"))) (mk : PySem.W.makesIn K C = true) (kc : PySem.W.keepIn K (.ref C) = true)
    (nO : PySem.W.findIn K (.ref C) "orders" = some none) (nF : PySem.W.findIn K (.ref C) "fields" = some none) (nP : PySem.W.findIn K (.ref C) "players" = some none) (nL : PySem.W.findIn K (.ref C) "_places" = some none) (nG : PySem.W.findIn K (.ref C) "_goers" = some none) (nB : PySem.W.findIn K (.ref C) "_backers" = some none)
    {f2 : Addr} {od an : Option Addr} {sl : Array (Option Value)} {oc kV dc pm cd ct : Value}
    (a2 : PySem.W.nsIn K mainGlobals "law" = some (some (.ref f2))) (l2 : K.lookup f2 = some ⟨oc, od, .func (PySem.W.fnOf "law" "law" (defArgs sLaw) (defBody sLaw) (defScope sLaw) .none kV dc pm an cd ct), sl⟩) (c2 : PySem.W.codeIn K cd "law" = true) (k2 : PySem.W.keepIn K (.ref f2) = true)
    (z1 : PySem.W.nsIn K mainGlobals "int" = some none) (z2 : PySem.W.nsIn K mainGlobals "len" = some none) (z3 : PySem.W.nsIn K mainGlobals "list" = some none) (z4 : PySem.W.nsIn K mainGlobals "range" = some none) (z5 : PySem.W.nsIn K mainGlobals "max" = some none)
    (z6 : PySem.W.nsIn K mainGlobals "tuple" = some none) (z7 : PySem.W.nsIn K mainGlobals "sorted" = some none) (z8 : PySem.W.nsIn K mainGlobals "enumerate" = some none) (z9 : PySem.W.nsIn K mainGlobals "repr" = some none) :
    ∃ fd : FuncData, (∀ (s : Shared) (v : Value), BindsTo s fd ⟨[v], []⟩ [("script", v)]) ∧ ∀ base : Heap, K.In base → base.Ns mainGlobals mg → FnG P w K mg base CX0 6 fa fd ["script"] (spLaw K) := by
  have e := hfa.symm.trans (PySem.W.mg_of X G a2)
  cases e
  have mI := PySem.W.mg_none_of X G z1
  have mL := PySem.W.mg_none_of X G z2
  have mLi := PySem.W.mg_none_of X G z3
  have mR := PySem.W.mg_none_of X G z4
  have mX := PySem.W.mg_none_of X G z5
  have mT := PySem.W.mg_none_of X G z6
  have mS := PySem.W.mg_none_of X G z7
  have mE := PySem.W.mg_none_of X G z8
  have mRp := PySem.W.mg_none_of X G z9
  have T : ClT K mg C := ⟨⟨pg, hd, po, sa⟩, nO, nF, nP, nL, nG, nB, PySem.W.mg_of X G aC⟩
  have FI := fun_mk (st := sInit) lI cI kI
  have FJ := fun_mk (st := sIsFit) lJ cJ kJ
  have bI := FI.binds (ps := ["self", "board", "orders"]) fun _ _ _ _ _ _ us hl => match us, hl with | [_, _, _], _ => rfl
  have bJ := FJ.binds (ps := ["self", "place"]) fun _ _ _ _ _ _ us hl => match us, hl with | [_, _], _ => rfl
  obtain ⟨f0, fd0, F0, g0⟩ := d0
  obtain ⟨f3, fd3, F3, g3⟩ := d3
  obtain ⟨f5, fd5, F5, g5⟩ := d5
  obtain ⟨f6, fd6, F6, g6⟩ := d6
  obtain ⟨f7, fd7, F7, g7⟩ := d7
  obtain ⟨f8, fd8, F8, g8⟩ := d8
  obtain ⟨f9, fd9, F9, g9⟩ := d9
  obtain ⟨f10, fd10, F10, g10⟩ := d10
  obtain ⟨f11, fd11, F11, g11⟩ := d11
  obtain ⟨f12, fd12, F12, g12⟩ := d12
  obtain ⟨f13, fd13, F13, g13⟩ := d13
  obtain ⟨f14, fd14, F14, g14⟩ := d14
  obtain ⟨f15, fd15, F15, g15⟩ := d15
  obtain ⟨f16, fd16, F16, g16⟩ := d16
  have b0 := F0.binds (ps := ["back", "backed"]) fun _ _ _ _ _ _ us hl => match us, hl with | [_, _], _ => rfl
  have b3 := F3.binds (ps := ["board", "orders", "place"]) fun _ _ _ _ _ _ us hl => match us, hl with | [_, _, _], _ => rfl
  have b5 := F5.binds (ps := ["script"]) fun _ _ _ _ _ _ us hl => match us, hl with | [_], _ => rfl
  have b6 := F6.binds (ps := ["deck", "many"]) fun _ _ _ _ _ _ us hl => match us, hl with | [_, _], _ => rfl
  have b7 := F7.binds (ps := ["deck", "items"]) fun _ _ _ _ _ _ us hl => match us, hl with | [_, _], _ => rfl
  have b8 := F8.binds (ps := ["deck", "items"]) fun _ _ _ _ _ _ us hl => match us, hl with | [_, _], _ => rfl
  have b9 := F9.binds (ps := ["chart", "field"]) fun _ _ _ _ _ _ us hl => match us, hl with | [_, _], _ => rfl
  have b10 := F10.binds (ps := ["deck", "many", "more"]) fun _ _ _ _ _ _ us hl => match us, hl with | [_, _, _], _ => rfl
  have b11 := F11.binds (ps := ["deck", "chart", "many"]) fun _ _ _ _ _ _ us hl => match us, hl with | [_, _, _], _ => rfl
  have b12 := F12.binds (ps := ["board", "place"]) fun _ _ _ _ _ _ us hl => match us, hl with | [_, _], _ => rfl
  have b13 := F13.binds (ps := ["deck", "board"]) fun _ _ _ _ _ _ us hl => match us, hl with | [_, _], _ => rfl
  have b14 := F14.binds (ps := ["deck", "board"]) fun _ _ _ _ _ _ us hl => match us, hl with | [_, _], _ => rfl
  have b15 := F15.binds (ps := ["deck", "fields", "many"]) fun _ _ _ _ _ _ us hl => match us, hl with | [_, _, _], _ => rfl
  have b16 := F16.binds (ps := ["board", "orders", "place"]) fun _ _ _ _ _ _ us hl => match us, hl with | [_, _, _], _ => rfl
  refine ⟨PySem.W.fnOf "law" "law" (defArgs sLaw) (defBody sLaw) (defScope sLaw) .none kV dc pm an cd ct, fun s v => .of_eq rfl, fun base _ _ => ?_⟩
  have G6 : FnOk P w K mg base CX0 1 f6 fd6 ["deck", "many"] spDraw := ok_draw F6 mI
  have G12 : FnOk P w K mg base CX0 2 f12 fd12 ["board", "place"] (spOrdersOf K) := ok_ordersOf F12 F9 b9 g9 mS
  have G13 : FnOk P w K mg base CX0 3 f13 fd13 ["deck", "board"] (spGos K) := ok_gos F13 F6 b6 g6 F9 b9 g9 F7 b7 g7 mI mL mS
  have G14 : FnOk P w K mg base CX0 4 f14 fd14 ["deck", "board"] (spOrders K) := ok_orders F14 F6 b6 g6 F13 b13 g13 G13 F12 b12 g12 G12 F7 b7 g7 mI mL mE mT
  have G10 : FnOk P w K mg base CX0 2 f10 fd10 ["deck", "many", "more"] (spChart K) := ok_chart F10 F6 b6 g6 mI mR mX mT mS
  have G11 : FnOk P w K mg base CX0 3 f11 fd11 ["deck", "chart", "many"] (spPieces K) := ok_pieces F11 F6 b6 g6 F8 b8 g8 F7 b7 g7 mI mL mLi mR mT mS
  have G15 : FnOk P w K mg base CX0 4 f15 fd15 ["deck", "fields", "many"] (spBoard K) := ok_board F15 F6 b6 g6 F10 b10 g10 G10 F11 b11 g11 G11 mI
  exact ok_law (fun_mk (st := sLaw) l2 c2 k2) F5 b5 g5 (ok_deck F5 mI mL) F6 b6 g6 G6 F15 b15 g15 G15 F14 b14 g14 G14 F12 b12 g12 G12 F16 b16 g16 (ok_backFits F16 mE) F3 b3 g3 (ok_fitsC F3 T ⟨mk, aI, fI, kc⟩ FI bI FJ bJ ⟨aJ, fJ, kJ⟩ F0 b0 g0 mE) mL mR mE mRp
end Kt
open PySem PySem.W PyProof.Rows
set_option maxHeartbeats 0 in
theorem PySem.Challenge.cw_whateverothers_k09_whole_backs_that_fit_holds : PySem.Challenge.rw_whateverothers_k09_whole_backs_that_fit.Holds := by
  w_on; o_law; k_head; (case hw => w_witness2)
  k_fill
  refine Kt.walk_ofG (l := PySem.Challenge.rw_whateverothers_k09_whole_backs_that_fit) (n := 63) (k := 6) (x := "script") (sp := fun w => Kt.spLaw _) rfl (by decide) rfl ⟨rfl, by decide, by decide⟩ (fun w h Y => PySem.W.kIn_of Y) ?F (fun _ _ a ns hl _ hS => ⟨a, ns, rfl, hS, hl, fun _ => rfl⟩)
  case F =>
    intro w mg fa h KX G hmg
    refine' Kt.all_mk KX G hmg ?d0 ?d3 ?d5 ?d6 ?d7 ?d8 ?d9 ?d10 ?d11 ?d12 ?d13 ?d14 ?d15 ?d16 ?aC ?aI ?fI ?lI ?cI ?kI ?aJ ?fJ ?lJ ?cJ ?kJ ?pg ?hd ?po ?sa ?mk ?kc ?nO ?nF ?nP ?nL ?nG ?nB ?a2 ?l2 ?c2 ?k2 ?z1 ?z2 ?z3 ?z4 ?z5 ?z6 ?z7 ?z8 ?z9
    (case d0 => refine' Kt.dat_mk KX G ?a ?l ?c ?k; (case a => k_is); (case l => k_is); (case c => k_is); (case k => k_is))
    (case d3 => refine' Kt.dat_mk KX G ?a ?l ?c ?k; (case a => k_is); (case l => k_is); (case c => k_is); (case k => k_is))
    (case d5 => refine' Kt.dat_mk KX G ?a ?l ?c ?k; (case a => k_is); (case l => k_is); (case c => k_is); (case k => k_is))
    (case d6 => refine' Kt.dat_mk KX G ?a ?l ?c ?k; (case a => k_is); (case l => k_is); (case c => k_is); (case k => k_is))
    (case d7 => refine' Kt.dat_mk KX G ?a ?l ?c ?k; (case a => k_is); (case l => k_is); (case c => k_is); (case k => k_is))
    (case d8 => refine' Kt.dat_mk KX G ?a ?l ?c ?k; (case a => k_is); (case l => k_is); (case c => k_is); (case k => k_is))
    (case d9 => refine' Kt.dat_mk KX G ?a ?l ?c ?k; (case a => k_is); (case l => k_is); (case c => k_is); (case k => k_is))
    (case d10 => refine' Kt.dat_mk KX G ?a ?l ?c ?k; (case a => k_is); (case l => k_is); (case c => k_is); (case k => k_is))
    (case d11 => refine' Kt.dat_mk KX G ?a ?l ?c ?k; (case a => k_is); (case l => k_is); (case c => k_is); (case k => k_is))
    (case d12 => refine' Kt.dat_mk KX G ?a ?l ?c ?k; (case a => k_is); (case l => k_is); (case c => k_is); (case k => k_is))
    (case d13 => refine' Kt.dat_mk KX G ?a ?l ?c ?k; (case a => k_is); (case l => k_is); (case c => k_is); (case k => k_is))
    (case d14 => refine' Kt.dat_mk KX G ?a ?l ?c ?k; (case a => k_is); (case l => k_is); (case c => k_is); (case k => k_is))
    (case d15 => refine' Kt.dat_mk KX G ?a ?l ?c ?k; (case a => k_is); (case l => k_is); (case c => k_is); (case k => k_is))
    (case d16 => refine' Kt.dat_mk KX G ?a ?l ?c ?k; (case a => k_is); (case l => k_is); (case c => k_is); (case k => k_is))
    (case aC => k_is); (case aI => k_is); (case fI => k_is); (case lI => k_is); (case cI => k_is); (case kI => k_is); (case aJ => k_is); (case fJ => k_is); (case lJ => k_is); (case cJ => k_is); (case kJ => k_is); (case pg => k_is); (case hd => k_is); (case po => k_is); (case sa => k_is); (case mk => k_is); (case kc => k_is); (case nO => k_is); (case nF => k_is); (case nP => k_is); (case nL => k_is); (case nG => k_is); (case nB => k_is)
    (case a2 => k_is); (case l2 => k_is); (case c2 => k_is); (case k2 => k_is)
    (case z1 => k_is); (case z2 => k_is); (case z3 => k_is); (case z4 => k_is); (case z5 => k_is); (case z6 => k_is); (case z7 => k_is); (case z8 => k_is); (case z9 => k_is)
