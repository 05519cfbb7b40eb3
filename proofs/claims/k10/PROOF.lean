import PyProof.Rows.All
import Wide.All
import OpenK.AllK
import Wide.FinOn
import HandS.ForMost
import HandS.SetFor
import HandS.ForExc
import HandS.IsInst
import HandS.Evl
import HandS.Flow
import HandS.Codes
import HandS.Wide
import HandS.TupAny
import HandS.Conv
import HandS.Strs
import HandS.SortInts
import KE.DataMinMax
import KE.DataAny
import KE.SortData
import HandS.SortKw
import HandS.ExcInit
import HandS.ExcField
import HandS.Small
import HandS.TryMany
import HandS.Property
import HandS.Lambda
import KE.GoesEnum
import HandS.More
import KE.KNest
import KE.KNestM
import HandS.EndTab
import PySem.Challenge.RW_millbrook_k10_reach
set_option Elab.async false
set_option linter.all false
set_option maxRecDepth 100000
namespace GV
open PySem PySem.Spec PyProof.Rows L2
/-- a set as it is new -/
abbrev nset (w : World) : Obj := { cls := .type "set", dict := none, data := .set #[] 0 (.fresh 0 0 (!w.params.followText "set-order")) }
section
variable {P : Program} {w : World} {A : Around} {E : Value → Shared → Prop} {s : Shared}
set_option maxHeartbeats 3200000 in
/-- set(l), l a list of ints: its members in the order of the world -/
theorem set_ofL {l : Addr} {items : Array Value} (ns : List Int) {Q : Value → Shared → Prop} (hh : A.handled = none) (hl : s.heap.IsList l items) (hit : IntsAre items.toList ns) (hb : ns.length + 1 < scanBound)
    (fin : ∀ (g : Heap) (tk c : Nat), SetR w g s.heap.objs.size (fun j => decide (j ∈ ns)) c → c ≤ ns.length → (∀ b o, s.heap.get? b = some o → g.get? b = some o) → Q (.ref s.heap.objs.size) { s with heap := g, toks := tk }) :
    wpAny (model P w) A (call (.type "set") [.ref l]) Q E s := by
  have size : items.size = ns.length := by
    have q := IntsAre.length hit
    rwa [Array.length_toList] at q
  obtain ⟨c, tl, hmro⟩ := F.called_set.mro
  have a1 := F.called_set.made
  have a2 := F.called_set.sub
  refine wpAny_call (codeAny_of_tree (show wpAny _ _ (callAny (.type "set") _) _ _ _ from wpAny_pure ⟨Code.quiet_builtin _ (by decide +kernel), codeAny_builtin F.entry_type_call ?_⟩))
  rw [Around.under_plain (weight_type_call_type "set" [.ref l] []) rfl]
  have a3 := F.called_set.notType
  have a4 := F.called_set.canCreate
  have a5 := F.typeCall_set_1 (.ref l)
  repeat (any_goals first | assumption | wp_step)
  refine codeAny_mono (code_set_led1 (.ref l) (E := E) (Q₁ := fun o s₁ => o = .ref s.heap.objs.size ∧ s₁ = { s with heap := s.heap.push (nset w) }) ⟨rfl, rfl⟩) fun r s₁ hr => ?_
  rcases r with er | fl
  · exact hr
  rcases fl with _ | _ | _ | ob
  iterate 3 exact hr.elim
  obtain ⟨rfl, rfl⟩ := hr
  have at0 : (s.heap.push (nset w)).get? s.heap.objs.size = some (nset w) := Heap.get?_push_size _ rfl
  have ty0 : Shared.TypeIs { s with heap := s.heap.push (nset w) } (.ref s.heap.objs.size) "set" := ⟨_, at0, rfl⟩
  have b1 := F.called_set.init.lookup
  have b2 := F.called_set.init.bind (.ref s.heap.objs.size)
  repeat (any_goals first | assumption | wp_step)
  refine codeAny_mono (codeAny_call_builtin (R := wants (fun r s₂ => r = .none ∧ ∃ g tk c, s₂ = { s with heap := g, toks := tk } ∧ SetR w g s.heap.objs.size (fun j => decide (j ∈ ns)) c ∧ c ≤ ns.length ∧ (∀ b o, s.heap.get? b = some o → g.get? b = some o)) E)
    F.called_set.init.plain F.entry_set_init (check_set_init_1 ty0 ?_)) fun r₂ s₂ hr₂ => ?_
  · obtain ⟨⟨oc, od, odt, osl⟩, hol, hcl, nl, hdl⟩ := hl
    simp only at hcl hdl
    subst hcl hdl
    have ol : (s.heap.push (nset w)).get? l = some { cls := .type "list", dict := od, data := .seq items nl, slots := osl } := Heap.get?_push_of_some _ hol
    have c1 := F.sub_list_set
    have c2 := F.sub_list_frozenset
    have c3 : (Value.type "list" == Value.type "dict") = false := by decide
    have isl : (s.heap.push (nset w)).IsList l items := ⟨_, ol, rfl, nl, rfl⟩
    unfold Builtin.«set.__init__» noKeywords Builtin.Frozenset.updateFrom
    generalize hPI : pyIter = PI
    wp_walk
    subst hPI
    refine wpAny_pyIter_list isl (wpAny_bind (wpAny_runValue ?_))
    have lt : l < s.heap.objs.size := Heap.lt_size hol
    have hh3 : A.in1.in1.in1.handled = none := by simp [hh]
    have neI : l ≠ (s.heap.push (nset w)).objs.size := by
      rw [Heap.size_push]
      exact Nat.ne_of_lt (Nat.lt_succ_of_lt lt)
    have nf : s.heap.objs.size ∉ [(s.heap.push (nset w)).objs.size, l] := by
      rw [Heap.size_push]
      simp only [List.mem_cons, List.not_mem_nil, or_false, not_or]
      exact And.intro (Nat.ne_of_lt (Nat.lt_succ_self _)) (Nat.ne_of_gt lt)
    have val : ∀ (i : Nat) (v : Value), items[i]? = some v → ∃ k t, ns[i]? = some k ∧ v = .int k t := fun i v hv => by
      have hi : i < ns.length := by rw [← size]; exact (Array.getElem?_eq_some_iff.mp hv).1
      obtain ⟨t, e⟩ := PyProof.Rows.IntsAre.int_at hit i v (by rwa [Array.getElem?_toList])
      refine ⟨ns[i], t, List.getElem?_eq_getElem hi, ?_⟩
      rw [e, List.getD_eq_getElem?_getD, List.getElem?_eq_getElem hi, Option.getD_some]
    refine set_update_ints ((Walks.list hh3 _ l neI items).toS) s.heap.objs.size nf ns size hb val (items.size - 0) 0 _ (by omega) (Nat.zero_le _) ⟨⟨_, Heap.get?_push_size _ rfl, rfl, rfl⟩, isl.push _⟩ ?z ?y
    case z => exact ⟨0, Nat.le_refl 0, setR_new_at (Heap.get?_push_of_some _ at0)⟩
    case y =>
      rintro ⟨g, gn, dr, tk, os⟩ c' hm hc' hS'
      obtain rfl : gn = s.gens := hm.gens
      obtain rfl : dr = s.drawn := hm.drawn
      obtain rfl : os = s.os := hm.os
      refine wpAny_pure (show wpAny _ _ (ret Value.none) _ _ _ from wpAny_pure ⟨rfl, g, tk, c', rfl, hS', size ▸ hc', fun b o e => ?_⟩)
      have b0 : b < s.heap.objs.size := Heap.lt_size e
      refine hm.heap b o ?_ (Heap.get?_push_of_some _ (Heap.get?_push_of_some _ e))
      rw [Heap.size_push]
      simp only [List.mem_cons, List.not_mem_nil, or_false, not_or]
      exact And.intro (Nat.ne_of_lt b0) (Nat.ne_of_lt (Nat.lt_succ_of_lt b0))
  · rcases r₂ with er | fl₂
    · exact hr₂
    rcases fl₂ with _ | _ | _ | r
    iterate 3 exact hr₂.elim
    obtain ⟨rfl, g, tk, c', rfl, hS', hc', hk'⟩ := hr₂
    repeat (any_goals first | assumption | wp_step)
    exact fin _ _ _ hS' hc' hk'
end
end GV

/-! Rules upon the syntax itself: the weakest reading of a piece of text, and what it gives on data. -/
namespace GV
open PySem PySem.Spec PyProof.Rows L2
abbrev St := L2.St

/-! ### the weakest readings -/
def wE (X : Cx) (e : Expr) : TE := fun σ H Q => ∃ t, PE X e t ∧ t σ H Q
def wT (X : Cx) (e : Expr) : TT := fun σ H Q => ∃ t, PT X e t ∧ t σ H Q
def wA (X : Cx) (es : List Expr) : TA := fun σ H Q => ∃ t, PA X es t ∧ t σ H Q
def wS (X : Cx) (st : Stmt) : TS := fun D σ H => ∃ t, PS X st t ∧ t D σ H
def wB (X : Cx) (st : List Stmt) : TS := fun D σ H => ∃ t, PSs X st t ∧ t D σ H
section
variable {X : Cx}
theorem wE.pe {e : Expr} : PE X e (wE X e) := ⟨fun pins s σ H Q I ⟨_, h, q⟩ => h.run pins s σ H Q I q⟩
theorem wT.pt {e : Expr} : PT X e (wT X e) := ⟨fun pins s σ H Q I ⟨_, h, q⟩ => h.run pins s σ H Q I q⟩
theorem wA.pa {es : List Expr} : PA X es (wA X es) := ⟨fun pos pins s σ H Q I ⟨_, h, q⟩ => h.run pos pins s σ H Q I q⟩
theorem wS.ps {st : Stmt} : PS X st (wS X st) := ⟨fun pins s σ H D I ⟨_, h, q⟩ => h.run pins s σ H D I q⟩
theorem wB.ps {st : List Stmt} : PSs X st (wB X st) := ⟨fun pins s σ H D I ⟨_, h, q⟩ => h.run pins s σ H D I q⟩
end

/-! ### what is known of the heap: all but the mutable things at M and the tables -/
def NT (o : HO) : Prop := ∀ ps, o ≠ .tbl ps
def ExM (M : Addr → Prop) (H H' : Hp) : Prop := ∀ a o, H a = some o → ¬ M a → NT o → H' a = some o
def Alive (M : Addr → Prop) (H : Hp) : Prop := ∀ a, M a → ∃ o, H a = some o
theorem ExM.refl {M : Addr → Prop} (H : Hp) : ExM M H H := fun _ _ h _ _ => h
theorem ExM.trans {M : Addr → Prop} {H H1 H2 : Hp} (a : ExM M H H1) (b : ExM M H1 H2) : ExM M H H2 := fun x o h m n => b x o (a x o h m n) m n
theorem ExM.of {M : Addr → Prop} {H H' : Hp} (e : Evl.Ex H H') : ExM M H H' := fun a o h _ _ => e a o h
theorem Alive.mono {M : Addr → Prop} {H H' : Hp} (a : Alive M H) (e : Evl.Ex H H') : Alive M H' := fun x m => let ⟨o, h⟩ := a x m; ⟨o, e x o h⟩
theorem Alive.fresh {M : Addr → Prop} {H : Hp} {p : Addr} (a : Alive M H) (h : H p = none) : ¬ M p := fun m => by
  obtain ⟨o, q⟩ := a p m
  rw [h] at q
  cases q

mutual
/-- v is the datum d, none of whose parts lies in M -/
inductive Rp (K : PySem.W.Frag) (M : Addr → Prop) (H : Hp) : V → PyData → Prop
  | non : Rp K M H .non .none
  | bl (b : Bool) : Rp K M H (.bl b) (.bool b)
  | int (i : Int) : Rp K M H (.int i) (.int i)
  | str (x : Str) : Rp K M H (.str x) (.str x)
  | lst {a : Addr} {xs : List V} {ds : List PyData} : ¬ M a → Rd H a (.lst xs) → RpAll K M H xs ds → Rp K M H (.ref a) (.list ds)
  | tup {a : Addr} {xs : List V} {ds : List PyData} : ¬ M a → Rd H a (.tup xs) → RpAll K M H xs ds → Rp K M H (.ref a) (.tuple ds)
inductive RpAll (K : PySem.W.Frag) (M : Addr → Prop) (H : Hp) : List V → List PyData → Prop
  | nil : RpAll K M H [] []
  | cons {v : V} {vs : List V} {d : PyData} {ds : List PyData} : Rp K M H v d → RpAll K M H vs ds → RpAll K M H (v :: vs) (d :: ds)
end

section
variable {K : PySem.W.Frag} {M M' : Addr → Prop} {H H' : Hp}
theorem Rd.exM {a : Addr} {xs : List V} (h : Rd H a (.lst xs)) (m : ¬ M a) (e : ExM M H H') : Rd H' a (.lst xs) := by
  rcases h with h | ⟨o, h⟩
  · exact .inl (e _ _ h m (fun _ z => by cases z))
  · exact .inr ⟨o, e _ _ h m (fun _ z => by cases z)⟩
theorem Rd.exT {a : Addr} {xs : List V} (h : Rd H a (.tup xs)) (m : ¬ M a) (e : ExM M H H') : Rd H' a (.tup xs) := by
  rcases h with h | ⟨o, h⟩
  · exact .inl (e _ _ h m (fun _ z => by cases z))
  · exact .inr ⟨o, e _ _ h m (fun _ z => by cases z)⟩
theorem Rd.there {a : Addr} {u : HO} (h : Rd H a u) : H a ≠ none := by
  rcases h with h | ⟨o, h⟩ <;> rw [h] <;> exact fun z => by cases z
mutual
theorem Rp.mono {v : V} {d : PyData} : (r : Rp K M H v d) → (hm : ∀ a, M' a → M a) → ExM M H H' → Rp K M' H' v d
  | .non, _, _ => .non
  | .bl b, _, _ => .bl b
  | .int i, _, _ => .int i
  | .str x, _, _ => .str x
  | .lst m h r, hm, e => .lst (fun z => m (hm _ z)) (Rd.exM h m e) (RpAll.mono r hm e)
  | .tup m h r, hm, e => .tup (fun z => m (hm _ z)) (Rd.exT h m e) (RpAll.mono r hm e)
theorem RpAll.mono {vs : List V} {ds : List PyData} : (r : RpAll K M H vs ds) → (hm : ∀ a, M' a → M a) → ExM M H H' → RpAll K M' H' vs ds
  | .nil, _, _ => .nil
  | .cons r rs, hm, e => .cons (Rp.mono r hm e) (RpAll.mono rs hm e)
end
mutual
/-- further mutable things, none of which was there -/
theorem Rp.wide {v : V} {d : PyData} : (r : Rp K M H v d) → (∀ a, M' a → M a ∨ H a = none) → Rp K M' H v d
  | .non, _ => .non
  | .bl b, _ => .bl b
  | .int i, _ => .int i
  | .str x, _ => .str x
  | .lst m h r, hm => .lst (fun z => (hm _ z).elim m (Rd.there h)) h (RpAll.wide r hm)
  | .tup m h r, hm => .tup (fun z => (hm _ z).elim m (Rd.there h)) h (RpAll.wide r hm)
theorem RpAll.wide {vs : List V} {ds : List PyData} : (r : RpAll K M H vs ds) → (∀ a, M' a → M a ∨ H a = none) → RpAll K M' H vs ds
  | .nil, _ => .nil
  | .cons r rs, hm => .cons (Rp.wide r hm) (RpAll.wide rs hm)
end
mutual
theorem Rp.dp {v : V} {d : PyData} : (r : Rp K M H v d) → Dp K H v d
  | .non => .non
  | .bl b => .bl b
  | .int i => .int i
  | .str x => .str x
  | .lst _ h r => .lst (.inl h) (RpAll.dp r)
  | .tup _ h r => .tup (.inl h) (RpAll.dp r)
theorem RpAll.dp {vs : List V} {ds : List PyData} : (r : RpAll K M H vs ds) → DpAll K H vs ds
  | .nil => .nil
  | .cons r rs => .cons (Rp.dp r) (RpAll.dp rs)
end
theorem RpAll.length : ∀ {vs : List V} {ds : List PyData}, RpAll K M H vs ds → vs.length = ds.length
  | _, _, .nil => rfl
  | _, _, .cons _ rs => congrArg (· + 1) rs.length
theorem RpAll.get : ∀ {vs : List V} {ds : List PyData} {i : Nat} {d : PyData}, RpAll K M H vs ds → ds[i]? = some d → ∃ v, vs[i]? = some v ∧ Rp K M H v d
  | _, _, 0, _, .cons r _, e => by
    simp at e
    subst e
    exact ⟨_, rfl, r⟩
  | _, _, i + 1, d, .cons _ rs, e => by
    obtain ⟨v, h1, h2⟩ := RpAll.get (i := i) (d := d) rs (by simpa using e)
    exact ⟨v, by simpa using h1, h2⟩
  | _, _, _, _, .nil, e => by simp at e
theorem RpAll.append : ∀ {vs ws : List V} {ds es : List PyData}, RpAll K M H vs ds → RpAll K M H ws es → RpAll K M H (vs ++ ws) (ds ++ es)
  | _, _, _, _, .nil, s => s
  | _, _, _, _, .cons r rs, s => .cons r (RpAll.append rs s)
theorem RpAll.ints : ∀ ns : List Int, RpAll K M H (ns.map V.int) (ns.map PyData.int)
  | [] => .nil
  | n :: r => .cons (.int n) (RpAll.ints r)
theorem RpAll.strs : ∀ ns : List Str, RpAll K M H (ns.map V.str) (ns.map PyData.str)
  | [] => .nil
  | n :: r => .cons (.str n) (RpAll.strs r)
theorem RpAll.of_ints : ∀ {vs : List V} {ns : List Int}, RpAll K M H vs (ns.map PyData.int) → vs = ns.map V.int
  | [], [], .nil => rfl
  | _ :: _, n :: r, .cons h hs => by
    cases h
    rw [RpAll.of_ints hs]
    rfl
end

/-! ### what a piece of text gives -/
structure PD (X : Cx) (M : Addr → Prop) (e : Expr) (σ : St) (H : Hp) (d : PyData) : Prop where
  run : ∀ H1, ExM M H H1 → Alive M H1 → ∀ Q : VK, (∀ v H2, Evl.Ex H1 H2 → Rp X.K M H2 v d → Q v H2) → wE X e σ H1 Q
structure TD (X : Cx) (M : Addr → Prop) (e : Expr) (σ : St) (H : Hp) (b : Bool) : Prop where
  run : ∀ H1, ExM M H H1 → Alive M H1 → ∀ Q : Bool → Hp → Prop, (∀ H2, Evl.Ex H1 H2 → Q b H2) → wT X e σ H1 Q
structure AD (X : Cx) (M : Addr → Prop) (es : List Expr) (σ : St) (H : Hp) (ds : List PyData) : Prop where
  run : ∀ H1, ExM M H H1 → Alive M H1 → ∀ Q : List V → Hp → Prop, (∀ vs H2, Evl.Ex H1 H2 → RpAll X.K M H2 vs ds → Q vs H2) → wA X es σ H1 Q

section
variable {X : Cx} {M : Addr → Prop} {σ : St} {H H' : Hp} {a b c e : Expr} {da db d : PyData} {pos : Pos}
theorem PD.mono (h : PD X M e σ H d) (x : ExM M H H') : PD X M e σ H' d := ⟨fun H1 e1 al Q q => h.run H1 (x.trans e1) al Q q⟩
theorem TD.mono {k : Bool} (h : TD X M e σ H k) (x : ExM M H H') : TD X M e σ H' k := ⟨fun H1 e1 al Q q => h.run H1 (x.trans e1) al Q q⟩
theorem AD.mono {es : List Expr} {ds : List PyData} (h : AD X M es σ H ds) (x : ExM M H H') : AD X M es σ H' ds := ⟨fun H1 e1 al Q q => h.run H1 (x.trans e1) al Q q⟩
theorem PD.is {d' : PyData} (h : PD X M e σ H d) (q : d = d') : PD X M e σ H d' := q ▸ h
theorem TD.is {k k' : Bool} (h : TD X M e σ H k) (q : k = k') : TD X M e σ H k' := q ▸ h
/-- names and constants -/
theorem pd_name {i : Nat} {x : Str} {v : V} (hN : X.N[i]? = some x) (hv : Vis X.env.scope x) (hs : σ[i]? = some (some v)) (r : Rp X.K M H v d)
    (hd : (x == ("__debug__" : Str)) = false := by decide) (hcd : (x == ("__classdict__" : Str)) = false := by decide) : PD X M (.Name x pos) σ H d :=
  ⟨fun H1 e1 _ Q q => ⟨_, pe_var hN hv hd hcd, v, hs, q v H1 (Evl.Ex.refl H1) (r.mono (fun _ z => z) e1)⟩⟩
theorem pd_int {i : Int} {j} : PD X M (.Constant (.int i) j pos) σ H (.int i) := ⟨fun H1 _ _ Q q => ⟨_, pe_int, q _ H1 (Evl.Ex.refl H1) (.int i)⟩⟩
theorem pd_bl {k : Bool} {j} : PD X M (.Constant (.bool k) j pos) σ H (.bool k) := ⟨fun H1 _ _ Q q => ⟨_, pe_bl, q _ H1 (Evl.Ex.refl H1) (.bl k)⟩⟩
theorem pd_non {j} : PD X M (.Constant .none j pos) σ H .none := ⟨fun H1 _ _ Q q => ⟨_, pe_non, q _ H1 (Evl.Ex.refl H1) .non⟩⟩
theorem pd_str {x : Str} {j} : PD X M (.Constant (.str x) j pos) σ H (.str x) := ⟨fun H1 _ _ Q q => ⟨_, pe_str, q _ H1 (Evl.Ex.refl H1) (.str x)⟩⟩
theorem pd_globI {x : Str} {i : Int} {t : Tok} (hg : Gl X x) (hm : X.mg x = some (.int i t)) (hd : (x == ("__debug__" : Str)) = false := by decide) : PD X M (.Name x pos) σ H (.int i) :=
  ⟨fun H1 _ _ Q q => ⟨_, pe_glob hg hm (v := .int i) ⟨t, rfl⟩ hd, q _ H1 (Evl.Ex.refl H1) (.int i)⟩⟩

/-! ### two operands -/
/-- an operator by values -/
def RD2 (X : Cx) (M : Addr → Prop) (r : R2) (da db d : PyData) : Prop :=
  ∀ x y H1, Rp X.K M H1 x da → Rp X.K M H1 y db → Alive M H1 → ∀ Q : VK, (∀ v H2, Evl.Ex H1 H2 → Rp X.K M H2 v d → Q v H2) → r x y H1 Q
theorem pd_binR {op : Operator} {r : R2} (ho : OpR X (binaryOp op) r) (hr : RD2 X M r da db d) (ha : PD X M a σ H da) (hb : PD X M b σ H db) : PD X M (.BinOp a op b pos) σ H d := ⟨fun H1 e1 al Q q =>
  ⟨_, pe_op ho wE.pe wE.pe, ha.run H1 e1 al _ fun x H2 x2 rx => hb.run H2 (e1.trans (.of x2)) (al.mono x2) _ fun y H3 x3 ry =>
    hr x y H3 (rx.mono (fun _ z => z) (.of x3)) ry ((al.mono x2).mono x3) Q fun v H4 x4 rv => q v H4 ((x2.trans x3).trans x4) rv⟩⟩
theorem pd_cmpR {op : CmpOp} {r : R2} (ho : OpR X (compareOp op) r) (hm : behindInMarks op b = false) (hr : RD2 X M r da db d) (ha : PD X M a σ H da) (hb : PD X M b σ H db) : PD X M (.Compare a [op] [b] pos) σ H d := ⟨fun H1 e1 al Q q =>
  ⟨_, pe_cmpR ho wE.pe wE.pe hm, ha.run H1 e1 al _ fun x H2 x2 rx => hb.run H2 (e1.trans (.of x2)) (al.mono x2) _ fun y H3 x3 ry =>
    hr x y H3 (rx.mono (fun _ z => z) (.of x3)) ry ((al.mono x2).mono x3) Q fun v H4 x4 rv => q v H4 ((x2.trans x3).trans x4) rv⟩⟩
theorem rd_I0 {g : Int → Int → Int} {i j : Int} : RD2 X M (rI0 fun i j => .int (g i j)) (.int i) (.int j) (.int (g i j)) := fun x y H1 rx ry _ Q q => by
  cases rx
  cases ry
  exact ⟨i, j, rfl, rfl, q _ H1 (Evl.Ex.refl H1) (.int _)⟩
theorem rd_I {C : Int → Int → Prop} {g : Int → Int → Int} {i j : Int} (hc : C i j) : RD2 X M (rI C fun i j => .int (g i j)) (.int i) (.int j) (.int (g i j)) := fun x y H1 rx ry _ Q q => by
  cases rx
  cases ry
  exact ⟨i, j, rfl, rfl, hc, q _ H1 (Evl.Ex.refl H1) (.int _)⟩
theorem rd_B0 {g : Int → Int → Bool} {i j : Int} : RD2 X M (rI0 fun i j => .bl (g i j)) (.int i) (.int j) (.bool (g i j)) := fun x y H1 rx ry _ Q q => by
  cases rx
  cases ry
  exact ⟨i, j, rfl, rfl, q _ H1 (Evl.Ex.refl H1) (.bl _)⟩
theorem pd_add {i j : Int} (ha : PD X M a σ H (.int i)) (hb : PD X M b σ H (.int j)) : PD X M (.BinOp a .Add b pos) σ H (.int (i + j)) := pd_binR op_add rd_I0 ha hb
theorem pd_sub {i j : Int} (ha : PD X M a σ H (.int i)) (hb : PD X M b σ H (.int j)) : PD X M (.BinOp a .Sub b pos) σ H (.int (i - j)) := pd_binR op_sub rd_I0 ha hb
theorem pd_mul {i j : Int} (ha : PD X M a σ H (.int i)) (hb : PD X M b σ H (.int j)) (hc : CMul i j) : PD X M (.BinOp a .Mult b pos) σ H (.int (i * j)) := pd_binR op_mul (rd_I hc) ha hb
theorem pd_lt {i j : Int} (ha : PD X M a σ H (.int i)) (hb : PD X M b σ H (.int j)) : PD X M (.Compare a [.Lt] [b] pos) σ H (.bool (decide (i < j))) := pd_cmpR op_lt (nomark _) rd_B0 ha hb
theorem pd_le {i j : Int} (ha : PD X M a σ H (.int i)) (hb : PD X M b σ H (.int j)) : PD X M (.Compare a [.LtE] [b] pos) σ H (.bool (decide (i ≤ j))) := pd_cmpR op_le (nomark _) rd_B0 ha hb
theorem pd_gt {i j : Int} (ha : PD X M a σ H (.int i)) (hb : PD X M b σ H (.int j)) : PD X M (.Compare a [.Gt] [b] pos) σ H (.bool (decide (j < i))) := pd_cmpR op_gt (nomark _) rd_B0 ha hb
theorem pd_ge {i j : Int} (ha : PD X M a σ H (.int i)) (hb : PD X M b σ H (.int j)) : PD X M (.Compare a [.GtE] [b] pos) σ H (.bool (decide (j ≤ i))) := pd_cmpR op_ge (nomark _) rd_B0 ha hb
end
end GV

namespace GV
open PySem PySem.Spec PyProof.Rows L2
section
variable {X : Cx} {M : Addr → Prop} {σ : St} {H H' : Hp} {a b c e : Expr} {da db d : PyData} {pos : Pos} {es : List Expr} {ds : List PyData}

/-! ### truth, and, or, not -/
theorem pd_and {k1 k2 : Bool} {rest : List Expr} (ha : PD X M a σ H (.bool k1)) (hb : k1 = true → PD X M (.BoolOp .And (b :: rest) pos) σ H (.bool k2)) : PD X M (.BoolOp .And (a :: b :: rest) pos) σ H (.bool (k1 && k2)) := .mk fun H1 e1 al Q q =>
  ⟨_, pe_and wE.pe wE.pe, ha.run H1 e1 al _ fun x H2 x2 rx => by
    cases rx
    refine ⟨k1, rfl, ?_⟩
    cases k1 with
    | true => exact (hb rfl).run H2 (e1.trans (.of x2)) (al.mono x2) Q fun v H3 x3 rv => q v H3 (x2.trans x3) rv
    | false => exact q _ H2 x2 (.bl _)⟩
theorem pd_or {k1 k2 : Bool} {rest : List Expr} (ha : PD X M a σ H (.bool k1)) (hb : k1 = false → PD X M (.BoolOp .Or (b :: rest) pos) σ H (.bool k2)) : PD X M (.BoolOp .Or (a :: b :: rest) pos) σ H (.bool (k1 || k2)) := .mk fun H1 e1 al Q q =>
  ⟨_, pe_or wE.pe wE.pe, ha.run H1 e1 al _ fun x H2 x2 rx => by
    cases rx
    refine ⟨k1, rfl, ?_⟩
    cases k1 with
    | false => exact (hb rfl).run H2 (e1.trans (.of x2)) (al.mono x2) Q fun v H3 x3 rv => q v H3 (x2.trans x3) rv
    | true => exact q _ H2 x2 (.bl _)⟩
theorem pd_one {op} (h : PD X M a σ H d) : PD X M (.BoolOp op [a] pos) σ H d := .mk fun H1 e1 al Q q => ⟨_, pe_one wE.pe, h.run H1 e1 al Q q⟩
theorem pd_not {k : Bool} (h : PD X M a σ H (.bool k)) : PD X M (.UnaryOp .Not a pos) σ H (.bool (!k)) := .mk fun H1 e1 al Q q =>
  ⟨_, pe_not wE.pe, h.run H1 e1 al _ fun x H2 x2 rx => by
    cases rx
    exact ⟨k, rfl, q _ H2 x2 (.bl _)⟩⟩
theorem td_val {k : Bool} (h : PD X M e σ H (.bool k)) (he : ∀ whole, isTrue e X.env whole = (do let v ← whole; standAt e.pos; holding [v] (truthy v)) := by intro _; rfl) : TD X M e σ H k := .mk fun H1 e1 al Q q =>
  ⟨_, pt_val wE.pe he, h.run H1 e1 al _ fun x H2 x2 rx => by
    cases rx
    exact ⟨k, rfl, q H2 x2⟩⟩
theorem td_not {k : Bool} (h : TD X M a σ H k) : TD X M (.UnaryOp .Not a pos) σ H (!k) := .mk fun H1 e1 al Q q => ⟨_, pt_not wT.pt, h.run H1 e1 al _ fun H2 x2 => q H2 x2⟩
/-- a chain of tests -/
structure WD (X : Cx) (M : Addr → Prop) (e : Expr) (σ : St) (H : Hp) (k : Bool) : Prop where
  ex : ∃ t, PW X e t ∧ ∀ H1, ExM M H H1 → Alive M H1 → ∀ Q : Bool → Hp → Prop, (∀ H2, Evl.Ex H1 H2 → Q k H2) → t σ H1 Q
theorem WD.td {k : Bool} (h : WD X M e σ H k) : TD X M e σ H k := .mk fun H1 e1 al Q q => let ⟨t, p, r⟩ := h.ex; ⟨t, p.pt, r H1 e1 al Q q⟩
theorem wd_and1 {k : Bool} (h : TD X M a σ H k) : WD X M (.BoolOp .And [a] pos) σ H k := .mk ⟨_, pw_and1 wT.pt, h.run⟩
theorem wd_or1 {k : Bool} (h : TD X M a σ H k) : WD X M (.BoolOp .Or [a] pos) σ H k := .mk ⟨_, pw_or1 wT.pt, h.run⟩
/-- the reading of a chain, of any of its ends -/
def wW (X : Cx) (e : Expr) : TT := fun σ H Q => ∃ t, PW X e t ∧ t σ H Q
theorem wW.pw {e : Expr} : PW X e (wW X e) := ⟨fun pins s σ H whole Q I ⟨_, h, q⟩ => h.run pins s σ H whole Q I q⟩
theorem wd_and {k1 k2 : Bool} {rest : List Expr} (ha : TD X M a σ H k1) (hb : k1 = true → WD X M (.BoolOp .And (b :: rest) pos) σ H k2) : WD X M (.BoolOp .And (a :: b :: rest) pos) σ H (k1 && k2) :=
  .mk ⟨_, pw_and wT.pt wW.pw, fun H1 e1 al Q q => ha.run H1 e1 al _ fun H2 x2 => by
    cases k1 with
    | true =>
      obtain ⟨t, p, r⟩ := (hb rfl).ex
      exact ⟨t, p, r H2 (e1.trans (.of x2)) (al.mono x2) Q fun H3 x3 => q H3 (x2.trans x3)⟩
    | false => exact q H2 x2⟩
theorem wd_or {k1 k2 : Bool} {rest : List Expr} (ha : TD X M a σ H k1) (hb : k1 = false → WD X M (.BoolOp .Or (b :: rest) pos) σ H k2) : WD X M (.BoolOp .Or (a :: b :: rest) pos) σ H (k1 || k2) :=
  .mk ⟨_, pw_or wT.pt wW.pw, fun H1 e1 al Q q => ha.run H1 e1 al _ fun H2 x2 => by
    cases k1 with
    | false =>
      obtain ⟨t, p, r⟩ := (hb rfl).ex
      exact ⟨t, p, r H2 (e1.trans (.of x2)) (al.mono x2) Q fun H3 x3 => q H3 (x2.trans x3)⟩
    | true => exact q H2 x2⟩
theorem pd_if {k : Bool} (ht : TD X M c σ H k) (ha : k = true → PD X M a σ H d) (hb : k = false → PD X M b σ H d) : PD X M (.IfExp c a b pos) σ H d := .mk fun H1 e1 al Q q =>
  ⟨_, pe_ifExp wT.pt wE.pe wE.pe, ht.run H1 e1 al _ fun H2 x2 => by
    cases k with
    | true => exact (ha rfl).run H2 (e1.trans (.of x2)) (al.mono x2) Q fun v H3 x3 rv => q v H3 (x2.trans x3) rv
    | false => exact (hb rfl).run H2 (e1.trans (.of x2)) (al.mono x2) Q fun v H3 x3 rv => q v H3 (x2.trans x3) rv⟩

/-! ### lists of parts, displays -/
theorem ad_nil : AD X M [] σ H [] := .mk fun H1 _ _ Q q => ⟨_, pa_nil, q [] H1 (Evl.Ex.refl H1) .nil⟩
theorem ad_cons (h : PD X M e σ H d) (hr : AD X M es σ H ds) (hs : starEach (e :: es) X.env = (false, eval e X.env) :: starEach es X.env := by rfl) : AD X M (e :: es) σ H (d :: ds) := .mk fun H1 e1 al Q q =>
  ⟨_, pa_cons wE.pe wA.pa hs, h.run H1 e1 al _ fun v H2 x2 rv => hr.run H2 (e1.trans (.of x2)) (al.mono x2) _ fun vs H3 x3 rvs =>
    q (v :: vs) H3 (x2.trans x3) (.cons (rv.mono (fun _ z => z) (.of x3)) rvs)⟩
theorem Rp.newT {p : Addr} {xs : List V} (al : Alive M H) (hp : H p = none) (r : RpAll X.K M H xs ds) : Rp X.K M (upd H p (.tup xs)) (.ref p) (.tuple ds) :=
  .tup (al.fresh hp) (.inl upd_same) (r.mono (fun _ z => z) (.of (Evl.Ex.new hp)))
theorem Rp.newL {p : Addr} {xs : List V} (al : Alive M H) (hp : H p = none) (r : RpAll X.K M H xs ds) : Rp X.K M (upd H p (.lst xs)) (.ref p) (.list ds) :=
  .lst (al.fresh hp) (.inl upd_same) (r.mono (fun _ z => z) (.of (Evl.Ex.new hp)))
theorem pd_tup {x1} (h : AD X M es σ H ds) (hl : ds.length ≤ 100000) : PD X M (.Tuple es x1 pos) σ H (.tuple ds) := .mk fun H1 e1 al Q q =>
  ⟨_, pe_tup wA.pa, h.run H1 e1 al _ fun vs H2 x2 r => ⟨by rw [r.length]; exact Evl.sz_of hl, fun p hp => q _ _ (x2.trans (Evl.Ex.new hp)) (.newT (al.mono x2) hp r)⟩⟩
/-- .. a new one -/
structure FD (X : Cx) (M : Addr → Prop) (e : Expr) (σ : St) (H : Hp) (ds : List PyData) : Prop where
  run : ∀ H1, ExM M H H1 → Alive M H1 → ∀ Q : VK, (∀ p vs H2, H1 p = none → Evl.Ex H1 H2 → H2 p = some (.lst vs) → RpAll X.K M H2 vs ds → Q (.ref p) H2) → wE X e σ H1 Q
theorem FD.mono (h : FD X M e σ H ds) (x : ExM M H H') : FD X M e σ H' ds := .mk fun H1 e1 al Q q => h.run H1 (x.trans e1) al Q q
theorem FD.pd (h : FD X M e σ H ds) : PD X M e σ H (.list ds) := .mk fun H1 e1 al Q q => h.run H1 e1 al Q fun p vs H2 hp x2 h2 r => q _ H2 x2 (.lst (al.fresh hp) (.inl h2) r)
theorem fd_lst (h : AD X M es σ H ds) (hl : ds.length ≤ 100000) : FD X M (.List es pos) σ H ds := .mk fun H1 e1 al Q q =>
  ⟨_, pe_lst wA.pa, h.run H1 e1 al _ fun vs H2 x2 r => ⟨by rw [r.length]; exact Evl.sz_of hl, fun p hp => q p vs _ (Evl.fresh_back x2 hp) (x2.trans (Evl.Ex.new hp)) upd_same (r.mono (fun _ z => z) (.of (Evl.Ex.new hp)))⟩⟩

/-! ### == and is -/
theorem pd_eq (hu : X.A.units + 64 < cLine) (ha : PD X M a σ H da) (hb : PD X M b σ H db) (sa : SeqAt.shaped da = true) (sb : SeqAt.shaped db = true) : PD X M (.Compare a [.Eq] [b] pos) σ H (.bool (PyData.eqv da db)) :=
  pd_cmpR (op_eqD hu) (nomark _) (fun x y H1 rx ry _ Q q => ⟨da, db, rx.dp, ry.dp, sa, sb, q _ H1 (Evl.Ex.refl H1) (.bl _)⟩) ha hb
theorem pd_ne (hu : X.A.units + 64 < cLine) (ha : PD X M a σ H da) (hb : PD X M b σ H db) (sa : SeqAt.shaped da = true) (sb : SeqAt.shaped db = true) : PD X M (.Compare a [.NotEq] [b] pos) σ H (.bool (!PyData.eqv da db)) :=
  pd_cmpR (op_neD hu) (nomark _) (fun x y H1 rx ry _ Q q => ⟨da, db, rx.dp, ry.dp, sa, sb, q _ H1 (Evl.Ex.refl H1) (.bl _)⟩) ha hb
def isNone : PyData → Bool
  | .none => true
  | _ => false
theorem Rp.isN {K : PySem.W.Frag} {x : V} (r : Rp K M H x d) : decide (x = .non) = isNone d := by
  cases r <;> rfl
theorem pd_isN {j p2} (ha : PD X M a σ H da) : PD X M (.Compare a [.Is] [.Constant .none j p2] pos) σ H (.bool (isNone da)) :=
  pd_cmpR op_isN (nomark _) (fun x y H1 rx ry _ Q q => by
    cases ry
    exact ⟨rfl, q _ H1 (Evl.Ex.refl H1) (by rw [rx.isN]; exact .bl _)⟩) ha pd_non
theorem pd_notN {j p2} (ha : PD X M a σ H da) : PD X M (.Compare a [.IsNot] [.Constant .none j p2] pos) σ H (.bool (!isNone da)) :=
  pd_cmpR op_notN (nomark _) (fun x y H1 rx ry _ Q q => by
    cases ry
    exact ⟨rfl, q _ H1 (Evl.Ex.refl H1) (by rw [rx.isN]; exact .bl _)⟩) ha pd_non

/-! ### items -/
def ixD : PyData → PyData → Option PyData
  | .list ds, .int i => atI ds i
  | .tuple ds, .int i => atI ds i
  | .str z, .int i => if z.length ≤ sizeLine then (atI z.cps.toList i).map fun c => .str ⟨#[c]⟩ else none
  | _, _ => none
theorem atI_rp {K : PySem.W.Frag} {xs : List V} {i : Int} (r : RpAll K M H xs ds) (h : atI ds i = some d) : ∃ v, atI xs i = some v ∧ Rp K M H v d := by
  unfold atI at h ⊢
  rw [r.length]
  cases e : ixN ds.length i with
  | none =>
    rw [e] at h
    cases h
  | some j =>
    rw [e] at h
    obtain ⟨v, h1, h2⟩ := r.get h
    exact ⟨v, h1, h2⟩
theorem pd_ix (ha : PD X M a σ H da) (hb : PD X M b σ H db) (h : ixD da db = some d) (hs : PlainIx b := by exact fun _ _ => rfl) : PD X M (.Subscript a b pos) σ H d := .mk fun H1 e1 al Q q =>
  ⟨_, pe_ix ix_seq wE.pe wE.pe hs, ha.run H1 e1 al _ fun x H2 x2 rx => hb.run H2 (e1.trans (.of x2)) (al.mono x2) _ fun y H3 x3 ry => by
    have rx' := rx.mono (fun _ z => z) (.of x3)
    have fin : ∀ v, Rp X.K M H3 v d → Q v H3 := fun v rv => q v H3 (x2.trans x3) rv
    cases ry with
    | int i =>
      cases rx' with
      | lst m hs rs =>
        obtain ⟨v, hv, rv⟩ := atI_rp rs h
        exact .inl ⟨_, _, i, v, rfl, rfl, .inl hs, hv, fin v rv⟩
      | tup m hs rs =>
        obtain ⟨v, hv, rv⟩ := atI_rp rs h
        exact .inr (.inl ⟨_, _, i, v, rfl, rfl, .inl hs, hv, fin v rv⟩)
      | str z =>
        simp only [ixD] at h
        split at h
        · rename_i hz
          cases e : atI z.cps.toList i with
          | none =>
            rw [e] at h
            cases h
          | some c =>
            rw [e] at h
            cases h
            exact .inr (.inr ⟨z, i, c, rfl, rfl, hz, e, fin _ (.str _)⟩)
        · cases h
      | _ => cases h
    | _ => cases da <;> cases h⟩

/-! ### own defs that leave all as it is -/
def PureR (K : PySem.W.Frag) (R : List PyData → PyData → Prop) : Sp := fun vs H Q _ => ∃ M ds d, Alive M H ∧ RpAll K M H vs ds ∧ R ds d ∧ ∀ v H', Evl.Ex H H' → Rp K M H' v d → Q v H'
theorem pd_call {R : List PyData → PyData → Prop} {CX : CXT} {E : XK} {k : Nat} {f : Addr} {fd : FuncData} {ps : List Str} {x : Str} {p : Pos} (F : FnOk X.prog X.w X.K X.mg X.base CX k f fd ps (PureR X.K R)) (hr : Room k X.A) (hg : Gl X x) (hm : X.mg x = some (.ref f)) (hk : PySem.W.keepIn X.K (.ref f) = true)
    (hb : Binds X.K fd ps []) (hx : Passes CX X E) (h : AD X M (e :: es) σ H ds) (hR : R ds d)
    (hdb : (x == ("__debug__" : Str)) = false := by decide) (he : starEach (e :: es) X.env = (false, eval e X.env) :: starEach es X.env := by rfl) (hpl : (backTo pos (starEach es X.env)).any (·.1) = false := by rfl) : PD X M (.Call (.Name x p) (e :: es) [] pos) σ H d := .mk fun H1 e1 al Q q =>
  ⟨_, pe_call F hr hg hm hk hb .nil hx wA.pa hdb he hpl, h.run H1 e1 al _ fun vs H2 x2 r => by
    rw [List.append_nil]
    exact ⟨M, ds, d, al.mono x2, r, hR, fun v H3 x3 rv => q v H3 (x2.trans x3) rv⟩⟩
end

/-! ### statements -/
section
variable {X : Cx} {M : Addr → Prop} {σ : St} {H : Hp} {c e : Expr} {d : PyData} {pos : Pos} {st : Stmt} {sts A B : List Stmt} {D : Ends}
theorem b_nil (h : D.nx σ H) : wB X [] D σ H := ⟨_, pss_nil, h⟩
theorem b_cons (h : wS X st { D with nx := wB X sts D } σ H) : wB X (st :: sts) D σ H := ⟨_, pss_cons wS.ps wB.ps, h⟩
theorem s_ret (al : Alive M H) (h : PD X M e σ H d) (q : ∀ v H2, Evl.Ex H H2 → Rp X.K M H2 v d → D.rt v H2) : wS X (.Return (some e) pos) D σ H := ⟨_, ps_ret wE.pe, h.run H (ExM.refl H) al _ q⟩
theorem s_retN (q : D.rt .non H) : wS X (.Return none pos) D σ H := ⟨_, ps_retN, q⟩
theorem s_if {k : Bool} (al : Alive M H) (h : TD X M c σ H k) (h1 : k = true → ∀ H2, Evl.Ex H H2 → wB X A D σ H2) (h2 : k = false → ∀ H2, Evl.Ex H H2 → wB X B D σ H2) : wS X (.If c A B pos) D σ H :=
  ⟨_, ps_if wT.pt wB.ps wB.ps, h.run H (ExM.refl H) al _ fun H2 x2 => by
    cases k with
    | true => exact h1 rfl H2 x2
    | false => exact h2 rfl H2 x2⟩
theorem s_set {i : Nat} {x : Str} {p : Pos} (al : Alive M H) (hN : X.N.Nodup) (hi : X.N[i]? = some x) (hx : Loc X.env.scope x) (h : PD X M e σ H d) (q : ∀ v H2, Evl.Ex H H2 → Rp X.K M H2 v d → D.nx (σ.set i (some v)) H2)
    (hs : swapsWith e (some (.Name x p)) pos.line X.env = pure false := by rfl) (hf : X.fn x = true ∨ X.env.scope.names.lookup x = some .local := by first | exact .inl rfl | exact .inr rfl | assumption) : wS X (.Assign [.Name x p] e pos) D σ H :=
  ⟨_, ps_set hN hi hx wE.pe hs hf, h.run H (ExM.refl H) al _ fun v H2 x2 r => q v H2 x2 r⟩
end
end GV

namespace GV
open PySem PySem.Spec PyProof.Rows L2
section
variable {X : Cx} {M : Addr → Prop} {σ : St} {H H' : Hp} {a b c e : Expr} {da db d : PyData} {pos : Pos} {es : List Expr} {ds : List PyData}

/-! ### more of ints -/
theorem pd_neg {i : Int} (ha : PD X M a σ H (.int i)) : PD X M (.UnaryOp .USub a pos) σ H (.int (-i)) := .mk fun H1 e1 al Q q =>
  ⟨_, pe_un un_neg wE.pe, ha.run H1 e1 al _ fun x H2 x2 rx => by
    cases rx
    exact ⟨i, rfl, q _ H2 x2 (.int _)⟩⟩
theorem pd_mulW {i j : Int} (ha : PD X M a σ H (.int i)) (hb : PD X M b σ H (.int j)) (hc : CMulW i j) : PD X M (.BinOp a .Mult b pos) σ H (.int (i * j)) := pd_binR op_mulW (rd_I hc) ha hb
theorem pd_div {i j : Int} (ha : PD X M a σ H (.int i)) (hb : PD X M b σ H (.int j)) (hc : CDivW i j) : PD X M (.BinOp a .FloorDiv b pos) σ H (.int (i / j)) := pd_binR op_fdivW (rd_I hc) ha hb
theorem pd_mod {i j : Int} (ha : PD X M a σ H (.int i)) (hb : PD X M b σ H (.int j)) (hc : 0 < j) : PD X M (.BinOp a .Mod b pos) σ H (.int (i % j)) := pd_binR op_mod (rd_I (C := fun _ j => 0 < j) hc) ha hb
theorem pd_pow {i j : Int} (ha : PD X M a σ H (.int i)) (hb : PD X M b σ H (.int j)) (hc : CPow i j) : PD X M (.BinOp a .Pow b pos) σ H (.int (i ^ j.toNat)) := pd_binR op_pow (rd_I hc) ha hb

/-! ### built-ins, by values -/
def RDn (X : Cx) (M : Addr → Prop) (r : List V → Hp → VK → Prop) (ds : List PyData) (d : PyData) : Prop :=
  ∀ vs H1, RpAll X.K M H1 vs ds → Alive M H1 → ∀ Q : VK, (∀ v H2, Evl.Ex H1 H2 → Rp X.K M H2 v d → Q v H2) → r vs H1 Q
def RFn (X : Cx) (M : Addr → Prop) (r : List V → Hp → VK → Prop) (ds es : List PyData) : Prop :=
  ∀ vs H1, RpAll X.K M H1 vs ds → Alive M H1 → ∀ Q : VK, (∀ p ws H2, H1 p = none → Evl.Ex H1 H2 → H2 p = some (.lst ws) → RpAll X.K M H2 ws es → Q (.ref p) H2) → r vs H1 Q
theorem pd_callB {id : String} {x : Str} {p : Pos} {r : List V → Hp → VK → Prop} (hc : CallR X (.builtin id) r) (hg : Gl X x) (hm : X.mg x = none) (hv : bootBuiltins x = some (.builtin id)) (h : AD X M (e :: es) σ H ds) (hr : RDn X M r ds d)
    (hn : x ≠ "__name__" := by decide) (hdb : (x == ("__debug__" : Str)) = false := by decide) (he : starEach (e :: es) X.env = (false, eval e X.env) :: starEach es X.env := by rfl) (hpl : (backTo pos (starEach es X.env)).any (·.1) = false := by rfl) :
    PD X M (.Call (.Name x p) (e :: es) [] pos) σ H d := .mk fun H1 e1 al Q q =>
  ⟨_, pe_callB hc hg hm hv wA.pa hn hdb he hpl, h.run H1 e1 al _ fun vs H2 x2 rs => hr vs H2 rs (al.mono x2) Q fun v H3 x3 rv => q v H3 (x2.trans x3) rv⟩
theorem pd_callTy {T : String} {x : Str} {p : Pos} {r : List V → Hp → VK → Prop} (hc : CallR X (.type T) r) (hg : Gl X x) (hm : X.mg x = none) (hv : bootBuiltins x = some (.type T)) (h : AD X M (e :: es) σ H ds) (hr : RDn X M r ds d)
    (hn : x ≠ "__name__" := by decide) (hdb : (x == ("__debug__" : Str)) = false := by decide) (he : starEach (e :: es) X.env = (false, eval e X.env) :: starEach es X.env := by rfl) (hpl : (backTo pos (starEach es X.env)).any (·.1) = false := by rfl) :
    PD X M (.Call (.Name x p) (e :: es) [] pos) σ H d := .mk fun H1 e1 al Q q =>
  ⟨_, pe_callTy hc hg hm hv wA.pa hn hdb he hpl, h.run H1 e1 al _ fun vs H2 x2 rs => hr vs H2 rs (al.mono x2) Q fun v H3 x3 rv => q v H3 (x2.trans x3) rv⟩
theorem fd_callTy {T : String} {x : Str} {p : Pos} {r : List V → Hp → VK → Prop} {fs : List PyData} (hc : CallR X (.type T) r) (hg : Gl X x) (hm : X.mg x = none) (hv : bootBuiltins x = some (.type T)) (h : AD X M (e :: es) σ H ds) (hr : RFn X M r ds fs)
    (hn : x ≠ "__name__" := by decide) (hdb : (x == ("__debug__" : Str)) = false := by decide) (he : starEach (e :: es) X.env = (false, eval e X.env) :: starEach es X.env := by rfl) (hpl : (backTo pos (starEach es X.env)).any (·.1) = false := by rfl) :
    FD X M (.Call (.Name x p) (e :: es) [] pos) σ H fs := .mk fun H1 e1 al Q q =>
  ⟨_, pe_callTy hc hg hm hv wA.pa hn hdb he hpl, h.run H1 e1 al _ fun vs H2 x2 rs => hr vs H2 rs (al.mono x2) Q fun p ws H3 hp x3 h3 rv => q p ws H3 (Evl.fresh_back x2 hp) (x2.trans x3) h3 rv⟩
theorem fd_callB {id : String} {x : Str} {p : Pos} {r : List V → Hp → VK → Prop} {fs : List PyData} (hc : CallR X (.builtin id) r) (hg : Gl X x) (hm : X.mg x = none) (hv : bootBuiltins x = some (.builtin id)) (h : AD X M (e :: es) σ H ds) (hr : RFn X M r ds fs)
    (hn : x ≠ "__name__" := by decide) (hdb : (x == ("__debug__" : Str)) = false := by decide) (he : starEach (e :: es) X.env = (false, eval e X.env) :: starEach es X.env := by rfl) (hpl : (backTo pos (starEach es X.env)).any (·.1) = false := by rfl) :
    FD X M (.Call (.Name x p) (e :: es) [] pos) σ H fs := .mk fun H1 e1 al Q q =>
  ⟨_, pe_callB hc hg hm hv wA.pa hn hdb he hpl, h.run H1 e1 al _ fun vs H2 x2 rs => hr vs H2 rs (al.mono x2) Q fun p ws H3 hp x3 h3 rv => q p ws H3 (Evl.fresh_back x2 hp) (x2.trans x3) h3 rv⟩
theorem rpa1 {vs : List V} {K : PySem.W.Frag} (r : RpAll K M H vs [d]) : ∃ v, vs = [v] ∧ Rp K M H v d := by
  obtain ⟨⟩ | ⟨r1, r⟩ := r
  obtain ⟨⟩ := r
  exact ⟨_, rfl, r1⟩
theorem rpa2 {vs : List V} {K : PySem.W.Frag} (r : RpAll K M H vs [da, db]) : ∃ v w, vs = [v, w] ∧ Rp K M H v da ∧ Rp K M H w db := by
  obtain ⟨⟩ | ⟨r1, r⟩ := r
  obtain ⟨v, rfl, r2⟩ := rpa1 r
  exact ⟨_, _, rfl, r1, r2⟩
/-- int(n), int(True) -/
theorem rn_int {i : Int} : RDn X M (fun xs H Q => (∃ i, xs = [.int i] ∧ Q (.int i) H) ∨ ∃ k, xs = [.bl k] ∧ Q (.int (if k then 1 else 0)) H) [.int i] (.int i) := fun vs H1 r _ Q q => by
  obtain ⟨v, rfl, r1⟩ := rpa1 r
  cases r1
  exact .inl ⟨i, rfl, q _ H1 (Evl.Ex.refl H1) (.int _)⟩
theorem rn_intB {k : Bool} : RDn X M (fun xs H Q => (∃ i, xs = [.int i] ∧ Q (.int i) H) ∨ ∃ k, xs = [.bl k] ∧ Q (.int (if k then 1 else 0)) H) [.bool k] (.int (if k then 1 else 0)) := fun vs H1 r _ Q q => by
  obtain ⟨v, rfl, r1⟩ := rpa1 r
  cases r1
  exact .inr ⟨k, rfl, q _ H1 (Evl.Ex.refl H1) (.int _)⟩
theorem rn_abs {i : Int} : RDn X M (fun xs H Q => ∃ i, xs = [.int i] ∧ Q (.int (if i < 0 then -i else i)) H) [.int i] (.int (if i < 0 then -i else i)) := fun vs H1 r _ Q q => by
  obtain ⟨v, rfl, r1⟩ := rpa1 r
  cases r1
  exact ⟨i, rfl, q _ H1 (Evl.Ex.refl H1) (.int _)⟩
theorem rn_max2 {i j : Int} : RDn X M (fun xs H Q => ∃ i j, xs = [.int i, .int j] ∧ Q (.int (if j > i then j else i)) H) [.int i, .int j] (.int (if j > i then j else i)) := fun vs H1 r _ Q q => by
  obtain ⟨v, w, rfl, r1, r2⟩ := rpa2 r
  cases r1
  cases r2
  exact ⟨i, j, rfl, q _ H1 (Evl.Ex.refl H1) (.int _)⟩
theorem rn_min2 {i j : Int} : RDn X M (fun xs H Q => ∃ i j, xs = [.int i, .int j] ∧ Q (.int (if j < i then j else i)) H) [.int i, .int j] (.int (if j < i then j else i)) := fun vs H1 r _ Q q => by
  obtain ⟨v, w, rfl, r1, r2⟩ := rpa2 r
  cases r1
  cases r2
  exact ⟨i, j, rfl, q _ H1 (Evl.Ex.refl H1) (.int _)⟩
/-- len -/
def lenD : PyData → Option Nat
  | .list ds => some ds.length
  | .tuple ds => some ds.length
  | .str z => if z.length ≤ sizeLine then some z.length else none
  | _ => none
theorem rn_len {n : Nat} (h : lenD d = some n) : RDn X M (fun xs H Q => ∃ x n, xs = [x] ∧ LenV X.K x H n ∧ Q (.int n) H) [d] (.int n) := fun vs H1 r _ Q q => by
  obtain ⟨v, rfl, r1⟩ := rpa1 r
  have fin := q (.int n) H1 (Evl.Ex.refl H1) (.int _)
  cases r1 with
  | lst m hs rs =>
    cases h
    exact ⟨_, _, rfl, .inl ⟨_, .inl hs, rs.length.symm⟩, fin⟩
  | tup m hs rs =>
    cases h
    exact ⟨_, _, rfl, .inr ⟨_, .inl hs, rs.length.symm⟩, fin⟩
  | str z =>
    simp only [lenD] at h
    split at h
    · rename_i hz
      cases h
      exact ⟨_, _, rfl, ⟨hz, rfl⟩, fin⟩
    · cases h
  | _ => cases h
/-- list(xs), tuple(xs) -/
def itemsD : PyData → Option (List PyData)
  | .list ds => some ds
  | .tuple ds => some ds
  | _ => none
theorem rf_list (h : itemsD d = some ds) : RFn X M (fun xs H Q => ∃ p ys, xs = [.ref p] ∧ (SqL X.K H p ys ∨ SqT X.K H p ys) ∧ ∀ l, H l = none → Q (.ref l) (upd H l (.lst ys))) [d] ds := fun vs H1 r al Q q => by
  obtain ⟨v, rfl, r1⟩ := rpa1 r
  cases r1 with
  | lst m hs rs =>
    cases h
    exact ⟨_, _, rfl, .inl (.inl hs), fun l hl => q l _ _ hl (Evl.Ex.new hl) upd_same (rs.mono (fun _ z => z) (.of (Evl.Ex.new hl)))⟩
  | tup m hs rs =>
    cases h
    exact ⟨_, _, rfl, .inr (.inl hs), fun l hl => q l _ _ hl (Evl.Ex.new hl) upd_same (rs.mono (fun _ z => z) (.of (Evl.Ex.new hl)))⟩
  | _ => cases h
theorem rn_tuple (h : itemsD d = some ds) : RDn X M (fun xs H Q => ∃ p ys, xs = [.ref p] ∧ ((SqL X.K H p ys ∧ ∀ l, H l = none → Q (.ref l) (upd H l (.tup ys))) ∨ (SqT X.K H p ys ∧ Q (.ref p) H))) [d] (.tuple ds) := fun vs H1 r al Q q => by
  obtain ⟨v, rfl, r1⟩ := rpa1 r
  cases r1 with
  | lst m hs rs =>
    cases h
    exact ⟨_, _, rfl, .inl ⟨.inl hs, fun l hl => q _ _ (Evl.Ex.new hl) (.newT (X := X) al hl rs)⟩⟩
  | tup m hs rs =>
    cases h
    exact ⟨_, _, rfl, .inr ⟨.inl hs, q _ H1 (Evl.Ex.refl H1) (.tup m hs rs)⟩⟩
  | _ => cases h

/-! ### slices of a list -/
theorem cutV_map (xs : List V) (lo hi : Option Int) : True := True.intro
def cutD (xs : List PyData) (lo hi : Option Int) : List PyData := (xs.drop (HT.sIx xs.length 0 lo)).take (HT.sIx xs.length xs.length hi - HT.sIx xs.length 0 lo)
theorem RpAll.take {K : PySem.W.Frag} : ∀ {vs : List V} {ds : List PyData} (n : Nat), RpAll K M H vs ds → RpAll K M H (vs.take n) (ds.take n)
  | _, _, 0, _ => .nil
  | _, _, n + 1, .nil => .nil
  | _, _, n + 1, .cons r rs => .cons r (RpAll.take n rs)
theorem RpAll.drop {K : PySem.W.Frag} : ∀ {vs : List V} {ds : List PyData} (n : Nat), RpAll K M H vs ds → RpAll K M H (vs.drop n) (ds.drop n)
  | _, _, 0, r => r
  | _, _, n + 1, .nil => .nil
  | _, _, n + 1, .cons r rs => RpAll.drop n rs
theorem RpAll.cut {K : PySem.W.Frag} {vs : List V} {ds : List PyData} (lo hi : Option Int) (r : RpAll K M H vs ds) : RpAll K M H (cutV vs lo hi) (cutD ds lo hi) := by
  unfold cutV cutD
  rw [r.length]
  exact (r.drop _).take _
/-- an optional part of a slice -/
structure OD (X : Cx) (M : Addr → Prop) (e : Option Expr) (σ : St) (H : Hp) (o : Option Int) : Prop where
  ex : ∃ t, PO X e t ∧ ∀ H1, ExM M H H1 → Alive M H1 → ∀ Q : Option Int → Hp → Prop, (∀ H2, Evl.Ex H1 H2 → Q o H2) → t σ H1 Q
theorem od_none : OD X M none σ H none := ⟨_, po_none, fun H1 _ _ Q q => q H1 (Evl.Ex.refl H1)⟩
theorem od_some {i : Int} (h : PD X M e σ H (.int i)) : OD X M (some e) σ H (some i) := ⟨_, po_some wE.pe, fun H1 e1 al Q q => h.run H1 e1 al _ fun x H2 x2 r => by
  cases r
  exact ⟨i, rfl, q H2 x2⟩⟩
theorem fd_slice {lo hi : Option Expr} {l u : Option Int} {p2 : Pos} (h : PD X M e σ H (.list ds)) (hl : OD X M lo σ H l) (hu : OD X M hi σ H u) : FD X M (.Subscript e (.Slice lo hi none p2) pos) σ H (cutD ds l u) := by
  obtain ⟨tl, pl, rl⟩ := hl.ex
  obtain ⟨tu, pu, ru⟩ := hu.ex
  refine .mk fun H1 e1 al Q q => ⟨_, pe_slice sl_list wE.pe pl pu, h.run H1 e1 al _ fun x H2 x2 r => ?_⟩
  refine rl H2 (e1.trans (.of x2)) (al.mono x2) _ fun H3 x3 => ru H3 ((e1.trans (.of x2)).trans (.of x3)) ((al.mono x2).mono x3) _ fun H4 x4 => ?_
  have r4 := r.mono (fun _ z => z) (.of (x3.trans x4))
  cases r4 with
  | lst m hs rs =>
    exact ⟨_, _, rfl, .inl hs, fun p hp => q p _ _ (Evl.fresh_back (x2.trans (x3.trans x4)) hp) ((x2.trans (x3.trans x4)).trans (Evl.Ex.new hp)) upd_same ((rs.cut l u).mono (fun _ z => z) (.of (Evl.Ex.new hp)))⟩

/-! ### list + list -/
def rCatR : R2 := fun x y H Q => ∃ l b xs zs, x = .ref l ∧ y = .ref b ∧ Rd H l (.lst xs) ∧ Rd H b (.lst zs) ∧ xs.length + zs.length ≤ sizeLine ∧ ∀ p, H p = none → Q (.ref p) (upd H p (.lst (xs ++ zs)))
theorem op_catR : OpR X (binaryOp .Add) rCatR := by
  intro pins s σ H x y v u Q I rx ry h
  obtain ⟨l, b, xs, zs, rfl, rfl, hH, hB, hz, q⟩ := h
  cases rx
  cases ry
  obtain ⟨z, its, n, r, e⟩ := hH.ok I.hok
  obtain ⟨z2, its2, n2, r2, e2⟩ := hB.ok I.hok
  have hl := r.length
  have hl2 := r2.length
  refine PySem.P.add_list e e2 ?_ (by rw [List.size_toArray, List.size_toArray]; omega)
  have ea : its.toArray ++ its2.toArray = (its ++ its2).toArray := by simp
  rw [ea]
  exact ⟨.ref _, _, I.lnew (t' := s.toks) (r.append r2) (by rw [List.length_append]; omega), rfl, q _ I.fresh⟩
theorem fd_cat {es fs : List PyData} (ha : PD X M a σ H (.list es)) (hb : PD X M b σ H (.list fs)) (hl : es.length + fs.length ≤ 100000) : FD X M (.BinOp a .Add b pos) σ H (es ++ fs) := .mk fun H1 e1 al Q q =>
  ⟨_, pe_op op_catR wE.pe wE.pe, ha.run H1 e1 al _ fun x H2 x2 rx => hb.run H2 (e1.trans (.of x2)) (al.mono x2) _ fun y H3 x3 ry => by
    have rx' := rx.mono (fun _ z => z) (.of x3)
    cases rx' with
    | lst m1 h1 r1 =>
      cases ry with
      | lst m2 h2 r2 =>
        exact ⟨_, _, _, _, rfl, rfl, h1, h2, by rw [r1.length, r2.length]; exact Evl.sz_of hl, fun p hp => q p _ _ (Evl.fresh_back (x2.trans x3) hp) ((x2.trans x3).trans (Evl.Ex.new hp)) upd_same
          ((r1.append r2).mono (fun _ z => z) (.of (Evl.Ex.new hp)))⟩⟩
end
end GV

namespace GV
open PySem PySem.Spec PyProof.Rows L2

/-! ### what is walked -/
/-- from H0 on the iterator gives these data, one after another -/
structure Wk (K : PySem.W.Frag) (M : Addr → Prop) (J : It) (H0 : Hp) (ds : List PyData) : Prop where
  go : ∀ M' i H, (∀ a, M' a → M a ∨ H0 a = none) → ExM M' H0 H → i < ds.length → J.go i H
  stop : ∀ M' H, (∀ a, M' a → M a ∨ H0 a = none) → ExM M' H0 H → J.stop ds.length H
  yld : ∀ M' i H x H', (∀ a, M' a → M a ∨ H0 a = none) → ExM M' H0 H → Alive M' H → J.yld i H x H' → Evl.Ex H H' ∧ ∀ d, ds[i]? = some d → Rp K M' H' x d
structure Src (X : Cx) (M : Addr → Prop) (tg iter : Expr) (σ : St) (H : Hp) (ds : List PyData) : Prop where
  ex : ∃ wi, PI X tg iter wi ∧ ∀ H1, ExM M H H1 → Alive M H1 → ∀ R, (∀ J H2, Evl.Ex H1 H2 → Wk X.K M J H2 ds → R J H2) → wi σ H1 R
section
variable {X : Cx} {K : PySem.W.Frag} {M : Addr → Prop} {σ : St} {H H' : Hp} {a b c e tg iter : Expr} {da db d : PyData} {pos : Pos} {es : List Expr} {ds : List PyData}
theorem rd_inj {a : Addr} {u w : HO} (h : Rd H a u) (h' : H a = some w ∨ ∃ o, H a = some (.frz o w)) (hf : ∀ o z, u ≠ .frz o z) (hf' : ∀ o z, w ≠ .frz o z) : u = w := by
  rcases h with h | ⟨o, h⟩ <;> rcases h' with h' | ⟨o', h'⟩ <;> rw [h] at h' <;> cases h'
  · rfl
  · exact absurd rfl (hf _ _)
  · exact absurd rfl (hf' _ _)
  · rfl
theorem wk_list {a : Addr} {xs : List V} (m : ¬ M a) (h : Rd H a (.lst xs)) (r : RpAll K M H xs ds) : Wk K M (Itl K a) H ds := by
  have nm : ∀ M' : Addr → Prop, (∀ a, M' a → M a ∨ H a = none) → ¬ M' a := fun M' hm z => (hm a z).elim m (Rd.there h)
  have at_ : ∀ (M' : Addr → Prop) (H' : Hp), (∀ a, M' a → M a ∨ H a = none) → ExM M' H H' → Rd H' a (.lst xs) := fun M' H' hm e => Rd.exM (M := M') h (nm M' hm) e
  refine ⟨fun M' i H' hm e hi => ?_, fun M' H' hm e => ?_, fun M' i H' x H'' hm e al y => ?_⟩
  · have hx : i < xs.length := by rw [r.length]; exact hi
    exact ⟨xs, xs[i], .inl (at_ M' H' hm e), List.getElem?_eq_getElem hx⟩
  · exact ⟨xs, .inl (at_ M' H' hm e), by rw [r.length]; exact Nat.le_refl _⟩
  · obtain ⟨rfl, y⟩ := y
    refine ⟨Evl.Ex.refl _, fun d hd => ?_⟩
    obtain ⟨v, hv, rv⟩ := r.get hd
    have q := y xs (.inl (at_ M' _ hm e))
    rw [hv] at q
    cases q
    exact (rv.wide hm).mono (fun _ z => z) e
theorem wk_tup {a : Addr} {xs : List V} (m : ¬ M a) (h : Rd H a (.tup xs)) (r : RpAll K M H xs ds) : Wk K M (Itt K a) H ds := by
  have nm : ∀ M' : Addr → Prop, (∀ a, M' a → M a ∨ H a = none) → ¬ M' a := fun M' hm z => (hm a z).elim m (Rd.there h)
  have at_ : ∀ (M' : Addr → Prop) (H' : Hp), (∀ a, M' a → M a ∨ H a = none) → ExM M' H H' → Rd H' a (.tup xs) := fun M' H' hm e => Rd.exT (M := M') h (nm M' hm) e
  refine ⟨fun M' i H' hm e hi => ?_, fun M' H' hm e => ?_, fun M' i H' x H'' hm e al y => ?_⟩
  · have hx : i < xs.length := by rw [r.length]; exact hi
    exact ⟨xs, xs[i], .inl (at_ M' H' hm e), List.getElem?_eq_getElem hx⟩
  · exact ⟨xs, .inl (at_ M' H' hm e), by rw [r.length]; exact Nat.le_refl _⟩
  · obtain ⟨rfl, y⟩ := y
    refine ⟨Evl.Ex.refl _, fun d hd => ?_⟩
    obtain ⟨v, hv, rv⟩ := r.get hd
    have q := y xs (.inl (at_ M' _ hm e))
    rw [hv] at q
    cases q
    exact (rv.wide hm).mono (fun _ z => z) e
theorem wk_range (lo : Int) (n : Nat) : Wk K M (Itr lo n) H ((List.range n).map fun i => PyData.int (lo + (i : Nat))) := by
  refine ⟨fun M' i H' hm e hi => ?_, fun M' H' hm e => ?_, fun M' i H' x H'' hm e al y => ?_⟩
  · rw [List.length_map, List.length_range] at hi
    exact hi
  · rw [List.length_map, List.length_range]
    exact Nat.le_refl _
  · obtain ⟨rfl, rfl⟩ := y
    refine ⟨Evl.Ex.refl _, fun d hd => ?_⟩
    rw [List.getElem?_map] at hd
    obtain ⟨j, hj, rfl⟩ := Option.map_eq_some_iff.mp hd
    obtain ⟨h1, h2⟩ := List.getElem?_eq_some_iff.mp hj
    rw [List.getElem_range] at h2
    subst h2
    exact .int _
def enumD (ds : List PyData) : List PyData := ds.zipIdx.map fun p => .tuple [.int (p.2 : Nat), p.1]
theorem enumD_get {i : Nat} {d : PyData} (h : (enumD ds)[i]? = some d) : ∃ e, ds[i]? = some e ∧ d = .tuple [.int (i : Nat), e] := by
  unfold enumD at h
  rw [List.getElem?_map] at h
  obtain ⟨p, hp, rfl⟩ := Option.map_eq_some_iff.mp h
  rw [List.getElem?_zipIdx] at hp
  obtain ⟨e, he, rfl⟩ := Option.map_eq_some_iff.mp hp
  exact ⟨e, he, by simp⟩
theorem enumD_length : (enumD ds).length = ds.length := by
  unfold enumD
  rw [List.length_map, List.length_zipIdx]
theorem wk_enum {a : Addr} {xs : List V} (m : ¬ M a) (h : Rd H a (.lst xs)) (r : RpAll K M H xs ds) : Wk K M (Ite K a) H (enumD ds) := by
  have nm : ∀ M' : Addr → Prop, (∀ a, M' a → M a ∨ H a = none) → ¬ M' a := fun M' hm z => (hm a z).elim m (Rd.there h)
  have at_ : ∀ (M' : Addr → Prop) (H' : Hp), (∀ a, M' a → M a ∨ H a = none) → ExM M' H H' → Rd H' a (.lst xs) := fun M' H' hm e => Rd.exM (M := M') h (nm M' hm) e
  refine ⟨fun M' i H' hm e hi => ?_, fun M' H' hm e => ?_, fun M' i H' x H'' hm e al y => ?_⟩
  · have hx : i < xs.length := by rw [r.length, ← enumD_length]; exact hi
    exact ⟨xs, xs[i], .inl (at_ M' H' hm e), List.getElem?_eq_getElem hx⟩
  · exact ⟨xs, .inl (at_ M' H' hm e), by rw [r.length, enumD_length]; exact Nat.le_refl _⟩
  · obtain ⟨T, z, rfl, hT, rfl, y⟩ := y
    refine ⟨Evl.Ex.new hT, fun d hd => ?_⟩
    obtain ⟨e', he, rfl⟩ := enumD_get hd
    obtain ⟨v, hv, rv⟩ := r.get he
    have q := y xs (.inl (at_ M' _ hm e))
    rw [hv] at q
    cases q
    exact .tup (al.fresh hT) (.inl upd_same) (.cons (.int _) (.cons (((rv.wide hm).mono (fun _ z => z) e).mono (fun _ z => z) (.of (Evl.Ex.new hT))) .nil))
theorem src_list (h : PD X M iter σ H (.list ds)) : Src X M tg iter σ H ds := ⟨_, pi_list wE.pe, fun H1 e1 al R q => h.run H1 e1 al _ fun v H2 x2 r => by
  cases r with
  | lst m hr rs => exact ⟨_, rfl, ⟨_, .inl hr⟩, q _ H2 x2 (wk_list m hr rs)⟩⟩
theorem src_tup (h : PD X M iter σ H (.tuple ds)) : Src X M tg iter σ H ds := ⟨_, pi_tup wE.pe, fun H1 e1 al R q => h.run H1 e1 al _ fun v H2 x2 r => by
  cases r with
  | tup m hr rs => exact ⟨_, rfl, ⟨_, .inl hr⟩, q _ H2 x2 (wk_tup m hr rs)⟩⟩
theorem src_enum {p tpos : Pos} {elts : List Expr} {kk : Nat} (hg : Gl X "enumerate") (hm : X.mg "enumerate" = none) (h : PD X M e σ H (.list ds)) (hs : starEach [e] X.env = [(false, eval e X.env)] := by rfl)
    (hs' : starEach (e :: []) X.env = (false, eval e X.env) :: starEach [] X.env := by rfl) : Src X M (.Tuple elts kk tpos) (.Call (.Name "enumerate" p) [e] [] pos) σ H (enumD ds) :=
  ⟨_, pi_enum hg hm wA.pa hs, fun H1 e1 al R q => (ad_cons h ad_nil hs').run H1 e1 al _ fun vs H2 x2 rs => by
    obtain ⟨v, rfl, r⟩ := rpa1 rs
    cases r with
    | lst m hr rr => exact ⟨_, _, rfl, .inl hr, q _ H2 x2 (wk_enum m hr rr)⟩⟩
theorem src_range1 {p : Pos} {j : Int} (hg : Gl X "range") (hm : X.mg "range" = none) (h : PD X M e σ H (.int j)) (h1 : -(2 ^ 62) ≤ j) (h2 : j < 2 ^ 62) (hs : starEach [e] X.env = [(false, eval e X.env)] := by rfl)
    (hs' : starEach (e :: []) X.env = (false, eval e X.env) :: starEach [] X.env := by rfl) : Src X M tg (.Call (.Name "range" p) [e] [] pos) σ H ((List.range j.toNat).map fun i => PyData.int (0 + (i : Nat))) :=
  ⟨_, pi_range1 hg hm wA.pa hs, fun H1 e1 al R q => (ad_cons h ad_nil hs').run H1 e1 al _ fun vs H2 x2 rs => by
    obtain ⟨v, rfl, r⟩ := rpa1 rs
    cases r
    exact ⟨j, rfl, h1, h2, q _ H2 x2 (wk_range 0 j.toNat)⟩⟩
theorem src_range2 {p : Pos} {a b : Expr} {i j : Int} (hg : Gl X "range") (hm : X.mg "range" = none) (ha : PD X M a σ H (.int i)) (hb : PD X M b σ H (.int j)) (h1 : -(2 ^ 62) ≤ i ∧ i < 2 ^ 62) (h2 : -(2 ^ 62) ≤ j ∧ j < 2 ^ 62)
    (hs : starEach [a, b] X.env = [(false, eval a X.env), (false, eval b X.env)] := by rfl) (hs2 : starEach [b] X.env = [(false, eval b X.env)] := by rfl)
    (hsa : starEach (a :: [b]) X.env = (false, eval a X.env) :: starEach [b] X.env := by rfl) (hsb : starEach (b :: []) X.env = (false, eval b X.env) :: starEach [] X.env := by rfl) :
    Src X M tg (.Call (.Name "range" p) [a, b] [] pos) σ H ((List.range (j - i).toNat).map fun k => PyData.int (i + (k : Nat))) :=
  ⟨_, pi_range2 hg hm wA.pa hs hs2, fun H1 e1 al R q => (ad_cons ha (ad_cons hb ad_nil hsb) hsa).run H1 e1 al _ fun vs H2 x2 rs => by
    obtain ⟨v, w, rfl, r1, r2⟩ := rpa2 rs
    cases r1
    cases r2
    exact ⟨i, j, rfl, ⟨h1.1, h1.2, h2.1, h2.2⟩, q _ H2 x2 (wk_range i (j - i).toNat)⟩⟩

/-! ### targets: a name, two names -/
inductive Tg where
  | one (i : Nat)
  | two (i j : Nat)
def Tg.g (K : PySem.W.Frag) : Tg → TG
  | .one i => gName i
  | .two i j => gTup K 2 (gCons (gName i) (gCons (gName j) gNil))
def Tg.Ok (K : PySem.W.Frag) (M : Addr → Prop) (H : Hp) (d : PyData) (σ : St) : Tg → St → Prop
  | .one i, σ' => ∃ v, Rp K M H v d ∧ σ' = σ.set i (some v)
  | .two i j, σ' => ∃ da db v w, d = .tuple [da, db] ∧ Rp K M H v da ∧ Rp K M H w db ∧ σ' = (σ.set i (some v)).set j (some w)
def Tg.Fits : Tg → PyData → Prop
  | .one _, _ => True
  | .two _ _, d => ∃ da db, d = .tuple [da, db]
theorem Tg.run {t : Tg} {v : V} {Q : St → Hp → Prop} (f : t.Fits d) (r : Rp K M H v d) (q : ∀ σ', t.Ok K M H d σ σ' → Q σ' H) : t.g K v σ H Q := by
  cases t with
  | one i => exact q _ ⟨v, r, rfl⟩
  | two i j =>
    obtain ⟨da, db, rfl⟩ := f
    cases r with
    | tup m h rs =>
      obtain ⟨v1, w1, rfl, r1, r2⟩ := rpa2 rs
      exact ⟨_, _, rfl, .inl h, rfl, v1, [w1], rfl, w1, [], rfl, rfl, q _ ⟨da, db, v1, w1, rfl, r1, r2, rfl⟩⟩

/-! ### for -/
theorem s_for {t : Tg} {body : List Stmt} {D : Ends} (hp : PassesOwn (model X.prog X.w) X.A X.env X.xe) (hc : X.calm = true) (hi : Src X M tg iter σ H ds) (hg : PG X tg (t.g X.K)) (al : Alive M H) (J : Hp → Nat → St → Hp → Prop)
    (h0 : ∀ H1, Evl.Ex H H1 → J H1 0 σ H1) (hk : ∀ H1 i σ' H', Evl.Ex H H1 → J H1 i σ' H' → ExM M H1 H' ∧ Alive M H') (hf : ∀ d ∈ ds, t.Fits d)
    (ht : ∀ H1 i d σ' H' H2 σ2, Evl.Ex H H1 → ds[i]? = some d → J H1 i σ' H' → Evl.Ex H' H2 → t.Ok X.K M H2 d σ' σ2 → wB X body { D with nx := J H1 (i + 1), ct := J H1 (i + 1), bk := D.nx } σ2 H2)
    (hd : ∀ H1 σ' H', Evl.Ex H H1 → J H1 ds.length σ' H' → D.nx σ' H') (hs : ∀ x, foldedSetIterable iter X.env x = pure x := by intro _; rfl) : wS X (.For tg iter body [] pos) D σ H := by
  obtain ⟨wi, pi, run⟩ := hi.ex
  refine ⟨_, ps_for hp hc pi hg wB.ps hs, run H (ExM.refl H) al _ fun It H1 x1 wk => ?_⟩
  refine ⟨fun i m σ' H' => m = ds.length - i ∧ i ≤ ds.length ∧ J H1 i σ' H', ⟨ds.length, rfl, Nat.zero_le _, h0 H1 x1⟩, ?_⟩
  rintro i m σ' H' ⟨rfl, hi', j⟩
  obtain ⟨e, al'⟩ := hk H1 i σ' H' x1 j
  by_cases hlt : i < ds.length
  · refine .inr ⟨wk.go M i H' (fun _ z => .inl z) e hlt, J H1 (i + 1), fun σ2 H2 j2 => ⟨ds.length - (i + 1), by omega, rfl, hlt, j2⟩, fun x H2 y => ?_⟩
    obtain ⟨x2, r⟩ := wk.yld M i H' x H2 (fun _ z => .inl z) e al' y
    have hd' : ds[i]? = some ds[i] := List.getElem?_eq_getElem hlt
    exact Tg.run (hf _ (List.getElem_mem hlt)) (r _ hd') fun σ2 ok => ht H1 i _ σ' H' H2 σ2 x1 hd' j x2 ok
  · have e2 : i = ds.length := by omega
    subst e2
    exact .inl ⟨wk.stop M H' (fun _ z => .inl z) e, hd H1 σ' H' x1 j⟩

/-! ### [elt for target in iter if ..] -/
def wTs (X : Cx) (ifs : List Expr) : TT := fun σ H Q => ∃ t, PTs X ifs t ∧ t σ H Q
theorem wTs.pts {ifs : List Expr} : PTs X ifs (wTs X ifs) := ⟨fun pins s σ H Q I ⟨_, h, q⟩ => h.run pins s σ H Q I q⟩
/-- the tests' answer -/
structure TsD (X : Cx) (M : Addr → Prop) (ifs : List Expr) (σ : St) (H : Hp) (k : Bool) : Prop where
  run : ∀ H1, ExM M H H1 → Alive M H1 → ∀ Q : Bool → Hp → Prop, (∀ H2, Evl.Ex H1 H2 → Q k H2) → wTs X ifs σ H1 Q
theorem tsd_nil : TsD X M [] σ H true := ⟨fun H1 _ _ Q q => ⟨_, pts_nil, q H1 (Evl.Ex.refl H1)⟩⟩
theorem tsd_one {k : Bool} (h : TD X M c σ H k) : TsD X M [c] σ H k := ⟨fun H1 e1 al Q q => ⟨_, pts_one wT.pt, h.run H1 e1 al Q q⟩⟩
abbrev Cx.lc (X : Cx) (s : Shared) (H : Hp) (scope : Scope) (C : Addr) (cl : List (Str × Addr)) (fp : List Addr) : Cx := X.blk s H scope (compEnvC scope cl C X.env) fp
theorem lc_core {t : Tg} {elt : Expr} {ifs : List Expr} {scope : Scope} {own : List (Str × Nat)} (hc : X.calm = true) (hN : X.N.Nodup) (hi : Src X M tg iter σ H ds) (ok : BlkOk X.N X.env.scope scope own)
    (hg : ∀ s H C cl fp, PG (Cx.lc X s H scope C cl fp) tg (t.g X.K)) (hf : ∀ d ∈ ds, t.Fits d) (hw : ∀ M H d σ', t.Ok X.K M H d (wipe σ (own.map (·.2))) σ' → wipe σ' (own.map (·.2)) = wipe σ (own.map (·.2)))
    (p : PyData → Bool) (f : PyData → PyData) (hl : ds.length ≤ 100000)
    (body : ∀ s0 H0 C cl fp M' H' d σ', (∀ a, M a → M' a) → (∀ v e, Rp X.K M H v e → Rp X.K M' H' v e) → d ∈ ds → t.Ok X.K M' H' d (wipe σ (own.map (·.2))) σ' →
      TsD (Cx.lc X s0 H0 scope C cl fp) M' ifs σ' H' (p d) ∧ (p d = true → PD (Cx.lc X s0 H0 scope C cl fp) M' elt σ' H' (f d))) :
    ∃ wi, PI X tg iter wi ∧ ∀ H1, ExM M H H1 → Alive M H1 → ∀ Q : VK, (∀ l ws H2, H1 l = none → Evl.Ex H1 H2 → H2 l = some (.lst ws) → RpAll X.K M H2 ws ((ds.filter p).map f) → Q (.ref l) H2) →
      tLc wi (t.g X.K) (fun σ H Q => ∀ s0 H0 C cl fp, wTs (Cx.lc X s0 H0 scope C cl fp) ifs σ H Q) (fun σ H Q => ∀ s0 H0 C cl fp, wE (Cx.lc X s0 H0 scope C cl fp) elt σ H Q) (own.map (·.2)) σ H1 Q := by
  obtain ⟨wi, pi, run⟩ := hi.ex
  refine ⟨wi, pi, fun H1 e1 al Q q => ?_⟩
  refine run H1 e1 al _ fun It Hs xs wk D hD => ?_
  have alS := al.mono xs
  -- D is mutable meanwhile
  let M' : Addr → Prop := fun a => M a ∨ a = D
  have hm : ∀ a, M' a → M a ∨ Hs a = none := fun a z => z.elim .inl fun e => .inr (by rw [e]; exact hD)
  have al2 : ∀ H', Evl.Ex Hs H' → (∃ acc, H' D = some (.lst acc)) → Alive M' H' := fun H' e ⟨acc, h⟩ a z => by
    rcases z with z | z
    · exact (alS.mono e) a z
    · subst z
      exact ⟨_, h⟩
  refine ⟨fun i m H' => m = ds.length - i ∧ i ≤ ds.length ∧ Evl.Ex Hs H' ∧ ∃ acc, H' D = some (.lst acc) ∧ acc.length ≤ i ∧ RpAll X.K M' H' acc (((ds.take i).filter p).map f), ⟨ds.length, rfl, Nat.zero_le _, Evl.Ex.new hD, [], upd_same, Nat.le_refl _, by simpa using RpAll.nil⟩, ?_⟩
  rintro i m H' ⟨rfl, hi', x, acc, hacc, hlen, racc⟩
  have eM : ExM M' Hs H' := .of x
  have al' := al2 H' x ⟨acc, hacc⟩
  by_cases hlt : i < ds.length
  · refine .inr ⟨wk.go M' i H' hm eM hlt, fun H2 => Evl.Ex Hs H2 ∧ ∃ acc, H2 D = some (.lst acc) ∧ acc.length ≤ i + 1 ∧ RpAll X.K M' H2 acc (((ds.take (i + 1)).filter p).map f), fun H2 ⟨a1, a2⟩ => ⟨ds.length - (i + 1), by omega, rfl, hlt, a1, a2⟩, fun v H2 y => ?_⟩
    obtain ⟨x2, r⟩ := wk.yld M' i H' v H2 hm eM al' y
    have hd' : ds[i]? = some ds[i] := List.getElem?_eq_getElem hlt
    have hmem := List.getElem_mem hlt
    have hacc2 : H2 D = some (.lst acc) := x2 _ _ hacc
    have lift : ∀ v e, Rp X.K M H v e → Rp X.K M' H2 v e := fun v e rv => ((rv.mono (fun _ z => z) (e1.trans (.of xs))).wide hm).mono (fun _ z => z) (.of (x.trans x2))
    have al3 := al2 H2 (x.trans x2) ⟨acc, hacc2⟩
    refine Tg.run (hf _ hmem) (r _ hd') fun σ2 okk => ⟨hw _ _ _ _ okk, ?_⟩
    have all := fun s0 H0 C cl fp => body s0 H0 C cl fp M' H2 ds[i] σ2 (fun _ z => .inl z) lift hmem okk
    -- the test
    have tk : (ds.take (i + 1)).filter p = (ds.take i).filter p ++ (if p ds[i] = true then [ds[i]] else []) := by
      rw [List.take_add_one, hd', List.filter_append]
      simp only [Option.toList_some, List.filter_cons, List.filter_nil]
    have fin : ∀ b, b = p ds[i] → ∀ H3, Evl.Ex H2 H3 → (if b = true then (∀ s0 H0 C cl fp, wE (Cx.lc X s0 H0 scope C cl fp) elt σ2 H3 fun y H4 => ∃ acc, H4 D = some (.lst acc) ∧ acc.length < sizeLine ∧
        (Evl.Ex Hs (upd H4 D (.lst (acc ++ [y]))) ∧ ∃ acc', (upd H4 D (.lst (acc ++ [y]))) D = some (.lst acc') ∧ acc'.length ≤ i + 1 ∧ RpAll X.K M' (upd H4 D (.lst (acc ++ [y]))) acc' (((ds.take (i + 1)).filter p).map f)))
        else (Evl.Ex Hs H3 ∧ ∃ acc, H3 D = some (.lst acc) ∧ acc.length ≤ i + 1 ∧ RpAll X.K M' H3 acc (((ds.take (i + 1)).filter p).map f))) := by
      intro b hb H3 x3
      have hacc3 := x3 _ _ hacc2
      cases b with
      | true =>
        rw [if_pos rfl]
        intro s0 H0 C cl fp
        refine ((all s0 H0 C cl fp).2 hb.symm).run H3 (.of x3) (al3.mono x3) _ fun y H4 x4 ry => ?_
        have x5 : Evl.Ex Hs H4 := ((x.trans x2).trans x3).trans x4
        refine ⟨acc, x4 _ _ hacc3, ?_, Evl.Ex.mut x5 hD, _, upd_same, ?_, ?_⟩
        · exact Nat.lt_of_lt_of_le (Nat.lt_of_le_of_lt hlen hlt) (Evl.sz_of hl)
        · rw [List.length_append, List.length_singleton]
          omega
        · rw [tk, if_pos hb.symm, List.map_append]
          have eD : ExM M' H4 (upd H4 D (.lst (acc ++ [y]))) := fun a o h nm _ => by
            rw [upd_ne (fun e => nm (.inr e))]
            exact h
          exact (racc.mono (fun _ z => z) (.of ((x2.trans x3).trans x4))).append (.cons ry .nil) |>.mono (fun _ z => z) eD
      | false =>
        rw [if_neg Bool.false_ne_true]
        refine ⟨(x.trans x2).trans x3, acc, hacc3, by omega, ?_⟩
        rw [tk, if_neg (by rw [← hb]; exact Bool.false_ne_true), List.append_nil]
        exact racc.mono (fun _ z => z) (.of (x2.trans x3))
    intro s0 H0 C cl fp
    exact (all s0 H0 C cl fp).1.run H2 (ExM.refl H2) al3 _ fun H3 x3 => fin _ rfl H3 x3
  · have e2 : i = ds.length := by omega
    subst e2
    refine .inl ⟨wk.stop M' H' hm eM, q D acc H' (Evl.fresh_back xs hD) (xs.trans x) hacc ?_⟩
    rw [List.take_length] at racc
    exact racc.mono (fun _ z => .inl z) (ExM.refl _)
theorem fd_lc {t : Tg} {elt : Expr} {ifs : List Expr} {scope : Scope} {own : List (Str × Nat)} (hc : X.calm = true) (hN : X.N.Nodup) (hi : Src X M tg iter σ H ds) (ok : BlkOk X.N X.env.scope scope own)
    (hg : ∀ s H C cl fp, PG (Cx.lc X s H scope C cl fp) tg (t.g X.K)) (hf : ∀ d ∈ ds, t.Fits d) (hw : ∀ M H d σ', t.Ok X.K M H d (wipe σ (own.map (·.2))) σ' → wipe σ' (own.map (·.2)) = wipe σ (own.map (·.2)))
    (p : PyData → Bool) (f : PyData → PyData) (hl : ds.length ≤ 100000)
    (body : ∀ s0 H0 C cl fp M' H' d σ', (∀ a, M a → M' a) → (∀ v e, Rp X.K M H v e → Rp X.K M' H' v e) → d ∈ ds → t.Ok X.K M' H' d (wipe σ (own.map (·.2))) σ' →
      TsD (Cx.lc X s0 H0 scope C cl fp) M' ifs σ' H' (p d) ∧ (p d = true → PD (Cx.lc X s0 H0 scope C cl fp) M' elt σ' H' (f d)))
    (hs : ∀ x, foldedSetIterable iter X.env x = pure x := by intro _; rfl) : FD X M (.ListComp elt [⟨tg, iter, ifs, 0⟩] scope pos) σ H ((ds.filter p).map f) := by
  obtain ⟨wi, pi, run⟩ := lc_core hc hN hi ok hg hf hw p f hl body
  exact .mk fun H1 e1 al Q q => ⟨_, pe_lc hc hN pi ok hg (fun s0 H0 C cl fp => ⟨fun pins s σ H Q I h => wTs.pts.run pins s σ H Q I (h s0 H0 C cl fp)⟩) (fun s0 H0 C cl fp => ⟨fun pins s σ H Q I h => wE.pe.run pins s σ H Q I (h s0 H0 C cl fp)⟩) hs, run H1 e1 al Q q⟩
/-- y = [elt for target in iter if ..], where y stands in the block alone -/
theorem s_setLc {t : Tg} {elt : Expr} {ifs : List Expr} {scope : Scope} {own : List (Str × Nat)} (hc : X.calm = true) (hN : X.N.Nodup) (hi : Src X M tg iter σ H ds) (ok : BlkOk X.N X.env.scope scope own)
    (hg : ∀ s H C cl fp, PG (Cx.lc X s H scope C cl fp) tg (t.g X.K)) (hf : ∀ d ∈ ds, t.Fits d) (hw : ∀ M H d σ', t.Ok X.K M H d (wipe σ (own.map (·.2))) σ' → wipe σ' (own.map (·.2)) = wipe σ (own.map (·.2)))
    (p : PyData → Bool) (f : PyData → PyData) (hl : ds.length ≤ 100000)
    (body : ∀ s0 H0 C cl fp M' H' d σ', (∀ a, M a → M' a) → (∀ v e, Rp X.K M H v e → Rp X.K M' H' v e) → d ∈ ds → t.Ok X.K M' H' d (wipe σ (own.map (·.2))) σ' →
      TsD (Cx.lc X s0 H0 scope C cl fp) M' ifs σ' H' (p d) ∧ (p d = true → PD (Cx.lc X s0 H0 scope C cl fp) M' elt σ' H' (f d)))
    {i : Nat} {y : Str} {py spos : Pos} {D : Ends} (al : Alive M H) (hy : X.N[i]? = some y) (hyl : X.env.scope.names.lookup y = some .local) (hsw : swapsWith (.ListComp elt [⟨tg, iter, ifs, 0⟩] scope pos) (some (.Name y py)) spos.line X.env = pure true) (q : ∀ l ws H2, H l = none → Evl.Ex H H2 → H2 l = some (.lst ws) → RpAll X.K M H2 ws ((ds.filter p).map f) → D.nx (σ.set i (some (.ref l))) H2)
    (hs : ∀ x, foldedSetIterable iter X.env x = pure x := by intro _; rfl) : wS X (.Assign [.Name y py] (.ListComp elt [⟨tg, iter, ifs, 0⟩] scope pos) spos) D σ H := by
  obtain ⟨wi, pi, run⟩ := lc_core hc hN hi ok hg hf hw p f hl body
  exact ⟨_, ps_setLc hc hN hy hyl hsw pi ok hg (fun s0 H0 C cl fp => ⟨fun pins s σ H Q I h => wTs.pts.run pins s σ H Q I (h s0 H0 C cl fp)⟩) (fun s0 H0 C cl fp => ⟨fun pins s σ H Q I h => wE.pe.run pins s σ H Q I (h s0 H0 C cl fp)⟩) hs, run H (ExM.refl H) al _ q⟩
end
end GV

namespace GV
open PySem PySem.Spec PyProof.Rows L2
/-- the names of the built-ins that the text asks for are the built-ins' own -/
structure NoB (mg : Str → Option Value) : Prop where
  isinstance : mg "isinstance" = none
  int : mg "int" = none
  bool : mg "bool" = none
  str : mg "str" = none
  list : mg "list" = none
  tuple : mg "tuple" = none
  set : mg "set" = none
  len : mg "len" = none
  range : mg "range" = none
  enumerate : mg "enumerate" = none
  abs : mg "abs" = none
  min : mg "min" = none
  max : mg "max" = none
  sum : mg "sum" = none
  any : mg "any" = none
  all : mg "all" = none
  sorted : mg "sorted" = none
section
variable {X : Cx} {M : Addr → Prop} {σ : St} {H H' : Hp} {a b c e : Expr} {da db d : PyData} {pos : Pos} {es : List Expr} {ds : List PyData}

/-! ### isinstance of data, by one built-in class -/
def tyD : PyData → String
  | .none => "NoneType"
  | .bool _ => "bool"
  | .int _ => "int"
  | .str _ => "str"
  | .list _ => "list"
  | .tuple _ => "tuple"
  | .dict _ => "dict"
theorem Rp.tyX {K : PySem.W.Frag} {v : V} (r : Rp K M H v d) : TyX K H v (.type (tyD d)) := by
  cases r with
  | non => exact .base .non
  | bl b => exact .base (.bl b)
  | int i => exact .base (.int i)
  | str x => exact .base (.str x)
  | lst m h rs =>
    rcases h with h | ⟨o, h⟩
    · exact .base (.lst h)
    · exact .base (.frz h)
  | tup m h rs =>
    rcases h with h | ⟨o, h⟩
    · exact .base (.tup h)
    · exact .fTuple h
theorem pd_isi {T : String} {x : Str} {p p2 : Pos} {k : Bool} (hg : Gl X "isinstance") (hm : X.mg "isinstance" = none) (hgT : Gl X x) (hmT : X.mg x = none) (hv : bootBuiltins x = some (.type T)) (ha : PD X M a σ H d) (hk : kitB (tyD d) T = some k)
    (hn : x ≠ "__name__" := by decide) (hd : (x == ("__debug__" : Str)) = false := by decide)
    (h1 : starEach (a :: [.Name x p2]) X.env = (false, eval a X.env) :: starEach [.Name x p2] X.env := by rfl) (h2 : starEach (.Name x p2 :: []) X.env = (false, eval (.Name x p2) X.env) :: starEach [] X.env := by rfl)
    (hpl : (backTo pos (starEach [.Name x p2] X.env)).any (·.1) = false := by rfl) :
    PD X M (.Call (.Name "isinstance" p) [a, .Name x p2] [] pos) σ H (.bool k) := .mk fun H1 e1 al Q q =>
  ⟨_, pe_callB call_isi hg hm PyProof.Rows.boot_isinstance (pa_cons wE.pe (pa_cons (pe_bltn (v := .ty T) hgT hmT hv rfl hn hd) pa_nil h2) h1) (by decide) (by decide) h1 hpl, ha.run H1 e1 al _ fun v H2 x2 r =>
    ⟨v, .ty T, .type (tyD d), .type T, k, rfl, .ty T, r.tyX, kit_ty hk, q _ H2 x2 (.bl k)⟩⟩

/-! ### a chain of two comparisons of ints -/
theorem pd_leLe {i j k : Int} (ha : PD X M a σ H (.int i)) (hb : PD X M b σ H (.int j)) (hc : PD X M c σ H (.int k)) (h1 : lastMarks [.LtE, .LtE] [b, c] = false := by with_unfolding_all rfl) : PD X M (.Compare a [.LtE, .LtE] [b, c] pos) σ H (.bool (decide (i ≤ j) && decide (j ≤ k))) := .mk fun H1 e1 al Q q =>
  ⟨_, pe_chain op_le op_le wE.pe wE.pe wE.pe h1, ha.run H1 e1 al _ fun x H2 x2 rx => hb.run H2 (e1.trans (.of x2)) (al.mono x2) _ fun y H3 x3 ry => by
    cases rx
    cases ry
    refine ⟨i, j, rfl, rfl, _, rfl, ?_⟩
    by_cases h : i ≤ j
    · rw [if_pos (decide_eq_true h)]
      refine hc.run H3 ((e1.trans (.of x2)).trans (.of x3)) ((al.mono x2).mono x3) _ fun z H4 x4 rz => ?_
      cases rz
      refine ⟨j, k, rfl, rfl, q _ H4 ((x2.trans x3).trans x4) ?_⟩
      rw [decide_eq_true h]
      exact .bl _
    · rw [if_neg (by rw [decide_eq_false h]; exact Bool.false_ne_true)]
      refine q _ H3 (x2.trans x3) ?_
      rw [decide_eq_false h]
      exact .bl _⟩

/-! ### any, all, sum, min, max, in -/
theorem RpAll.of_bools {K : PySem.W.Frag} : ∀ {vs : List V} {bs : List Bool}, RpAll K M H vs (bs.map PyData.bool) → vs = bs.map V.bl
  | [], [], .nil => rfl
  | _ :: _, n :: r, .cons h hs => by
    cases h
    rw [RpAll.of_bools hs]
    rfl
theorem rn_any {bs : List Bool} : RDn X M (rAny X.K) [.list (bs.map PyData.bool)] (.bool (bs.any id)) := fun vs H1 r _ Q q => by
  obtain ⟨v, rfl, r1⟩ := rpa1 r
  cases r1 with
  | lst m hs rs => exact ⟨_, bs, rfl, .inl (by rw [← rs.of_bools]; exact hs), q _ H1 (Evl.Ex.refl H1) (.bl _)⟩
theorem rn_all {bs : List Bool} : RDn X M (rAll X.K) [.list (bs.map PyData.bool)] (.bool (bs.all id)) := fun vs H1 r _ Q q => by
  obtain ⟨v, rfl, r1⟩ := rpa1 r
  cases r1 with
  | lst m hs rs => exact ⟨_, bs, rfl, .inl (by rw [← rs.of_bools]; exact hs), q _ H1 (Evl.Ex.refl H1) (.bl _)⟩
theorem rn_sum {ns : List Int} : RDn X M (rSum X.K) [.list (ns.map PyData.int)] (.int ns.sum) := fun vs H1 r _ Q q => by
  obtain ⟨v, rfl, r1⟩ := rpa1 r
  cases r1 with
  | lst m hs rs => exact ⟨_, ns, rfl, .inl (by rw [← rs.of_ints]; exact hs), q _ H1 (Evl.Ex.refl H1) (.int _)⟩
theorem rn_max {ns : List Int} {m : Int} (hm : m ∈ ns) (hx : ∀ y ∈ ns, y ≤ m) : RDn X M (rMax X.K) [.list (ns.map PyData.int)] (.int m) := fun vs H1 r _ Q q => by
  obtain ⟨v, rfl, r1⟩ := rpa1 r
  cases r1 with
  | lst m' hs rs =>
    refine ⟨_, ns, rfl, .inl (by rw [← rs.of_ints]; exact hs), List.length_pos_of_mem hm, fun k hk hkx => q _ H1 (Evl.Ex.refl H1) ?_⟩
    rw [Int.le_antisymm (hx k hk) (hkx m hm)]
    exact .int _
theorem rn_min {ns : List Int} {m : Int} (hm : m ∈ ns) (hx : ∀ y ∈ ns, m ≤ y) : RDn X M (rMin X.K) [.list (ns.map PyData.int)] (.int m) := fun vs H1 r _ Q q => by
  obtain ⟨v, rfl, r1⟩ := rpa1 r
  cases r1 with
  | lst m' hs rs =>
    refine ⟨_, ns, rfl, .inl (by rw [← rs.of_ints]; exact hs), List.length_pos_of_mem hm, fun k hk hkx => q _ H1 (Evl.Ex.refl H1) ?_⟩
    rw [Int.le_antisymm (hkx m hm) (hx k hk)]
    exact .int _

/-! ### min(e, default=f) of a list of ints -/
def minOr (d : PyData) : List Int → PyData
  | [] => d
  | n :: r => .int (r.foldl min n)
theorem ints_alike (ns : List Int) : PySem.W.AlikeAll (ns.map PyData.int) := by
  refine ⟨fun x hx y hy => ?_, fun x hx => ?_⟩
  · obtain ⟨i, _, rfl⟩ := List.mem_map.mp hx
    obtain ⟨j, _, rfl⟩ := List.mem_map.mp hy
    rfl
  · obtain ⟨i, _, rfl⟩ := List.mem_map.mp hx
    exact fun z => by cases z
theorem ints_depth (ns : List Int) : PyData.depthAll (ns.map PyData.int) = 0 := by
  induction ns with
  | nil => rfl
  | cons n r ih =>
    show max (PyData.depth (.int n)) (PyData.depthAll (r.map PyData.int)) = 0
    rw [ih]
    rfl
theorem dpAll_ints {K : PySem.W.Frag} (ns : List Int) : DpAll K H (ns.map V.int) (ns.map PyData.int) := (RpAll.ints (M := fun _ => False) ns).dp
def rMinDf (K : PySem.W.Frag) : List V → List V → Hp → VK → Prop := fun xs zs H Q => ∃ (a : Addr) (ns : List Int) (z : V), xs = [.ref a] ∧ zs = [z] ∧ SqL K H a (ns.map V.int) ∧ (ns = [] → Q z H) ∧ (∀ n r, ns = n :: r → Q (.int (r.foldl min n)) H)
theorem cr_minDf (hc : X.calm = true) (hu : X.A.units + 2 < cLine) : CallRK X (.builtin "min") ["default"] (rMinDf X.K) := by
  intro pins s σ H xs zs us ws Q I rx rz h
  obtain ⟨a, ns, z, rfl, rfl, hs, q0, q1⟩ := h
  obtain ⟨w, rfl, rw'⟩ := vals1 rz
  rw [Vals.ref1 rx]
  obtain ⟨its, rv, pl, _⟩ := I.list hs
  obtain ⟨as, hr⟩ := Dp.readsAll I _ _ its (dpAll_ints ns) rv
  refine PySem.W.min_list_default (I.ok.hd hc) pl.isList hr (ints_alike ns) (by rw [ints_depth]; omega) (fun e h' tk k => ?_) (fun y ys i v h' tk bs e hv hrd k => ?_)
  · refine ⟨z, H, I.kept k, rw', q0 ?_⟩
    cases ns with
    | nil => rfl
    | cons n r => cases e
  · cases ns with
    | nil => cases e
    | cons n r =>
      cases e
      rw [PySem.W.minD_ints] at hrd
      cases hrd with
      | int i t => exact ⟨.int _, H, I.kept k, ⟨t, rfl⟩, q1 n r rfl⟩
theorem pd_minDf {p kp : Pos} {ns : List Int} (hc : X.calm = true) (hu : X.A.units + 2 < cLine) (hg : Gl X "min") (hm : X.mg "min" = none) (ha : PD X M a σ H (.list (ns.map PyData.int))) (hb : PD X M b σ H d)
    (h1 : starEach (a :: []) X.env = (false, eval a X.env) :: starEach [] X.env := by rfl)
    (he : backTo pos (starEach (a :: []) X.env) = (false, eval a X.env) :: backTo pos (starEach [] X.env) := by rfl) (hpl : (backTo pos (starEach (a :: []) X.env)).any (·.1) = false := by rfl)
    (hall : (backToKw pos (keywordEach [⟨some "default", b, kp⟩] X.env)).all (·.1.isSome) = true := by rfl) (hnone : (backToKw pos (keywordEach [⟨some "default", b, kp⟩] X.env)).any (·.1.isNone) = false := by rfl)
    (hks : (backToKw pos (keywordEach [⟨some "default", b, kp⟩] X.env)).filterMap (·.1) = (["default"] : List Str) := by rfl) :
    PD X M (.Call (.Name "min" p) [a] [⟨some "default", b, kp⟩] pos) σ H (minOr d ns) := .mk fun H1 e1 al Q q =>
  ⟨_, pe_callBK (cr_minDf hc hu) hg hm PyProof.Rows.boot_min (pa_cons wE.pe pa_nil h1) (pk_cons wE.pe pk_nil) (by decide) (by decide) he hpl hall hnone hks, ha.run H1 e1 al _ fun v H2 x2 r => hb.run H2 (e1.trans (.of x2)) (al.mono x2) _ fun w H3 x3 rw' => by
    have r3 := r.mono (fun _ z => z) (.of x3)
    cases r3 with
    | lst m hs rs =>
      refine ⟨_, ns, w, rfl, rfl, .inl (by rw [← rs.of_ints]; exact hs), fun e => q _ H3 (x2.trans x3) ?_, fun n r e => q _ H3 (x2.trans x3) ?_⟩
      · rw [e]
        exact rw'
      · rw [e]
        exact .int _⟩
end
end GV

namespace GV
open PySem PySem.Spec PyProof.Rows L2
section
variable {X : Cx} {M : Addr → Prop} {σ : St} {H H' : Hp} {a b c e : Expr} {pos : Pos}
theorem up_ext : ∀ {l m : List Int}, l.Pairwise (· < ·) → m.Pairwise (· < ·) → (∀ k, k ∈ l ↔ k ∈ m) → l = m
  | [], [], _, _, _ => rfl
  | [], y :: m, _, _, h => absurd ((h y).mpr (List.mem_cons_self ..)) (by simp)
  | x :: l, [], _, _, h => absurd ((h x).mp (List.mem_cons_self ..)) (by simp)
  | x :: l, y :: m, p, q, h => by
    obtain ⟨p1, p2⟩ := List.pairwise_cons.mp p
    obtain ⟨q1, q2⟩ := List.pairwise_cons.mp q
    have hx := (h x).mp (List.mem_cons_self ..)
    have hy := (h y).mpr (List.mem_cons_self ..)
    have e : x = y := by
      rcases List.mem_cons.mp hx with e | hx
      · exact e
      · rcases List.mem_cons.mp hy with e | hy
        · exact e.symm
        · have := q1 x hx
          have := p1 y hy
          omega
    subst e
    rw [up_ext p2 q2 fun k => ?_]
    constructor
    · intro hk
      rcases List.mem_cons.mp ((h k).mp (List.mem_cons_of_mem _ hk)) with e | e
      · subst e
        exact absurd (p1 _ hk) (Int.lt_irrefl _)
      · exact e
    · intro hk
      rcases List.mem_cons.mp ((h k).mpr (List.mem_cons_of_mem _ hk)) with e | e
      · subst e
        exact absurd (q1 _ hk) (Int.lt_irrefl _)
      · exact e
/-- sorted(set(e)), e a list of ints, fewer than 64 -/
theorem fd_sortedSet {p p2 q2 : Pos} {ns out : List Int} (hc : X.calm = true) (hg : Gl X "sorted") (hm : X.mg "sorted" = none) (hg2 : Gl X "set") (hm2 : X.mg "set" = none) (ha : PD X M a σ H (.list (ns.map PyData.int)))
    (hl : ns.length < 64) (ho : out.Pairwise (· < ·)) (hmem : ∀ k, k ∈ out ↔ k ∈ ns)
    (na : starEach [a] X.env = (false, eval a X.env) :: starEach [] X.env := by rfl) : FD X M (.Call (.Name "sorted" p) [.Call (.Name "set" p2) [a] [] q2] [] pos) σ H (out.map PyData.int) := .mk fun H1 e1 al Q q => by
  refine ⟨fun σ H Q => wE X a σ H fun x H1 => ∃ l, x = V.ref l ∧ SqL X.K H1 l (ns.map V.int) ∧ ∀ p, H1 p = none → Q (.ref p) (upd H1 p (.lst (out.map V.int))), ⟨fun pins s σ H Q I h => ?_⟩, ?_⟩
  · refine Call_ (ld_blt I hg hm PyProof.Rows.boot_sorted ?_)
    refine PyProof.Rows.callWith_builtin1 (PyProof.Rows.args_cons ?_ rfl) rfl rfl
    refine Call_ (ld_blt I hg2 hm2 PyProof.Rows.boot_set (PyProof.Rows.callWith_type1 (PyProof.Rows.args_cons (thn (wE.pe.run pins s σ H _ I h) fun v s1 ⟨x, H1, I1, r1, l, e2, hq, q1⟩ => PyProof.Rows.args_nil ?_) na) na rfl))
    subst e2
    cases r1
    obtain ⟨its, r, pl, hz⟩ := I1.list hq
    refine set_ofL ns (I1.ok.hd hc) pl.isList (by simpa using r.ints) (by unfold scanBound; omega) fun g tk c R hcl k => PyProof.Rows.args_nil ?_
    have I2 : Inv X pins σ H1 { s1 with heap := g, toks := tk } := I1.kept k
    refine sorted_set R (I1.ok.hd hc) (by omega) fun s' p o c' ns' k2 g2 o2 hp hgp hi hs hm' hlen => ?_
    have en : ns' = out := up_ext hs ho fun z => by
      rw [hm' z, hmem z]
      exact decide_eq_true_iff
    subst en
    have hn : H1 p = none := I2.hok.fresh hp
    have ln : (ns'.map V.int).length ≤ sizeLine := by
      rw [List.length_map]
      refine Evl.sz_of (Nat.le_trans ?_ (show 64 ≤ 100000 by decide))
      omega
    have J : Inv X pins σ (upd H1 p (.lst (ns'.map V.int))) { ({ s1 with heap := g, toks := tk } : Shared) with heap := s'.heap, gens := s'.gens, drawn := s'.drawn, toks := s'.toks } := I2.call (ch := []) (Un.laid k2 hp hn) (I2.hok.laid k2 hp ⟨ln, o.toList, c', vals_of_ints hi, hgp⟩) (by rw [g2]; exact I2.bare) (fun _ z => nomatch z)
    obtain ⟨hp', g', d', t', os'⟩ := s'
    obtain rfl : os' = s1.os := o2
    exact ⟨.ref p, _, J, rfl, q1 p hn⟩
  · refine ha.run H1 e1 al _ fun v H2 x2 r => ?_
    cases r with
    | lst m hr rs => exact ⟨_, rfl, .inl (by rw [← rs.of_ints]; exact hr), fun p hp => q p _ _ (Evl.fresh_back x2 hp) (x2.trans (Evl.Ex.new hp)) upd_same (RpAll.ints out)⟩
end
end GV

namespace GV
open PySem PySem.Spec PyProof.Rows L2
/-! ### a def of the text that keeps a promise, by its name -/
structure Cl (P : Program) (w : World) (K : PySem.W.Frag) (mg : Str → Option Value) (base : Heap) (CX : CXT) (k : Nat) (x : Str) (sp : Sp) : Prop where
  ex : ∃ (f : Addr) (fd : FuncData) (ps : List Str), FnOk P w K mg base CX k f fd ps sp ∧ mg x = some (.ref f) ∧ PySem.W.keepIn K (.ref f) = true ∧ Binds K fd ps []
section
variable {P : Program} {w : World} {K : PySem.W.Frag} {mg : Str → Option Value} {base : Heap}
/-- where a def stands -/
structure At (K : PySem.W.Frag) (mg : Str → Option Value) (x : Str) (st : Stmt) (f : Addr) (fd : FuncData) : Prop where
  fn : Fun K x x st f fd
  gl : mg x = some (.ref f)
theorem pureR_len {R : List PyData → PyData → Prop} {n : Nat} (hR : ∀ ds d, R ds d → ds.length = n) : ∀ vs H Q E, PureR K R vs H Q E → vs.length = n := fun vs H Q E h => by
  obtain ⟨M, ds, d, al, r, hr, _⟩ := h
  rw [r.length]
  exact hR ds d hr
/-- a pure def -/
theorem cl_pure {x : Str} {st : Stmt} {f : Addr} {fd : FuncData} {N ps : List Str} {k : Nat} {R : List PyData → PyData → Prop} (F : At K mg x st f fd) (S : FnScope N ps (defScope st)) (hb : Binds K fd ps []) (hR : ∀ ds d, R ds d → ds.length = ps.length)
    (body : ∀ (X : Cx) (cdv : Value) (A : Around) (outer : List Env) (s : Shared) (H : Hp) (Q : VK) (E : XK) (M : Addr → Prop) (vs : List V) (ds : List PyData) (d : PyData), X = (cxOf CX0 P w K mg base N x (defScope st) f cdv A outer s H E).nox → Room k X.A → Alive M H → RpAll K M H vs ds → R ds d →
      (∀ v H', Evl.Ex H H' → Rp K M H' v d → Q v H') → wB X (defBody st) { nx := fun _ H' => Q .non H', rt := Q } (L2.start N vs) H) :
    Cl P w K mg base CX0 (k + 1) x (PureR K R) := by
  refine ⟨f, fd, ps, F.fn.ok S (pureR_len hR) (fun cdv A outer s H vs Q E hr h => ⟨_, wB.ps, ?_⟩), F.gl, F.fn.kp, hb⟩
  obtain ⟨M, ds, d, al, r, hr', q⟩ := h
  exact body _ cdv A outer s H Q E M vs ds d rfl hr al r hr' q
end
section
variable {X : Cx} {M : Addr → Prop} {σ : St} {H H' : Hp} {a b c e : Expr} {da db d : PyData} {pos : Pos} {es : List Expr} {ds : List PyData}
theorem pd_callC {R : List PyData → PyData → Prop} {j k : Nat} {x : Str} {p : Pos} (cl : Cl X.prog X.w X.K X.mg X.base CX0 k x (PureR X.K R)) (hr : Room j X.A) (hkj : k ≤ j) (hg : Gl X x) (h : AD X M (e :: es) σ H ds) (hR : R ds d)
    (hdb : (x == ("__debug__" : Str)) = false := by decide) (he : starEach (e :: es) X.env = (false, eval e X.env) :: starEach es X.env := by rfl) (hpl : (backTo pos (starEach es X.env)).any (·.1) = false := by rfl) : PD X M (.Call (.Name x p) (e :: es) [] pos) σ H d := by
  obtain ⟨f, fd, ps, F, hm, hk, hb⟩ := cl.ex
  exact pd_call F (hr.mono hkj) hg hm hk hb pass0 h hR hdb he hpl
/-- .. a def that makes a list -/
def FreshR (K : PySem.W.Frag) (R : List PyData → List PyData → Prop) : Sp := fun vs H Q _ => ∃ M ds es, Alive M H ∧ RpAll K M H vs ds ∧ R ds es ∧ ∀ p ws H', H p = none → Evl.Ex H H' → H' p = some (.lst ws) → RpAll K M H' ws es → Q (.ref p) H'
theorem fd_callC {R : List PyData → List PyData → Prop} {fs : List PyData} {j k : Nat} {x : Str} {p : Pos} (cl : Cl X.prog X.w X.K X.mg X.base CX0 k x (FreshR X.K R)) (hr : Room j X.A) (hkj : k ≤ j) (hg : Gl X x) (h : AD X M (e :: es) σ H ds) (hR : R ds fs)
    (hdb : (x == ("__debug__" : Str)) = false := by decide) (he : starEach (e :: es) X.env = (false, eval e X.env) :: starEach es X.env := by rfl) (hpl : (backTo pos (starEach es X.env)).any (·.1) = false := by rfl) : FD X M (.Call (.Name x p) (e :: es) [] pos) σ H fs := by
  obtain ⟨f, fd, ps, F, hm, hk, hb⟩ := cl.ex
  exact .mk fun H1 e1 al Q q => ⟨_, pe_call F (hr.mono hkj) hg hm hk hb .nil pass0 wA.pa hdb he hpl, h.run H1 e1 al _ fun vs H2 x2 r => by
    rw [List.append_nil]
    exact ⟨M, ds, fs, al.mono x2, r, hR, fun p ws H3 hp x3 h3 rv => q p ws H3 (Evl.fresh_back x2 hp) (x2.trans x3) h3 rv⟩⟩

/-! ### where things change: step by step -/
abbrev M0 : Addr → Prop := fun _ => False
theorem alive0 : Alive M0 H := fun _ z => z.elim
theorem Rp.m0 {K : PySem.W.Frag} {v : V} (r : Rp K M H v d) : Rp K M0 H v d := r.mono (fun _ z => z.elim) (ExM.refl H)
theorem RpAll.m0 {K : PySem.W.Frag} {vs : List V} (r : RpAll K M H vs ds) : RpAll K M0 H vs ds := r.mono (fun _ z => z.elim) (ExM.refl H)
theorem ce_pd {Q : VK} (al : Alive M H) (h : PD X M e σ H d) (q : ∀ v H2, Evl.Ex H H2 → Rp X.K M H2 v d → Q v H2) : wE X e σ H Q := h.run H (ExM.refl H) al Q q
theorem ce_fd {Q : VK} (al : Alive M H) (h : FD X M e σ H ds) (q : ∀ p ws H2, H p = none → Evl.Ex H H2 → H2 p = some (.lst ws) → RpAll X.K M H2 ws ds → Q (.ref p) H2) : wE X e σ H Q := h.run H (ExM.refl H) al Q q
/-! ### comparisons as tests -/
theorem td_cmpR {op : CmpOp} {r : R2} {k : Bool} (ho : OpR X (compareOp op) r) (hm : behindInMarks op b = false) (hr : RD2 X M r da db (.bool k)) (ha : PD X M a σ H da) (hb : PD X M b σ H db) : TD X M (.Compare a [op] [b] pos) σ H k := .mk fun H1 e1 al Q q =>
  ⟨_, pt_cmpR ho wE.pe wE.pe hm, ha.run H1 e1 al _ fun x H2 x2 rx => hb.run H2 (e1.trans (.of x2)) (al.mono x2) _ fun y H3 x3 ry =>
    hr x y H3 (rx.mono (fun _ z => z) (.of x3)) ry ((al.mono x2).mono x3) _ fun v H4 x4 rv => by
      cases rv
      exact ⟨k, rfl, q H4 ((x2.trans x3).trans x4)⟩⟩
theorem td_lt {i j : Int} (ha : PD X M a σ H (.int i)) (hb : PD X M b σ H (.int j)) : TD X M (.Compare a [.Lt] [b] pos) σ H (decide (i < j)) := td_cmpR op_lt (nomark _) rd_B0 ha hb
theorem td_le {i j : Int} (ha : PD X M a σ H (.int i)) (hb : PD X M b σ H (.int j)) : TD X M (.Compare a [.LtE] [b] pos) σ H (decide (i ≤ j)) := td_cmpR op_le (nomark _) rd_B0 ha hb
theorem td_gt {i j : Int} (ha : PD X M a σ H (.int i)) (hb : PD X M b σ H (.int j)) : TD X M (.Compare a [.Gt] [b] pos) σ H (decide (j < i)) := td_cmpR op_gt (nomark _) rd_B0 ha hb
theorem td_ge {i j : Int} (ha : PD X M a σ H (.int i)) (hb : PD X M b σ H (.int j)) : TD X M (.Compare a [.GtE] [b] pos) σ H (decide (j ≤ i)) := td_cmpR op_ge (nomark _) rd_B0 ha hb
theorem rd_eqD (hu : X.A.units + 64 < cLine) (sa : SeqAt.shaped da = true) (sb : SeqAt.shaped db = true) : RD2 X M (rEqD X.K) da db (.bool (PyData.eqv da db)) := fun x y H1 rx ry _ Q q => ⟨da, db, rx.dp, ry.dp, sa, sb, q _ H1 (Evl.Ex.refl H1) (.bl _)⟩
theorem rd_neD (hu : X.A.units + 64 < cLine) (sa : SeqAt.shaped da = true) (sb : SeqAt.shaped db = true) : RD2 X M (rNeD X.K) da db (.bool (!PyData.eqv da db)) := fun x y H1 rx ry _ Q q => ⟨da, db, rx.dp, ry.dp, sa, sb, q _ H1 (Evl.Ex.refl H1) (.bl _)⟩
theorem td_eq (hu : X.A.units + 64 < cLine) (ha : PD X M a σ H da) (hb : PD X M b σ H db) (sa : SeqAt.shaped da = true) (sb : SeqAt.shaped db = true) : TD X M (.Compare a [.Eq] [b] pos) σ H (PyData.eqv da db) := td_cmpR (op_eqD hu) (nomark _) (rd_eqD hu sa sb) ha hb
theorem td_ne (hu : X.A.units + 64 < cLine) (ha : PD X M a σ H da) (hb : PD X M b σ H db) (sa : SeqAt.shaped da = true) (sb : SeqAt.shaped db = true) : TD X M (.Compare a [.NotEq] [b] pos) σ H (!PyData.eqv da db) := td_cmpR (op_neD hu) (nomark _) (rd_neD hu sa sb) ha hb
theorem td_isN {j p2} (ha : PD X M a σ H da) : TD X M (.Compare a [.Is] [.Constant .none j p2] pos) σ H (isNone da) :=
  td_cmpR op_isN (nomark _) (fun x y H1 rx ry _ Q q => by
    cases ry
    exact ⟨rfl, q _ H1 (Evl.Ex.refl H1) (by rw [rx.isN]; exact .bl _)⟩) ha pd_non
theorem td_notN {j p2} (ha : PD X M a σ H da) : TD X M (.Compare a [.IsNot] [.Constant .none j p2] pos) σ H (!isNone da) :=
  td_cmpR op_notN (nomark _) (fun x y H1 rx ry _ Q q => by
    cases ry
    exact ⟨rfl, q _ H1 (Evl.Ex.refl H1) (by rw [rx.isN]; exact .bl _)⟩) ha pd_non
theorem snoc_ind {α : Type} {P : List α → Prop} (h0 : P []) (h1 : ∀ l x, P l → P (l ++ [x])) (l : List α) : P l := by
  have key : ∀ n (l : List α), l.length = n → P l := by
    intro n
    induction n with
    | zero =>
      intro l hl
      rw [List.eq_nil_of_length_eq_zero hl]
      exact h0
    | succ n ih =>
      intro l hl
      have hne : l ≠ [] := fun e => by
        rw [e] at hl
        cases hl
      rw [← List.dropLast_concat_getLast hne]
      refine h1 _ _ (ih _ ?_)
      rw [List.length_dropLast, hl]
      rfl
  exact key _ l rfl
theorem filt_all {α : Type} (l : List α) : (l.filter fun _ => true) = l := List.filter_eq_self.mpr fun _ _ => rfl
/-- [elt for target in iter] -/
theorem fd_map {tg iter : Expr} {t : Tg} {elt : Expr} {scope : Scope} {own : List (Str × Nat)} (f : PyData → PyData) (hc : X.calm = true) (hN : X.N.Nodup) (hi : Src X M tg iter σ H ds) (ok : BlkOk X.N X.env.scope scope own)
    (hg : ∀ s H C cl fp, PG (Cx.lc X s H scope C cl fp) tg (t.g X.K)) (hf : ∀ d ∈ ds, t.Fits d) (hw : ∀ M H d σ', t.Ok X.K M H d (wipe σ (own.map (·.2))) σ' → wipe σ' (own.map (·.2)) = wipe σ (own.map (·.2))) (hl : ds.length ≤ 100000)
    (body : ∀ s0 H0 C cl fp M' H' d σ', (∀ a, M a → M' a) → (∀ v e, Rp X.K M H v e → Rp X.K M' H' v e) → d ∈ ds → t.Ok X.K M' H' d (wipe σ (own.map (·.2))) σ' → PD (Cx.lc X s0 H0 scope C cl fp) M' elt σ' H' (f d))
    (hs : ∀ x, foldedSetIterable iter X.env x = pure x := by intro _; rfl) : FD X M (.ListComp elt [⟨tg, iter, [], 0⟩] scope pos) σ H (ds.map f) := by
  have h := fd_lc (pos := pos) hc hN hi ok hg hf hw (fun _ => true) f hl (fun s0 H0 C cl fp M' H' d σ' hM lift hd hok => ⟨tsd_nil, fun _ => body s0 H0 C cl fp M' H' d σ' hM lift hd hok⟩) hs
  rwa [filt_all] at h
/-- [elt for target in iter if test] -/
theorem fd_filter {tg iter tst : Expr} {t : Tg} {elt : Expr} {scope : Scope} {own : List (Str × Nat)} (p : PyData → Bool) (f : PyData → PyData) (hc : X.calm = true) (hN : X.N.Nodup) (hi : Src X M tg iter σ H ds) (ok : BlkOk X.N X.env.scope scope own)
    (hg : ∀ s H C cl fp, PG (Cx.lc X s H scope C cl fp) tg (t.g X.K)) (hf : ∀ d ∈ ds, t.Fits d) (hw : ∀ M H d σ', t.Ok X.K M H d (wipe σ (own.map (·.2))) σ' → wipe σ' (own.map (·.2)) = wipe σ (own.map (·.2))) (hl : ds.length ≤ 100000)
    (body : ∀ s0 H0 C cl fp M' H' d σ', (∀ a, M a → M' a) → (∀ v e, Rp X.K M H v e → Rp X.K M' H' v e) → d ∈ ds → t.Ok X.K M' H' d (wipe σ (own.map (·.2))) σ' → TD (Cx.lc X s0 H0 scope C cl fp) M' tst σ' H' (p d) ∧ PD (Cx.lc X s0 H0 scope C cl fp) M' elt σ' H' (f d))
    (hs : ∀ x, foldedSetIterable iter X.env x = pure x := by intro _; rfl) : FD X M (.ListComp elt [⟨tg, iter, [tst], 0⟩] scope pos) σ H ((ds.filter p).map f) :=
  fd_lc hc hN hi ok hg hf hw p f hl (fun s0 H0 C cl fp M' H' d σ' hM lift hd hok => let ⟨h1, h2⟩ := body s0 H0 C cl fp M' H' d σ' hM lift hd hok; ⟨tsd_one h1, fun _ => h2⟩) hs
/-- the name in slot i, by what is known of its value -/
theorem nm (i : Nat) {x : Str} {v : V} (r : Rp X.K M H v d) (hN : X.N[i]? = some x := by rfl) (hv : Vis X.env.scope x := by first | exact .inl rfl | exact .inr (.inl rfl) | exact .inr (.inr rfl)) (hs : σ[i]? = some (some v) := by rfl)
    (hd : (x == ("__debug__" : Str)) = false := by decide) (hcd : (x == ("__classdict__" : Str)) = false := by decide) : PD X M (.Name x pos) σ H d := pd_name hN hv hs r hd hcd
theorem ce_name {i : Nat} {x : Str} {v : V} {Q : VK} (hN : X.N[i]? = some x) (hv : Vis X.env.scope x) (hs : σ[i]? = some (some v)) (q : Q v H)
    (hd : (x == ("__debug__" : Str)) = false := by decide) (hcd : (x == ("__classdict__" : Str)) = false := by decide) : wE X (.Name x pos) σ H Q := ⟨_, pe_var hN hv hd hcd, v, hs, q⟩
theorem ca_nil {Q : List V → Hp → Prop} (q : Q [] H) : wA X [] σ H Q := ⟨_, pa_nil, q⟩
theorem ca_cons {Q : List V → Hp → Prop} (h : wE X e σ H fun v H2 => wA X es σ H2 fun vs H3 => Q (v :: vs) H3) (hs : starEach (e :: es) X.env = (false, eval e X.env) :: starEach es X.env := by rfl) : wA X (e :: es) σ H Q := ⟨_, pa_cons wE.pe wA.pa hs, h⟩
theorem ce_bin {op : Operator} {r : R2} {Q : VK} (ho : OpR X (binaryOp op) r) (h : wE X a σ H fun x H2 => wE X b σ H2 fun y H3 => r x y H3 Q) : wE X (.BinOp a op b pos) σ H Q := ⟨_, pe_op ho wE.pe wE.pe, h⟩
theorem ce_add {Q : VK} (h : wE X a σ H fun x H2 => wE X b σ H2 fun y H3 => ∃ i j, x = .int i ∧ y = .int j ∧ Q (.int (i + j)) H3) : wE X (.BinOp a .Add b pos) σ H Q := ce_bin op_add h
theorem ce_sub {Q : VK} (h : wE X a σ H fun x H2 => wE X b σ H2 fun y H3 => ∃ i j, x = .int i ∧ y = .int j ∧ Q (.int (i - j)) H3) : wE X (.BinOp a .Sub b pos) σ H Q := ce_bin op_sub h
theorem ce_call {sp : Sp} {Q : VK} {j k : Nat} {x : Str} {p : Pos} (cl : Cl X.prog X.w X.K X.mg X.base CX0 k x sp) (hr : Room j X.A) (hkj : k ≤ j) (hg : Gl X x) (h : wA X (e :: es) σ H fun vs H2 => sp vs H2 Q E0)
    (hdb : (x == ("__debug__" : Str)) = false := by decide) (he : starEach (e :: es) X.env = (false, eval e X.env) :: starEach es X.env := by rfl) (hpl : (backTo pos (starEach es X.env)).any (·.1) = false := by rfl) : wE X (.Call (.Name x p) (e :: es) [] pos) σ H Q := by
  obtain ⟨f, fd, ps, F, hm, hk, hb⟩ := cl.ex
  refine ⟨_, pe_call F (hr.mono hkj) hg hm hk hb .nil pass0 wA.pa hdb he hpl, ?_⟩
  obtain ⟨t, h1, h2⟩ := h
  refine ⟨t, h1, ?_⟩
  have e1 : (fun vs H1 => sp (vs ++ []) H1 Q E0) = fun vs H1 => sp vs H1 Q E0 := by
    funext vs H1
    rw [List.append_nil]
  rw [e1]
  exact h2
theorem ce_ix {Q : VK} (h : wE X a σ H fun x H2 => wE X b σ H2 fun y H3 => rIx X.K x y H3 Q) (hs : PlainIx b := by exact fun _ _ => rfl) : wE X (.Subscript a b pos) σ H Q := ⟨_, pe_ix ix_seq wE.pe wE.pe hs, h⟩
/-- an item of a datum, by values -/
theorem rIx_of {K : PySem.W.Frag} {x : V} {i : Int} {Q : VK} (r : Rp K M H x da) (h : ixD da (.int i) = some d) (q : ∀ v, Rp K M H v d → Q v H) : rIx K x (.int i) H Q := by
  cases r with
  | lst m hs rs =>
    obtain ⟨v, hv, rv⟩ := atI_rp rs h
    exact .inl ⟨_, _, i, v, rfl, rfl, .inl hs, hv, q v rv⟩
  | tup m hs rs =>
    obtain ⟨v, hv, rv⟩ := atI_rp rs h
    exact .inr (.inl ⟨_, _, i, v, rfl, rfl, .inl hs, hv, q v rv⟩)
  | str z =>
    simp only [ixD] at h
    split at h
    · rename_i hz
      cases e : atI z.cps.toList i with
      | none =>
        rw [e] at h
        cases h
      | some c =>
        rw [e] at h
        cases h
        exact .inr (.inr ⟨z, i, c, rfl, rfl, hz, e, q _ (.str _)⟩)
    · cases h
  | _ => cases h
end
section
variable {X : Cx} {M : Addr → Prop} {σ : St} {H H' : Hp} {c e o ix : Expr} {d : PyData} {pos : Pos} {st : Stmt} {sts A B : List Stmt} {D : Ends}
theorem cs_set {i : Nat} {x : Str} {p : Pos} (hN : X.N.Nodup) (hi : X.N[i]? = some x) (hx : Loc X.env.scope x) (h : wE X e σ H fun v H2 => D.nx (σ.set i (some v)) H2)
    (hs : swapsWith e (some (.Name x p)) pos.line X.env = pure false := by rfl) (hf : X.fn x = true ∨ X.env.scope.names.lookup x = some .local := by first | exact .inl rfl | exact .inr rfl | assumption) : wS X (.Assign [.Name x p] e pos) D σ H := ⟨_, ps_set hN hi hx wE.pe hs hf, h⟩
theorem cs_ret (h : wE X e σ H D.rt) : wS X (.Return (some e) pos) D σ H := ⟨_, ps_ret wE.pe, h⟩
theorem cs_expr (h : wE X e σ H fun _ H2 => D.nx σ H2) (hs : swapsWith e none pos.line X.env = pure false := by rfl) : wS X (.Expr e pos) D σ H := ⟨_, ps_expr wE.pe hs, h⟩
/-- o[ix] = e -/
theorem cs_sub {p : Pos} (h : wE X e σ H fun v H1 => wE X o σ H1 fun x H2 => wE X ix σ H2 fun y H3 => rSetL x y v H3 fun H4 => D.nx σ H4)
    (ha : ∀ v, assign (.Subscript o ix p) X.env v = (do
      let ov ← holding [v] (eval o X.env)
      let iv ← holding [v, ov] (eval ix X.env)
      standAt p
      holding [v, ov, iv] (setItem ov iv v)
      release [v, ov, iv] []) := by intro _; rfl)
    (hs : swapsWithSole [.Subscript o ix p] e pos.line X.env = pure false := by rfl) (hw : swappedStores [.Subscript o ix p] e X.env = pure none := by rfl)
    (h1 : (assignEach [.Subscript o ix p] X.env).map (·.2) = [assign (.Subscript o ix p) X.env] := by rfl) : wS X (.Assign [.Subscript o ix p] e pos) D σ H :=
  ⟨_, ps_asg wE.pe (pg_sub wE.pe wE.pe set_list ha) hs hw h1, h⟩
end
end GV

namespace GV
open PySem PySem.Spec PyProof.Rows L2
/-! ### own errors -/
/-- what the __init__ of an error keeps: its arguments, by these names -/
def spInit (C : Addr) (fl : List Str) : Sp := fun vs H Q _ => ∃ (a : Addr) (xs : List V), vs = .ref a :: xs ∧ xs.length = fl.length ∧ H a = some (exo a C none) ∧
  ∀ H' d, (∀ b o, H b = some o → b ≠ a → H' b = some o) → H d = none → d ≠ a → H' a = some (exo a C (some d)) → H' d = some (exd d (fl.zip xs).reverse) → Q .non H'
structure ErrC (P : Program) (w : World) (K : PySem.W.Frag) (mg : Str → Option Value) (base : Heap) (x : Str) (C : Addr) (fl : List Str) : Prop where
  gC : mg x = some (.ref C)
  oex : OexC K C
  xf : XfC K C
  no : ∀ f ∈ fl, PySem.W.findIn K (.ref C) f = some none
  init : ∃ (fI : Addr) (fd : FuncData) (ps : List Str), PySem.W.findIn K (.ref C) "__init__" = some (some (.ref fI)) ∧ PySem.W.typeIn K (.ref fI) = some (.type "function") ∧ FnOk P w K mg base CX0 1 fI fd ps (spInit C fl) ∧ Binds K fd ps []
/-- what a raised one leaves: a new dict that holds the arguments -/
def Raised (C : Addr) (fs : List (Str × V)) (H : Hp) (E : XK) : Prop := ∀ d H', H d = none → Evl.Ex H H' → H' d = some (.xd fs) → E (.ref C) (some d) H'
section
variable {X : Cx} {σ : St} {H : Hp} {D : Ends} {e : Expr} {es : List Expr}
theorem s_raise {W : WX} {x : Str} {C : Addr} {fl : List Str} {p pos pos2 : Pos} (hc : X.calm = true) (er : ErrC X.prog X.w X.K X.mg X.base x C fl) (hr : Room 2 X.A) (tk : Takes X W) (hg : Gl X x)
    (h : wA X (e :: es) σ H fun vs H1 => vs.length = fl.length ∧ vs.length ≤ 1000 ∧ Raised C (fl.zip vs).reverse H1 fun cls d H' => W cls d σ H')
    (hdb : (x == ("__debug__" : Str)) = false := by decide) (he : starEach (e :: es) X.env = (false, eval e X.env) :: starEach es X.env := by rfl) (hpl : (backTo pos (starEach es X.env)).any (·.1) = false := by rfl) :
    wS X (.Raise (some (.Call (.Name x p) (e :: es) [] pos)) none pos2) D σ H := by
  obtain ⟨fI, fd, ps, iC, tI, F1, hb⟩ := er.init
  obtain ⟨t, pa, q⟩ := h
  -- the arguments' own reading, with what is wanted behind it
  refine ⟨_, ps_raise hc tk (pmk_oex (k := 1) (dvs := []) (ds := []) er.oex iC tI F1 hr hb .nil pass0 hg er.gC (ta := fun σ H Q => ∃ Q0, t σ H Q0 ∧ ∀ vs H1, Q0 vs H1 → Q vs H1) ⟨fun pos pins s σ H Q I ⟨Q0, h0, imp⟩ => wpAny_mono (pa.run pos pins s σ H Q0 I h0) (fun us s1 ⟨vs, H1, I1, r1, q1⟩ => ⟨vs, H1, I1, r1, imp vs H1 q1⟩) fun _ _ z => z⟩ hdb he hpl), _, q, fun vs H1 ⟨hl, h1000, hR⟩ => ?_⟩
  refine ⟨h1000, fun a na => ⟨a, vs, by rw [List.append_nil], hl, upd_same, fun H' d k nd da ea ed => ⟨rfl, d, _, ea, ed, ?_, ?_⟩⟩⟩
  · rwa [upd_ne da] at nd
  · rw [upd_ne da] at nd
    refine hR d _ nd (fun b o hb' => ?_) upd_same
    rw [upd_ne (ne_of_none hb' nd), del_ne (ne_of_none hb' na)]
    exact k b o (by rw [upd_ne (ne_of_none hb' na)]; exact hb') (ne_of_none hb' na)
end
end GV

namespace GV
open PySem PySem.Spec PyProof.Rows L2
/-! ### try with clauses that may keep the exception by a name -/
abbrev HdT := Addr → Value → Option Addr → TS
/-- where a clause with a name goes on: the name is gone -/
def Ends.less (D : Ends) (i : Nat) : Ends := { nx := fun σ' H' => D.nx (σ'.set i none) H', rt := D.rt, bk := fun σ' H' => D.bk (σ'.set i none) H', ct := fun σ' H' => D.ct (σ'.set i none) H' }
/-- which clause takes an exception, and what it must do then -/
def wHs (K : PySem.W.Frag) (Wout : WX) (D : Ends) : List (Value × Option Nat × HdT) → WX
  | [] => Wout
  | (c, o, ts) :: r => fun cls d σ H => ∃ b, PySem.W.exmOne K cls c = some b ∧
      (b = true → ∀ a, H a = none → match o with
        | none => ts a cls d D σ H
        | some i => i < σ.length → ts a cls d (Ends.less D i) (σ.set i (some (.ref a))) H) ∧
      (b = false → wHs K Wout D r cls d σ H)
inductive Hds (X : Cx) : List ExceptHandler → List (Value × Option Nat × HdT) → Prop
  | nil : Hds X [] []
  | one {x : Str} {c : Value} {ts : HdT} {b₀ : Stmt} {suite : List Stmt} {np p : Pos} {hs l} : Names X x c →
      (∀ a oe cls d pn, Zc cls d oe → (∃ vs, oe.data = .fields vs) → PSs (X.suite a ((a, oe) :: pn)) (b₀ :: suite) (ts a cls d)) → Hds X hs l →
      Hds X (.ExceptHandler (some (.Name x np)) none (b₀ :: suite) p :: hs) ((c, none, ts) :: l)
  | as_ {x n : Str} {i : Nat} {c : Value} {ts : HdT} {b₀ : Stmt} {suite : List Stmt} {np p : Pos} {hs l} : Names X x c → X.N[i]? = some n → X.env.kindOf n = some .local →
      (∀ a oe cls d pn, Zc cls d oe → (∃ vs, oe.data = .fields vs) → PSs (X.suite a ((a, oe) :: pn)) (b₀ :: suite) (ts a cls d)) → Hds X hs l →
      Hds X (.ExceptHandler (some (.Name x np)) (some n) (b₀ :: suite) p :: hs) ((c, some i, ts) :: l)
theorem ps_tryAs {X : Cx} {body : List Stmt} {h₀ : ExceptHandler} {hds : List ExceptHandler} {l : List (Value × Option Nat × HdT)} {pos : Pos} {tb : WX → TS} {Wout : WX} (hs : X.stack = X.env :: X.outer) (hf : X.env.frame = some X.env.locals) (hN : X.N.Nodup) (tk : Takes X Wout)
    (hb : ∀ (W : WX) (pn : List (Addr × Obj)) (xe : Value → Shared → Prop), Takes (X.tr pn xe) W → PassesOwn (model X.prog X.w) X.A X.env xe → PSs (X.tr pn xe) body (tb W)) (hh : Hds X (h₀ :: hds) l) :
    PS X (.Try body (h₀ :: hds) [] [] pos) fun D σ H => tb (wHs X.K Wout D l) D σ H := by
  constructor
  intro pins s σ H D I h
  have ok := I.ok
  have hfr : X.A.frames = some (X.env :: X.outer) := by
    rw [ok.frames, hs]
  refine wpAny_Try_except (wpAny_mono ((hb (wHs X.K Wout D l) (X.pn ++ pins) _ ?_ PassesOwn.looking).run [] s σ H D (I.toTry _) h) ?_ fun e s1 he => he)
  · rintro u s' ⟨a, B, sI, pins', σ', H', cls, d, rfl, J', nb, up, sky, na, os, ag, w⟩
    have J := J'.ofTry ok
    have sky' : Sky B (X.env :: X.outer) a (Zc cls d) X.env.locals s'.heap := by
      rw [← hs]
      exact sky
    refine Sky.land Zc.steady hfr hf sky' fun h3 fl3 up3 => ?_
    have J3 := J.landed (s' := { heap := h3, gens := s'.gens, drawn := s'.drawn, toks := s'.toks, os := s'.os }) nb fl3.1 (up.trans up3) os ag
    obtain ⟨oe3, vs3, he3, hz3, hd3⟩ := fl3.there
    have nfr : ¬ a ∈ List.filterMap (fun x => x.frame) (X.env :: X.outer) := fun hm => by
      obtain ⟨_, o', e', hnf⟩ := fl3.2.2.1.mem hm
      have e2 : some oe3 = some o' := he3.symm.trans e'
      cases e2
      exact hnf _ hd3
    have nL : a ≠ X.env.locals := fun z => nfr (List.mem_filterMap.mpr ⟨X.env, List.mem_cons_self, by rw [hf, z]⟩)
    have nF : ¬ a ∈ X.fs := fun hm => by
      obtain ⟨e, he, q⟩ := List.mem_filterMap.mp hm
      exact nfr (List.mem_filterMap.mpr ⟨e, List.mem_cons_of_mem _ he, q⟩)
    have S3 := J3.suite he3 hd3 na nL nF
    have go : ∀ {hs' l'}, Hds X hs' l' → wHs X.K Wout D l' cls d σ' H' → wpAny (model X.prog X.w) X.A (handleBy (.ref a) X.env hs') (SP X pins D) X.xe { heap := h3, gens := s'.gens, drawn := s'.drawn, toks := s'.toks, os := s'.os } := by
      intro hs' l' hk
      have LT : ∀ (c : Value) (b : Bool), PySem.W.exmOne X.K cls c = some b → PySem.W.Looks (model X.prog X.w) h3 (excMatches (.ref a) c) b := fun c b hb1 => PySem.W.exm_one J3.kIn (fun A Q E s k q => wpAny_typeOf_ref (k a oe3 he3) (by rw [hz3.1]; exact q)) hb1
      have test : ∀ {x : Str} {c : Value} {np : Pos} {Q : Value → Shared → Prop} {E : Value → Shared → Prop}, Names X x c → Q c { heap := h3, gens := s'.gens, drawn := s'.drawn, toks := s'.toks, os := s'.os } → wpAny (model X.prog X.w) (X.A.mark (some (.ref a))) (eval (.Name x np) X.env) Q E { heap := h3, gens := s'.gens, drawn := s'.drawn, toks := s'.toks, os := s'.os } := by
        intro x c np Q E hc q
        obtain ⟨hg, hdbg, hm | ⟨hm, hv, hnn⟩⟩ := hc
        · exact ld_glob S3 hg hm q hdbg
        · exact ld_blt S3 hg hm hv q hnn hdbg
      induction hk with
      | nil =>
        intro w
        refine wpAny_handleBy_nil ?_
        obtain ⟨k1, k2, k3, oe, vs, T, oT, ts', he, hz, hd, h1, hr⟩ := id fl3
        refine wpAny_bind (wpAny_field he hd h1 ?_)
        rw [if_neg (by simp)]
        refine wpAny_bind ?_
        rw [hf]
        exact HandSPX.setFlight_upZ fl3 fun h4 hh4 up4 => wpAny_throw (tk (.ref a) _ ⟨a, B, sI, pins, σ', H', cls, d, rfl, J, nb, (up.trans up3).trans up4, .inr (.inr (by rw [hs]; exact hh4)), na, os, ag, w⟩)
      | one hc hsu r ih =>
        rintro ⟨b, hb1, hyes, hno⟩
        refine wpAny_handleBy_cons (codeAny_handlers_test (test hc (PySem.W.Looks.here (LT _ _ hb1) ?_))) (fun q => by cases q)
        cases b with
        | false => exact ih (hno rfl)
        | true =>
          refine codeAny_handlers_suite (HandSPX.lands_againZ fl3 fun h4 fl4 up4 => ?_)
          have J4 := J.landed (s' := { heap := h4, gens := s'.gens, drawn := s'.drawn, toks := s'.toks, os := s'.os }) nb fl4.1 ((up.trans up3).trans up4) os ag
          obtain ⟨oe4, vs4, he4, hz4, hd4⟩ := fl4.there
          have S4 := J4.suite he4 hd4 na nL nF
          refine wpAny_mono ((hsu a oe4 cls d (X.pn ++ pins) hz4 ⟨vs4, hd4⟩).run [] _ σ' H' D S4 (hyes rfl a na)) (fun f s6 hsp => ?_) fun _ _ z => z.elim
          show SP X pins D f s6
          cases f with
          | ret u =>
            obtain ⟨v6, σ6, H6, S6, r6, q6⟩ := hsp
            exact ⟨v6, σ6, H6, S6.unsuite ok, r6, q6⟩
          | _ =>
            obtain ⟨σ6, H6, S6, q6⟩ := hsp
            exact ⟨σ6, H6, S6.unsuite ok, q6⟩
      | as_ hc hi hln hsu r ih =>
        rintro ⟨b, hb1, hyes, hno⟩
        refine wpAny_handleBy_cons (codeAny_handlers_test (test hc (PySem.W.Looks.here (LT _ _ hb1) ?_))) (fun q => by cases q)
        cases b with
        | false => exact ih (hno rfl)
        | true =>
          refine codeAny_handlers_suite_as (HandSPX.lands_againZ fl3 fun h4 fl4 up4 => ?_)
          have J4 := J.landed (s' := { heap := h4, gens := s'.gens, drawn := s'.drawn, toks := s'.toks, os := s'.os }) nb fl4.1 ((up.trans up3).trans up4) os ag
          obtain ⟨oe4, vs4, he4, hz4, hd4⟩ := fl4.there
          have S4 := J4.suite he4 hd4 na nL nF
          refine store_ok (X := X.suite a ((a, oe4) :: (X.pn ++ pins))) (v := .ref a) S4 hN hi (.inl hln) rfl (fun s5 S5 => ?_) (.inr hln)
          refine wpAny_mono ((hsu a oe4 cls d (X.pn ++ pins) hz4 ⟨vs4, hd4⟩).run [] s5 _ H' _ S5 (hyes rfl a na (by rw [J.len]; exact (List.getElem?_eq_some_iff.mp hi).1))) (fun f s6 hsp => ?_) fun _ _ z => z.elim
          cases f with
          | ret u =>
            obtain ⟨v6, σ6, H6, S6, r6, q6⟩ := hsp
            exact gone_ok (S6.unsuite ok) hN hi hln fun s7 J7 => ⟨v6, _, H6, J7, r6, q6⟩
          | _ =>
            obtain ⟨σ6, H6, S6, q6⟩ := hsp
            exact gone_ok (S6.unsuite ok) hN hi hln fun s7 J7 => ⟨_, H6, J7, q6⟩
    exact go hh w
  · intro f s1 hsp
    cases f with
    | ret u =>
      obtain ⟨v, σ', H', J', r, q⟩ := hsp
      exact ⟨v, σ', H', J'.ofTry ok, r, q⟩
    | next =>
      obtain ⟨σ', H', J', q⟩ := hsp
      exact wpAny_execs_nil ⟨σ', H', J'.ofTry ok, q⟩
    | _ =>
      obtain ⟨σ', H', J', q⟩ := hsp
      exact ⟨σ', H', J'.ofTry ok, q⟩
end GV

namespace GV
open PySem PySem.Spec PyProof.Rows L2
/-! ### an own error without a word -/
theorem pmk_own0 {X : Cx} {pos : Pos} {C : Addr} {bmB : List Value} {B newId initId : String} {x : Str} {p : Pos} (F : ExcBaseFacts B newId initId bmB) (q : PySem.W.excIn X.K C bmB newId = true) (gC : X.mg x = some (.ref C)) (kC : PySem.W.keepIn X.K (.ref C) = true) (r : Raises X (.ref C)) (hg : Gl X x)
    (hdb : (x == ("__debug__" : Str)) = false := by decide) : PMk X (.Call (.Name x p) [] [] pos) fun σ H Q => Q (.ref C) none H := by
  intro pins s σ H Q I h
  refine wpAny_Call_Name_kw ?_
  refine ld_glob I hg gC ?_ hdb
  refine PySem.W.callWith_K0 (env := X.env) (first := []) I.kIn kC ?_
  obtain ⟨bm, N, nm, qn, bs, hdct, sn, sub, ab, col, dd, k0, k1, k2, k3, k5, mN, hC, hN, hni, T⟩ := exc_obj I.kIn q
  exact wpAny_call_exc_subT F T hC hN hni (fun h' e hm => mk_of I hm r h (HOk.gone I.hok hm.new)) (Nat.zero_le _)
/-- an error class whose objects are made without words -/
structure Err0 (K : PySem.W.Frag) (mg : Str → Option Value) (x : Str) (C : Addr) : Prop where
  gC : mg x = some (.ref C)
  ex : PySem.W.excIn K C [.type "ValueError", .type "Exception", .type "BaseException", .type "object"] "ValueError.__new__" = true
  kC : PySem.W.keepIn K (.ref C) = true
  exC : PySem.W.subIn K (.ref C) (.type "BaseException") = some true
  tyC : PySem.W.typeIn K (.ref C) = some (.type "type")
theorem s_raise0 {X : Cx} {σ : St} {H : Hp} {D : Ends} {W : WX} {x : Str} {C : Addr} {p pos pos2 : Pos} (hc : X.calm = true) (er : Err0 X.K X.mg x C) (tk : Takes X W) (hg : Gl X x) (h : W (.ref C) none σ H) (hdb : (x == ("__debug__" : Str)) = false := by decide) :
    wS X (.Raise (some (.Call (.Name x p) [] [] pos)) none pos2) D σ H := ⟨_, ps_raise hc tk (pmk_own0 F.excBase_ValueError er.ex er.gC er.kC (raises_own er.exC er.tyC) hg hdb), h⟩
end GV

namespace GV
open PySem PySem.Spec PyProof.Rows L2
/-! ### objects: fields, methods, properties -/
/-- e names what stands at a -/
def AtN (X : Cx) (σ : St) (e : Expr) (a : Addr) : Prop := ∀ H1 (Q : VK), Q (.ref a) H1 → wE X e σ H1 Q
section
variable {X : Cx} {M : Addr → Prop} {σ : St} {H H' : Hp} {a b c e o : Expr} {da db d : PyData} {pos : Pos} {es : List Expr} {ds : List PyData} {D : Ends}
theorem AtN.name {i : Nat} {x : Str} {p : Addr} (hN : X.N[i]? = some x) (hv : Vis X.env.scope x) (hs : σ[i]? = some (some (.ref p)))
    (hd : (x == ("__debug__" : Str)) = false := by decide) (hcd : (x == ("__classdict__" : Str)) = false := by decide) : AtN X σ (.Name x pos) p := fun H1 Q q => ce_name hN hv hs q hd hcd
theorem pd_fld {f : Str} {p C dx : Addr} {fs : List (Str × V)} {v : V} (hn : AtN X σ e p) (m : ¬ M p) (hp : H p = some (.ins C dx fs)) (c : Cls X.K C) (n : NoAttr X.K C f) (hf : fs.lookup f = some v) (r : Rp X.K M H v d)
    (hb : attributeBase e f X.env (eval e X.env) = eval e X.env := by rfl) : PD X M (.Attribute e f pos) σ H d := .mk fun H1 e1 al Q q =>
  ⟨_, pe_fld wE.pe hb, hn _ _ ⟨p, C, dx, fs, v, rfl, e1 _ _ hp m (fun _ z => by cases z), c, n, hf, q v H1 (Evl.Ex.refl H1) (r.mono (fun _ z => z) e1)⟩⟩
theorem AtN.fld {f : Str} {p s C dx : Addr} {fs : List (Str × V)} (hn : AtN X σ e p) (c : Cls X.K C) (n : NoAttr X.K C f) (hf : fs.lookup f = some (.ref s)) {Q : VK} (hp : H p = some (.ins C dx fs)) (q : Q (.ref s) H)
    (hb : attributeBase e f X.env (eval e X.env) = eval e X.env := by rfl) : wE X (.Attribute e f pos) σ H Q := ⟨_, pe_fld wE.pe hb, hn _ _ ⟨p, C, dx, fs, _, rfl, hp, c, n, hf, q⟩⟩
/-- o.append(e) -/
theorem ce_append {apos cpos : Pos} {Q : VK} (h : wE X o σ H fun x H1 => ∃ l xs, x = .ref l ∧ H1 l = some (.lst xs) ∧ wE X e σ H1 fun y H2 => ∃ ys, H2 l = some (.lst ys) ∧ ys.length < 100000 ∧ Q .non (upd H2 l (.lst (ys ++ [y]))))
    (h1 : attributeBase o ("append" : Str) X.env (eval o X.env) = eval o X.env := by rfl)
    (h2 : ((((backTo cpos (starEach (e :: []) X.env)).all fun x => !x.1) && (backToKw cpos (keywordEach [] X.env)).all fun x => x.1.isSome) && decide (((e :: []).length + ([] : List Keyword).length + if ([] : List Keyword).isEmpty = true then 0 else 1) < 30)) = true := by rfl)
    (h3 : (apos.endLine == cpos.line) = true := by rfl) (h4 : starEach (e :: []) X.env = (false, eval e X.env) :: starEach [] X.env := by rfl) (h5 : (backTo cpos (starEach [] X.env)).any (·.1) = false := by rfl) :
    wE X (.Call (.Attribute o "append" apos) [e] [] cpos) σ H Q := by
  refine ⟨_, pe_bm PySem.F.plainAttrs_list PySem.F.slot_list_append PySem.F.type_list_append mt_append wE.pe wA.pa h1 h2 h3 h4 h5, ?_⟩
  obtain ⟨t, p, q⟩ := h
  refine ⟨fun σ H Q => ∃ Q0, t σ H Q0 ∧ ∀ x H1, Q0 x H1 → Q x H1, ⟨fun pins s σ H Q I ⟨Q0, h0, imp⟩ => wpAny_mono (p.run pins s σ H Q0 I h0) (fun us s1 ⟨v, H1, I1, r1, q1⟩ => ⟨v, H1, I1, r1, imp v H1 q1⟩) fun _ _ z => z⟩, _, q, ?_⟩
  rintro x H1 ⟨l, xs, rfl, hl, h2⟩
  refine ⟨.inl ⟨rfl, _, SqL.of hl⟩, ?_⟩
  obtain ⟨t2, p2, q2⟩ := h2
  refine ⟨_, pa_cons (te := fun σ H Q => ∃ Q0, t2 σ H Q0 ∧ ∀ x H1, Q0 x H1 → Q x H1) ⟨fun pins s σ H Q I ⟨Q0, h0, imp⟩ => wpAny_mono (p2.run pins s σ H Q0 I h0) (fun us s1 ⟨v, H1, I1, r1, q1⟩ => ⟨v, H1, I1, r1, imp v H1 q1⟩) fun _ _ z => z⟩ pa_nil h4, _, q2, ?_⟩
  rintro y H2 ⟨ys, hy, hlen, hq⟩
  exact ⟨l, ys, y, rfl, rfl, hy, Nat.lt_of_lt_of_le hlen (by rw [sizeLine_eq]; decide), hq⟩
/-- o.pop() -/
theorem ce_pop {apos cpos : Pos} {Q : VK} {l : Addr} {xs : List V} {y : V} (h : wE X o σ H fun x H1 => x = .ref l ∧ H1 l = some (.lst (xs ++ [y])) ∧ Q y (upd H1 l (.lst xs)))
    (h1 : attributeBase o ("pop" : Str) X.env (eval o X.env) = eval o X.env := by rfl) (h3 : (apos.endLine == cpos.line) = true := by rfl) : wE X (.Call (.Attribute o "pop" apos) [] [] cpos) σ H Q := by
  refine ⟨_, pe_bm0 PySem.F.plainAttrs_list PySem.F.slot_list_pop PySem.F.type_list_pop mt_pop wE.pe h1 h3, ?_⟩
  obtain ⟨t, p, q⟩ := h
  refine ⟨fun σ H Q => ∃ Q0, t σ H Q0 ∧ ∀ x H1, Q0 x H1 → Q x H1, ⟨fun pins s σ H Q I ⟨Q0, h0, imp⟩ => wpAny_mono (p.run pins s σ H Q0 I h0) (fun us s1 ⟨v, H1, I1, r1, q1⟩ => ⟨v, H1, I1, r1, imp v H1 q1⟩) fun _ _ z => z⟩, _, q, ?_⟩
  rintro x H1 ⟨rfl, hl, hq⟩
  refine ⟨.inl ⟨rfl, _, SqL.of hl⟩, l, _, y, rfl, rfl, hl, ?_, ?_⟩
  · simp
  · rw [List.dropLast_concat]
    exact hq
/-- o.reverse() -/
theorem ce_reverse {apos cpos : Pos} {Q : VK} {l : Addr} {xs : List V} (h : wE X o σ H fun x H1 => x = .ref l ∧ H1 l = some (.lst xs) ∧ Q .non (upd H1 l (.lst xs.reverse)))
    (h1 : attributeBase o ("reverse" : Str) X.env (eval o X.env) = eval o X.env := by rfl) (h3 : (apos.endLine == cpos.line) = true := by rfl) : wE X (.Call (.Attribute o "reverse" apos) [] [] cpos) σ H Q := by
  refine ⟨_, pe_bm0 PySem.F.plainAttrs_list PySem.F.slot_list_reverse PySem.F.type_list_reverse mt_reverse wE.pe h1 h3, ?_⟩
  obtain ⟨t, p, q⟩ := h
  refine ⟨fun σ H Q => ∃ Q0, t σ H Q0 ∧ ∀ x H1, Q0 x H1 → Q x H1, ⟨fun pins s σ H Q I ⟨Q0, h0, imp⟩ => wpAny_mono (p.run pins s σ H Q0 I h0) (fun us s1 ⟨v, H1, I1, r1, q1⟩ => ⟨v, H1, I1, r1, imp v H1 q1⟩) fun _ _ z => z⟩, _, q, ?_⟩
  rintro x H1 ⟨rfl, hl, hq⟩
  exact ⟨.inl ⟨rfl, _, SqL.of hl⟩, l, _, rfl, rfl, hl, hq⟩
end
/-! ### which data hold no list, so that no change reaches them -/
mutual
def flat : PyData → Bool
  | .list _ => false
  | .dict _ => false
  | .tuple ds => flats ds
  | _ => true
def flats : List PyData → Bool
  | [] => true
  | d :: ds => flat d && flats ds
end
section
variable {K : PySem.W.Frag} {M M' : Addr → Prop} {H H' : Hp}
def Lists (M : Addr → Prop) (H : Hp) : Prop := ∀ a, M a → ∃ xs, H a = some (.lst xs)
mutual
theorem Rp.off {v : V} {d : PyData} : (r : Rp K M' H v d) → flat d = true → Lists M H → Rp K M H v d
  | .non, _, _ => .non
  | .bl b, _, _ => .bl b
  | .int i, _, _ => .int i
  | .str x, _, _ => .str x
  | .lst m h r, hf, hm => absurd hf (by simp [flat])
  | .tup m h r, hf, hm => .tup (fun z => by
      obtain ⟨xs, hx⟩ := hm _ z
      rcases h with h | ⟨o, h⟩ <;> rw [h] at hx <;> cases hx) h (RpAll.off r (by simpa [flat] using hf) hm)
theorem RpAll.off {vs : List V} {ds : List PyData} : (r : RpAll K M' H vs ds) → flats ds = true → Lists M H → RpAll K M H vs ds
  | .nil, _, _ => .nil
  | .cons r rs, hf, hm => .cons (Rp.off r (by simp [flats] at hf; exact hf.1) hm) (RpAll.off rs (by simp [flats] at hf; exact hf.2) hm)
end
/-- .. so what is flat stays whatever becomes of lists -/
def Keep (H H' : Hp) : Prop := ∀ a o, H a = some o → (∀ xs, o ≠ .lst xs) → NT o → H' a = some o
end
end GV

namespace GV
open PySem PySem.Spec PyProof.Rows L2
/-! ### weaker questions -/
theorem PE.weak {X : Cx} {e : Expr} {t : TE} (p : PE X e t) : PE X e fun σ H Q => ∃ Q0 : VK, t σ H Q0 ∧ ∀ v H1, Q0 v H1 → Q v H1 :=
  ⟨fun pins s σ H Q I ⟨Q0, h0, imp⟩ => wpAny_mono (p.run pins s σ H Q0 I h0) (fun us s1 ⟨v, H1, I1, r1, q1⟩ => ⟨v, H1, I1, r1, imp v H1 q1⟩) fun _ _ z => z⟩
theorem wE.weak {X : Cx} {e : Expr} {σ : St} {H : Hp} {Q0 Q : VK} (h : wE X e σ H Q0) (imp : ∀ v H1, Q0 v H1 → Q v H1) : wE X e σ H Q := let ⟨t, p, q⟩ := h; ⟨_, PE.weak p, Q0, q, imp⟩
/-! ### what changes only at S -/
def ExS (S : Addr → Prop) (H H' : Hp) : Prop := ∀ a o, ¬ S a → H a = some o → H' a = some o
theorem ExS.of {S : Addr → Prop} {H H' : Hp} (e : Evl.Ex H H') : ExS S H H' := fun a o _ h => e a o h
theorem ExS.trans {S : Addr → Prop} {H H1 H2 : Hp} (e : ExS S H H1) (f : ExS S H1 H2) : ExS S H H2 := fun a o n h => f a o n (e a o n h)
theorem ExS.upd {S : Addr → Prop} {H : Hp} {b : Addr} {o : HO} (s : S b) : ExS S H (upd H b o) := fun a u n h => by
  rw [upd_ne fun e => n (by rw [e]; exact s)]
  exact h
theorem ExS.mono {S S' : Addr → Prop} {H H' : Hp} (e : ExS S H H') (h : ∀ a, S a → S' a) : ExS S' H H' := fun a o n k => e a o (fun z => n (h a z)) k
theorem ExS.exM {S : Addr → Prop} {H H' : Hp} (e : ExS S H H') : ExM S H H' := fun a o h n _ => e a o n h
theorem ExM.mono {S S' : Addr → Prop} {H H' : Hp} (e : ExM S H H') (h : ∀ a, S a → S' a) : ExM S' H H' := fun a o k n t => e a o k (fun z => n (h a z)) t
theorem ExM.lst {S : Addr → Prop} {H H' : Hp} {a : Addr} {xs : List V} (e : ExM S H H') (n : ¬ S a) (h : H a = some (.lst xs)) : H' a = some (.lst xs) := e a _ h n fun _ z => by cases z
/-- the tables stay -/
theorem Tabs.exS {S : Addr → Prop} {H H' : Hp} {T : List (Addr × Str)} (t : LamX.Tabs T H) (e : ExS S H H') (l : ∀ a, S a → ∃ xs, H a = some (.lst xs)) : LamX.Tabs T H' := fun p hp => by
  obtain ⟨ps, h1, h2, h3⟩ := t p hp
  refine ⟨ps, e _ _ (fun s => ?_) h1, h2, fun pos cv h => ?_⟩
  · obtain ⟨xs, hx⟩ := l _ s
    rw [hx] at h1
    cases h1
  · obtain ⟨c, rfl, hc⟩ := h3 pos cv h
    refine ⟨c, rfl, e _ _ (fun s => ?_) hc⟩
    obtain ⟨xs, hx⟩ := l _ s
    rw [hx] at hc
    cases hc
section
variable {X : Cx} {M : Addr → Prop} {σ : St} {H H' : Hp} {a b c e o : Expr} {da db d : PyData} {pos : Pos} {es : List Expr} {ds : List PyData} {D : Ends}
theorem ce_str {x : Str} {j} {Q : VK} (q : Q (.str x) H) : wE X (.Constant (.str x) j pos) σ H Q := ⟨_, pe_str, q⟩
theorem ce_tup {x1} {Q : VK} (h : wA X es σ H fun vs H1 => vs.length ≤ 1000 ∧ ∀ p, H1 p = none → Q (.ref p) (upd H1 p (.tup vs))) : wE X (.Tuple es x1 pos) σ H Q := by
  obtain ⟨t, p, q⟩ := h
  refine ⟨_, pe_tup (t := fun σ H Q => ∃ Q0, t σ H Q0 ∧ ∀ vs H1, Q0 vs H1 → Q vs H1) ⟨fun pos pins s σ H Q I ⟨Q0, h0, imp⟩ => wpAny_mono (p.run pos pins s σ H Q0 I h0) (fun us s1 ⟨vs, H1, I1, r1, q1⟩ => ⟨vs, H1, I1, r1, imp vs H1 q1⟩) fun _ _ z => z⟩, _, q, ?_⟩
  rintro vs H1 ⟨hl, hq⟩
  exact ⟨Evl.sz_of (by omega), hq⟩
/-- a method's call -/
theorem ce_meth {CX : CXT} {E : XK} {C f p dx : Addr} {fd : FuncData} {ps : List Str} {sp : Sp} {m : Str} {apos : Pos} {pl : Sem Bool} {j k : Nat} {fs : List (Str × V)} {Q : VK} (hn : AtN X σ o p) (c : Cls X.K C) (hm : Meth X.K C m f) (F : FnOk X.prog X.w X.K X.mg X.base CX k f fd ps sp) (hr : Room j X.A) (hkj : k ≤ j) (hb : Binds X.K fd ps []) (hx : Passes CX X E)
    (hp : H p = some (.ins C dx fs)) (hf : fs.lookup m = none) (h : wA X (e :: es) σ H fun vs H2 => sp (.ref p :: vs) H2 Q E)
    (he : starEach (e :: es) X.env = (false, eval e X.env) :: starEach es X.env := by rfl) (hpl : (backTo pos (starEach es X.env)).any (·.1) = false := by rfl)
    (hev : eval (.Call (.Attribute o m apos) (e :: es) [] pos) X.env = (do
      let ov ← eval o X.env
      standAt apos.atName
      let (f, first) ← holding [ov] (getMethod ov m pl)
      callWith pos f first (backTo pos (starEach (e :: es) X.env)) (backToKw pos (keywordEach [] X.env))) := by rfl) : wE X (.Call (.Attribute o m apos) (e :: es) [] pos) σ H Q := by
  refine ⟨_, pe_meth wE.pe c hm F (hr.mono hkj) hb .nil hx wA.pa he hpl hev, hn _ _ ⟨p, dx, fs, rfl, hp, hf, ?_⟩⟩
  obtain ⟨t, h1, h2⟩ := h
  refine ⟨t, h1, ?_⟩
  have e1 : (fun vs H2 => sp (V.ref p :: (vs ++ [])) H2 Q E) = fun vs H2 => sp (V.ref p :: vs) H2 Q E := by
    funext vs H1
    rw [List.append_nil]
  rw [e1]
  exact h2
theorem ce_meth0 {CX : CXT} {E : XK} {C f p dx : Addr} {fd : FuncData} {ps : List Str} {sp : Sp} {m : Str} {apos : Pos} {pl : Sem Bool} {j k : Nat} {fs : List (Str × V)} {Q : VK} (hn : AtN X σ o p) (c : Cls X.K C) (hm : Meth X.K C m f) (F : FnOk X.prog X.w X.K X.mg X.base CX k f fd ps sp) (hr : Room j X.A) (hkj : k ≤ j) (hb : Binds X.K fd ps []) (hx : Passes CX X E)
    (hp : H p = some (.ins C dx fs)) (hf : fs.lookup m = none) (h : sp [.ref p] H Q E)
    (hev : eval (.Call (.Attribute o m apos) [] [] pos) X.env = (do
      let ov ← eval o X.env
      standAt apos.atName
      let (f, first) ← holding [ov] (getMethod ov m pl)
      callWith pos f first (backTo pos (starEach [] X.env)) (backToKw pos (keywordEach [] X.env))) := by rfl) : wE X (.Call (.Attribute o m apos) [] [] pos) σ H Q :=
  ⟨_, pe_meth0 wE.pe c hm F (hr.mono hkj) hb .nil hx hev, hn _ _ ⟨p, dx, fs, rfl, hp, hf, h⟩⟩
/-- a property's value -/
theorem ce_prop {CX : CXT} {E : XK} {C p g b dx : Addr} {f : Str} {fd : FuncData} {ps : List Str} {sp : Sp} {j k : Nat} {fs : List (Str × V)} {Q : VK} (hn : AtN X σ o b) (c : Cls X.K C) (hp : PropOf X.K C f p g) (F : FnOk X.prog X.w X.K X.mg X.base CX k g fd ps sp) (hr : Room j X.A) (hkj : k + 1 ≤ j) (hb : Binds X.K fd ps []) (hx : Passes CX X.nox E)
    (hi : H b = some (.ins C dx fs)) (h : sp [.ref b] H Q E) (hab : attributeBase o f X.env (eval o X.env) = eval o X.env := by rfl) : wE X (.Attribute o f pos) σ H Q :=
  ⟨_, pe_prop wE.pe c hp F (hr.mono hkj) hb .nil hx hab, hn _ _ ⟨b, dx, fs, rfl, hi, h⟩⟩
/-! ### try -/
abbrev tsW (X : Cx) (suite : List Stmt) : HdT := fun a cls d D σ H => ∀ oe pn, Zc cls d oe → (∃ vs, oe.data = .fields vs) → wB (X.suite a ((a, oe) :: pn)) suite D σ H
theorem psW {X : Cx} {suite : List Stmt} {a : Addr} {oe : Obj} {cls : Value} {d : Option Addr} {pn : List (Addr × Obj)} (hz : Zc cls d oe) (hd : ∃ vs, oe.data = .fields vs) : PSs (X.suite a ((a, oe) :: pn)) suite (tsW X suite a cls d) := ⟨fun pins s σ H D I h => wB.ps.run pins s σ H D I (h oe pn hz hd)⟩
theorem s_try {body : List Stmt} {h₀ : ExceptHandler} {hds : List ExceptHandler} {l : List (Value × Option Nat × HdT)} {Wout : WX} (hs : X.stack = X.env :: X.outer) (hf : X.env.frame = some X.env.locals) (hN : X.N.Nodup) (tk : Takes X Wout) (hh : Hds X (h₀ :: hds) l)
    (h : ∀ pn xe, Takes (X.tr pn xe) (wHs X.K Wout D l) → wB (X.tr pn xe) body D σ H) : wS X (.Try body (h₀ :: hds) [] [] pos) D σ H :=
  ⟨_, ps_tryAs (tb := fun W D σ H => ∀ pn xe, Takes (X.tr pn xe) W → wB (X.tr pn xe) body D σ H) hs hf hN tk (fun W pn xe tkW _ => ⟨fun pins s σ H D I h => wB.ps.run pins s σ H D I (h pn xe tkW)⟩) hh, h⟩
/-- e.f, e the exception that the clause holds -/
theorem ce_xf {X : Cx} {a C : Addr} {oe : Obj} {cls : Value} {d : Option Addr} {pn : List (Addr × Obj)} {f : Str} {Q : VK} (xf : XfC X.K C) (n : PySem.W.findIn X.K (.ref C) f = some none) (hz : Zc cls d oe) (hd : ∃ vs, oe.data = .fields vs)
    (h : wE (X.suite a ((a, oe) :: pn)) e σ H fun x H1 => x = .ref a ∧ cls = .ref C ∧ ∃ dd fs v, d = some dd ∧ H1 dd = some (.xd fs) ∧ fs.lookup f = some v ∧ Q v H1)
    (hab : attributeBase e f X.env (eval e X.env) = eval e X.env := by rfl) : wE (X.suite a ((a, oe) :: pn)) (.Attribute e f pos) σ H Q := ⟨_, pe_xf xf n hz hd wE.pe hab, h⟩
end
end GV

namespace GV
open PySem PySem.Spec PyProof.Rows L2
/-! ### the script: a list of whole numbers that nothing changes, wherever it stands -/
def ScAt (K : PySem.W.Frag) (M : Addr → Prop) (H : Hp) (a : Addr) (ns : List Int) : Prop := (¬ M a ∧ Rd H a (.lst (ns.map V.int))) ∨ ∀ H', SqL K H' a (ns.map V.int)
section
variable {K : PySem.W.Frag} {M M' : Addr → Prop} {H H' : Hp} {a : Addr} {ns : List Int}
theorem ScAt.of (h : SqL K H a (ns.map V.int)) (n : ¬ M a) : ScAt K M H a ns := h.elim (fun h => .inl ⟨n, h⟩) fun h => .inr fun _ => .inr h
theorem ScAt.sq (h : ScAt K M H a ns) : SqL K H a (ns.map V.int) := h.elim (fun h => .inl h.2) fun h => h H
theorem ScAt.mono (h : ScAt K M H a ns) (hm : ∀ a, M' a → M a) (e : ExM M H H') : ScAt K M' H' a ns := h.elim (fun ⟨n, h⟩ => .inl ⟨fun z => n (hm _ z), Rd.exM h n e⟩) .inr
end
section
variable {X : Cx} {M : Addr → Prop} {σ : St} {H : Hp} {a : Addr} {e b : Expr} {ns : List Int} {pos : Pos}
theorem pd_scIx {i : Nat} {j : Nat} {x : Str} {p : Pos} {z : Int} (h : ScAt X.K M H a ns) (hb : PD X M b σ H (.int (i : Nat))) (hz : ns[i]? = some z) (hN : X.N[j]? = some x := by rfl) (hv : Vis X.env.scope x := by first | exact .inl rfl | exact .inr (.inl rfl)) (hs : σ[j]? = some (some (.ref a)) := by rfl)
    (hd : (x == ("__debug__" : Str)) = false := by decide) (hcd : (x == ("__classdict__" : Str)) = false := by decide) (hpl : PlainIx b := by exact fun _ _ => rfl) : PD X M (.Subscript (.Name x p) b pos) σ H (.int z) := .mk fun H1 e1 al Q q =>
  ⟨_, pe_ix ix_seq wE.pe wE.pe hpl, ce_name hN hv hs (hb.run H1 e1 al _ fun y H2 x2 ry => by
    cases ry
    have hq := ((h.mono (fun _ z => z) e1).mono (fun _ z => z) (.of x2)).sq
    exact .inl ⟨_, _, (i : Nat), .int z, rfl, rfl, hq, atI_nat (by rw [List.getElem?_map, hz]; rfl), q _ H2 x2 (.int z)⟩) hd hcd⟩
theorem pd_scLen {j : Nat} {x : Str} {p p2 : Pos} (h : ScAt X.K M H a ns) (hg : Gl X "len") (hm : X.mg "len" = none) (hN : X.N[j]? = some x := by rfl) (hv : Vis X.env.scope x := by first | exact .inl rfl | exact .inr (.inl rfl)) (hs : σ[j]? = some (some (.ref a)) := by rfl)
    (hd : (x == ("__debug__" : Str)) = false := by decide) (hcd : (x == ("__classdict__" : Str)) = false := by decide) (hst : starEach (.Name x p :: []) X.env = (false, eval (.Name x p) X.env) :: starEach [] X.env := by rfl) (hpl : (backTo pos (starEach [] X.env)).any (·.1) = false := by rfl) :
    PD X M (.Call (.Name "len" p2) [.Name x p] [] pos) σ H (.int ns.length) := .mk fun H1 e1 al Q q =>
  ⟨_, pe_callB call_len_seq hg hm PySem.boot_len wA.pa (by decide) (by decide) hst hpl, ca_cons (ce_name hN hv hs (ca_nil ⟨a, ns.map V.int, rfl, .inl ((h.mono (fun _ z => z) e1).sq), by
    rw [List.length_map]
    exact q _ H1 (Evl.Ex.refl H1) (.int _)⟩) hd hcd) hst⟩
theorem fd_scSlice {lo hi : Option Expr} {l u : Option Int} {j : Nat} {x : Str} {p p2 : Pos} (h : ScAt X.K M H a ns) (hl : OD X M lo σ H l) (hu : OD X M hi σ H u) (hN : X.N[j]? = some x := by rfl) (hv : Vis X.env.scope x := by first | exact .inl rfl | exact .inr (.inl rfl)) (hs : σ[j]? = some (some (.ref a)) := by rfl)
    (hd : (x == ("__debug__" : Str)) = false := by decide) (hcd : (x == ("__classdict__" : Str)) = false := by decide) : FD X M (.Subscript (.Name x p) (.Slice lo hi none p2) pos) σ H (cutD (ns.map PyData.int) l u) := by
  obtain ⟨tl, pl, rl⟩ := hl.ex
  obtain ⟨tu, pu, ru⟩ := hu.ex
  refine .mk fun H1 e1 al Q q => ⟨_, pe_slice sl_list wE.pe pl pu, ce_name hN hv hs ?_ hd hcd⟩
  refine rl H1 e1 al _ fun H3 x3 => ru H3 (e1.trans (.of x3)) (al.mono x3) _ fun H4 x4 => ?_
  have hq := ((h.mono (fun _ z => z) e1).mono (fun _ z => z) (.of (x3.trans x4))).sq
  exact ⟨_, _, rfl, hq, fun p hp => q p _ _ (Evl.fresh_back (x3.trans x4) hp) ((x3.trans x4).trans (Evl.Ex.new hp)) upd_same (((RpAll.ints ns).cut l u))⟩
end
end GV

-- out of B3
namespace GV
open PySem PySem.Spec PyProof.Rows L2
theorem _root_.L2.Room.u2 {k : Nat} {A : Around} (r : Room k A) : A.units + 2 < cLine := Nat.lt_of_le_of_lt (Nat.add_le_add_left (by decide : 2 ≤ 64) _) r.units
theorem cutD_take (xs : List PyData) (i : Nat) : cutD xs none (some (i : Int)) = xs.take i := by
  unfold cutD
  rw [HT.sIx_none, HT.sIx_nat, List.drop_zero, Nat.sub_zero]
  by_cases h : i ≤ xs.length
  · rw [Nat.min_eq_left h]
  · rw [Nat.min_eq_right (by omega), List.take_of_length_le (Nat.le_refl _), List.take_of_length_le (by omega)]
theorem cutD_drop (xs : List PyData) (i : Nat) : cutD xs (some (i : Int)) none = xs.drop i := by
  unfold cutD
  rw [HT.sIx_none, HT.sIx_nat]
  by_cases h : i ≤ xs.length
  · rw [Nat.min_eq_left h, List.take_of_length_le]
    rw [List.length_drop]
    exact Nat.le_refl _
  · rw [Nat.min_eq_right (by omega), Nat.sub_self, List.take_zero, List.drop_of_length_le (by omega)]
theorem take_snoc {α : Type} {l : List α} {i : Nat} {x : α} (h : l[i]? = some x) : l.take (i + 1) = l.take i ++ [x] := by
  rw [List.take_add_one, h]
  rfl
end GV
-- out of B4
namespace GV
open PySem PySem.Spec PyProof.Rows L2
theorem ixD_list {ds : List PyData} {i : Nat} {d : PyData} (h : ds[i]? = some d) : ixD (.list ds) (.int (i : Nat)) = some d := atI_nat h
theorem ixD_ints {ns : List Int} {i : Nat} {z : Int} (h : ns[i]? = some z) : ixD (.list (ns.map PyData.int)) (.int (i : Nat)) = some (.int z) := ixD_list (by rw [List.getElem?_map, h]; rfl)
section
variable {X : Cx} {M : Addr → Prop} {σ : St} {H H' : Hp} {a e : Expr} {d : PyData} {pos : Pos}
/-- int(e), e an int -/
theorem pd_intI {p : Pos} {i : Int} (nb : NoB X.mg) (hg : Gl X "int") (h : PD X M e σ H (.int i)) (hs : starEach (e :: []) X.env = (false, eval e X.env) :: starEach [] X.env := by rfl) (hpl : (backTo pos (starEach [] X.env)).any (·.1) = false := by rfl) :
    PD X M (.Call (.Name "int" p) [e] [] pos) σ H (.int i) := pd_callTy call_int1 hg nb.int PyProof.Rows.boot_int (ad_cons h ad_nil hs) rn_int (by decide) (by decide) hs hpl
theorem pd_intB {p : Pos} {k : Bool} (nb : NoB X.mg) (hg : Gl X "int") (h : PD X M e σ H (.bool k)) (hs : starEach (e :: []) X.env = (false, eval e X.env) :: starEach [] X.env := by rfl) (hpl : (backTo pos (starEach [] X.env)).any (·.1) = false := by rfl) :
    PD X M (.Call (.Name "int" p) [e] [] pos) σ H (.int (if k then 1 else 0)) := pd_callTy call_int1 hg nb.int PyProof.Rows.boot_int (ad_cons h ad_nil hs) rn_intB (by decide) (by decide) hs hpl
theorem pd_len {p : Pos} {n : Nat} (nb : NoB X.mg) (hg : Gl X "len") (h : PD X M e σ H d) (hn : lenD d = some n) (hs : starEach (e :: []) X.env = (false, eval e X.env) :: starEach [] X.env := by rfl) (hpl : (backTo pos (starEach [] X.env)).any (·.1) = false := by rfl) :
    PD X M (.Call (.Name "len" p) [e] [] pos) σ H (.int n) := pd_callB call_len hg nb.len PySem.boot_len (ad_cons h ad_nil hs) (rn_len hn) (by decide) (by decide) hs hpl
theorem pd_abs {p : Pos} {i : Int} (nb : NoB X.mg) (hg : Gl X "abs") (h : PD X M e σ H (.int i)) (hs : starEach (e :: []) X.env = (false, eval e X.env) :: starEach [] X.env := by rfl) (hpl : (backTo pos (starEach [] X.env)).any (·.1) = false := by rfl) :
    PD X M (.Call (.Name "abs" p) [e] [] pos) σ H (.int (if i < 0 then -i else i)) := pd_callB call_abs hg nb.abs PyProof.Rows.boot_abs (ad_cons h ad_nil hs) rn_abs (by decide) (by decide) hs hpl
theorem pd_sum {p : Pos} {ns : List Int} (hc : X.calm = true) (nb : NoB X.mg) (hg : Gl X "sum") (h : PD X M e σ H (.list (ns.map PyData.int))) (hs : starEach (e :: []) X.env = (false, eval e X.env) :: starEach [] X.env := by rfl) (hpl : (backTo pos (starEach [] X.env)).any (·.1) = false := by rfl) :
    PD X M (.Call (.Name "sum" p) [e] [] pos) σ H (.int ns.sum) := pd_callB (cr_sum hc) hg nb.sum PyProof.Rows.boot_sum (ad_cons h ad_nil hs) rn_sum (by decide) (by decide) hs hpl
end
end GV
-- out of B5
namespace GV
open PySem PySem.Spec PyProof.Rows L2
section
variable {X : Cx} {M : Addr → Prop} {σ : St} {H H' : Hp} {a b c e o : Expr} {da db d : PyData} {pos : Pos} {es : List Expr} {ds : List PyData} {D : Ends}
/-- o.f = e, o an exception being made -/
theorem cs_ost {f : Str} {p' : Pos} (h : wE X e σ H fun y H1 => wE X o σ H1 fun x H2 => ∃ a C, x = .ref a ∧ OexC X.K C ∧ PySem.W.findIn X.K (.ref C) f = some none ∧
      ((H2 a = some (exo a C none) ∧ ∀ dx, H2 dx = none → dx ≠ a → D.nx σ (upd (upd H2 dx (exd dx [(f, y)])) a (exo a C (some dx)))) ∨
        ∃ dx fs, H2 a = some (exo a C (some dx)) ∧ H2 dx = some (exd dx fs) ∧ fs.length ≤ 900 ∧ D.nx σ (upd H2 dx (exd dx ((f, y) :: fs)))))
    (hs : swapsWith e (some (.Attribute o f p')) pos.line X.env = pure false := by rfl) : wS X (.Assign [.Attribute o f p'] e pos) D σ H := ⟨_, ps_ost wE.pe wE.pe hs, h⟩
/-- o.f, a plain attribute of an object -/
theorem ce_fld {f : Str} {Q : VK} (h : wE X e σ H fun x H1 => ∃ a C dx fs v, x = .ref a ∧ H1 a = some (.ins C dx fs) ∧ Cls X.K C ∧ NoAttr X.K C f ∧ fs.lookup f = some v ∧ Q v H1) (hb : attributeBase e f X.env (eval e X.env) = eval e X.env := by rfl) : wE X (.Attribute e f pos) σ H Q := ⟨_, pe_fld wE.pe hb, h⟩
/-- o.f = e -/
theorem cs_fld {f : Str} {p' : Pos} (h : wE X e σ H fun y H1 => wE X o σ H1 fun x H2 => ∃ a C dx fs, x = .ref a ∧ H2 a = some (.ins C dx fs) ∧ Cls X.K C ∧ NoAttr X.K C f ∧ fs.length < 1000 ∧ D.nx σ (upd H2 a (.ins C dx (putF f y fs))))
    (hs : swapsWith e (some (.Attribute o f p')) pos.line X.env = pure false := by rfl) : wS X (.Assign [.Attribute o f p'] e pos) D σ H := ⟨_, ps_fld wE.pe wE.pe hs, h⟩
/-- a call that may raise -/
theorem ce_callX {sp : Sp} {W : WX} {Q : VK} {j k : Nat} {x : Str} {p : Pos} (cl : Cl X.prog X.w X.K X.mg X.base (L2.CX X.prog X.w) k x sp) (hr : Room j X.A) (hkj : k ≤ j) (hg : Gl X x) (tk : Takes X W) (h : wA X (e :: es) σ H fun vs H2 => sp vs H2 Q (fun cls d H' => W cls d σ H'))
    (hdb : (x == ("__debug__" : Str)) = false := by decide) (he : starEach (e :: es) X.env = (false, eval e X.env) :: starEach es X.env := by rfl) (hpl : (backTo pos (starEach es X.env)).any (·.1) = false := by rfl) : wE X (.Call (.Name x p) (e :: es) [] pos) σ H Q := by
  obtain ⟨f, fd, ps, F, hm, hk, hb⟩ := cl.ex
  exact ⟨_, pe_callS F (hr.mono hkj) hg hm hk hb (fun σ => passAt tk σ) wA.pa hdb he hpl, h⟩
theorem cs_if {A B : List Stmt} (h : wT X c σ H fun k H2 => if k = true then wB X A D σ H2 else wB X B D σ H2) : wS X (.If c A B pos) D σ H := ⟨_, ps_if wT.pt wB.ps wB.ps, h⟩
theorem ct_td {k : Bool} {Q : Bool → Hp → Prop} (al : Alive M H) (h : TD X M e σ H k) (q : ∀ H2, Evl.Ex H H2 → Q k H2) : wT X e σ H Q := h.run H (ExM.refl H) al Q q
end
end GV
-- out of B7
namespace GV
open PySem PySem.Spec PyProof.Rows L2
section
variable {X : Cx} {M : Addr → Prop} {σ : St} {H : Hp} {e : Expr} {pos : Pos}
/-- for x in range(n) -/
theorem s_forR {n slot : Nat} {x : Str} {p p1 p2 : Pos} {body : List Stmt} {D : Ends} (hp : PassesOwn (model X.prog X.w) X.A X.env X.xe) (hc : X.calm = true) (hN : X.N.Nodup) (hx : X.N[slot]? = some x) (hl : Loc X.env.scope x) (hg : Gl X "range") (hm : X.mg "range" = none) (h : PD X M e σ H (.int (n : Nat))) (hn : n ≤ 1000000) (al : Alive M H) (J : Hp → Nat → St → Hp → Prop)
    (h0 : ∀ H1, Evl.Ex H H1 → J H1 0 σ H1) (hk : ∀ H1 i σ' H', Evl.Ex H H1 → J H1 i σ' H' → ExM M H1 H' ∧ Alive M H')
    (ht : ∀ H1 i σ' H' H2, Evl.Ex H H1 → i < n → J H1 i σ' H' → Evl.Ex H' H2 → wB X body { D with nx := J H1 (i + 1), ct := J H1 (i + 1), bk := D.nx } (σ'.set slot (some (.int (i : Nat)))) H2)
    (hd : ∀ H1 σ' H', Evl.Ex H H1 → J H1 n σ' H' → D.nx σ' H') (hs : starEach [e] X.env = [(false, eval e X.env)] := by rfl) (hs' : starEach (e :: []) X.env = (false, eval e X.env) :: starEach [] X.env := by rfl)
    (hf : ∀ x, foldedSetIterable (.Call (.Name "range" p) [e] [] p1) X.env x = pure x := by intro _; rfl) (hfn : X.fn x = true ∨ X.env.scope.names.lookup x = some .local := by first | exact .inl rfl | exact .inr rfl | assumption) : wS X (.For (.Name x p2) (.Call (.Name "range" p) [e] [] p1) body [] pos) D σ H := by
  refine s_for (t := .one slot) hp hc (src_range1 hg hm h (by omega) (by omega) hs hs') (pg_name hN hx hl hfn) al J h0 hk (fun _ _ => trivial) ?_ ?_ hf
  · rintro H1 i d σ' H' H2 σ2 x1 hd j x2 ⟨v, rv, rfl⟩
    obtain ⟨k, hk', rfl⟩ := List.mem_iff_getElem?.mp (List.mem_of_getElem? hd) |> fun _ => (by
      rw [List.getElem?_map] at hd
      obtain ⟨k, h1, h2⟩ := Option.map_eq_some_iff.mp hd
      exact ⟨k, h1, h2.symm⟩ : ∃ k, (List.range (Int.toNat (n : Nat)))[i]? = some k ∧ d = PyData.int (0 + (k : Nat)))
    rw [List.getElem?_range (by
      have := (List.getElem?_eq_some_iff.mp hk').1
      simpa using this)] at hk'
    have hin : i < n := by
      have := (List.getElem?_eq_some_iff.mp hd).1
      simpa using this
    cases hk'
    cases rv
    rw [Int.zero_add]
    exact ht H1 i σ' H' H2 x1 hin j x2
  · intro H1 σ' H' x1 j
    refine hd H1 σ' H' x1 ?_
    have e1 : ((List.range (Int.toNat (n : Nat))).map fun i => PyData.int (0 + (i : Nat))).length = n := by simp
    rw [← e1]
    exact j
end
end GV
-- out of B8
namespace GV
open PySem PySem.Spec PyProof.Rows L2
/-! ### which data == may look at -/
theorem shaped_of {d : PyData} (h1 : d.canLay0 = true) (h2 : d.depth ≤ 64) : SeqAt.shaped d = true := by
  simp [SeqAt.shaped, h1, h2]
/-- flat parts, at most one deep -/
def one1 : PyData → Prop
  | .int _ => True
  | .tuple [.int _, .int _] => True
  | _ => False
theorem lay1 {d : PyData} (h : one1 d) : d.canLay0 = true ∧ d.depth ≤ 1 := by
  unfold one1 at h
  split at h
  · exact ⟨rfl, by show 0 ≤ 1; omega⟩
  · exact ⟨rfl, Nat.le_refl 1⟩
  · cases h
theorem lays1 {ds : List PyData} (h : ∀ d ∈ ds, one1 d) : (PyData.list ds).canLay0 = true ∧ (PyData.list ds).depth ≤ 2 := by
  have key : ∀ ds : List PyData, (∀ d ∈ ds, one1 d) → PyData.canLayAll0 ds = true ∧ PyData.depthAll ds ≤ 1 := by
    intro ds
    induction ds with
    | nil => exact fun _ => ⟨rfl, Nat.zero_le _⟩
    | cons d r ih =>
      intro h
      obtain ⟨a, b⟩ := lay1 (h d (List.mem_cons_self))
      obtain ⟨a2, b2⟩ := ih fun x hx => h x (List.mem_cons_of_mem _ hx)
      refine ⟨?_, ?_⟩
      · show (d.canLay0 && PyData.canLayAll0 r) = true
        rw [a, a2]
        rfl
      · show max d.depth (PyData.depthAll r) ≤ 1
        omega
  obtain ⟨a, b⟩ := key ds h
  refine ⟨a, ?_⟩
  show PyData.depthAll ds + 1 ≤ 2
  omega
theorem shaped1 {ds : List PyData} (h : ∀ d ∈ ds, one1 d) : SeqAt.shaped (.list ds) = true := by
  obtain ⟨a, b⟩ := lays1 h
  exact shaped_of a (by omega)
theorem shapedI (ns : List Int) : SeqAt.shaped (.list (ns.map PyData.int)) = true := shaped1 fun d hd => by
  obtain ⟨k, _, rfl⟩ := List.mem_map.mp hd
  trivial
theorem atI_last {α : Type} (l : List α) (x : α) : atI (l ++ [x]) (-1) = some x := by
  unfold atI ixN
  rw [if_neg (by omega), List.length_append, List.length_singleton, if_pos (by omega)]
  show (l ++ [x])[((-1 : Int) + ((l.length + 1 : Nat) : Int)).toNat]? = some x
  rw [show ((-1 : Int) + ((l.length + 1 : Nat) : Int)).toNat = l.length by omega]
  simp
section
variable {X : Cx} {M : Addr → Prop} {σ : St} {H : Hp} {o e : Expr} {pos : Pos}
/-- o.index(e), a whole number that is there -/
theorem pd_index {apos cpos : Pos} {ns : List Int} {k : Int} {j : Nat} (ho : PD X M o σ H (.list (ns.map PyData.int))) (he : PD X M e σ H (.int k)) (hj : ns[j]? = some k) (hf : ∀ m z, m < j → ns[m]? = some z → z ≠ k)
    (h1 : attributeBase o ("index" : Str) X.env (eval o X.env) = eval o X.env := by rfl)
    (h2 : ((((backTo cpos (starEach (e :: []) X.env)).all fun x => !x.1) && (backToKw cpos (keywordEach [] X.env)).all fun x => x.1.isSome) && decide (((e :: []).length + ([] : List Keyword).length + if ([] : List Keyword).isEmpty = true then 0 else 1) < 30)) = true := by rfl)
    (h3 : (apos.endLine == cpos.line) = true := by rfl) (h4 : starEach (e :: []) X.env = (false, eval e X.env) :: starEach [] X.env := by rfl) (h5 : (backTo cpos (starEach [] X.env)).any (·.1) = false := by rfl) :
    PD X M (.Call (.Attribute o "index" apos) [e] [] cpos) σ H (.int (j : Nat)) := .mk fun H1 e1 al Q q => by
  refine ⟨_, pe_bm PySem.F.plainAttrs_list PySem.F.slot_list_index PySem.F.type_list_index mt_index wE.pe (pa_cons wE.pe pa_nil h4) h1 h2 h3 h4 h5, ?_⟩
  refine ho.run H1 e1 al _ fun x H2 x2 r => ?_
  cases r with
  | lst m hs rs =>
    refine ⟨.inl ⟨rfl, _, .inl hs⟩, he.run H2 (e1.trans (.of x2)) (al.mono x2) _ fun y H3 x3 ry => ?_⟩
    cases ry
    have hs3 := GV.Rd.exM hs m (.of x3)
    have ev := rs.of_ints
    subst ev
    refine ⟨_, _, _, j, .int k, rfl, rfl, .inl hs3, rfl, ?_, ?_, ?_, ?_, q _ H3 (x2.trans x3) (.int _)⟩
    · rw [List.all_eq_true]
      intro v hv
      obtain ⟨z, _, rfl⟩ := List.mem_map.mp hv
      rfl
    · rw [List.getElem?_map, hj]
      rfl
    · simp [eqV]
    · intro m z hm hz
      rw [List.getElem?_map] at hz
      obtain ⟨u, hu, rfl⟩ := Option.map_eq_some_iff.mp hz
      simpa [eqV] using hf m u hm hu
end
end GV
-- out of B13
namespace GV
open PySem PySem.Spec PyProof.Rows L2
section
variable {X : Cx} {M : Addr → Prop} {σ : St} {H H' : Hp} {a b c e o : Expr} {da db d : PyData} {pos : Pos} {es : List Expr} {ds : List PyData} {D : Ends}
theorem ce_and {rest : List Expr} {Q : VK} (h : wE X a σ H fun x H2 => ∃ k, x = .bl k ∧ (k = true → wE X (.BoolOp .And (b :: rest) pos) σ H2 Q) ∧ (k = false → Q (.bl false) H2)) : wE X (.BoolOp .And (a :: b :: rest) pos) σ H Q := by
  refine ⟨_, pe_and wE.pe wE.pe, wE.weak h ?_⟩
  rintro x H2 ⟨k, rfl, h1, h2⟩
  refine ⟨k, rfl, ?_⟩
  cases k with
  | true => exact h1 rfl
  | false => exact h2 rfl
theorem ce_one {op} {Q : VK} (h : wE X a σ H Q) : wE X (.BoolOp op [a] pos) σ H Q := ⟨_, pe_one wE.pe, h⟩
theorem ce_eq {Q : VK} (hu : X.A.units + 64 < cLine) (h : wE X a σ H fun x H2 => wE X b σ H2 fun y H3 => ∃ da db, Dp X.K H3 x da ∧ Dp X.K H3 y db ∧ SeqAt.shaped da = true ∧ SeqAt.shaped db = true ∧ Q (.bl (PyData.eqv da db)) H3) : wE X (.Compare a [.Eq] [b] pos) σ H Q :=
  ⟨_, pe_cmpR (op_eqD hu) wE.pe wE.pe (nomark _), h⟩
end
end GV
-- out of B15
namespace GV
open PySem PySem.Spec PyProof.Rows L2
section
variable {X : Cx} {M : Addr → Prop} {σ : St} {H H' : Hp} {a b c e o : Expr} {da db d : PyData} {pos : Pos} {es : List Expr} {ds : List PyData} {D : Ends}
theorem ce_lst {Q : VK} (h : wA X es σ H fun vs H1 => vs.length ≤ 1000 ∧ ∀ p, H1 p = none → Q (.ref p) (upd H1 p (.lst vs))) : wE X (.List es pos) σ H Q := by
  obtain ⟨t, p, q⟩ := h
  refine ⟨_, pe_lst (t := fun σ H Q => ∃ Q0, t σ H Q0 ∧ ∀ vs H1, Q0 vs H1 → Q vs H1) ⟨fun pos pins s σ H Q I ⟨Q0, h0, imp⟩ => wpAny_mono (p.run pos pins s σ H Q0 I h0) (fun us s1 ⟨vs, H1, I1, r1, q1⟩ => ⟨vs, H1, I1, r1, imp vs H1 q1⟩) fun _ _ z => z⟩, _, q, ?_⟩
  rintro vs H1 ⟨hl, hq⟩
  exact ⟨Evl.sz_of (by omega), hq⟩
theorem ct_val {Q : Bool → Hp → Prop} (h : wE X e σ H fun x H2 => ∃ k, x = .bl k ∧ Q k H2) (he : ∀ whole, isTrue e X.env whole = (do let v ← whole; standAt e.pos; holding [v] (truthy v)) := by intro _; rfl) : wT X e σ H Q := ⟨_, pt_val wE.pe he, h⟩
theorem ct_eq {Q : Bool → Hp → Prop} (hu : X.A.units + 64 < cLine) (h : wE X a σ H fun x H2 => wE X b σ H2 fun y H3 => ∃ da db, Dp X.K H3 x da ∧ Dp X.K H3 y db ∧ SeqAt.shaped da = true ∧ SeqAt.shaped db = true ∧ Q (PyData.eqv da db) H3) : wT X (.Compare a [.Eq] [b] pos) σ H Q :=
  ⟨_, pt_cmpR (op_eqD hu) wE.pe wE.pe (nomark _), wE.weak h fun x H2 h2 => wE.weak h2 fun y H3 ⟨da, db, h1, h2, h3, h4, q⟩ => ⟨da, db, h1, h2, h3, h4, _, rfl, q⟩⟩
theorem ct_not {Q : Bool → Hp → Prop} (h : wT X a σ H fun k H2 => Q (!k) H2) : wT X (.UnaryOp .Not a pos) σ H Q := ⟨_, pt_not wT.pt, h⟩
theorem ce_isN {j p2} {Q : VK} (h : wE X a σ H fun x H2 => Q (.bl (decide (x = .non))) H2) : wE X (.Compare a [.Is] [.Constant .none j p2] pos) σ H Q :=
  ⟨_, pe_cmpR op_isN wE.pe pe_non (nomark _), wE.weak h fun x H2 q => ⟨rfl, q⟩⟩
end
end GV
-- out of B18
namespace GV
open PySem PySem.Spec PyProof.Rows L2
section
variable {X : Cx} {σ : St} {H : Hp} {a b : Expr} {pos : Pos}
theorem ct_lt {Q : Bool → Hp → Prop} (h : wE X a σ H fun x H2 => wE X b σ H2 fun y H3 => ∃ i j, x = .int i ∧ y = .int j ∧ Q (decide (i < j)) H3) : wT X (.Compare a [.Lt] [b] pos) σ H Q :=
  ⟨_, pt_cmpR op_lt wE.pe wE.pe (nomark _), wE.weak h fun x H2 h2 => wE.weak h2 fun y H3 ⟨i, j, h1, h2, q⟩ => ⟨i, j, h1, h2, _, rfl, q⟩⟩
end
end GV
-- out of B19
namespace GV
open PySem PySem.Spec PyProof.Rows L2
section
variable {X : Cx} {σ : St} {H : Hp} {a b e o : Expr} {pos : Pos}
theorem PT.weak {X : Cx} {e : Expr} {t : TT} (p : PT X e t) : PT X e fun σ H Q => ∃ Q0 : Bool → Hp → Prop, t σ H Q0 ∧ ∀ v H1, Q0 v H1 → Q v H1 :=
  ⟨fun pins s σ H Q I ⟨Q0, h0, imp⟩ => wpAny_mono (p.run pins s σ H Q0 I h0) (fun us s1 ⟨H1, I1, q1⟩ => ⟨H1, I1, imp _ H1 q1⟩) fun _ _ z => z⟩
theorem wT.weak {Q0 Q : Bool → Hp → Prop} (h : wT X e σ H Q0) (imp : ∀ v H1, Q0 v H1 → Q v H1) : wT X e σ H Q := let ⟨t, p, q⟩ := h; ⟨_, PT.weak p, Q0, q, imp⟩
theorem cw_and1 {Q : Bool → Hp → Prop} (h : wT X a σ H Q) : wW X (.BoolOp .And [a] pos) σ H Q := ⟨_, pw_and1 wT.pt, h⟩
theorem cw_and {rest : List Expr} {Q : Bool → Hp → Prop} (h : wT X a σ H fun k H2 => (k = true → wW X (.BoolOp .And (b :: rest) pos) σ H2 Q) ∧ (k = false → Q false H2)) : wW X (.BoolOp .And (a :: b :: rest) pos) σ H Q :=
  ⟨_, pw_and wT.pt wW.pw, wT.weak h fun k H2 ⟨h1, h2⟩ => by
    cases k with
    | true => exact h1 rfl
    | false => exact h2 rfl⟩
theorem ct_w {Q : Bool → Hp → Prop} (h : wW X e σ H Q) : wT X e σ H Q := let ⟨t, p, q⟩ := h; ⟨t, p.pt, q⟩
theorem ct_gt {Q : Bool → Hp → Prop} (h : wE X a σ H fun x H2 => wE X b σ H2 fun y H3 => ∃ i j, x = .int i ∧ y = .int j ∧ Q (decide (j < i)) H3) : wT X (.Compare a [.Gt] [b] pos) σ H Q :=
  ⟨_, pt_cmpR op_gt wE.pe wE.pe (nomark _), wE.weak h fun x H2 h2 => wE.weak h2 fun y H3 ⟨i, j, h1, h2, q⟩ => ⟨i, j, h1, h2, _, rfl, q⟩⟩
theorem ce_propE {CX : CXT} {E : XK} {C p g : Addr} {f : Str} {fd : FuncData} {ps : List Str} {sp : Sp} {j k : Nat} {Q : VK} (c : Cls X.K C) (hp : PropOf X.K C f p g) (F : FnOk X.prog X.w X.K X.mg X.base CX k g fd ps sp) (hr : Room j X.A) (hkj : k + 1 ≤ j) (hb : Binds X.K fd ps []) (hx : Passes CX X.nox E)
    (h : wE X o σ H fun x H1 => ∃ a dx fs, x = .ref a ∧ H1 a = some (.ins C dx fs) ∧ sp [.ref a] H1 Q E) (hab : attributeBase o f X.env (eval o X.env) = eval o X.env := by rfl) : wE X (.Attribute o f pos) σ H Q :=
  ⟨_, pe_prop wE.pe c hp F (hr.mono hkj) hb .nil hx hab, wE.weak h fun x H1 ⟨a, dx, fs, h1, h2, h3⟩ => ⟨a, dx, fs, h1, h2, h3⟩⟩
/-- C(), an object made -/
theorem ce_make0 {CX : CXT} {E : XK} {f C : Addr} {fd : FuncData} {ps : List Str} {sp : Sp} {j k : Nat} {x : Str} {p : Pos} {Q : VK} (m : Mk X.K C f) (F : FnOk X.prog X.w X.K X.mg X.base CX k f fd ps sp) (hr : Room j X.A) (hkj : k + 1 ≤ j) (hg : Gl X x) (gC : X.mg x = some (.ref C)) (hb : Binds X.K fd ps []) (hx : Passes CX X E)
    (h : ∀ a dx, H a = none → H dx = none → dx ≠ a → sp [.ref a] (upd (upd H dx (.own a)) a (.ins C dx [])) (fun v H2 => v = .non ∧ Q (.ref a) H2) E) (hdb : (x == ("__debug__" : Str)) = false := by decide) : wE X (.Call (.Name x p) [] [] pos) σ H Q :=
  ⟨_, pe_make0 m F (hr.mono hkj) hg gC hb .nil hx hdb, fun a dx h1 h2 h3 => h a dx h1 h2 h3⟩
end
end GV

namespace GV
open PySem PySem.Spec PyProof.Rows L2
section
variable {X : Cx} {σ : St} {H : Hp} {e : Expr} {pos : Pos}
/-- for x in range(n), n a value on the way; nothing need be known of what stays -/
theorem s_forRW {slot : Nat} {x : Str} {p p1 p2 : Pos} {body : List Stmt} {D : Ends} (hp : PassesOwn (model X.prog X.w) X.A X.env X.xe) (hc : X.calm = true) (hN : X.N.Nodup) (hx : X.N[slot]? = some x) (hl : Loc X.env.scope x) (hg : Gl X "range") (hm : X.mg "range" = none)
    (h : wE X e σ H fun v H1 => ∃ (n : Nat) (J : Nat → St → Hp → Prop), v = .int (n : Nat) ∧ n ≤ 1000000 ∧ J 0 σ H1 ∧
      (∀ i σ' H', i < n → J i σ' H' → wB X body { D with nx := J (i + 1), ct := J (i + 1), bk := D.nx } (σ'.set slot (some (.int (i : Nat)))) H') ∧ ∀ σ' H', J n σ' H' → D.nx σ' H')
    (hs : starEach [e] X.env = [(false, eval e X.env)] := by rfl) (hs' : starEach (e :: []) X.env = (false, eval e X.env) :: starEach [] X.env := by rfl)
    (hf : ∀ x, foldedSetIterable (.Call (.Name "range" p) [e] [] p1) X.env x = pure x := by intro _; rfl) (hfn : X.fn x = true ∨ X.env.scope.names.lookup x = some .local := by first | exact .inl rfl | exact .inr rfl | assumption) : wS X (.For (.Name x p2) (.Call (.Name "range" p) [e] [] p1) body [] pos) D σ H := by
  refine ⟨_, ps_for hp hc (pi_range1 hg hm wA.pa hs) (pg_name hN hx hl hfn) wB.ps hf, ca_cons (wE.weak h ?_) hs'⟩
  rintro v H1 ⟨n, J, rfl, hn, h0, ht, hd⟩
  refine ca_nil ⟨(n : Nat), rfl, by omega, by omega, ?_⟩
  have en : ((n : Nat) : Int).toNat = n := by omega
  rw [en]
  refine ⟨fun i m σ' H' => m = n - i ∧ i ≤ n ∧ J i σ' H', ⟨n, rfl, Nat.zero_le _, h0⟩, ?_⟩
  rintro i m σ' H' ⟨rfl, hi', j⟩
  have wk := wk_range (K := X.K) (M := M0) (H := H') 0 n
  have ln : ((List.range n).map fun i => PyData.int (0 + (i : Nat))).length = n := by simp
  by_cases hlt : i < n
  · refine .inr ⟨wk.go M0 i H' (fun _ z => z.elim) (ExM.refl _) (by rw [ln]; exact hlt), J (i + 1), fun σ2 H2 j2 => ⟨n - (i + 1), by omega, rfl, hlt, j2⟩, fun x H2 y => ?_⟩
    obtain ⟨rfl, rfl⟩ := y
    rw [Int.zero_add]
    exact ht i σ' _ hlt j
  · have e2 : i = n := by omega
    subst e2
    have := wk.stop M0 H' (fun _ z => z.elim) (ExM.refl _)
    rw [ln] at this
    exact .inl ⟨this, hd σ' H' j⟩
/-- an item of a list of whatever -/
theorem rIx_lst {K : PySem.W.Frag} {l : Addr} {xs : List V} {i : Int} {v : V} {Q : VK} (h : H l = some (.lst xs)) (hv : atI xs i = some v) (q : Q v H) : rIx K (.ref l) (.int i) H Q := .inl ⟨_, _, i, v, rfl, rfl, .inl (.inl h), hv, q⟩
end
end GV

namespace GV
open PySem PySem.Spec PyProof.Rows L2
section
variable {X : Cx} {σ : St} {H : Hp} {e elt : Expr} {pos : Pos}
/-- [elt for x in range(e)], where elt may change things -/
theorem ce_lcR {slot : Nat} {x : Str} {p p1 p2 : Pos} {scope : Scope} {own : List (Str × Nat)} {Q : VK} (hc : X.calm = true) (hN : X.N.Nodup) (hg : Gl X "range") (hm : X.mg "range" = none) (ok : BlkOk X.N X.env.scope scope own)
    (hx : ∀ s H C cl fp, PG (Cx.lc X s H scope C cl fp) (.Name x p2) (gName slot)) (hw : ∀ v, wipe ((wipe σ (own.map (·.2))).set slot (some v)) (own.map (·.2)) = wipe σ (own.map (·.2)))
    (h : wE X e σ H fun v H1 => ∃ n : Nat, v = .int (n : Nat) ∧ n ≤ 1000000 ∧ ∀ D, H1 D = none → ∃ J : Nat → Hp → Prop, J 0 (upd H1 D (.lst [])) ∧
      (∀ i H', i < n → J i H' → ∀ s0 H0 C cl fp, wE (Cx.lc X s0 H0 scope C cl fp) elt ((wipe σ (own.map (·.2))).set slot (some (.int (i : Nat)))) H' fun y H4 => ∃ acc, H4 D = some (.lst acc) ∧ acc.length < 100000 ∧ J (i + 1) (upd H4 D (.lst (acc ++ [y])))) ∧ ∀ H', J n H' → Q (.ref D) H')
    (hs : starEach [e] X.env = [(false, eval e X.env)] := by rfl) (hs' : starEach (e :: []) X.env = (false, eval e X.env) :: starEach [] X.env := by rfl)
    (hf : ∀ x, foldedSetIterable (.Call (.Name "range" p) [e] [] p1) X.env x = pure x := by intro _; rfl) : wE X (.ListComp elt [⟨.Name x p2, .Call (.Name "range" p) [e] [] p1, [], 0⟩] scope pos) σ H Q := by
  refine ⟨_, pe_lc (tt := fun σ H Q => Q true H) (te := fun σ H Q => ∀ s0 H0 C cl fp, wE (Cx.lc X s0 H0 scope C cl fp) elt σ H Q) hc hN (pi_range1 hg hm wA.pa hs) ok hx (fun _ _ _ _ _ => ⟨fun pins s σ H Q I h => pts_nil.run pins s σ H Q I h⟩)
    (fun s0 H0 C cl fp => ⟨fun pins s σ H Q I h => wE.pe.run pins s σ H Q I (h s0 H0 C cl fp)⟩) hf, ca_cons (wE.weak h ?_) hs'⟩
  rintro v H1 ⟨n, rfl, hn, run⟩
  refine ca_nil ⟨(n : Nat), rfl, by omega, by omega, ?_⟩
  rw [show ((n : Nat) : Int).toNat = n by omega]
  intro D hD
  obtain ⟨J, h0, ht, hd⟩ := run D hD
  refine ⟨fun i m H' => m = n - i ∧ i ≤ n ∧ J i H', ⟨n, rfl, Nat.zero_le _, h0⟩, ?_⟩
  rintro i m H' ⟨rfl, hi', j⟩
  have wk := wk_range (K := X.K) (M := M0) (H := H') 0 n
  have ln : ((List.range n).map fun i => PyData.int (0 + (i : Nat))).length = n := by simp
  by_cases hlt : i < n
  · refine .inr ⟨wk.go M0 i H' (fun _ z => z.elim) (ExM.refl _) (by rw [ln]; exact hlt), J (i + 1), fun H2 j2 => ⟨n - (i + 1), by omega, rfl, hlt, j2⟩, fun x H2 y => ?_⟩
    obtain ⟨rfl, rfl⟩ := y
    rw [Int.zero_add]
    refine ⟨hw _, ?_⟩
    show if true = true then _ else _
    rw [if_pos rfl]
    intro s0 H0 C cl fp
    refine wE.weak (ht i _ hlt j s0 H0 C cl fp) ?_
    rintro y H4 ⟨acc, h1, h2, h3⟩
    exact ⟨acc, h1, Nat.lt_of_lt_of_le h2 (by rw [sizeLine_eq]; decide), h3⟩
  · have e2 : i = n := by omega
    subst e2
    have := wk.stop M0 H' (fun _ z => z.elim) (ExM.refl _)
    rw [ln] at this
    exact .inl ⟨this, hd H' j⟩
end
end GV
namespace GV
open PySem PySem.Spec PyProof.Rows L2
section
variable {X : Cx} {M : Addr → Prop} {σ : St} {H : Hp} {a : Expr} {d : PyData} {pos : Pos}
theorem kitAny2 {K : PySem.W.Frag} {t S T : String} {j k : Bool} (h1 : kitB t S = some j) (h2 : kitB t T = some k) : PySem.W.kitAny K (.type t) [.type S, .type T] = some (j || k) := by
  have e1 := kit_ty (K := K) h1
  have e2 := kit_ty (K := K) h2
  show (match PySem.W.kitOne K (.type t) (.type S) with
    | some true => some true
    | some false => PySem.W.kitAny K (.type t) [.type T]
    | none => none) = _
  rw [e1]
  cases j with
  | true => rfl
  | false =>
    show (match PySem.W.kitOne K (.type t) (.type T) with
      | some true => some true
      | some false => PySem.W.kitAny K (.type t) []
      | none => none) = _
    rw [e2]
    cases k <;> rfl
/-- isinstance(a, (S, T)) -/
theorem pd_isi2 {S T : String} {x y : Str} {p p1 p2 p3 : Pos} {n : Nat} {j k : Bool} (hg : Gl X "isinstance") (hm : X.mg "isinstance" = none) (hgS : Gl X x) (hmS : X.mg x = none) (hvS : bootBuiltins x = some (.type S)) (hgT : Gl X y) (hmT : X.mg y = none) (hvT : bootBuiltins y = some (.type T)) (ha : PD X M a σ H d) (hj : kitB (tyD d) S = some j) (hk : kitB (tyD d) T = some k)
    (nx : x ≠ "__name__" := by decide) (dx : (x == ("__debug__" : Str)) = false := by decide) (ny : y ≠ "__name__" := by decide) (dy : (y == ("__debug__" : Str)) = false := by decide)
    (h1 : starEach (a :: [.Tuple [.Name x p1, .Name y p2] n p3]) X.env = (false, eval a X.env) :: starEach [.Tuple [.Name x p1, .Name y p2] n p3] X.env := by rfl) (h2 : starEach (.Tuple [.Name x p1, .Name y p2] n p3 :: []) X.env = (false, eval (.Tuple [.Name x p1, .Name y p2] n p3) X.env) :: starEach [] X.env := by rfl)
    (h3 : starEach (.Name x p1 :: [.Name y p2]) X.env = (false, eval (.Name x p1) X.env) :: starEach [.Name y p2] X.env := by rfl) (h4 : starEach (.Name y p2 :: []) X.env = (false, eval (.Name y p2) X.env) :: starEach [] X.env := by rfl)
    (hpl : (backTo pos (starEach [.Tuple [.Name x p1, .Name y p2] n p3] X.env)).any (·.1) = false := by rfl) :
    PD X M (.Call (.Name "isinstance" p) [a, .Tuple [.Name x p1, .Name y p2] n p3] [] pos) σ H (.bool (j || k)) := .mk fun H1 e1 al Q q =>
  ⟨_, pe_callB call_isiT hg hm PyProof.Rows.boot_isinstance (pa_cons wE.pe (pa_cons (pe_tup (pa_cons (pe_bltn (v := .ty S) hgS hmS hvS rfl nx dx) (pa_cons (pe_bltn (v := .ty T) hgT hmT hvT rfl ny dy) pa_nil h4) h3)) pa_nil h2) h1) (by decide) (by decide) h1 hpl, ha.run H1 e1 al _ fun v H2 x2 r =>
    ⟨Evl.sz_of (by show 2 ≤ 100000; decide), fun t ht => ⟨v, t, [.ty S, .ty T], .type (tyD d), [.type S, .type T], j || k, rfl, upd_same, .cons (.ty S) (.cons (.ty T) .nil), (r.mono (fun _ z => z) (.of (Evl.Ex.new ht))).tyX, kitAny2 hj hk, q _ _ (x2.trans (Evl.Ex.new ht)) (.bl _)⟩⟩⟩
end
end GV

namespace GV
open PySem PySem.Spec PyProof.Rows L2
section
variable {X : Cx} {M : Addr → Prop} {σ : St} {H : Hp} {a b e : Expr} {d : PyData} {ds : List PyData} {pos : Pos}
theorem cut_all {xs : List PyData} {lo hi : Option Int} (h : HT.sIx xs.length 0 lo = 0 ∧ HT.sIx xs.length xs.length hi = xs.length) : cutD xs lo hi = xs := by
  unfold cutD
  rw [h.1, h.2, List.drop_zero, Nat.sub_zero, List.take_length]
/-- a slice of a tuple -/
theorem pd_sliceT {lo hi : Option Expr} {l u : Option Int} {p2 : Pos} (h : PD X M e σ H (.tuple ds)) (hl : OD X M lo σ H l) (hu : OD X M hi σ H u) : PD X M (.Subscript e (.Slice lo hi none p2) pos) σ H (.tuple (cutD ds l u)) := by
  obtain ⟨tl, pl, rl⟩ := hl.ex
  obtain ⟨tu, pu, ru⟩ := hu.ex
  refine .mk fun H1 e1 al Q q => ⟨_, pe_slice sl_tupA wE.pe pl pu, h.run H1 e1 al _ fun x H2 x2 r => ?_⟩
  refine rl H2 (e1.trans (.of x2)) (al.mono x2) _ fun H3 x3 => ru H3 ((e1.trans (.of x2)).trans (.of x3)) ((al.mono x2).mono x3) _ fun H4 x4 => ?_
  have r4 := r.mono (fun _ z => z) (.of (x3.trans x4))
  have x24 := x2.trans (x3.trans x4)
  cases r4 with
  | tup m hs rs =>
    refine ⟨_, _, rfl, .inl hs, fun hall => ?_, fun _ p hp => ?_⟩
    · rw [rs.length] at hall
      refine q _ H4 x24 ?_
      rw [cut_all hall]
      exact .tup m hs rs
    · exact q _ _ (x24.trans (Evl.Ex.new hp)) (.newT (X := X) (al.mono x24) hp (rs.cut l u))
/-- min(e, default=f) of a tuple of whole numbers -/
def rMinDfT (K : PySem.W.Frag) : List V → List V → Hp → VK → Prop := fun xs zs H Q => ∃ (a : Addr) (ns : List Int) (z : V), xs = [.ref a] ∧ zs = [z] ∧ SqT K H a (ns.map V.int) ∧ (ns = [] → Q z H) ∧ (∀ n r, ns = n :: r → Q (.int (r.foldl min n)) H)
theorem cr_minDfT (hc : X.calm = true) (hu : X.A.units + 2 < cLine) : CallRK X (.builtin "min") ["default"] (rMinDfT X.K) := by
  intro pins s σ H xs zs us ws Q I rx rz h
  obtain ⟨a, ns, z, rfl, rfl, hs, q0, q1⟩ := h
  obtain ⟨w, rfl, rw'⟩ := vals1 rz
  rw [Vals.ref1 rx]
  obtain ⟨its, rv, pl, _⟩ := I.tuple hs
  obtain ⟨as, hr⟩ := Dp.readsAll I _ _ its (dpAll_ints ns) rv
  refine PySem.W.min_tuple_default (I.ok.hd hc) pl hr (ints_alike ns) (by rw [ints_depth]; omega) (fun e h' tk k => ?_) (fun y ys i v h' tk bs e hv hrd k => ?_)
  · refine ⟨z, H, I.kept k, rw', q0 ?_⟩
    cases ns with
    | nil => rfl
    | cons n r => cases e
  · cases ns with
    | nil => cases e
    | cons n r =>
      cases e
      rw [PySem.W.minD_ints] at hrd
      cases hrd with
      | int i t => exact ⟨.int _, H, I.kept k, ⟨t, rfl⟩, q1 n r rfl⟩
theorem pd_minDfT {p kp : Pos} {ns : List Int} (hc : X.calm = true) (hu : X.A.units + 2 < cLine) (hg : Gl X "min") (hm : X.mg "min" = none) (ha : PD X M a σ H (.tuple (ns.map PyData.int))) (hb : PD X M b σ H d)
    (h1 : starEach (a :: []) X.env = (false, eval a X.env) :: starEach [] X.env := by rfl)
    (he : backTo pos (starEach (a :: []) X.env) = (false, eval a X.env) :: backTo pos (starEach [] X.env) := by rfl) (hpl : (backTo pos (starEach (a :: []) X.env)).any (·.1) = false := by rfl)
    (hall : (backToKw pos (keywordEach [⟨some "default", b, kp⟩] X.env)).all (·.1.isSome) = true := by rfl) (hnone : (backToKw pos (keywordEach [⟨some "default", b, kp⟩] X.env)).any (·.1.isNone) = false := by rfl)
    (hks : (backToKw pos (keywordEach [⟨some "default", b, kp⟩] X.env)).filterMap (·.1) = (["default"] : List Str) := by rfl) :
    PD X M (.Call (.Name "min" p) [a] [⟨some "default", b, kp⟩] pos) σ H (minOr d ns) := .mk fun H1 e1 al Q q =>
  ⟨_, pe_callBK (cr_minDfT hc hu) hg hm PyProof.Rows.boot_min (pa_cons wE.pe pa_nil h1) (pk_cons wE.pe pk_nil) (by decide) (by decide) he hpl hall hnone hks, ha.run H1 e1 al _ fun v H2 x2 r => hb.run H2 (e1.trans (.of x2)) (al.mono x2) _ fun w H3 x3 rw' => by
    have r3 := r.mono (fun _ z => z) (.of x3)
    cases r3 with
    | tup m hs rs =>
      refine ⟨_, ns, w, rfl, rfl, .inl (by rw [← rs.of_ints]; exact hs), fun e => q _ H3 (x2.trans x3) ?_, fun n r e => q _ H3 (x2.trans x3) ?_⟩
      · rw [e]
        exact rw'
      · rw [e]
        exact .int _⟩
end
end GV

namespace GV
open PySem PySem.Spec PyProof.Rows L2
open Sem (wp)
open AutoSeq1 (wpAny_loadPart')
/-! ### enumerate(a tuple) -/
theorem meets_enumT (l : Addr) (items : Array Value) : Meets (Builtin.«enumerate.__new__» ⟨[.type "enumerate", .ref l], []⟩) (fun _ R s => s.heap.IsTuple l items ∧
      R (.ok (.ret (.ref (s.heap.push { cls := .type "tuple_iterator", data := .fields #[.ref l, .int 0 0] }).objs.size)))
        { s with heap := (s.heap.push { cls := .type "tuple_iterator", data := .fields #[.ref l, .int 0 0] }).push { cls := .type "enumerate", data := .fields #[.none, .bool false, .ref s.heap.objs.size, rawInt 0, .none, .none] } }) :=
  .of_wp fun prog w A R s h => by
    obtain ⟨hp, g, d, tk, os⟩ := s; obtain ⟨hl, h⟩ := h
    have hsub := sub_enumerate
    have q1 : ∀ {A' : Around} {E : Value → Shared → Prop} {Q : Value → Shared → Prop}, Q (.ref hp.objs.size) ⟨hp.push { cls := .type "tuple_iterator", data := .fields #[.ref l, .int 0 0] }, g, d, tk, os⟩ → wpAny (model prog w) A' (pyIter (.ref l)) Q E ⟨hp, g, d, tk, os⟩ :=
      fun q => wpAny_pyIter_tuple hl q
    wp_walk using q1
    refine wpAny_stack_any fun st => wpAny_pure ?_
    split
    · rename_i c _ _ _ _ _
      cases (c == Value.type "enumerate")
      · wp_walk using q1
        exact ⟨_, rfl, h⟩
      · wp_walk using q1
        exact ⟨_, rfl, h⟩
    · wp_walk using q1
      exact ⟨_, rfl, h⟩
theorem call_enumT {prog : Program} {w : World} {A : Around} {E : Value → Shared → Prop} {s : Shared} {l : Addr} {items : Array Value} {Q : Value → Shared → Prop} (hL : s.heap.IsTuple l items)
    (h : ∀ h', IsEnum h' (s.heap.objs.size + 1) s.heap.objs.size 0 .none → h'.IsTupleIter s.heap.objs.size l 0 → h'.objs.size = s.heap.objs.size + 2 →
      (∀ b o, s.heap.get? b = some o → h'.get? b = some o) → Q (.ref (s.heap.objs.size + 1)) { s with heap := h' }) :
    wpAny (model prog w) A (call (.type "enumerate") [.ref l]) Q E s := by
  refine callType_new F.called_enumerate (by decide) (F.typeCall_enumerate_1 _) (F.newCall_enumerate_1 _) (fun obj => F.args_object_init_2 obj _) F.entry_enumerate_new (meets_enumT l items) ⟨hL, ?_⟩
  have hz : (s.heap.push { cls := .type "tuple_iterator", data := .fields #[.ref l, .int 0 0] }).objs.size = s.heap.objs.size + 1 := Heap.size_push ..
  show _ ∧ _
  rw [hz]
  have he : IsEnum ((s.heap.push { cls := .type "tuple_iterator", data := .fields #[.ref l, .int 0 0] }).push { cls := .type "enumerate", data := .fields #[.none, .bool false, .ref s.heap.objs.size, rawInt 0, .none, .none] }) (s.heap.objs.size + 1) s.heap.objs.size 0 .none := by
    have := Heap.get?_push_size (s.heap.push { cls := .type "tuple_iterator", data := .fields #[.ref l, .int 0 0] }) (o := { cls := .type "enumerate", data := .fields #[.none, .bool false, .ref s.heap.objs.size, rawInt 0, .none, .none] }) rfl
    rw [hz] at this; exact this
  exact ⟨⟨_, he, rfl⟩, h _ he ⟨_, Heap.get?_push_of_some _ (Heap.get?_push_size _ rfl), rfl, rfl⟩ (by rw [Heap.size_push, hz]) fun b o x => Heap.get?_push_of_some _ (Heap.get?_push_of_some _ x)⟩
def IteT (K : PySem.W.Frag) (a : Addr) : It :=
  ⟨fun i H => ∃ (xs : List V) (x : V), SqT K H a xs ∧ xs[i]? = some x, fun i H v H' => ∃ T x, v = .ref T ∧ H T = none ∧ H' = upd H T (.tup [.int (i : Nat), x]) ∧ ∀ xs, SqT K H a xs → xs[i]? = some x, fun i H => ∃ xs : List V, SqT K H a xs ∧ xs.length ≤ i⟩
theorem turn_enumT {P : Program} {w : World} {K : PySem.W.Frag} {elts : List Expr} {kk : Nat} {tpos : Pos} (a e it : Addr) :
    Turn P w K (.Tuple elts kk tpos) (IteT K a) [e, it] e (fun i h => (∃ old, IsEnum h e it ((i : Nat) : Int) old) ∧ h.IsTupleIter it a i ∧ e ≠ it ∧ a ≠ e ∧ a ≠ it) where
  mem := by simp
  obj := fun i h st b hb => by
    obtain ⟨⟨old, he⟩, ⟨o, ho, hc, hd⟩, _⟩ := st
    have e' : b = e ∨ b = it := by simpa using hb
    rcases e' with z | z
    · rw [z]; exact ⟨_, he, fun v q => nomatch q⟩
    · rw [z]; exact ⟨o, ho, fun v q => by rw [hd] at q; cases q⟩
  keep := fun i h h' st k => let ⟨⟨old, he⟩, hi, hne⟩ := st; ⟨⟨old, k e (by simp) _ he⟩, hi.at fun o q => k it (by simp) o q, hne⟩
  item := by
    intro X hP hw hK hc i pins s σ H E I hf st hg
    subst hP hw hK
    obtain ⟨⟨old, he⟩, hit, hne, hae, hai⟩ := st
    obtain ⟨xs, x, hq, hx⟩ := hg
    obtain ⟨its, rv, p, hz⟩ := I.tuple hq
    obtain ⟨u, hu, ru⟩ := rv.get hx
    have hel : e < s.heap.objs.size := Heap.lt_size he
    have hil : it < s.heap.objs.size := by obtain ⟨_, q, _⟩ := hit; exact Heap.lt_size q
    have hlt : i < its.toArray.size := by
      rw [List.size_toArray]
      exact (List.getElem?_eq_some_iff.mp hu).1
    refine wpAny_pyNext_enum_itemC (Draws.tuple (A := X.A.in1) (show X.A.in1.handled = none from I.ok.hd hc) it a hai its.toArray) he ⟨hit, p⟩ hlt hne (by simp [hne, Ne.symm hae]) fun x' h' tk hP ho hit' hT hsz hk => ?_
    obtain rfl : u = x' := by
      have e1 : its[i]? = some x' := by simpa using hP
      rw [hu] at e1
      exact Option.some.inj e1
    obtain ⟨hit', _⟩ := hit'
    refine ⟨_, rfl, wpAny_letOwnedTupleGo_enum (s := { s with heap := h', toks := tk + 1 }) ho fun h'' he' sb => ?_⟩
    have hT2 : h''.get? s.heap.objs.size = some { cls := .type "tuple", data := .seq #[.int i tk, u] } := (sb.2 _ (Nat.ne_of_gt hel)).trans hT
    have new : ObjOk X.prog X.w (upd H s.heap.objs.size (.tup [.int (i : Nat), x])) h'' s.heap.objs.size (.tup [.int (i : Nat), x]) :=
      ⟨by show 2 ≤ sizeLine; decide, [.int i tk, u], .cons ⟨_, rfl⟩ (.cons ru .nil), ⟨_, hT2, rfl, _, rfl⟩⟩
    have I1 : Inv X pins σ (upd H s.heap.objs.size (.tup [.int (i : Nat), x])) { s with heap := h'', toks := tk + 1 } :=
      I.turnedNew (ch := [e, it]) (fun b ob hb q => (sb.2 b (fun z => hb (by simp [z]))).trans (hk b ob (fun z => hb (by simp [z])) (fun z => hb (by simp [z])) q)) hf (Nat.le_refl _) new
    refine ⟨.ref s.heap.objs.size, _, I1, rfl, ⟨_, x, rfl, I.hok.fresh (Nat.le_refl _), rfl, fun ys hy => by rw [I.tuple_inj hy hq]; exact hx⟩, ⟨⟨u, ?_⟩, hit'.at fun o q => (sb.2 it (Ne.symm hne)).trans q, hne, hae, hai⟩, fun b hb => ?_⟩
    · have e1 : ((i + 1 : Nat) : Int) = (i : Int) + 1 := by omega
      rw [e1]; exact he'
    · have hb' : b < s.heap.objs.size := by
        have e' : b = e ∨ b = it := by simpa using hb
        rcases e' with z | z
        · rw [z]; exact hel
        · rw [z]; exact hil
      rw [upd_ne (Nat.ne_of_lt hb')]
      exact (hf b hb).1
  done := by
    intro X hP hw hK hc i pins s σ H E I hf st hg
    subst hP hw hK
    obtain ⟨⟨old, he⟩, hit, hne, hae, hai⟩ := st
    obtain ⟨xs, hq, hx⟩ := hg
    obtain ⟨its, rv, p, hz⟩ := I.tuple hq
    obtain ⟨f0, f1, f2, f3, f4, f5⟩ := hf it (by simp)
    have hl := rv.length
    obtain ⟨hp, g, d, tk, os⟩ := s
    have hT : (⟨hp, g, d, tk, os⟩ : Shared).TypeIs (.ref e) "enumerate" := ⟨_, he, rfl⟩
    unfold pyNext
    refine wpAny_bind (wpAny_attempt (wpAny_callSpecial?_slot (name := Str.ofString "__next__") hT F.slot_enumerate_next
      (wpAny_call_entry F.slot_enumerate_next hT F.entry_enumerate_next ?_ (F.args_enumerate_next_1 _))))
    show wpAny _ _ (field (.ref e) 2 >>= _) _ _ _
    refine wpAny_bind (wpAny_field he rfl (x := .ref it) rfl ?_)
    refine wpAny_bind (wpAny_nextOf_tuple_end (I.ok.hd hc) hit p (by simp; omega) fun h' x he' hx' => ?_)
    obtain ⟨o, ho, hc'⟩ := hx'
    refine wpAny_bind (wpAny_isInstance (T := "StopIteration") (b := true) ⟨o, ho, hc'⟩ isSubtype_stop ?_)
    exact wpAny_pure ⟨rfl, I.turned (t' := tk) (fun b o hb q => he' b o hb q) f0 f1 f3 f4 f5⟩
  self := fun A i s Q E st h => let ⟨⟨_, he⟩, _⟩ := st; wpAny_pyIter_enum he h
def iEnumT (K : PySem.W.Frag) (ta : TA) : TI := fun σ H R => ta σ H fun vs H1 => ∃ a xs, vs = [.ref a] ∧ SqT K H1 a xs ∧ R (IteT K a) H1
theorem pi_enumT {X : Cx} {e : Expr} {ta : TA} {p pos tpos : Pos} {elts : List Expr} {kk : Nat} (hg : Gl X "enumerate") (hm : X.mg "enumerate" = none) (ha : PA X [e] ta) (hs : starEach [e] X.env = [(false, eval e X.env)] := by rfl) :
    PI X (.Tuple elts kk tpos) (.Call (.Name "enumerate" p) [e] [] pos) (iEnumT X.K ta) := by
  refine ⟨fun pins s σ H R I h => ?_⟩
  refine Call_ (ld_blt I hg hm boot_enumerate (PyProof.Rows.callWith_type1 (thn (ha.run pos pins s σ H _ I h) fun us s1 ⟨vs, H1, I1, r1, q1⟩ => ?_) hs rfl))
  obtain ⟨a, xs, ex, hq, q⟩ := q1
  subst ex
  cases r1 with
  | cons r rr =>
    cases rr
    cases r
    obtain ⟨its, rv, p', hz⟩ := I1.tuple hq
    refine call_enumT p' fun h' he hit hsz hk => wpAny_pyIter_enum he ?_
    have I2 : Inv X pins σ H1 { s1 with heap := h' } := I1.kept (t' := s1.toks) hk
    have hal : a < s1.heap.objs.size := by obtain ⟨_, q, _⟩ := p'; exact Heap.lt_size q
    refine ⟨s1.heap.objs.size + 1, [s1.heap.objs.size + 1, s1.heap.objs.size], _, _, H1, rfl, I2, turn_enumT a (s1.heap.objs.size + 1) s1.heap.objs.size, ⟨⟨.none, he⟩, hit, Nat.succ_ne_self _, Nat.ne_of_lt (Nat.lt_succ_of_lt hal), Nat.ne_of_lt hal⟩, fun b hb => ?_, q⟩
    have e' : b = s1.heap.objs.size + 1 ∨ b = s1.heap.objs.size := by simpa using hb
    have hle : s1.heap.objs.size ≤ b := by
      rcases e' with z | z
      · rw [z]; exact Nat.le_add_right _ _
      · rw [z]; exact Nat.le_refl _
    exact I1.fpOk hle (I1.hok.fresh hle)
section
variable {X : Cx} {K : PySem.W.Frag} {M : Addr → Prop} {σ : St} {H : Hp} {e : Expr} {ds : List PyData} {pos : Pos}
theorem wk_enumT {a : Addr} {xs : List V} (m : ¬ M a) (h : Rd H a (.tup xs)) (r : RpAll K M H xs ds) : Wk K M (IteT K a) H (enumD ds) := by
  have nm : ∀ M' : Addr → Prop, (∀ a, M' a → M a ∨ H a = none) → ¬ M' a := fun M' hm z => (hm a z).elim m (Rd.there h)
  have at_ : ∀ (M' : Addr → Prop) (H' : Hp), (∀ a, M' a → M a ∨ H a = none) → ExM M' H H' → Rd H' a (.tup xs) := fun M' H' hm e => Rd.exT (M := M') h (nm M' hm) e
  refine ⟨fun M' i H' hm e hi => ?_, fun M' H' hm e => ?_, fun M' i H' x H'' hm e al y => ?_⟩
  · have hx : i < xs.length := by rw [r.length, ← enumD_length]; exact hi
    exact ⟨xs, xs[i], .inl (at_ M' H' hm e), List.getElem?_eq_getElem hx⟩
  · exact ⟨xs, .inl (at_ M' H' hm e), by rw [r.length, enumD_length]; exact Nat.le_refl _⟩
  · obtain ⟨T, z, rfl, hT, rfl, y⟩ := y
    refine ⟨Evl.Ex.new hT, fun d hd => ?_⟩
    obtain ⟨e', he, rfl⟩ := enumD_get hd
    obtain ⟨v, hv, rv⟩ := r.get he
    have q := y xs (.inl (at_ M' _ hm e))
    rw [hv] at q
    cases q
    exact .tup (al.fresh hT) (.inl upd_same) (.cons (.int _) (.cons (((rv.wide hm).mono (fun _ z => z) e).mono (fun _ z => z) (.of (Evl.Ex.new hT))) .nil))
theorem src_enumT {p tpos : Pos} {elts : List Expr} {kk : Nat} (hg : Gl X "enumerate") (hm : X.mg "enumerate" = none) (h : PD X M e σ H (.tuple ds)) (hs : starEach [e] X.env = [(false, eval e X.env)] := by rfl)
    (hs' : starEach (e :: []) X.env = (false, eval e X.env) :: starEach [] X.env := by rfl) : Src X M (.Tuple elts kk tpos) (.Call (.Name "enumerate" p) [e] [] pos) σ H (enumD ds) :=
  ⟨_, pi_enumT hg hm wA.pa hs, fun H1 e1 al R q => (ad_cons h ad_nil hs').run H1 e1 al _ fun vs H2 x2 rs => by
    obtain ⟨v, rfl, r⟩ := rpa1 rs
    cases r with
    | tup m hr rr => exact ⟨_, _, rfl, .inl hr, q _ H2 x2 (wk_enumT m hr rr)⟩⟩
end
end GV

namespace GV
open PySem PySem.Spec PyProof.Rows L2
section
variable {X : Cx} {M : Addr → Prop} {σ : St} {H H' : Hp} {a b c e o i : Expr} {da db d : PyData} {pos : Pos} {es : List Expr} {ds : List PyData} {D : Ends}
/-- o.insert(i, e) -/
theorem ce_insert {apos cpos : Pos} {Q : VK} (h : wE X o σ H fun x H1 => ∃ l, x = .ref l ∧ (∃ ys, H1 l = some (.lst ys)) ∧ wE X i σ H1 fun n H2 => wE X e σ H2 fun y H3 => ∃ ys k, H3 l = some (.lst ys) ∧ n = .int (k : Nat) ∧ k ≤ 100000 ∧ ys.length < 100000 ∧ Q .non (upd H3 l (.lst (ys.take k ++ [y] ++ ys.drop k))))
    (h1 : attributeBase o ("insert" : Str) X.env (eval o X.env) = eval o X.env := by rfl)
    (h2 : ((((backTo cpos (starEach [i, e] X.env)).all fun x => !x.1) && (backToKw cpos (keywordEach [] X.env)).all fun x => x.1.isSome) && decide (([i, e].length + ([] : List Keyword).length + if ([] : List Keyword).isEmpty = true then 0 else 1) < 30)) = true := by rfl)
    (h3 : (apos.endLine == cpos.line) = true := by rfl) (h4 : starEach (i :: [e]) X.env = (false, eval i X.env) :: starEach [e] X.env := by rfl) (h6 : starEach (e :: []) X.env = (false, eval e X.env) :: starEach [] X.env := by rfl) (h5 : (backTo cpos (starEach [e] X.env)).any (·.1) = false := by rfl) :
    wE X (.Call (.Attribute o "insert" apos) [i, e] [] cpos) σ H Q := by
  refine ⟨_, pe_bm PySem.F.plainAttrs_list PySem.F.slot_list_insert PySem.F.type_list_insert mt_insert (wE.pe) (pa_cons wE.pe (pa_cons wE.pe pa_nil h6) h4) h1 h2 h3 h4 h5, ?_⟩
  refine wE.weak h ?_
  rintro x H1 ⟨l, rfl, ⟨ys0, hl⟩, hh⟩
  refine ⟨.inl ⟨rfl, _, SqL.of hl⟩, ?_⟩
  refine wE.weak hh ?_
  intro n H2 hh2
  refine wE.weak hh2 ?_
  rintro y H3 ⟨ys, k, hy, rfl, hk, hlen, q⟩
  refine ⟨l, ys, (k : Nat), y, rfl, rfl, hy, Nat.lt_of_lt_of_le hlen (by rw [sizeLine_eq]; decide), by omega, by omega, ?_⟩
  rw [show ((k : Nat) : Int).toNat = k by omega]
  exact q
/-- [..] * k -/
theorem ce_rep {Q : VK} (h : wE X a σ H fun x H2 => wE X b σ H2 fun y H3 => ∃ l xs k, x = .ref l ∧ y = .int (k : Nat) ∧ H3 l = some (.lst xs) ∧ xs.length * k ≤ 100000 ∧ k ≤ 100000 ∧ ∀ p, H3 p = none → Q (.ref p) (upd H3 p (.lst (List.replicate k xs).flatten))) : wE X (.BinOp a .Mult b pos) σ H Q := by
  refine ce_bin op_rep (wE.weak h fun x H2 h2 => wE.weak h2 ?_)
  rintro y H3 ⟨l, xs, k, rfl, rfl, hl, h1, h2, q⟩
  refine ⟨l, (k : Nat), xs, rfl, rfl, hl, by omega, by omega, ?_, ?_⟩
  · rw [show ((k : Nat) : Int).toNat = k by omega]
    exact Evl.sz_of h1
  · rw [show ((k : Nat) : Int).toNat = k by omega]
    exact q
theorem replicate_flat {α : Type} (k : Nat) (x : α) : (List.replicate k [x]).flatten = List.replicate k x := by
  induction k with
  | zero => rfl
  | succ k ih => rw [List.replicate_succ, List.flatten_cons, ih]; rfl
/-- list(range(n)) -/
theorem fd_listRange {p p2 p3 : Pos} {n : Int} (hc : X.calm = true) (hg : Gl X "list") (hm : X.mg "list" = none) (hg2 : Gl X "range") (hm2 : X.mg "range" = none) (h : PD X M e σ H (.int n)) (h0 : 0 ≤ n) (h1 : n ≤ 100000)
    (na : starEach [e] X.env = (false, eval e X.env) :: starEach [] X.env := by rfl) (nb : starEach [.Call (.Name "range" p2) [e] [] p3] X.env = (false, eval (.Call (.Name "range" p2) [e] [] p3) X.env) :: starEach [] X.env := by rfl) :
    FD X M (.Call (.Name "list" p) [.Call (.Name "range" p2) [e] [] p3] [] pos) σ H (((List.range n.toNat).map Int.ofNat).map PyData.int) := .mk fun H1 e1 al Q q =>
  ⟨_, pe_listRg hc hg hm (prg_1 hg2 hm2 wE.pe na) nb, h.run H1 e1 al _ fun v H2 x2 r => by
    cases r
    refine ⟨n, rfl, RgOk.of_le (by omega) (by omega) (by omega) h0, fun l hl => q l _ _ (Evl.fresh_back x2 hl) (x2.trans (Evl.Ex.new hl)) upd_same ?_⟩
    have e2 : rgV 0 n = ((List.range n.toNat).map Int.ofNat).map V.int := by
      unfold rgV
      rw [List.map_map, Int.sub_zero]
      exact List.map_congr_left fun i _ => by
        show V.int (0 + (i : Nat)) = V.int (i : Nat)
        rw [Int.zero_add]
    rw [e2]
    exact RpAll.ints _⟩
/-! ### dicts, as far as they are looked at -/
theorem ce_dict0 {Q : VK} (h : ∀ p, H p = none → Q (.ref p) (upd H p (.dK []))) : wE X (.Dict [] [] pos) σ H Q := ⟨_, pe_dnewK, h⟩
/-- {1: 2} -/
theorem ce_dict1 {i j : Int} {t t2} {p1 p2 : Pos} {Q : VK} (h : ∀ p, H p = none → Q (.ref p) (upd H p (.dK [(.inl i, .int j)]))) : wE X (.Dict [some (.Constant (.int i) t p1)] [.Constant (.int j) t2 p2] pos) σ H Q := by
  refine ⟨_, pe_disp (pps_cons pe_int pe_int pps_nil) rfl rfl (by simp) (by show 1 ≤ 15; decide), fun p hp => ?_⟩
  refine ⟨upd_same, [(.inl i, .int j)], rfl, by show 1 ≤ 15; decide, ?_⟩
  have e : upd (upd H p (.dK [])) p (.dK (mergeK [] [(Sum.inl i, V.int j)])) = upd H p (.dK [(.inl i, .int j)]) := by
    funext x
    by_cases hx : x = p
    · subst hx
      rw [upd_same, upd_same]
      rfl
    · rw [upd_ne hx, upd_ne hx, upd_ne hx]
  rw [e]
  exact h p hp
/-- isinstance(a, (S, T)) of a dict -/
theorem pd_isi2D {S T : String} {x y : Str} {p p1 p2 p3 : Pos} {n : Nat} {j k : Bool} {A : Addr} {kvs : List (Key × V)} (hg : Gl X "isinstance") (hm : X.mg "isinstance" = none) (hgS : Gl X x) (hmS : X.mg x = none) (hvS : bootBuiltins x = some (.type S)) (hgT : Gl X y) (hmT : X.mg y = none) (hvT : bootBuiltins y = some (.type T)) (ha : ∀ H1 (Q : VK), Q (.ref A) H1 → wE X a σ H1 Q) (hA : H A = some (.dK kvs)) (nM : ¬ M A) (hj : kitB "dict" S = some j) (hk : kitB "dict" T = some k)
    (nx : x ≠ "__name__" := by decide) (dx : (x == ("__debug__" : Str)) = false := by decide) (ny : y ≠ "__name__" := by decide) (dy : (y == ("__debug__" : Str)) = false := by decide)
    (h1 : starEach (a :: [.Tuple [.Name x p1, .Name y p2] n p3]) X.env = (false, eval a X.env) :: starEach [.Tuple [.Name x p1, .Name y p2] n p3] X.env := by rfl) (h2 : starEach (.Tuple [.Name x p1, .Name y p2] n p3 :: []) X.env = (false, eval (.Tuple [.Name x p1, .Name y p2] n p3) X.env) :: starEach [] X.env := by rfl)
    (h3 : starEach (.Name x p1 :: [.Name y p2]) X.env = (false, eval (.Name x p1) X.env) :: starEach [.Name y p2] X.env := by rfl) (h4 : starEach (.Name y p2 :: []) X.env = (false, eval (.Name y p2) X.env) :: starEach [] X.env := by rfl)
    (hpl : (backTo pos (starEach [.Tuple [.Name x p1, .Name y p2] n p3] X.env)).any (·.1) = false := by rfl) :
    PD X M (.Call (.Name "isinstance" p) [a, .Tuple [.Name x p1, .Name y p2] n p3] [] pos) σ H (.bool (j || k)) := .mk fun H1 e1 al Q q =>
  ⟨_, pe_callB call_isiT hg hm PyProof.Rows.boot_isinstance (pa_cons wE.pe (pa_cons (pe_tup (pa_cons (pe_bltn (v := .ty S) hgS hmS hvS rfl nx dx) (pa_cons (pe_bltn (v := .ty T) hgT hmT hvT rfl ny dy) pa_nil h4) h3)) pa_nil h2) h1) (by decide) (by decide) h1 hpl, ha _ _
    ⟨Evl.sz_of (by show 2 ≤ 100000; decide), fun t ht => ⟨.ref A, t, [.ty S, .ty T], .type "dict", [.type S, .type T], j || k, rfl, upd_same, .cons (.ty S) (.cons (.ty T) .nil), .base (.dK (Evl.Ex.new ht _ _ (e1 _ _ hA nM fun _ z => by cases z))), kitAny2 hj hk, q _ _ (Evl.Ex.new ht) (.bl _)⟩⟩⟩
/-! ### == of tuples that hold the same things -/
def sameB : V → Bool
  | .ref _ => true
  | v => flatB v
def rEqSame (K : PySem.W.Frag) : R2 := fun x y H Q => ∃ a b xs, x = .ref a ∧ y = .ref b ∧ SqT K H a xs ∧ SqT K H b xs ∧ (∀ v ∈ xs, sameB v = true) ∧ Q (.bl true) H
theorem op_eqSame (hu : X.A.units < cLine) : OpR X (compareOp .Eq) (rEqSame X.K) := by
  intro pins s σ H x y v u Q I rx ry h
  obtain ⟨a, b, xs, rfl, rfl, ha, hb, hs, q⟩ := h
  cases (show v = Value.ref a from rx)
  cases (show u = Value.ref b from ry)
  obtain ⟨us, r1, p1, _⟩ := I.tuple ha
  obtain ⟨ws, r2, p2, _⟩ := I.tuple hb
  have l1 := r1.length
  have l2 := r2.length
  refine SeqAt.RcAt.tuples (e := fun _ => true) p1 p2 hu (fun j h1 h2 => ?_) X.prog X.w X.xe _ ?_
  · have hj : j < xs.length := by
      rw [l1]
      simpa using h1
    have hx : xs[j]? = some xs[j] := List.getElem?_eq_getElem hj
    obtain ⟨v1, e1, rv1⟩ := r1.get hx
    obtain ⟨v2, e2, rv2⟩ := r2.get hx
    have f1 : us.toArray[j] = v1 := by
      have : us[j]? = some us[j] := List.getElem?_eq_getElem (by simpa using h1)
      rw [this] at e1
      simpa using e1
    have f2 : ws.toArray[j] = v2 := by
      have : ws[j]? = some ws[j] := List.getElem?_eq_getElem (by simpa using h2)
      rw [this] at e2
      simpa using e2
    rw [f1, f2]
    have hv := hs _ (List.getElem_mem hj)
    generalize xs[j] = z at rv1 rv2 hv
    cases z with
    | ref r =>
      cases (show v1 = Value.ref r from rv1)
      cases (show v2 = Value.ref r from rv2)
      exact SeqAt.EqAt.same _
    | _ => exact eqAt_same rv1 rv2 hv
  · refine ⟨.bl true, H, I, ?_, q⟩
    have e1 : us.toArray.size = ws.toArray.size := by
      rw [List.size_toArray, List.size_toArray, ← l1, ← l2]
    rw [e1, show ((List.range (min ws.toArray.size ws.toArray.size)).all fun _ => true) = true from List.all_eq_true.mpr fun _ _ => rfl]
    simp [L2.RelV]
theorem ce_eqSame {Q : VK} (hu : X.A.units + 64 < cLine) (h : wE X a σ H fun x H2 => wE X b σ H2 fun y H3 => rEqSame X.K x y H3 Q) : wE X (.Compare a [.Eq] [b] pos) σ H Q := ⟨_, pe_cmpR (op_eqSame (by omega)) wE.pe wE.pe (nomark _), h⟩
/-! ### max of a tuple -/
theorem fold_max (r : List Int) (n : Int) : (n ≤ r.foldl max n ∧ ∀ a ∈ r, a ≤ r.foldl max n) ∧ (r.foldl max n = n ∨ r.foldl max n ∈ r) := by
  induction r generalizing n with
  | nil => exact ⟨⟨Int.le_refl _, fun a h => by cases h⟩, .inl rfl⟩
  | cons y r ih =>
    obtain ⟨⟨h1, h2⟩, h3⟩ := ih (max n y)
    refine ⟨⟨Int.le_trans (Int.le_max_left _ _) h1, fun a ha => ?_⟩, ?_⟩
    · rcases List.mem_cons.mp ha with e | ha
      · subst e
        exact Int.le_trans (Int.le_max_right _ _) h1
      · exact h2 a ha
    · show (r.foldl max (max n y) = n ∨ r.foldl max (max n y) ∈ y :: r)
      rcases h3 with e | h3
      · by_cases hny : y ≤ n
        · left
          rw [e, Int.max_eq_left hny]
        · right
          rw [e, Int.max_eq_right (by omega)]
          exact List.mem_cons_self
      · exact .inr (List.mem_cons_of_mem _ h3)
def rMaxT (K : PySem.W.Frag) : List V → Hp → VK → Prop := fun vs H Q => ∃ (a : Addr) (n : Int) (r : List Int), vs = [.ref a] ∧ SqT K H a ((n :: r).map V.int) ∧ Q (.int (r.foldl max n)) H
theorem cr_maxT (hc : X.calm = true) (hu : X.A.units + 2 < cLine) : CallR X (.builtin "max") (rMaxT X.K) := by
  intro pins s σ H xs us Q I r h
  obtain ⟨a, n, ns, rfl, hs, q⟩ := h
  rw [Vals.ref1 r]
  obtain ⟨its, rv, pl, _⟩ := I.tuple hs
  obtain ⟨as, hr⟩ := Dp.readsAll I _ _ its (dpAll_ints (n :: ns)) rv
  refine PySem.W.max_tuple_data (I.ok.hd hc) pl hr (ints_alike (n :: ns)) ?_ fun i v h' tk bs hv hrd k => ?_
  · have e := ints_depth (n :: ns)
    have e2 : PyData.depthAll (PyData.int n :: ns.map PyData.int) = 0 := e
    rw [e2]
    omega
  · rw [PySem.W.maxD_ints] at hrd
    cases hrd with
    | int i t => exact ⟨.int _, H, I.kept k, ⟨t, rfl⟩, q⟩
theorem rn_maxT {ns : List Int} {m : Int} (hm : m ∈ ns) (hx : ∀ y ∈ ns, y ≤ m) : RDn X M (rMaxT X.K) [.tuple (ns.map PyData.int)] (.int m) := fun vs H1 r _ Q q => by
  obtain ⟨v, rfl, r1⟩ := rpa1 r
  cases r1 with
  | tup m' hs rs =>
    cases ns with
    | nil => cases hm
    | cons n l =>
      refine ⟨_, n, l, rfl, .inl (by rw [← rs.of_ints]; exact hs), q _ H1 (Evl.Ex.refl H1) ?_⟩
      obtain ⟨⟨h1, h2⟩, h3⟩ := fold_max l n
      have e : l.foldl max n = m := by
        apply Int.le_antisymm
        · rcases h3 with e | h3
          · rw [e]
            exact hx n List.mem_cons_self
          · exact hx _ (List.mem_cons_of_mem _ h3)
        · rcases List.mem_cons.mp hm with e | hm
          · rw [e]
            exact h1
          · exact h2 m hm
      rw [e]
      exact .int _
/-! ### sorted(set(a tuple of whole numbers)) -/
theorem fd_sortedSetT {p p2 q2 : Pos} {ns out : List Int} (hc : X.calm = true) (hg : Gl X "sorted") (hm : X.mg "sorted" = none) (hg2 : Gl X "set") (hm2 : X.mg "set" = none) (ha : PD X M a σ H (.tuple (ns.map PyData.int)))
    (hl : ns.length < 64) (ho : out.Pairwise (· < ·)) (hmem : ∀ k, k ∈ out ↔ k ∈ ns)
    (na : starEach [a] X.env = (false, eval a X.env) :: starEach [] X.env := by rfl) : FD X M (.Call (.Name "sorted" p) [.Call (.Name "set" p2) [a] [] q2] [] pos) σ H (out.map PyData.int) := .mk fun H1 e1 al Q q => by
  refine ⟨fun σ H Q => wE X a σ H fun x H1 => ∃ l, x = V.ref l ∧ SqT X.K H1 l (ns.map V.int) ∧ ∀ p, H1 p = none → Q (.ref p) (upd H1 p (.lst (out.map V.int))), ⟨fun pins s σ H Q I h => ?_⟩, ?_⟩
  · refine Call_ (ld_blt I hg hm PyProof.Rows.boot_sorted ?_)
    refine PyProof.Rows.callWith_builtin1 (PyProof.Rows.args_cons ?_ rfl) rfl rfl
    refine Call_ (ld_blt I hg2 hm2 PyProof.Rows.boot_set (PyProof.Rows.callWith_type1 (PyProof.Rows.args_cons (thn (wE.pe.run pins s σ H _ I h) fun v s1 ⟨x, H1, I1, r1, l, e2, hq, q1⟩ => PyProof.Rows.args_nil ?_) na) na rfl))
    subst e2
    cases r1
    obtain ⟨its, r, pl, hz⟩ := I1.tuple hq
    refine call_set_tupI ns (I1.ok.hd hc) pl (by simpa using r.ints) (by unfold scanBound; omega) fun g tk c R hcl k => PyProof.Rows.args_nil ?_
    have I2 : Inv X pins σ H1 { s1 with heap := g, toks := tk } := I1.kept k
    refine sorted_set R (I1.ok.hd hc) (by omega) fun s' p o c' ns' k2 g2 o2 hp hgp hi hs hm' hlen => ?_
    have en : ns' = out := up_ext hs ho fun z => by
      rw [hm' z, hmem z]
      exact decide_eq_true_iff
    subst en
    have hn : H1 p = none := I2.hok.fresh hp
    have ln : (ns'.map V.int).length ≤ sizeLine := by
      rw [List.length_map]
      refine Evl.sz_of (Nat.le_trans ?_ (show 64 ≤ 100000 by decide))
      omega
    have J : Inv X pins σ (upd H1 p (.lst (ns'.map V.int))) { ({ s1 with heap := g, toks := tk } : Shared) with heap := s'.heap, gens := s'.gens, drawn := s'.drawn, toks := s'.toks } := I2.call (ch := []) (Un.laid k2 hp hn) (I2.hok.laid k2 hp ⟨ln, o.toList, c', vals_of_ints hi, hgp⟩) (by rw [g2]; exact I2.bare) (fun _ z => nomatch z)
    obtain ⟨hp', g', d', t', os'⟩ := s'
    obtain rfl : os' = s1.os := o2
    exact ⟨.ref p, _, J, rfl, q1 p hn⟩
  · refine ha.run H1 e1 al _ fun v H2 x2 r => ?_
    cases r with
    | tup m hr rs => exact ⟨_, rfl, .inl (by rw [← rs.of_ints]; exact hr), fun p hp => q p _ _ (Evl.fresh_back x2 hp) (x2.trans (Evl.Ex.new hp)) upd_same (RpAll.ints out)⟩
end
end GV

namespace GV
open PySem PySem.Spec PyProof.Rows L2
/-! ### a list or a tuple, whichever -/
def sqD : Bool → List PyData → PyData
  | true, ds => .tuple ds
  | false, ds => .list ds
theorem items_sq (tp : Bool) (ds : List PyData) : itemsD (sqD tp ds) = some ds := by cases tp <;> rfl
theorem len_sq (tp : Bool) (ds : List PyData) : lenD (sqD tp ds) = some ds.length := by cases tp <;> rfl
theorem ix_sq {tp : Bool} {ds : List PyData} {i : Int} {d : PyData} (h : atI ds i = some d) : ixD (sqD tp ds) (.int i) = some d := by cases tp <;> exact h
theorem ix_sqI {tp : Bool} {ns : List Int} {i : Nat} {z : Int} (h : ns[i]? = some z) : ixD (sqD tp (ns.map PyData.int)) (.int (i : Nat)) = some (.int z) := ix_sq (atI_nat (by rw [List.getElem?_map, h]; rfl))
section
variable {X : Cx} {M : Addr → Prop} {σ : St} {H : Hp} {a b c e tg : Expr} {d : PyData} {pos : Pos} {ds : List PyData} {tp : Bool}
theorem src_S (h : PD X M e σ H (sqD tp ds)) : Src X M tg e σ H ds := by
  cases tp with
  | true => exact src_tup h
  | false => exact src_list h
theorem src_enumS {p tpos : Pos} {elts : List Expr} {kk : Nat} (hg : Gl X "enumerate") (hm : X.mg "enumerate" = none) (h : PD X M e σ H (sqD tp ds)) (hs : starEach [e] X.env = [(false, eval e X.env)] := by rfl)
    (hs' : starEach (e :: []) X.env = (false, eval e X.env) :: starEach [] X.env := by rfl) : Src X M (.Tuple elts kk tpos) (.Call (.Name "enumerate" p) [e] [] pos) σ H (enumD ds) := by
  cases tp with
  | true => exact src_enumT hg hm h hs hs'
  | false => exact src_enum hg hm h hs hs'
theorem pd_sliceS {lo hi : Option Expr} {l u : Option Int} {p2 : Pos} (h : PD X M e σ H (sqD tp ds)) (hl : OD X M lo σ H l) (hu : OD X M hi σ H u) : PD X M (.Subscript e (.Slice lo hi none p2) pos) σ H (sqD tp (cutD ds l u)) := by
  cases tp with
  | true => exact pd_sliceT h hl hu
  | false => exact (fd_slice h hl hu).pd
theorem pd_minDfS {p kp : Pos} {ns : List Int} (hc : X.calm = true) (hu : X.A.units + 2 < cLine) (hg : Gl X "min") (hm : X.mg "min" = none) (ha : PD X M a σ H (sqD tp (ns.map PyData.int))) (hb : PD X M b σ H d)
    (h1 : starEach (a :: []) X.env = (false, eval a X.env) :: starEach [] X.env := by rfl)
    (he : backTo pos (starEach (a :: []) X.env) = (false, eval a X.env) :: backTo pos (starEach [] X.env) := by rfl) (hpl : (backTo pos (starEach (a :: []) X.env)).any (·.1) = false := by rfl)
    (hall : (backToKw pos (keywordEach [⟨some "default", b, kp⟩] X.env)).all (·.1.isSome) = true := by rfl) (hnone : (backToKw pos (keywordEach [⟨some "default", b, kp⟩] X.env)).any (·.1.isNone) = false := by rfl)
    (hks : (backToKw pos (keywordEach [⟨some "default", b, kp⟩] X.env)).filterMap (·.1) = (["default"] : List Str) := by rfl) :
    PD X M (.Call (.Name "min" p) [a] [⟨some "default", b, kp⟩] pos) σ H (minOr d ns) := by
  cases tp with
  | true => exact pd_minDfT hc hu hg hm ha hb h1 he hpl hall hnone hks
  | false => exact pd_minDf hc hu hg hm ha hb h1 he hpl hall hnone hks
theorem pd_maxS {p : Pos} {ns : List Int} {m : Int} (hc : X.calm = true) (hu : X.A.units + 2 < cLine) (hg : Gl X "max") (hn : X.mg "max" = none) (ha : PD X M a σ H (sqD tp (ns.map PyData.int))) (hm : m ∈ ns) (hx : ∀ y ∈ ns, y ≤ m)
    (h1 : starEach (a :: []) X.env = (false, eval a X.env) :: starEach [] X.env := by rfl) (hpl : (backTo pos (starEach [] X.env)).any (·.1) = false := by rfl) : PD X M (.Call (.Name "max" p) [a] [] pos) σ H (.int m) := by
  cases tp with
  | true => exact pd_callB (cr_maxT hc hu) hg hn PyProof.Rows.boot_max (ad_cons ha ad_nil h1) (rn_maxT hm hx) (by decide) (by decide) h1 hpl
  | false => exact pd_callB (cr_max hc) hg hn PyProof.Rows.boot_max (ad_cons ha ad_nil h1) (rn_max hm hx) (by decide) (by decide) h1 hpl
theorem pd_min {p : Pos} {ns : List Int} {m : Int} (hc : X.calm = true) (hg : Gl X "min") (hn : X.mg "min" = none) (ha : PD X M a σ H (.list (ns.map PyData.int))) (hm : m ∈ ns) (hx : ∀ y ∈ ns, m ≤ y)
    (h1 : starEach (a :: []) X.env = (false, eval a X.env) :: starEach [] X.env := by rfl) (hpl : (backTo pos (starEach [] X.env)).any (·.1) = false := by rfl) : PD X M (.Call (.Name "min" p) [a] [] pos) σ H (.int m) :=
  pd_callB (cr_min hc) hg hn PyProof.Rows.boot_min (ad_cons ha ad_nil h1) (rn_min hm hx) (by decide) (by decide) h1 hpl
theorem pd_min2 {p : Pos} {i j : Int} (hg : Gl X "min") (hn : X.mg "min" = none) (ha : PD X M a σ H (.int i)) (hb : PD X M b σ H (.int j)) (hc : X.calm = true := by rfl)
    (h1 : starEach (a :: [b]) X.env = (false, eval a X.env) :: starEach [b] X.env := by rfl) (h2 : starEach (b :: []) X.env = (false, eval b X.env) :: starEach [] X.env := by rfl) (hpl : (backTo pos (starEach [b] X.env)).any (·.1) = false := by rfl) : PD X M (.Call (.Name "min" p) [a, b] [] pos) σ H (.int (min i j)) :=
  PD.is (pd_callB (call_min2 hc) hg hn PyProof.Rows.boot_min (ad_cons ha (ad_cons hb ad_nil h2) h1) rn_min2 (by decide) (by decide) h1 hpl) (by
    congr 1
    split
    · exact (Int.min_eq_right (by omega)).symm
    · exact (Int.min_eq_left (by omega)).symm)
theorem pd_max2 {p : Pos} {i j : Int} (hg : Gl X "max") (hn : X.mg "max" = none) (ha : PD X M a σ H (.int i)) (hb : PD X M b σ H (.int j)) (hc : X.calm = true := by rfl)
    (h1 : starEach (a :: [b]) X.env = (false, eval a X.env) :: starEach [b] X.env := by rfl) (h2 : starEach (b :: []) X.env = (false, eval b X.env) :: starEach [] X.env := by rfl) (hpl : (backTo pos (starEach [b] X.env)).any (·.1) = false := by rfl) : PD X M (.Call (.Name "max" p) [a, b] [] pos) σ H (.int (max i j)) :=
  PD.is (pd_callB (call_max2 hc) hg hn PyProof.Rows.boot_max (ad_cons ha (ad_cons hb ad_nil h2) h1) rn_max2 (by decide) (by decide) h1 hpl) (by
    congr 1
    split
    · exact (Int.max_eq_right (by omega)).symm
    · exact (Int.max_eq_left (by omega)).symm)
theorem fd_sortedSetS {p p2 q2 : Pos} {ns out : List Int} (hc : X.calm = true) (hg : Gl X "sorted") (hm : X.mg "sorted" = none) (hg2 : Gl X "set") (hm2 : X.mg "set" = none) (ha : PD X M a σ H (sqD tp (ns.map PyData.int)))
    (hl : ns.length < 64) (ho : out.Pairwise (· < ·)) (hmem : ∀ k, k ∈ out ↔ k ∈ ns)
    (na : starEach [a] X.env = (false, eval a X.env) :: starEach [] X.env := by rfl) : FD X M (.Call (.Name "sorted" p) [.Call (.Name "set" p2) [a] [] q2] [] pos) σ H (out.map PyData.int) := by
  cases tp with
  | true => exact fd_sortedSetT hc hg hm hg2 hm2 ha hl ho hmem na
  | false => exact fd_sortedSet hc hg hm hg2 hm2 ha hl ho hmem na
/-- list(e), tuple(e) -/
theorem fd_listOf {p : Pos} (hg : Gl X "list") (hm : X.mg "list" = none) (ha : PD X M a σ H d) (h : itemsD d = some ds)
    (h1 : starEach (a :: []) X.env = (false, eval a X.env) :: starEach [] X.env := by rfl) (hpl : (backTo pos (starEach [] X.env)).any (·.1) = false := by rfl) : FD X M (.Call (.Name "list" p) [a] [] pos) σ H ds :=
  fd_callTy call_list_of hg hm PyProof.Rows.boot_list (ad_cons ha ad_nil h1) (rf_list h) (by decide) (by decide) h1 hpl
theorem pd_tupleOf {p : Pos} (hg : Gl X "tuple") (hm : X.mg "tuple" = none) (ha : PD X M a σ H d) (h : itemsD d = some ds)
    (h1 : starEach (a :: []) X.env = (false, eval a X.env) :: starEach [] X.env := by rfl) (hpl : (backTo pos (starEach [] X.env)).any (·.1) = false := by rfl) : PD X M (.Call (.Name "tuple" p) [a] [] pos) σ H (.tuple ds) :=
  pd_callTy call_tuple_of hg hm PyProof.Rows.boot_tuple (ad_cons ha ad_nil h1) (rn_tuple h) (by decide) (by decide) h1 hpl
/-- the name in slot i, by its value -/
theorem ce_nm (i : Nat) {x : Str} {v : V} {Q : VK} (q : Q v H) (hN : X.N[i]? = some x := by rfl) (hv : Vis X.env.scope x := by first | exact .inl rfl | exact .inr (.inl rfl) | exact .inr (.inr rfl)) (hs : σ[i]? = some (some v) := by rfl)
    (hd : (x == ("__debug__" : Str)) = false := by decide) (hcd : (x == ("__classdict__" : Str)) = false := by decide) : wE X (.Name x pos) σ H Q := ce_name hN hv hs q hd hcd
end
end GV

namespace CK
open PySem PySem.Spec PyProof.Rows L2 GV
abbrev St := L2.St
def topS (i : Nat) : Stmt := PySem.Challenge.pw_millbrook_k10_reach.main.body.getD i (.Pass ⟨0, 0, 0, 0⟩)
abbrev s_InvalidRow_init : Stmt := inClass (topS 2) 0
abbrev n_InvalidRow_init : List Str := ["self", "row"]
abbrev p_InvalidRow_init : List Str := ["self", "row"]
theorem sc_InvalidRow_init : FnScope n_InvalidRow_init p_InvalidRow_init (defScope s_InvalidRow_init) := ⟨rfl, rfl, rfl, by decide +kernel, rfl, by decide +kernel, by decide +kernel⟩
abbrev s_is_integer : Stmt := topS 4
abbrev n_is_integer : List Str := ["value"]
abbrev p_is_integer : List Str := ["value"]
theorem sc_is_integer : FnScope n_is_integer p_is_integer (defScope s_is_integer) := ⟨rfl, rfl, rfl, by decide +kernel, rfl, by decide +kernel, by decide +kernel⟩
abbrev s_is_number : Stmt := topS 5
abbrev n_is_number : List Str := ["value", "low", "high"]
abbrev p_is_number : List Str := ["value", "low", "high"]
theorem sc_is_number : FnScope n_is_number p_is_number (defScope s_is_number) := ⟨rfl, rfl, rfl, by decide +kernel, rfl, by decide +kernel, by decide +kernel⟩
abbrev s_is_weight : Stmt := topS 9
abbrev n_is_weight : List Str := ["value"]
abbrev p_is_weight : List Str := ["value"]
theorem sc_is_weight : FnScope n_is_weight p_is_weight (defScope s_is_weight) := ⟨rfl, rfl, rfl, by decide +kernel, rfl, by decide +kernel, by decide +kernel⟩
abbrev s_is_bag_row : Stmt := topS 10
abbrev n_is_bag_row : List Str := ["value", "item"]
abbrev p_is_bag_row : List Str := ["value"]
theorem sc_is_bag_row : FnScope n_is_bag_row p_is_bag_row (defScope s_is_bag_row) := ⟨rfl, rfl, rfl, by decide +kernel, rfl, by decide +kernel, by decide +kernel⟩
abbrev s_check_bag_row : Stmt := topS 12
abbrev n_check_bag_row : List Str := ["row"]
abbrev p_check_bag_row : List Str := ["row"]
theorem sc_check_bag_row : FnScope n_check_bag_row p_check_bag_row (defScope s_check_bag_row) := ⟨rfl, rfl, rfl, by decide +kernel, rfl, by decide +kernel, by decide +kernel⟩
abbrev s_covers : Stmt := topS 14
abbrev n_covers : List Str := ["one", "other"]
abbrev p_covers : List Str := ["one", "other"]
theorem sc_covers : FnScope n_covers p_covers (defScope s_covers) := ⟨rfl, rfl, rfl, by decide +kernel, rfl, by decide +kernel, by decide +kernel⟩
abbrev s_covered : Stmt := topS 15
abbrev n_covered : List Str := ["couple", "couples", "one"]
abbrev p_covered : List Str := ["couple", "couples"]
theorem sc_covered : FnScope n_covered p_covered (defScope s_covered) := ⟨rfl, rfl, rfl, by decide +kernel, rfl, by decide +kernel, by decide +kernel⟩
abbrev s_couples_with : Stmt := topS 16
abbrev n_couples_with : List Str := ["couples", "lightest", "weight", "couple"]
abbrev p_couples_with : List Str := ["couples", "lightest", "weight"]
theorem sc_couples_with : FnScope n_couples_with p_couples_with (defScope s_couples_with) := ⟨rfl, rfl, rfl, by decide +kernel, rfl, by decide +kernel, by decide +kernel⟩
abbrev s_far_of : Stmt := topS 17
abbrev n_far_of : List Str := ["row", "couples", "index", "weight", "lightest"]
abbrev p_far_of : List Str := ["row"]
theorem sc_far_of : FnScope n_far_of p_far_of (defScope s_far_of) := ⟨rfl, rfl, rfl, by decide +kernel, rfl, by decide +kernel, by decide +kernel⟩
abbrev s_far_couples : Stmt := topS 18
abbrev n_far_couples : List Str := ["row"]
abbrev p_far_couples : List Str := ["row"]
theorem sc_far_couples : FnScope n_far_couples p_far_couples (defScope s_far_couples) := ⟨rfl, rfl, rfl, by decide +kernel, rfl, by decide +kernel, by decide +kernel⟩
abbrev s_reach_of : Stmt := topS 19
abbrev n_reach_of : List Str := ["row", "weight", "foremost", "heaviest", "index", "stone"]
abbrev p_reach_of : List Str := ["row", "weight"]
theorem sc_reach_of : FnScope n_reach_of p_reach_of (defScope s_reach_of) := ⟨rfl, rfl, rfl, by decide +kernel, rfl, by decide +kernel, by decide +kernel⟩
abbrev s_reach : Stmt := topS 20
abbrev n_reach : List Str := ["row", "weight"]
abbrev p_reach : List Str := ["row"]
theorem sc_reach : FnScope n_reach p_reach (defScope s_reach) := ⟨rfl, rfl, rfl, by decide +kernel, rfl, by decide +kernel, by decide +kernel⟩
abbrev s_law_pot : Stmt := topS 22
abbrev n_law_pot : List Str := ["script", "at", "cell", "rest"]
abbrev p_law_pot : List Str := ["script", "at"]
theorem sc_law_pot : FnScope n_law_pot p_law_pot (defScope s_law_pot) := ⟨rfl, rfl, rfl, by decide +kernel, rfl, by decide +kernel, by decide +kernel⟩
abbrev s_law_draw : Stmt := topS 23
abbrev n_law_draw : List Str := ["pot", "size", "digit", "low", "mid", "high"]
abbrev p_law_draw : List Str := ["pot", "size"]
theorem sc_law_draw : FnScope n_law_draw p_law_draw (defScope s_law_draw) := ⟨rfl, rfl, rfl, by decide +kernel, rfl, by decide +kernel, by decide +kernel⟩
abbrev s_law_weights : Stmt := topS 24
abbrev n_law_weights : List Str := ["pot", "size", "way", "gap", "weight", "weights", "k"]
abbrev p_law_weights : List Str := ["pot", "size"]
theorem sc_law_weights : FnScope n_law_weights p_law_weights (defScope s_law_weights) := ⟨rfl, rfl, rfl, by decide +kernel, rfl, by decide +kernel, by decide +kernel⟩
abbrev s_law_bag : Stmt := topS 25
abbrev n_law_bag : List Str := ["pot", "most", "size", "weights", "k"]
abbrev p_law_bag : List Str := ["pot", "most"]
theorem sc_law_bag : FnScope n_law_bag p_law_bag (defScope s_law_bag) := ⟨rfl, rfl, rfl, by decide +kernel, rfl, by decide +kernel, by decide +kernel⟩
abbrev s_law_order : Stmt := topS 26
abbrev n_law_order : List Str := ["pot", "row", "order", "weight"]
abbrev p_law_order : List Str := ["pot", "row"]
theorem sc_law_order : FnScope n_law_order p_law_order (defScope s_law_order) := ⟨rfl, rfl, rfl, by decide +kernel, rfl, by decide +kernel, by decide +kernel⟩
abbrev s_law_given : Stmt := topS 27
abbrev n_law_given : List Str := ["pot", "row"]
abbrev p_law_given : List Str := ["pot", "row"]
theorem sc_law_given : FnScope n_law_given p_law_given (defScope s_law_given) := ⟨rfl, rfl, rfl, by decide +kernel, rfl, by decide +kernel, by decide +kernel⟩
abbrev s_law_bad_row : Stmt := topS 28
abbrev n_law_bad_row : List Str := ["pot", "row", "over", "odd", "spoilt", "long", "menu"]
abbrev p_law_bad_row : List Str := ["pot", "row"]
theorem sc_law_bad_row : FnScope n_law_bad_row p_law_bad_row (defScope s_law_bad_row) := ⟨rfl, rfl, rfl, by decide +kernel, rfl, by decide +kernel, by decide +kernel⟩
abbrev s_law_is_number : Stmt := topS 29
abbrev n_law_is_number : List Str := ["value", "due"]
abbrev p_law_is_number : List Str := ["value", "due"]
theorem sc_law_is_number : FnScope n_law_is_number p_law_is_number (defScope s_law_is_number) := ⟨rfl, rfl, rfl, by decide +kernel, rfl, by decide +kernel, by decide +kernel⟩
abbrev s_law_is_list : Stmt := topS 30
abbrev n_law_is_list : List Str := ["value", "due", "k"]
abbrev p_law_is_list : List Str := ["value", "due"]
theorem sc_law_is_list : FnScope n_law_is_list p_law_is_list (defScope s_law_is_list) := ⟨rfl, rfl, rfl, by decide +kernel, rfl, by decide +kernel, by decide +kernel⟩
abbrev s_law_is_row : Stmt := topS 31
abbrev n_law_is_row : List Str := ["value", "due"]
abbrev p_law_is_row : List Str := ["value", "due"]
theorem sc_law_is_row : FnScope n_law_is_row p_law_is_row (defScope s_law_is_row) := ⟨rfl, rfl, rfl, by decide +kernel, rfl, by decide +kernel, by decide +kernel⟩
abbrev s_law_is_pairs : Stmt := topS 32
abbrev n_law_is_pairs : List Str := ["value", "due", "k"]
abbrev p_law_is_pairs : List Str := ["value", "due"]
theorem sc_law_is_pairs : FnScope n_law_is_pairs p_law_is_pairs (defScope s_law_is_pairs) := ⟨rfl, rfl, rfl, by decide +kernel, rfl, by decide +kernel, by decide +kernel⟩
abbrev s_law_tame : Stmt := topS 33
abbrev n_law_tame : List Str := ["row", "place", "low", "high", "k"]
abbrev p_law_tame : List Str := ["row", "place"]
theorem sc_law_tame : FnScope n_law_tame p_law_tame (defScope s_law_tame) := ⟨rfl, rfl, rfl, by decide +kernel, rfl, by decide +kernel, by decide +kernel⟩
abbrev s_law_tame_list : Stmt := topS 34
abbrev n_law_tame_list : List Str := ["row", "place"]
abbrev p_law_tame_list : List Str := ["row"]
theorem sc_law_tame_list : FnScope n_law_tame_list p_law_tame_list (defScope s_law_tame_list) := ⟨rfl, rfl, rfl, by decide +kernel, rfl, by decide +kernel, by decide +kernel⟩
abbrev s_law_exchanged : Stmt := topS 35
abbrev n_law_exchanged : List Str := ["row", "place", "now"]
abbrev p_law_exchanged : List Str := ["row", "place"]
theorem sc_law_exchanged : FnScope n_law_exchanged p_law_exchanged (defScope s_law_exchanged) := ⟨rfl, rfl, rfl, by decide +kernel, rfl, by decide +kernel, by decide +kernel⟩
abbrev s_law_told : Stmt := topS 36
abbrev n_law_told : List Str := ["call", "e"]
abbrev p_law_told : List Str := ["call"]
theorem sc_law_told : FnScope n_law_told p_law_told (defScope s_law_told) := ⟨rfl, rfl, rfl, by decide +kernel, rfl, by decide +kernel, by decide +kernel⟩
abbrev s_law_reach : Stmt := topS 37
abbrev n_law_reach : List Str := ["row", "weight", "foremost", "behind", "k", "other"]
abbrev p_law_reach : List Str := ["row", "weight"]
theorem sc_law_reach : FnScope n_law_reach p_law_reach (defScope s_law_reach) := ⟨rfl, rfl, rfl, by decide +kernel, rfl, by decide +kernel, by decide +kernel⟩
abbrev s_law_is_reach : Stmt := topS 38
abbrev n_law_is_reach : List Str := ["value", "row", "weights", "k", "pair", "due"]
abbrev p_law_is_reach : List Str := ["value", "row"]
theorem sc_law_is_reach : FnScope n_law_is_reach p_law_is_reach (defScope s_law_is_reach) := ⟨rfl, rfl, rfl, by decide +kernel, rfl, by decide +kernel, by decide +kernel⟩
abbrev s_law_far_of : Stmt := topS 39
abbrev n_law_far_of : List Str := ["reaches", "found", "pair"]
abbrev p_law_far_of : List Str := ["reaches"]
theorem sc_law_far_of : FnScope n_law_far_of p_law_far_of (defScope s_law_far_of) := ⟨rfl, rfl, rfl, by decide +kernel, rfl, by decide +kernel, by decide +kernel⟩
abbrev s_law_covered : Stmt := topS 40
abbrev n_law_covered : List Str := ["reaches", "far", "weights", "pair", "heavy", "within", "one"]
abbrev p_law_covered : List Str := ["reaches", "far"]
theorem sc_law_covered : FnScope n_law_covered p_law_covered (defScope s_law_covered) := ⟨rfl, rfl, rfl, by decide +kernel, rfl, by decide +kernel, by decide +kernel⟩
abbrev s_law_second : Stmt := topS 41
abbrev n_law_second : List Str := ["pot", "row", "way", "now", "k", "tame"]
abbrev p_law_second : List Str := ["pot", "row"]
theorem sc_law_second : FnScope n_law_second p_law_second (defScope s_law_second) := ⟨rfl, rfl, rfl, by decide +kernel, rfl, by decide +kernel, by decide +kernel⟩
abbrev s_law_row_kept : Stmt := topS 42
abbrev n_law_row_kept : List Str := ["row", "passed", "told", "far"]
abbrev p_law_row_kept : List Str := ["row", "passed"]
theorem sc_law_row_kept : FnScope n_law_row_kept p_law_row_kept (defScope s_law_row_kept) := ⟨rfl, rfl, rfl, by decide +kernel, rfl, by decide +kernel, by decide +kernel⟩
abbrev s_law_world : Stmt := topS 43
abbrev n_law_world : List Str := ["pot", "row", "passed", "drawn", "second", "same", "bad"]
abbrev p_law_world : List Str := ["pot"]
theorem sc_law_world : FnScope n_law_world p_law_world (defScope s_law_world) := ⟨rfl, rfl, rfl, by decide +kernel, rfl, by decide +kernel, by decide +kernel⟩
abbrev s_law : Stmt := topS 44
abbrev n_law : List Str := ["script", "at"]
abbrev p_law : List Str := ["script"]
theorem sc_law : FnScope n_law p_law (defScope s_law) := ⟨rfl, rfl, rfl, by decide +kernel, rfl, by decide +kernel, by decide +kernel⟩
end CK

namespace CK
open PySem PySem.Spec PyProof.Rows L2 GV
section
variable {P : Program} {w : World} {K : PySem.W.Frag} {mg : Str → Option Value} {base : Heap}

/-! ### whole numbers -/
def isIntD : PyData → Bool
  | .int _ => true
  | _ => false
def isBoolD : PyData → Bool
  | .bool _ => true
  | _ => false
theorem kit_int (d : PyData) : kitB (tyD d) "int" = some (isIntD d || isBoolD d) := by
  cases d with
  | none => exact (by decide +kernel : kitB "NoneType" "int" = some false)
  | bool _ => exact (by decide +kernel : kitB "bool" "int" = some true)
  | int _ => exact (by decide +kernel : kitB "int" "int" = some true)
  | str _ => exact (by decide +kernel : kitB "str" "int" = some false)
  | list _ => exact (by decide +kernel : kitB "list" "int" = some false)
  | tuple _ => exact (by decide +kernel : kitB "tuple" "int" = some false)
  | dict _ => exact (by decide +kernel : kitB "dict" "int" = some false)
theorem kit_bool (d : PyData) : kitB (tyD d) "bool" = some (isBoolD d) := by
  cases d with
  | none => exact (by decide +kernel : kitB "NoneType" "bool" = some false)
  | bool _ => exact (by decide +kernel : kitB "bool" "bool" = some true)
  | int _ => exact (by decide +kernel : kitB "int" "bool" = some false)
  | str _ => exact (by decide +kernel : kitB "str" "bool" = some false)
  | list _ => exact (by decide +kernel : kitB "list" "bool" = some false)
  | tuple _ => exact (by decide +kernel : kitB "tuple" "bool" = some false)
  | dict _ => exact (by decide +kernel : kitB "dict" "bool" = some false)
def R_is_integer (ds : List PyData) (d : PyData) : Prop := ∃ a, ds = [a] ∧ d = .bool (isIntD a)
theorem cl_is_integer {f : Addr} {fd : FuncData} (F : At K mg "is_integer" s_is_integer f fd) (nb : NoB mg) : Cl P w K mg base CX0 1 "is_integer" (PureR K R_is_integer) := by
  refine cl_pure F sc_is_integer (F.fn.binds fun _ _ _ _ _ _ us hl => match us, hl with | [_], _ => rfl) (fun ds d h => ?_) (fun X cdv A outer s H Q E M vs ds d hX hr al r h q => ?_)
  · obtain ⟨a, rfl, _⟩ := h
    rfl
  · obtain ⟨a, rfl, rfl⟩ := h
    obtain ⟨v, rfl, r1⟩ := rpa1 r
    subst hX
    refine b_cons (s_ret al (PD.is (pd_and (pd_isi rfl nb.isinstance rfl nb.int PyProof.Rows.boot_int (nm 0 r1) (kit_int a)) fun _ => pd_one (pd_not (pd_isi rfl nb.isinstance rfl nb.bool PyProof.Rows.boot_bool (nm 0 r1) (kit_bool a)))) ?_) q)
    cases a <;> rfl
def isNumD (a : PyData) (lo hi : Int) : Bool := match a with
  | .int i => decide (lo ≤ i) && decide (i ≤ hi)
  | _ => false
def R_is_number (ds : List PyData) (d : PyData) : Prop := ∃ a lo hi, ds = [a, .int lo, .int hi] ∧ d = .bool (isNumD a lo hi)
theorem rpa3 {K : PySem.W.Frag} {M : Addr → Prop} {H : Hp} {vs : List V} {a b c : PyData} (r : RpAll K M H vs [a, b, c]) : ∃ u v w, vs = [u, v, w] ∧ Rp K M H u a ∧ Rp K M H v b ∧ Rp K M H w c := by
  obtain ⟨⟩ | ⟨r1, r⟩ := r
  obtain ⟨v, w, rfl, r2, r3⟩ := rpa2 r
  exact ⟨_, _, _, rfl, r1, r2, r3⟩
theorem cl_is_number {f : Addr} {fd : FuncData} (F : At K mg "is_number" s_is_number f fd) (c1 : Cl P w K mg base CX0 1 "is_integer" (PureR K R_is_integer)) : Cl P w K mg base CX0 2 "is_number" (PureR K R_is_number) := by
  refine cl_pure F sc_is_number (F.fn.binds fun _ _ _ _ _ _ us hl => match us, hl with | [_, _, _], _ => rfl) (fun ds d h => ?_) (fun X cdv A outer s H Q E M vs ds d hX hr al r h q => ?_)
  · obtain ⟨a, lo, hi, rfl, _⟩ := h
    rfl
  · obtain ⟨a, lo, hi, rfl, rfl⟩ := h
    obtain ⟨u, v, x, rfl, r1, r2, r3⟩ := rpa3 r
    subst hX
    refine b_cons (s_ret al (PD.is (pd_and (k2 := isNumD a lo hi) (pd_callC c1 hr (by decide) rfl (ad_cons (nm 0 r1) ad_nil) ⟨a, rfl, rfl⟩) fun ha => pd_one ?_) ?_) q)
    · cases a with
      | int i => exact pd_leLe (nm 1 r2) (nm 0 r1) (nm 2 r3)
      | _ => cases ha
    · cases a <;> rfl
/-- MOST_WEIGHT -/
def mostW : Int := 1000000000000
def isWeightD (a : PyData) : Bool := isNumD a (-mostW) mostW
def R_is_weight (ds : List PyData) (d : PyData) : Prop := ∃ a, ds = [a] ∧ d = .bool (isWeightD a)
theorem cl_is_weight {f : Addr} {fd : FuncData} {t : Tok} (F : At K mg "is_weight" s_is_weight f fd) (c1 : Cl P w K mg base CX0 2 "is_number" (PureR K R_is_number)) (gW : mg "MOST_WEIGHT" = some (.int mostW t)) : Cl P w K mg base CX0 3 "is_weight" (PureR K R_is_weight) := by
  refine cl_pure F sc_is_weight (F.fn.binds fun _ _ _ _ _ _ us hl => match us, hl with | [_], _ => rfl) (fun ds d h => ?_) (fun X cdv A outer s H Q E M vs ds d hX hr al r h q => ?_)
  · obtain ⟨a, rfl, _⟩ := h
    rfl
  · obtain ⟨a, rfl, rfl⟩ := h
    obtain ⟨v, rfl, r1⟩ := rpa1 r
    subst hX
    exact b_cons (s_ret al (pd_callC c1 hr (by decide) rfl (ad_cons (nm 0 r1) (ad_cons (pd_neg (pd_globI rfl gW)) (ad_cons (pd_globI rfl gW) ad_nil))) ⟨a, _, _, rfl, rfl⟩) q)
/-! ### couples -/
def cov (p q : Int × Int) : Bool := decide (p.1 ≤ q.1) && decide (q.2 ≤ p.2)
abbrev pairD (p : Int × Int) : PyData := .tuple [.int p.1, .int p.2]
def R_covers (ds : List PyData) (d : PyData) : Prop := ∃ p q : Int × Int, ds = [pairD p, pairD q] ∧ d = .bool (cov p q)
theorem cl_covers {f : Addr} {fd : FuncData} (F : At K mg "covers" s_covers f fd) : Cl P w K mg base CX0 1 "covers" (PureR K R_covers) := by
  refine cl_pure F sc_covers (F.fn.binds fun _ _ _ _ _ _ us hl => match us, hl with | [_, _], _ => rfl) (fun ds d h => ?_) (fun X cdv A outer s H Q E M vs ds d hX hr al r h q => ?_)
  · obtain ⟨a, b, rfl, _⟩ := h
    rfl
  · obtain ⟨a, b, rfl, rfl⟩ := h
    obtain ⟨u, v, rfl, r1, r2⟩ := rpa2 r
    subst hX
    refine b_cons (s_ret al ?_ q)
    exact pd_and (pd_le (pd_ix (nm 0 r1) pd_int rfl) (pd_ix (nm 1 r2) pd_int rfl)) fun _ => pd_one (pd_ge (pd_ix (nm 0 r1) pd_int rfl) (pd_ix (nm 1 r2) pd_int rfl))
/-- any of the couples covers -/
def anyCov (cs : List (Int × Int)) (p : Int × Int) : Bool := cs.any fun c => cov c p
def unP : PyData → Int × Int
  | .tuple [.int a, .int b] => (a, b)
  | _ => (0, 0)
theorem unP_pair (p : Int × Int) : unP (pairD p) = p := rfl
def R_covered (ds : List PyData) (d : PyData) : Prop := ∃ (p : Int × Int) (cs : List (Int × Int)), cs.length ≤ 1000 ∧ ds = [pairD p, .list (cs.map pairD)] ∧ d = .bool (anyCov cs p)
theorem cl_covered {f : Addr} {fd : FuncData} (F : At K mg "covered" s_covered f fd) (c1 : Cl P w K mg base CX0 1 "covers" (PureR K R_covers)) (nb : NoB mg) : Cl P w K mg base CX0 2 "covered" (PureR K R_covered) := by
  refine cl_pure F sc_covered (F.fn.binds fun _ _ _ _ _ _ us hl => match us, hl with | [_, _], _ => rfl) (fun ds d h => ?_) (fun X cdv A outer s H Q E M vs ds d hX hr al r h q => ?_)
  · obtain ⟨p, cs, _, rfl, _⟩ := h
    rfl
  · obtain ⟨p, cs, hl, rfl, rfl⟩ := h
    obtain ⟨u, v, rfl, r1, r2⟩ := rpa2 r
    subst hX
    refine b_cons (s_ret al (PD.is (pd_callB (cr_any rfl) rfl nb.any PyProof.Rows.boot_any (ad_cons (PD.is (d' := .list ((cs.map fun c => cov c p).map PyData.bool)) (FD.pd
      (fd_map (t := .one 2) (own := [("one", 2)]) (fun d => .bool (cov (unP d) p)) rfl sc_covered.nd (src_list (nm 1 r2)) (blkOk_by (N := n_covered) (sc := defScope s_covered) (by decide +kernel)) (fun _ _ _ _ _ => pg_name (i := 2) sc_covered.nd rfl (.inl rfl)) (fun _ _ => trivial) ?_ ?_ ?_)) ?_) ad_nil) rn_any) ?_) q)
    · rintro M H d σ' ⟨v, _, rfl⟩
      rfl
    · rw [List.length_map]
      omega
    · rintro s0 H0 C cl fp M' H' d σ' hM lift hd ⟨v, rv, rfl⟩
      obtain ⟨c, hc, rfl⟩ := List.mem_map.mp hd
      exact pd_callC c1 hr (by decide) rfl (ad_cons (nm 2 rv) (ad_cons (nm 0 (lift _ _ r1)) ad_nil)) ⟨c, p, rfl, rfl⟩
    · simp [List.map_map, Function.comp_def, unP]
    · simp [anyCov, List.any_map, Function.comp_def]
end
end CK

namespace CK
open PySem PySem.Spec PyProof.Rows L2 GV
/-! ### the far couples, as the program makes them -/
def cpl (cs : List (Int × Int)) (m x : Int) : List (Int × Int) := if (decide (x ≤ m) || anyCov cs (m, x)) = true then cs else (m, x) :: cs.filter fun c => decide (x < c.2)
def minO (x : Int) : List Int → Int
  | [] => x
  | n :: r => r.foldl min n
def farStep (s : List Int × List (Int × Int)) (x : Int) : List Int × List (Int × Int) := (s.1 ++ [x], cpl s.2 (minO x s.1) x)
def farP (l : List Int) : List Int × List (Int × Int) := l.foldl farStep ([], [])
def farL (l : List Int) : List (Int × Int) := (farP l).2
theorem farP_snoc (l : List Int) (x : Int) : farP (l ++ [x]) = farStep (farP l) x := by
  unfold farP
  rw [List.foldl_append]
  rfl
theorem farP_fst (l : List Int) : (farP l).1 = l := by
  induction l using snoc_ind with
  | h0 => rfl
  | h1 l x ih =>
    rw [farP_snoc]
    show (farP l).1 ++ [x] = l ++ [x]
    rw [ih]
theorem farL_snoc (l : List Int) (x : Int) : farL (l ++ [x]) = cpl (farL l) (minO x l) x := by
  unfold farL
  rw [farP_snoc]
  show cpl (farP l).2 (minO x (farP l).1) x = _
  rw [farP_fst]
theorem cpl_len (cs : List (Int × Int)) (m x : Int) : (cpl cs m x).length ≤ cs.length + 1 := by
  unfold cpl
  split
  · omega
  · have := List.length_filter_le (fun c : Int × Int => decide (x < c.2)) cs
    simp only [List.length_cons]
    omega
theorem farL_len (l : List Int) : (farL l).length ≤ l.length := by
  induction l using snoc_ind with
  | h0 => exact Nat.le_refl _
  | h1 l x ih =>
    rw [farL_snoc]
    have := cpl_len (farL l) (minO x l) x
    rw [List.length_append, List.length_singleton]
    omega
section
variable {P : Program} {w : World} {K : PySem.W.Frag} {mg : Str → Option Value} {base : Heap}
/-- _couples_with: the list itself, or a new one -/
def spCW (K : PySem.W.Frag) : Sp := fun vs H Q _ => ∃ (M : Addr → Prop) (p : Addr) (ws : List V) (cs : List (Int × Int)) (m x : Int), vs = [.ref p, .int m, .int x] ∧ Alive M H ∧ ¬ M p ∧ H p = some (.lst ws) ∧ RpAll K M H ws (cs.map pairD) ∧ cs.length ≤ 900 ∧
  ∀ p' ws' H', (p' = p ∨ H p' = none) → Evl.Ex H H' → H' p' = some (.lst ws') → RpAll K M H' ws' ((cpl cs m x).map pairD) → Q (.ref p') H'
theorem cl_couples_with {f : Addr} {fd : FuncData} (F : At K mg "_couples_with" s_couples_with f fd) (c1 : Cl P w K mg base CX0 2 "covered" (PureR K R_covered)) : Cl P w K mg base CX0 3 "_couples_with" (spCW K) := by
  refine ⟨f, fd, _, F.fn.ok sc_couples_with (fun vs H Q E h => ?_) (fun cdv A outer s H vs Q E hr h => ⟨_, wB.ps, ?_⟩), F.gl, F.fn.kp, F.fn.binds fun _ _ _ _ _ _ us hl => match us, hl with | [_, _, _], _ => rfl⟩
  · obtain ⟨M, p, ws, cs, m, x, rfl, _⟩ := h
    rfl
  · obtain ⟨M, p, ws, cs, m, x, rfl, al, nm_, hp, rws, hl, q⟩ := h
    have r1 : Rp K M H (.ref p) (.list (cs.map pairD)) := .lst nm_ (.inl hp) rws
    have r2 : Rp K M H (.int m) (.int m) := .int m
    have r3 : Rp K M H (.int x) (.int x) := .int x
    have lc : (cs.map pairD).length ≤ 900 := by
      rw [List.length_map]
      exact hl
    refine b_cons (s_if al (k := decide (x ≤ m) || anyCov cs (m, x)) (WD.td (wd_or (td_le (nm 2 r3) (nm 1 r2)) fun _ => wd_or1 (td_val (pd_callC c1 hr (by decide) rfl (ad_cons (pd_tup (ad_cons (nm 1 r2) (ad_cons (nm 2 r3) ad_nil)) (by simp)) (ad_cons (nm 0 r1) ad_nil)) ⟨(m, x), cs, by omega, rfl, rfl⟩)))) (fun hk H2 x2 => ?_) (fun hk H2 x2 => ?_))
    · refine b_cons (cs_ret (ce_name (i := 0) rfl (.inl rfl) rfl (q p ws H2 (.inl rfl) x2 (x2 _ _ hp) ?_)))
      unfold cpl
      rw [if_pos hk]
      exact rws.mono (fun _ z => z) (.of x2)
    · refine b_nil (b_cons (cs_ret (ce_fd (al.mono x2) (fd_cat (es := [pairD (m, x)]) (fs := ((cs.map pairD).filter fun d => decide (x < (unP d).2)).map id)
        (FD.pd (fd_lst (ad_cons (pd_tup (ad_cons (nm 1 (.int m)) (ad_cons (nm 2 (.int x)) ad_nil)) (by simp)) ad_nil) (by simp)))
        (FD.pd (fd_filter (t := .one 3) (own := [("couple", 3)]) (fun d => decide (x < (unP d).2)) id rfl sc_couples_with.nd (src_list (nm 0 (r1.mono (fun _ z => z) (.of x2)))) (blkOk_by (N := n_couples_with) (sc := defScope s_couples_with) (by decide +kernel)) (fun _ _ _ _ _ => pg_name (i := 3) sc_couples_with.nd rfl (.inl rfl)) (fun _ _ => trivial) ?_ ?_ ?_)) ?_)
        fun p' ws' H3 hp' x3 h3 r => q p' ws' H3 (.inr (Evl.fresh_back x2 hp')) (x2.trans x3) h3 ?_)))
      · rintro M H d σ' ⟨v, _, rfl⟩
        rfl
      · omega
      · rintro s0 H0 C cl fp M' H' d σ' hM lift hd ⟨v, rv, rfl⟩
        obtain ⟨c, hc, rfl⟩ := List.mem_map.mp hd
        exact ⟨td_gt (pd_ix (nm 3 rv) pd_int rfl) (nm 2 (.int x)), nm 3 rv⟩
      · have := List.length_filter_le (fun d => decide (x < (unP d).2)) (cs.map pairD)
        rw [List.length_map]
        simp only [List.length_cons, List.length_nil]
        omega
      · unfold cpl
        rw [if_neg (by rw [hk]; exact Bool.false_ne_true)]
        have e : ((cs.map pairD).filter fun d => decide (x < (unP d).2)).map id = (cs.filter fun c => decide (x < c.2)).map pairD := by
          rw [List.map_id, List.filter_map]
          rfl
        rw [e] at r
        exact r
end
end CK

namespace CK
open PySem PySem.Spec PyProof.Rows L2 GV
section
variable {P : Program} {w : World} {K : PySem.W.Frag} {mg : Str → Option Value} {base : Heap}
/-- a pot: any three ints -/
abbrev potL (r c k : Int) : HO := .lst [.int r, .int c, .int k]
def spPot (K : PySem.W.Frag) : Sp := fun vs H Q _ => ∃ (M : Addr → Prop) (a : Addr) (ns : List Int) (i : Nat), vs = [.ref a, .int i] ∧ Alive M H ∧ ScAt K M H a ns ∧ ∀ p r c H', H p = none → Evl.Ex H H' → H' p = some (potL r c 0) → Q (.ref p) H'
theorem cl_law_pot {f : Addr} {fd : FuncData} (F : At K mg "_law_pot" s_law_pot f fd) (nb : NoB mg) : Cl P w K mg base CX0 1 "_law_pot" (spPot K) := by
  refine ⟨f, fd, _, F.fn.ok sc_law_pot (fun vs H Q E h => ?_) (fun cdv A outer s H vs Q E hr h => ⟨_, wB.ps, ?_⟩), F.gl, F.fn.kp, F.fn.binds fun _ _ _ _ _ _ us hl => match us, hl with | [_, _], _ => rfl⟩
  · obtain ⟨M, a, ns, i, rfl, _⟩ := h
    rfl
  · obtain ⟨M, a, ns, i, rfl, al, r1, q⟩ := h
    have last : ∀ (c z : Int) H2, Evl.Ex H H2 → wB (cxOf CX0 P w K mg base n_law_pot "_law_pot" (defScope s_law_pot) f cdv A outer s H E).nox ((defBody s_law_pot).drop 4) { nx := fun _ H' => Q .non H', rt := Q } [some (.ref a), some (.int i), some (.int c), some (.int z)] H2 := by
      intro c z H2 x2
      refine b_cons (cs_ret (ce_fd (al.mono x2) (fd_lst (ad_cons (nm 3 (.int z)) (ad_cons (pd_mod (pd_intI nb rfl (nm 2 (.int c))) pd_int (by decide)) (ad_cons pd_int ad_nil))) (by simp)) fun p ws H3 hp x3 h3 rw3 => ?_))
      obtain ⟨u, v, x, rfl, a1, a2, a3⟩ := rpa3 rw3
      cases a1
      cases a2
      cases a3
      exact q p _ _ H3 (Evl.fresh_back x2 hp) (x2.trans x3) h3
    have mid : ∀ (c : Int) H2, Evl.Ex H H2 → wB (cxOf CX0 P w K mg base n_law_pot "_law_pot" (defScope s_law_pot) f cdv A outer s H E).nox ((defBody s_law_pot).drop 2) { nx := fun _ H' => Q .non H', rt := Q } [some (.ref a), some (.int i), some (.int c), none] H2 := by
      intro c H2 x2
      refine b_cons (s_set (i := 3) (al.mono x2) sc_law_pot.nd rfl (.inl rfl) pd_int fun v H3 x3 r3 => ?_)
      cases r3
      refine b_cons (s_if ((al.mono x2).mono x3) (td_ge (nm 2 (.int c)) (pd_pow pd_int pd_int ⟨by decide, by decide, by decide⟩)) (fun _ H4 x4 => ?_) (fun _ H4 x4 => b_nil (last c 0 H4 ((x2.trans x3).trans x4))))
      exact b_cons (s_set (i := 3) (((al.mono x2).mono x3).mono x4) sc_law_pot.nd rfl (.inl rfl) (nm 2 (.int c)) fun v H5 x5 r5 => by
        cases r5
        exact b_nil (last c c H5 (((x2.trans x3).trans x4).trans x5)))
    refine b_cons (s_set (i := 2) al sc_law_pot.nd rfl (.inl rfl) (pd_add (pd_add (pd_mul pd_int (nm 1 (.int (i : Int))) (.inl (by decide))) pd_int) (pd_mod (pd_sum rfl nb rfl (PD.is (FD.pd (fd_scSlice (j := 0) r1 od_none (od_some pd_int))) ((congrArg PyData.list (cutD_take _ 1)).trans (by rw [List.map_take])))) pd_int (by decide))) fun v H1 x1 rv => ?_)
    cases rv
    have r1' := r1.mono (fun _ z => z) (ExM.of x1)
    refine b_cons (s_if (al.mono x1) (td_lt (nm 1 (.int (i : Int))) (pd_scLen (j := 0) r1' rfl nb.len)) (fun hk H2 x2 => ?_) (fun _ H2 x2 => b_nil (mid _ H2 (x1.trans x2))))
    have hi : i < ns.length := by
      have := of_decide_eq_true hk
      omega
    refine b_cons (s_set (i := 2) ((al.mono x1).mono x2) sc_law_pot.nd rfl (.inl rfl) (pd_abs nb rfl (pd_scIx (j := 0) (r1'.mono (fun _ z => z) (ExM.of x2)) (nm 1 (.int (i : Int))) (List.getElem?_eq_getElem hi))) fun v H3 x3 r3 => ?_)
    cases r3
    exact b_nil (mid _ H3 ((x1.trans x2).trans x3))
/-- all but b stays -/
def ExB (b : Addr) (H H' : Hp) : Prop := ∀ a o, a ≠ b → H a = some o → H' a = some o
theorem ExB.of {b : Addr} {H H' : Hp} (e : Evl.Ex H H') : ExB b H H' := fun a o _ h => e a o h
theorem ExB.trans {b : Addr} {H H1 H2 : Hp} (e : ExB b H H1) (f : ExB b H1 H2) : ExB b H H2 := fun a o n h => f a o n (e a o n h)
theorem ExB.upd {b : Addr} {H : Hp} {o : HO} : ExB b H (upd H b o) := fun a u n h => by
  rw [upd_ne n]
  exact h
/-- a draw: some number below the size, the pot turned -/
def spDraw : Sp := fun vs H Q _ => ∃ (b : Addr) (n r c k : Int), vs = [.ref b, .int n] ∧ H b = some (potL r c k) ∧ 0 < n ∧ n.natAbs < 2 ^ 8000 ∧ ∀ z r' k' H', 0 ≤ z → z < n → ExB b H H' → H' b = some (potL r' c k') → Q (.int z) H'
theorem emod_lt' (a : Int) {m : Int} (h : 0 < m) : 0 ≤ a % m ∧ a % m < m := ⟨Int.emod_nonneg _ (by omega), Int.emod_lt_of_pos _ h⟩
theorem small_mul {i : Int} (h0 : 0 ≤ i) (h1 : i < 2147483648) : CMul i i := .inl ⟨by omega, by omega⟩
theorem cl_law_draw {f : Addr} {fd : FuncData} (F : At K mg "_law_draw" s_law_draw f fd) (nb : NoB mg) : Cl P w K mg base CX0 1 "_law_draw" spDraw := by
  refine ⟨f, fd, _, F.fn.ok sc_law_draw (fun vs H Q E h => ?_) (fun cdv A outer s H vs Q E hr h => ⟨_, wB.ps, ?_⟩), F.gl, F.fn.kp, F.fn.binds fun _ _ _ _ _ _ us hl => match us, hl with | [_, _], _ => rfl⟩
  · obtain ⟨b, n, r, c, k, rfl, _⟩ := h
    rfl
  · obtain ⟨b, n, r, c, k, rfl, hb, h0, hn, q⟩ := h
    have pot : ∀ {H' : Hp} {r c k : Int}, H' b = some (potL r c k) → Rp K M0 H' (.ref b) (.list [.int r, .int c, .int k]) := fun e => .lst (fun z => z) (.inl e) (.cons (.int _) (.cons (.int _) (.cons (.int _) .nil)))
    refine b_cons (cs_sub (ce_pd alive0 (pd_add (pd_ix (nm 0 (pot hb)) pd_int rfl) pd_int) fun v H1 x1 rv => ce_name (i := 0) rfl (.inl rfl) rfl (ce_pd alive0 pd_int fun y H2 x2 ry => ?_)))
    cases rv
    cases ry
    have hb2 : H2 b = some (potL r c k) := x2 _ _ (x1 _ _ hb)
    refine ⟨b, _, 2, 2, rfl, rfl, hb2, rfl, ?_⟩
    generalize hH3 : upd H2 b (.lst (List.set [V.int r, V.int c, V.int k] 2 (V.int (k + 1)))) = H3
    have hb3 : H3 b = some (potL r c (k + 1)) := by
      rw [← hH3, upd_same]
      rfl
    have e3 : ExB b H H3 := by
      rw [← hH3]
      exact ((ExB.of x1).trans (.of x2)).trans .upd
    -- if pot[0] > 0
    refine b_cons (s_if alive0 (td_gt (pd_ix (nm 0 (pot hb3)) pd_int rfl) pd_int) (fun _ H4 x4 => ?_) (fun _ H4 x4 => ?_))
    · have hb4 := x4 _ _ hb3
      refine b_cons (s_set (i := 2) alive0 sc_law_draw.nd rfl (.inl rfl) (pd_mod (pd_intI nb rfl (pd_ix (nm 0 (pot hb4)) pd_int rfl)) (nm 1 (.int n)) h0) fun v H5 x5 r5 => ?_)
      cases r5
      have hb5 := x5 _ _ hb4
      refine b_cons (cs_sub (ce_pd alive0 (pd_div (pd_ix (nm 0 (pot hb5)) pd_int rfl) (nm 1 (.int n)) (wide_div h0 hn (by decide) (by decide))) fun v H6 x6 r6 => ce_name (i := 0) rfl (.inl rfl) rfl (ce_pd alive0 pd_int fun y H7 x7 r7 => ?_)))
      cases r6
      cases r7
      refine ⟨b, _, 0, 0, rfl, rfl, x7 _ _ (x6 _ _ hb5), rfl, ?_⟩
      refine b_cons (cs_ret (ce_name (i := 2) rfl (.inl rfl) rfl ?_))
      obtain ⟨z0, z1⟩ := emod_lt' r h0
      exact q _ _ (k + 1) _ z0 z1 ((((e3.trans (.of x4)).trans (.of x5)).trans (.of (x6.trans x7))).trans .upd) upd_same
    · have hb4 := x4 _ _ hb3
      refine b_nil (b_cons (s_set (i := 3) alive0 sc_law_draw.nd rfl (.inl rfl) (pd_mod (pd_intI nb rfl (pd_add (pd_mul (pd_ix (nm 0 (pot hb4)) pd_int rfl) pd_int (.inr (by decide))) (pd_mul (pd_ix (nm 0 (pot hb4)) pd_int rfl) pd_int (.inr (by decide))))) pd_int (by decide)) fun v H5 x5 r5 => ?_))
      cases r5
      have hb5 := x5 _ _ hb4
      generalize hlow : (c * 48271 + (k + 1) * 69621) % 2147483629 = low
      obtain ⟨l0, l1⟩ : 0 ≤ low ∧ low < 2147483629 := hlow ▸ emod_lt' _ (by decide)
      refine b_cons (s_set (i := 4) alive0 sc_law_draw.nd rfl (.inl rfl) (pd_mod (pd_intI nb rfl (pd_add (pd_mul (nm 3 (.int low)) (nm 3 (.int low)) (small_mul l0 (by omega))) (pd_div (pd_ix (nm 0 (pot hb5)) pd_int rfl) pd_int (wide_div (b := 40) (by decide) (by decide) (by decide) (by decide))))) pd_int (by decide)) fun v H6 x6 r6 => ?_)
      cases r6
      generalize hmid : (low * low + c / 2147483629) % 1000000007 = mid
      obtain ⟨m0, m1⟩ : 0 ≤ mid ∧ mid < 1000000007 := hmid ▸ emod_lt' _ (by decide)
      refine b_cons (s_set (i := 5) alive0 sc_law_draw.nd rfl (.inl rfl) (pd_mod (pd_intI nb rfl (pd_add (pd_mul (nm 4 (.int mid)) (nm 4 (.int mid)) (small_mul m0 (by omega))) (nm 3 (.int low)))) pd_int (by decide)) fun v H7 x7 r7 => ?_)
      cases r7
      generalize (mid * mid + low) % 998244353 = high
      refine b_cons (s_ret alive0 (pd_mod (pd_intI nb rfl (pd_add (pd_mul (nm 4 (.int mid)) pd_int (.inr (by decide))) (nm 5 (.int high)))) (nm 1 (.int n)) h0) fun v H8 x8 r8 => ?_)
      cases r8
      obtain ⟨z0, z1⟩ := emod_lt' (mid * 998244353 + high) h0
      exact q _ _ _ H8 z0 z1 (e3.trans (.of ((((x4.trans x5).trans x6).trans x7).trans x8))) (x8 _ _ (x7 _ _ (x6 _ _ (x5 _ _ hb4))))
end
end CK

namespace CK
open PySem PySem.Spec PyProof.Rows L2 GV
section
variable {P : Program} {w : World} {K : PySem.W.Frag} {mg : Str → Option Value} {base : Heap}
abbrev intsD (ns : List Int) : PyData := .list (ns.map PyData.int)
abbrev tintsD (ns : List Int) : PyData := .tuple (ns.map PyData.int)
abbrev pairsD (ps : List (Int × Int)) : PyData := .list (ps.map pairD)
def R_num (ds : List PyData) (d : PyData) : Prop := ∃ k, ds = [.int k, .int k] ∧ d = .bool true
theorem cl_law_is_number {f : Addr} {fd : FuncData} (F : At K mg "_law_is_number" s_law_is_number f fd) (nb : NoB mg) : Cl P w K mg base CX0 1 "_law_is_number" (PureR K R_num) := by
  refine cl_pure F sc_law_is_number (F.fn.binds fun _ _ _ _ _ _ us hl => match us, hl with | [_, _], _ => rfl) (fun ds d h => ?_) (fun X cdv A outer s H Q E M vs ds d hX hr al r h q => ?_)
  · obtain ⟨a, rfl, _⟩ := h
    rfl
  · obtain ⟨a, rfl, rfl⟩ := h
    obtain ⟨u, v, rfl, r1, r2⟩ := rpa2 r
    subst hX
    refine b_cons (s_ret al (PD.is (pd_and (pd_isi rfl nb.isinstance rfl nb.int PyProof.Rows.boot_int (nm 0 r1) (kit_int _)) fun _ => pd_and (pd_not (pd_isi rfl nb.isinstance rfl nb.bool PyProof.Rows.boot_bool (nm 0 r1) (kit_bool _))) fun _ => pd_one (pd_eq hr.units (nm 0 r1) (nm 1 r2) rfl rfl)) ?_) q)
    simp [isIntD, isBoolD, PyData.eqv]
theorem kit_list (d : PyData) : kitB (tyD d) "list" = some (match d with | .list _ => true | _ => false) := by
  cases d with
  | none => exact (by decide +kernel : kitB "NoneType" "list" = some false)
  | bool _ => exact (by decide +kernel : kitB "bool" "list" = some false)
  | int _ => exact (by decide +kernel : kitB "int" "list" = some false)
  | str _ => exact (by decide +kernel : kitB "str" "list" = some false)
  | list _ => exact (by decide +kernel : kitB "list" "list" = some true)
  | tuple _ => exact (by decide +kernel : kitB "tuple" "list" = some false)
  | dict _ => exact (by decide +kernel : kitB "dict" "list" = some false)
theorem kit_tup (ds : List PyData) : kitB (tyD (.tuple ds)) "tuple" = some true := (by decide +kernel : kitB "tuple" "tuple" = some true)
/-- a list of whole numbers, that one -/
def R_list (ds : List PyData) (d : PyData) : Prop := ∃ ns : List Int, ns.length ≤ 1000 ∧ ds = [intsD ns, intsD ns] ∧ d = .bool true
theorem get_i {ns : List Int} {i : Nat} (h : i < ns.length) : ∃ z, ns[i]? = some z := ⟨_, List.getElem?_eq_getElem h⟩
theorem cl_law_is_list {f : Addr} {fd : FuncData} (F : At K mg "_law_is_list" s_law_is_list f fd) (c1 : Cl P w K mg base CX0 1 "_law_is_number" (PureR K R_num)) (nb : NoB mg) : Cl P w K mg base CX0 2 "_law_is_list" (PureR K R_list) := by
  refine cl_pure F sc_law_is_list (F.fn.binds fun _ _ _ _ _ _ us hl => match us, hl with | [_, _], _ => rfl) (fun ds d h => ?_) (fun X cdv A outer s H Q E M vs ds d hX hr al r h q => ?_)
  · obtain ⟨ns, _, rfl, _⟩ := h
    rfl
  · obtain ⟨ns, hlen, rfl, rfl⟩ := h
    obtain ⟨u, v, rfl, r1, r2⟩ := rpa2 r
    subst hX
    refine b_cons (s_if (k := false) al ?_ (fun k => by cases k) (fun _ H2 x2 => ?_))
    · refine TD.is (WD.td (wd_or (td_not (td_val (pd_isi rfl nb.isinstance rfl nb.list PyProof.Rows.boot_list (nm 0 r1) (kit_list _)))) fun _ => wd_or1 (td_ne hr.units (pd_len nb rfl (nm 0 r1) rfl) (pd_len nb rfl (nm 1 r2) rfl) rfl rfl))) ?_
      simp [PyData.eqv]
    · have r1' := r1.mono (fun _ z => z) (ExM.of x2)
      have r2' := r2.mono (fun _ z => z) (ExM.of x2)
      have al2 := al.mono x2
      refine b_nil (b_cons (s_forR (n := ns.length) (slot := 2) PassesOwn.never rfl sc_law_is_list.nd rfl (.inl rfl) rfl nb.range (PD.is (pd_len nb rfl (nm 1 r2') (n := ns.length) ?_) rfl) (by omega) al2 (fun Hs i σ' H' => (∃ x, σ' = [some u, some v, x]) ∧ Evl.Ex Hs H') ?_ ?_ ?_ ?_))
      · simp [lenD]
      · exact fun H1 x1 => ⟨⟨_, rfl⟩, Evl.Ex.refl _⟩
      · rintro H1 i σ' H' x1 ⟨_, ex⟩
        exact ⟨.of ex, (al2.mono x1).mono ex⟩
      · rintro H1 i σ' H' H3 x1 hi ⟨⟨x, rfl⟩, ex⟩ x3
        obtain ⟨z, hz⟩ := get_i hi
        have xx := (x1.trans ex).trans x3
        have r1'' := r1'.mono (fun _ z => z) (ExM.of xx)
        have r2'' := r2'.mono (fun _ z => z) (ExM.of xx)
        refine b_cons (s_if (k := false) (al2.mono xx) (td_not (k := true) (td_val (pd_callC c1 hr (by decide) rfl (ad_cons (pd_ix (nm 0 r1'') (nm 2 (.int (i : Nat))) (ixD_ints hz)) (ad_cons (pd_ix (nm 1 r2'') (nm 2 (.int (i : Nat))) (ixD_ints hz)) ad_nil)) ⟨z, rfl, rfl⟩))) (fun k => by cases k) (fun _ H4 x4 => ?_))
        exact b_nil (b_nil ⟨⟨_, rfl⟩, (ex.trans x3).trans x4⟩)
      · rintro H1 σ' H' x1 ⟨⟨x, rfl⟩, ex⟩
        exact b_cons (s_ret (al2.mono (x1.trans ex)) pd_bl fun v H3 x3 rv => q v H3 (((x2.trans x1).trans ex).trans x3) rv)
def R_row (ds : List PyData) (d : PyData) : Prop := ∃ ns : List Int, ns.length ≤ 1000 ∧ ds = [tintsD ns, intsD ns] ∧ d = .bool true
theorem cl_law_is_row {f : Addr} {fd : FuncData} (F : At K mg "_law_is_row" s_law_is_row f fd) (c1 : Cl P w K mg base CX0 2 "_law_is_list" (PureR K R_list)) (nb : NoB mg) : Cl P w K mg base CX0 3 "_law_is_row" (PureR K R_row) := by
  refine cl_pure F sc_law_is_row (F.fn.binds fun _ _ _ _ _ _ us hl => match us, hl with | [_, _], _ => rfl) (fun ds d h => ?_) (fun X cdv A outer s H Q E M vs ds d hX hr al r h q => ?_)
  · obtain ⟨ns, _, rfl, _⟩ := h
    rfl
  · obtain ⟨ns, hlen, rfl, rfl⟩ := h
    obtain ⟨u, v, rfl, r1, r2⟩ := rpa2 r
    subst hX
    exact b_cons (s_ret al (pd_and (pd_isi rfl nb.isinstance rfl nb.tuple PyProof.Rows.boot_tuple (nm 0 r1) (kit_tup _)) fun _ => pd_one (pd_callC c1 hr (by decide) rfl (ad_cons (FD.pd (fd_callTy call_list_of rfl nb.list PyProof.Rows.boot_list (ad_cons (nm 0 r1) ad_nil) (rf_list rfl))) (ad_cons (nm 1 r2) ad_nil)) ⟨ns, hlen, rfl, rfl⟩)) q)
def R_pairs (ds : List PyData) (d : PyData) : Prop := ∃ ps : List (Int × Int), ps.length ≤ 1000 ∧ ds = [pairsD ps, pairsD ps] ∧ d = .bool true
theorem ixD_pairs {ps : List (Int × Int)} {i : Nat} {z : Int × Int} (h : ps[i]? = some z) : ixD (pairsD ps) (.int (i : Nat)) = some (pairD z) := ixD_list (by rw [List.getElem?_map, h]; rfl)
theorem cl_law_is_pairs {f : Addr} {fd : FuncData} (F : At K mg "_law_is_pairs" s_law_is_pairs f fd) (c1 : Cl P w K mg base CX0 3 "_law_is_row" (PureR K R_row)) (nb : NoB mg) : Cl P w K mg base CX0 4 "_law_is_pairs" (PureR K R_pairs) := by
  refine cl_pure F sc_law_is_pairs (F.fn.binds fun _ _ _ _ _ _ us hl => match us, hl with | [_, _], _ => rfl) (fun ds d h => ?_) (fun X cdv A outer s H Q E M vs ds d hX hr al r h q => ?_)
  · obtain ⟨ns, _, rfl, _⟩ := h
    rfl
  · obtain ⟨ns, hlen, rfl, rfl⟩ := h
    obtain ⟨u, v, rfl, r1, r2⟩ := rpa2 r
    subst hX
    refine b_cons (s_if (k := false) al ?_ (fun k => by cases k) (fun _ H2 x2 => ?_))
    · refine TD.is (WD.td (wd_or (td_not (td_val (pd_isi rfl nb.isinstance rfl nb.list PyProof.Rows.boot_list (nm 0 r1) (kit_list _)))) fun _ => wd_or1 (td_ne hr.units (pd_len nb rfl (nm 0 r1) rfl) (pd_len nb rfl (nm 1 r2) rfl) rfl rfl))) ?_
      simp [PyData.eqv]
    · have r1' := r1.mono (fun _ z => z) (ExM.of x2)
      have r2' := r2.mono (fun _ z => z) (ExM.of x2)
      have al2 := al.mono x2
      refine b_nil (b_cons (s_forR (n := ns.length) (slot := 2) PassesOwn.never rfl sc_law_is_pairs.nd rfl (.inl rfl) rfl nb.range (PD.is (pd_len nb rfl (nm 1 r2') (n := ns.length) ?_) rfl) (by omega) al2 (fun Hs i σ' H' => (∃ x, σ' = [some u, some v, x]) ∧ Evl.Ex Hs H') ?_ ?_ ?_ ?_))
      · simp [lenD]
      · exact fun H1 x1 => ⟨⟨_, rfl⟩, Evl.Ex.refl _⟩
      · rintro H1 i σ' H' x1 ⟨_, ex⟩
        exact ⟨.of ex, (al2.mono x1).mono ex⟩
      · rintro H1 i σ' H' H3 x1 hi ⟨⟨x, rfl⟩, ex⟩ x3
        obtain ⟨z, hz⟩ : ∃ z, ns[i]? = some z := ⟨_, List.getElem?_eq_getElem hi⟩
        have xx := (x1.trans ex).trans x3
        have r1'' := r1'.mono (fun _ z => z) (ExM.of xx)
        have r2'' := r2'.mono (fun _ z => z) (ExM.of xx)
        refine b_cons (s_if (k := false) (al2.mono xx) (td_not (k := true) (td_val (pd_callC c1 hr (by decide) rfl (ad_cons (pd_ix (nm 0 r1'') (nm 2 (.int (i : Nat))) (ixD_pairs hz)) (ad_cons (FD.pd (fd_callTy call_list_of rfl nb.list PyProof.Rows.boot_list (ad_cons (pd_ix (nm 1 r2'') (nm 2 (.int (i : Nat))) (ixD_pairs hz)) ad_nil) (rf_list rfl))) ad_nil)) ⟨[z.1, z.2], by simp, rfl, rfl⟩))) (fun k => by cases k) (fun _ H4 x4 => ?_))
        exact b_nil (b_nil ⟨⟨_, rfl⟩, (ex.trans x3).trans x4⟩)
      · rintro H1 σ' H' x1 ⟨⟨x, rfl⟩, ex⟩
        exact b_cons (s_ret (al2.mono (x1.trans ex)) pd_bl fun v H3 x3 rv => q v H3 (((x2.trans x1).trans ex).trans x3) rv)
end
end CK

namespace CK
open PySem PySem.Spec PyProof.Rows L2 GV
section
variable {P : Program} {w : World} {K : PySem.W.Frag} {mg : Str → Option Value} {base : Heap}
def isSeqD : PyData → Bool
  | .list _ => true
  | .tuple _ => true
  | _ => false
def partsD : PyData → List PyData
  | .list ds => ds
  | .tuple ds => ds
  | _ => []
def isListD : PyData → Bool
  | .list _ => true
  | _ => false
def isTupD : PyData → Bool
  | .tuple _ => true
  | _ => false
theorem kit_l (d : PyData) : kitB (tyD d) "list" = some (isListD d) := by
  cases d with
  | none => exact (by decide +kernel : kitB "NoneType" "list" = some false)
  | bool _ => exact (by decide +kernel : kitB "bool" "list" = some false)
  | int _ => exact (by decide +kernel : kitB "int" "list" = some false)
  | str _ => exact (by decide +kernel : kitB "str" "list" = some false)
  | list _ => exact (by decide +kernel : kitB "list" "list" = some true)
  | tuple _ => exact (by decide +kernel : kitB "tuple" "list" = some false)
  | dict _ => exact (by decide +kernel : kitB "dict" "list" = some false)
theorem kit_t (d : PyData) : kitB (tyD d) "tuple" = some (isTupD d) := by
  cases d with
  | none => exact (by decide +kernel : kitB "NoneType" "tuple" = some false)
  | bool _ => exact (by decide +kernel : kitB "bool" "tuple" = some false)
  | int _ => exact (by decide +kernel : kitB "int" "tuple" = some false)
  | str _ => exact (by decide +kernel : kitB "str" "tuple" = some false)
  | list _ => exact (by decide +kernel : kitB "list" "tuple" = some false)
  | tuple _ => exact (by decide +kernel : kitB "tuple" "tuple" = some true)
  | dict _ => exact (by decide +kernel : kitB "dict" "tuple" = some false)
/-- a bag row, as data -/
def bagB (d : PyData) : Bool := isSeqD d && decide ((partsD d).length ≤ 40) && (partsD d).all isWeightD
def R_bag (ds : List PyData) (d : PyData) : Prop := ∃ a, ds = [a] ∧ (partsD a).length ≤ 1000 ∧ d = .bool (bagB a)
theorem cl_is_bag_row {f : Addr} {fd : FuncData} {t : Tok} (F : At K mg "is_bag_row" s_is_bag_row f fd) (nb : NoB mg) (c1 : Cl P w K mg base CX0 3 "is_weight" (PureR K R_is_weight)) (gS : mg "MOST_STONES" = some (.int 40 t)) : Cl P w K mg base CX0 4 "is_bag_row" (PureR K R_bag) := by
  refine cl_pure F sc_is_bag_row (F.fn.binds fun _ _ _ _ _ _ us hl => match us, hl with | [_], _ => rfl) (fun ds d h => ?_) (fun X cdv A outer s H Q E M vs ds d hX hr al r h q => ?_)
  · obtain ⟨a, rfl, _⟩ := h
    rfl
  · obtain ⟨a, rfl, hlen, rfl⟩ := h
    obtain ⟨v, rfl, r1⟩ := rpa1 r
    subst hX
    -- the parts are walked
    have last : ∀ H2, Evl.Ex H H2 → isSeqD a = true → (∀ {X : Cx} {σ' : L2.St} {tg e}, PD X M e σ' H2 a → Src X M tg e σ' H2 (partsD a)) → (partsD a).length ≤ 40 → wB (cxOf CX0 P w K mg base n_is_bag_row "is_bag_row" (defScope s_is_bag_row) f cdv A outer s H E).nox ((defBody s_is_bag_row).drop 1) { nx := fun _ H' => Q .non H', rt := Q } (L2.start n_is_bag_row [v]) H2 := by
      intro H2 x2 hq src hl
      have r2 := r1.mono (fun _ z => z) (ExM.of x2)
      refine b_cons (s_ret (al.mono x2) (PD.is (pd_callB (cr_all rfl) rfl nb.all PyProof.Rows.boot_all (ad_cons (PD.is (d' := .list (((partsD a).map isWeightD).map PyData.bool)) (FD.pd
        (fd_map (t := .one 1) (own := [("item", 1)]) (fun d => .bool (isWeightD d)) rfl sc_is_bag_row.nd (src (nm 0 r2)) (blkOk_by (N := n_is_bag_row) (sc := defScope s_is_bag_row) (by decide +kernel)) (fun _ _ _ _ _ => pg_name (i := 1) sc_is_bag_row.nd rfl (.inl rfl)) (fun _ _ => trivial) ?_ ?_ ?_)) ?_) ad_nil) rn_all) ?_) fun v H3 x3 rv => q v H3 (x2.trans x3) rv)
      · rintro M H d σ' ⟨v, _, rfl⟩
        rfl
      · omega
      · rintro s0 H0 C cl fp M' H' d σ' hM lift hd ⟨v, rv, rfl⟩
        exact pd_callC c1 hr (by decide) rfl (ad_cons (nm 1 rv) ad_nil) ⟨d, rfl, rfl⟩
      · rw [List.map_map]
        rfl
      · unfold bagB
        rw [hq, decide_eq_true hl, Bool.true_and, Bool.true_and, List.all_map]
        rfl
    have lenA : ∀ {n}, isSeqD a = true → n = (partsD a).length → lenD a = some n := fun hq hn => by
      cases a <;> first | (cases hq; done) | (subst hn; rfl)
    refine b_cons (s_if (k := !(isListD a || isTupD a) || decide ((40 : Int) < ((partsD a).length : Nat))) al (WD.td (wd_or (td_not (td_val (pd_isi2 rfl nb.isinstance rfl nb.list PyProof.Rows.boot_list rfl nb.tuple PyProof.Rows.boot_tuple (nm 0 r1) (kit_l a) (kit_t a)))) fun hq => wd_or1 (td_gt (pd_len nb rfl (nm 0 r1) (lenA ?_ rfl)) (pd_globI rfl gS)))) (fun k H2 x2 => ?_) (fun k H2 x2 => ?_))
    · cases a <;> first | rfl | (cases hq; done)
    · have hb : bagB a = false := by
        unfold bagB
        cases a <;> first | rfl | skip
        all_goals
          simp only [isListD, isTupD, Bool.or_true, Bool.true_or, Bool.not_true, Bool.false_or, decide_eq_true_eq] at k
          rw [decide_eq_false (by omega), Bool.and_false, Bool.false_and]
      exact b_cons (s_ret (al.mono x2) (PD.is pd_bl (by rw [hb])) fun v H3 x3 rv => q v H3 (x2.trans x3) rv)
    · have hs : isSeqD a = true ∧ (partsD a).length ≤ 40 := by
        cases a <;> simp [isListD, isTupD] at k <;> exact ⟨rfl, by omega⟩
      refine b_nil (last H2 x2 hs.1 (fun h => ?_) hs.2)
      cases a with
      | list ds => exact src_list h
      | tuple ds => exact src_tup h
      | _ => cases hs.1
end
end CK

namespace CK
open PySem PySem.Spec PyProof.Rows L2 GV
section
variable {P : Program} {w : World} {K : PySem.W.Frag} {mg : Str → Option Value} {base : Heap}
theorem ok_initR {f C : Addr} {fd : FuncData} (F : Fun K "__init__" "InvalidRow.__init__" s_InvalidRow_init f fd) (o : OexC K C) (n : PySem.W.findIn K (.ref C) "row" = some none) : FnOk P w K mg base CX0 1 f fd ["self", "row"] (spInit C ["row"]) := by
  refine F.ok sc_InvalidRow_init (fun vs H Q E h => ?_) (fun cdv A outer s H vs Q E hr h => ⟨_, wB.ps, ?_⟩)
  · obtain ⟨a, xs, rfl, hl, _⟩ := h
    exact congrArg (· + 1) hl
  · obtain ⟨a, xs, rfl, hl, ha, q⟩ := h
    match xs, hl with
    | [v], _ =>
      refine b_cons (cs_ost (ce_name (i := 1) rfl (.inl rfl) rfl (ce_name (i := 0) rfl (.inl rfl) rfl ⟨a, C, rfl, o, n, .inl ⟨ha, fun dx hdx ne => b_nil (q _ dx (fun b o hb nb => ?_) hdx ne upd_same ?_)⟩⟩)))
      · rw [upd_ne nb, upd_ne (ne_of_none hb hdx)]
        exact hb
      · rw [upd_ne ne, upd_same]
        rfl
/-- goes on where the argument is a bag row, or raises with the very argument -/
def spBagOr (K : PySem.W.Frag) (CR : Addr) (then_ : (Addr → Prop) → V → PyData → Hp → VK → Prop) : Sp := fun vs H Q E => ∃ (M : Addr → Prop) (v : V) (d : PyData), vs = [v] ∧ Alive M H ∧ Rp K M H v d ∧ (partsD d).length ≤ 1000 ∧ (bagB d = true → then_ M v d H Q) ∧ (bagB d = false → ∀ H1, Evl.Ex H H1 → Raised CR [("row", v)] H1 E)
theorem cl_check_bag_row {f CR : Addr} {fd : FuncData} (F : At K mg "check_bag_row" s_check_bag_row f fd) (c1 : Cl P w K mg base CX0 4 "is_bag_row" (PureR K R_bag)) (er : ErrC P w K mg base "InvalidRow" CR ["row"]) : Cl P w K mg base (L2.CX P w) 5 "check_bag_row" (spBagOr K CR fun _ _ _ H Q => ∀ H', Evl.Ex H H' → Q .non H') := by
  refine ⟨f, fd, _, F.fn.okX sc_check_bag_row (fun vs H Q E h => ?_) (fun cdv A outer s H vs Q E hr h => ⟨_, wB.ps, ?_⟩), F.gl, F.fn.kp, F.fn.binds fun _ _ _ _ _ _ us hl => match us, hl with | [_], _ => rfl⟩
  · obtain ⟨M, v, d, rfl, _⟩ := h
    rfl
  · obtain ⟨M, v, d, rfl, al, r, hl, h1, h2⟩ := h
    refine b_cons (s_if al (td_not (td_val (pd_callC c1 hr (by decide) rfl (ad_cons (nm 0 r) ad_nil) ⟨d, rfl, hl, rfl⟩))) (fun k H2 x2 => ?_) (fun k H2 x2 => ?_))
    · have k' : bagB d = false := by
        cases e : bagB d with
        | false => rfl
        | true =>
          rw [e] at k
          cases k
      refine b_cons (s_raise rfl er (hr.mono (by decide)) (takes_of rfl rfl rfl rfl) rfl ?_)
      exact ca_cons (ce_name (i := 0) rfl (.inl rfl) rfl (ca_nil ⟨rfl, (by show 1 ≤ 1000; decide), h2 k' _ x2⟩))
    · have k' : bagB d = true := by
        cases e : bagB d with
        | true => rfl
        | false =>
          rw [e] at k
          cases k
      exact b_nil (b_nil (h1 k' _ x2))
end
end CK

namespace CK
open PySem PySem.Spec PyProof.Rows L2 GV
section
variable {P : Program} {w : World} {K : PySem.W.Frag} {mg : Str → Option Value} {base : Heap}
theorem minOr_eq (x : Int) (l : List Int) : minOr (.int x) l = .int (minO x l) := by
  cases l <;> rfl
def R_far_of (ds es : List PyData) : Prop := ∃ (tp : Bool) (ns : List Int), ns.length ≤ 900 ∧ ds = [sqD tp (ns.map PyData.int)] ∧ es = (farL ns).map pairD
theorem cl_far_of {f : Addr} {fd : FuncData} (F : At K mg "far_of" s_far_of f fd) (c1 : Cl P w K mg base CX0 3 "_couples_with" (spCW K)) (nb : NoB mg) : Cl P w K mg base CX0 4 "far_of" (FreshR K R_far_of) := by
  refine ⟨f, fd, _, F.fn.ok sc_far_of (fun vs H Q E h => ?_) (fun cdv A outer s H vs Q E hr h => ⟨_, wB.ps, ?_⟩), F.gl, F.fn.kp, F.fn.binds fun _ _ _ _ _ _ us hl => match us, hl with | [_], _ => rfl⟩
  · obtain ⟨M, ds, es, al, r, ⟨tp, ns, _, rfl, _⟩, _⟩ := h
    rw [r.length]
    rfl
  · obtain ⟨M, ds, es, al, r, ⟨tp, ns, hl, rfl, rfl⟩, q⟩ := h
    obtain ⟨v, rfl, r1⟩ := rpa1 r
    -- couples = []
    refine b_cons (cs_set (i := 1) sc_far_of.nd rfl (.inl rfl) (ce_fd al (fd_lst ad_nil (by simp)) fun p ws H1 hp x1 h1 rw1 => ?_))
    have al1 := al.mono x1
    have r1' := r1.mono (fun _ z => z) (ExM.of x1)
    obtain ⟨⟩ := rw1
    refine b_cons (s_for (t := .two 2 3) PassesOwn.never rfl (src_enumS rfl nb.enumerate (nm 0 r1')) (pg_tup rfl (pgs_cons (pg_name (i := 2) sc_far_of.nd rfl (.inl rfl)) (pgs_cons (pg_name (i := 3) sc_far_of.nd rfl (.inl rfl)) pgs_nil))) al1
      (fun Hs i σ' H' => ∃ p ws x2 x3 x4, σ' = [some v, some (.ref p), x2, x3, x4] ∧ H p = none ∧ Evl.Ex Hs H' ∧ H' p = some (.lst ws) ∧ RpAll K M H' ws ((farL (ns.take i)).map pairD)) ?_ ?_ ?_ ?_ ?_)
    · intro Hs xs
      exact ⟨p, [], none, none, none, rfl, hp, Evl.Ex.refl _, xs _ _ h1, .nil⟩
    · rintro Hs i σ' H' xs ⟨p', ws', x2, x3, x4, rfl, hp', ex, _⟩
      exact ⟨.of ex, (al1.mono xs).mono ex⟩
    · intro d hd
      obtain ⟨i, hi⟩ := List.mem_iff_getElem?.mp hd
      obtain ⟨e, _, rfl⟩ := enumD_get hi
      exact ⟨_, _, rfl⟩
    · rintro Hs i d σ' H' H2 σ2 xs hd ⟨p', ws', x2, x3, x4, rfl, hp', ex, hw, rws⟩ xh ⟨da, db, v1, v2, rfl, rv1, rv2, rfl⟩
      obtain ⟨e, he, e2⟩ := enumD_get hd
      rw [List.getElem?_map] at he
      obtain ⟨x, hx, rfl⟩ := Option.map_eq_some_iff.mp he
      obtain ⟨e3, e4⟩ : da = .int (i : Nat) ∧ db = .int x := by
        injection e2 with e2
        injection e2 with a b
        injection b with b
        exact ⟨a, b⟩
      subst e3 e4
      cases rv1
      cases rv2
      have hil : i < ns.length := (List.getElem?_eq_some_iff.mp hx).1
      have alH := (((al1.mono xs).mono ex).mono xh)
      have rr : Rp K M H2 v (sqD tp (ns.map PyData.int)) := r1'.mono (fun _ z => z) (.of ((xs.trans ex).trans xh))
      refine b_cons (s_set (i := 4) alH sc_far_of.nd rfl (.inl rfl) (PD.is (pd_minDfS (tp := tp) rfl hr.u2 rfl nb.min (ns := ns.take i) (PD.is (pd_sliceS (nm 0 rr) od_none (od_some (nm 2 (.int (i : Int))))) ?_) (nm 3 (.int x))) (minOr_eq x (ns.take i))) fun v5 H3 x5 r5 => ?_)
      · rw [cutD_take, List.map_take]
      cases r5
      have len1 := farL_len (ns.take i)
      rw [List.length_take] at len1
      have x03 : Evl.Ex H H3 := (((x1.trans xs).trans ex).trans xh).trans x5
      refine b_cons (cs_set (i := 1) sc_far_of.nd rfl (.inl rfl) (ce_call c1 hr (by decide) rfl (ca_cons (ce_name (i := 1) rfl (.inl rfl) rfl (ca_cons (ce_name (i := 4) rfl (.inl rfl) rfl (ca_cons (ce_name (i := 3) rfl (.inl rfl) rfl (ca_nil
        ⟨M, p', ws', farL (ns.take i), _, x, rfl, alH.mono x5, al.fresh hp', x5 _ _ (xh _ _ hw), rws.mono (fun _ z => z) (.of (xh.trans x5)), by omega, fun p2 ws2 H4 hp2 x6 h2 r2 => ?_⟩)))))))))
      refine b_nil ⟨p2, ws2, _, _, _, rfl, ?_, ((ex.trans xh).trans x5).trans x6, h2, ?_⟩
      · rcases hp2 with e | hn
        · rw [e]
          exact hp'
        · exact Evl.fresh_back x03 hn
      · rw [take_snoc hx, farL_snoc]
        exact r2
    · rintro Hs σ' H' xs ⟨p', ws', x2, x3, x4, rfl, hp', ex, hw, rws⟩
      refine b_cons (cs_ret (ce_name (i := 1) rfl (.inl rfl) rfl ?_))
      refine q p' ws' H' hp' ((x1.trans xs).trans ex) hw ?_
      rw [enumD_length, List.length_map, List.take_length] at rws
      exact rws
end
end CK

namespace CK
open PySem PySem.Spec PyProof.Rows L2 GV
/-! ### the different numbers of a list, ascending -/
def insU (x : Int) : List Int → List Int
  | [] => [x]
  | y :: l => if x < y then x :: y :: l else if x = y then y :: l else y :: insU x l
def srt (ns : List Int) : List Int := ns.foldr insU []
theorem mem_insU (x k : Int) (l : List Int) : k ∈ insU x l ↔ k = x ∨ k ∈ l := by
  induction l with
  | nil => simp [insU]
  | cons y l ih =>
    unfold insU
    split
    · simp
    · split
      · rename_i h
        subst h
        simp
      · simp only [List.mem_cons, ih]
        exact ⟨fun h => h.elim (fun e => .inr (.inl e)) fun h => h.elim .inl fun e => .inr (.inr e), fun h => h.elim (fun e => .inr (.inl e)) fun h => h.elim .inl fun e => .inr (.inr e)⟩
theorem mem_srt (ns : List Int) (k : Int) : k ∈ srt ns ↔ k ∈ ns := by
  induction ns with
  | nil => rfl
  | cons x ns ih =>
    show k ∈ insU x (srt ns) ↔ _
    rw [mem_insU, ih, List.mem_cons]
theorem up_insU {x : Int} {l : List Int} (h : l.Pairwise (· < ·)) : (insU x l).Pairwise (· < ·) := by
  induction l with
  | nil => exact List.pairwise_singleton _ _
  | cons y l ih =>
    obtain ⟨h1, h2⟩ := List.pairwise_cons.mp h
    unfold insU
    split
    · rename_i hxy
      refine List.pairwise_cons.mpr ⟨fun z hz => ?_, h⟩
      rcases List.mem_cons.mp hz with e | hz
      · omega
      · have := h1 z hz
        omega
    · split
      · exact h
      · refine List.pairwise_cons.mpr ⟨fun z hz => ?_, ih h2⟩
        rcases (mem_insU x z l).mp hz with e | hz
        · omega
        · exact h1 z hz
theorem up_srt (ns : List Int) : (srt ns).Pairwise (· < ·) := by
  induction ns with
  | nil => exact List.Pairwise.nil
  | cons x ns ih => exact up_insU ih
theorem insU_len (x : Int) (l : List Int) : (insU x l).length ≤ l.length + 1 := by
  induction l with
  | nil => exact Nat.le_refl 1
  | cons y l ih =>
    unfold insU
    split
    · exact Nat.le_refl _
    · split
      · exact Nat.le_succ _
      · exact Nat.succ_le_succ ih
theorem srt_len (ns : List Int) : (srt ns).length ≤ ns.length := by
  induction ns with
  | nil => exact Nat.le_refl 0
  | cons x ns ih => exact Nat.le_trans (insU_len _ _) (Nat.succ_le_succ ih)
def lastHi : List (Int × Int) → Option Int
  | [] => none
  | [p] => some p.2
  | _ :: l => lastHi l
theorem lastHi_snoc (l : List (Int × Int)) (p : Int × Int) : lastHi (l ++ [p]) = some p.2 := by
  induction l with
  | nil => rfl
  | cons a l ih =>
    cases l with
    | nil => rfl
    | cons b l => exact ih
def maxOf : List Int → Int
  | [] => 0
  | [x] => x
  | x :: l => max x (maxOf l)
theorem maxOf_mem {l : List Int} (h : l ≠ []) : maxOf l ∈ l ∧ ∀ y ∈ l, y ≤ maxOf l := by
  induction l with
  | nil => exact absurd rfl h
  | cons x l ih =>
    cases l with
    | nil => simp [maxOf]
    | cons y l =>
      obtain ⟨a, b⟩ := ih (by simp)
      have e : maxOf (x :: y :: l) = max x (maxOf (y :: l)) := rfl
      rw [e]
      refine ⟨?_, fun z hz => ?_⟩
      · by_cases hx : maxOf (y :: l) ≤ x
        · rw [Int.max_eq_left hx]
          exact List.mem_cons_self
        · rw [Int.max_eq_right (by omega)]
          exact List.mem_cons_of_mem _ a
      · rcases List.mem_cons.mp hz with e | hz
        · subst e
          exact Int.le_max_left _ _
        · exact Int.le_trans (b z hz) (Int.le_max_right _ _)
theorem lastHi_nil {l : List (Int × Int)} (h : lastHi l = none) : l = [] := by
  induction l with
  | nil => rfl
  | cons a l ih =>
    cases l with
    | nil => cases h
    | cons b l => cases ih h
/-- the last couple's heavier weight -/
theorem ixD_last {l : List (Int × Int)} {m : Int} (h : lastHi l = some m) : ∃ lo, ixD (pairsD l) (.int (-1)) = some (pairD (lo, m)) := by
  have hl : l ≠ [] := fun e => by
    rw [e] at h
    cases h
  obtain ⟨q, z, rfl⟩ : ∃ q z, l = q ++ [z] := ⟨_, _, (List.dropLast_concat_getLast hl).symm⟩
  rw [lastHi_snoc] at h
  cases h
  refine ⟨z.1, ?_⟩
  show atI (List.map pairD (q ++ [z])) (-1) = _
  rw [List.map_append]
  exact GV.atI_last _ _
/-! ### far couples, said once more: no other rising couple covers them -/
def Ris (l : List Int) (p : Int × Int) : Prop := p.1 < p.2 ∧ [p.1, p.2].Sublist l
def Far (l : List Int) (p : Int × Int) : Prop := Ris l p ∧ ∀ q, Ris l q → cov q p = true → q = p
theorem cov_iff {p q : Int × Int} : cov p q = true ↔ p.1 ≤ q.1 ∧ q.2 ≤ p.2 := by
  unfold cov
  rw [Bool.and_eq_true, decide_eq_true_eq, decide_eq_true_eq]
theorem cov_trans {p q r : Int × Int} (h1 : cov p q = true) (h2 : cov q r = true) : cov p r = true := by
  rw [cov_iff] at *
  omega
theorem cov_anti {p q : Int × Int} (h1 : cov p q = true) (h2 : cov q p = true) : p = q := by
  rw [cov_iff] at *
  exact Prod.ext (by omega) (by omega)
theorem sub_snoc {a x y : Int} {l : List Int} : [a, x].Sublist (l ++ [y]) ↔ [a, x].Sublist l ∨ (x = y ∧ a ∈ l) := by
  constructor
  · intro h
    have h2 := List.reverse_sublist.mpr h
    rw [List.reverse_append] at h2
    simp only [List.reverse_cons, List.reverse_nil, List.nil_append, List.singleton_append, List.cons_append] at h2
    cases h2 with
    | cons _ h3 =>
      left
      have h4 := List.reverse_sublist.mpr h3
      simpa using h4
    | cons_cons _ h3 =>
      right
      refine ⟨rfl, ?_⟩
      have := h3.subset (List.mem_singleton.mpr rfl)
      simpa using this
  · rintro (h | ⟨rfl, h⟩)
    · exact h.trans (List.sublist_append_left _ _)
    · have h1 : [a].Sublist l := List.singleton_sublist.mpr h
      exact h1.append (List.Sublist.refl [x])
theorem ris_snoc {l : List Int} {y : Int} {p : Int × Int} : Ris (l ++ [y]) p ↔ Ris l p ∨ (p.2 = y ∧ p.1 ∈ l ∧ p.1 < y) := by
  unfold Ris
  rw [sub_snoc]
  constructor
  · rintro ⟨h1, h2 | ⟨h2, h3⟩⟩
    · exact .inl ⟨h1, h2⟩
    · exact .inr ⟨h2, h3, h2 ▸ h1⟩
  · rintro (⟨h1, h2⟩ | ⟨h1, h2, h3⟩)
    · exact ⟨h1, .inl h2⟩
    · exact ⟨h1 ▸ h3, .inr ⟨h1, h2⟩⟩
theorem ris_mem {l : List Int} {p : Int × Int} (h : Ris l p) : p.1 ∈ l := h.2.subset List.mem_cons_self
theorem fold_min (r : List Int) (n : Int) : (r.foldl min n ≤ n ∧ ∀ a ∈ r, r.foldl min n ≤ a) ∧ (r.foldl min n = n ∨ r.foldl min n ∈ r) := by
  induction r generalizing n with
  | nil => exact ⟨⟨Int.le_refl _, fun a h => by cases h⟩, .inl rfl⟩
  | cons y r ih =>
    obtain ⟨⟨h1, h2⟩, h3⟩ := ih (min n y)
    refine ⟨⟨Int.le_trans h1 (Int.min_le_left _ _), fun a ha => ?_⟩, ?_⟩
    · rcases List.mem_cons.mp ha with e | ha
      · subst e
        exact Int.le_trans h1 (Int.min_le_right _ _)
      · exact h2 a ha
    · show (r.foldl min (min n y) = n ∨ r.foldl min (min n y) ∈ y :: r)
      rcases h3 with e | h3
      · by_cases hny : n ≤ y
        · left
          rw [e, Int.min_eq_left hny]
        · right
          rw [e, Int.min_eq_right (by omega)]
          exact List.mem_cons_self
      · exact .inr (List.mem_cons_of_mem _ h3)
theorem minO_le (x : Int) (l : List Int) : ∀ a ∈ l, minO x l ≤ a := by
  cases l with
  | nil => exact fun a h => by cases h
  | cons n r =>
    intro a ha
    obtain ⟨⟨h1, h2⟩, _⟩ := fold_min r n
    rcases List.mem_cons.mp ha with e | ha
    · subst e
      exact h1
    · exact h2 a ha
theorem minO_mem (x : Int) (l : List Int) : minO x l ∈ l ∨ (l = [] ∧ minO x l = x) := by
  cases l with
  | nil => exact .inr ⟨rfl, rfl⟩
  | cons n r =>
    left
    rcases (fold_min r n).2 with e | h
    · show r.foldl min n ∈ n :: r
      rw [e]
      exact List.mem_cons_self
    · exact List.mem_cons_of_mem _ h
structure FarInv (l : List Int) (fs : List (Int × Int)) : Prop where
  mem : ∀ p, p ∈ fs ↔ Far l p
  cover : ∀ q, Ris l q → ∃ c ∈ fs, cov c q = true
  up : fs.Pairwise fun p q => p.1 < q.1
theorem farInv_step {l : List Int} {fs : List (Int × Int)} {x m : Int} (ih : FarInv l fs) (hle : ∀ a ∈ l, m ≤ a) (hmem : m ∈ l ∨ m = x) : FarInv (l ++ [x]) (cpl fs m x) := by
  have anyC : anyCov fs (m, x) = true ↔ ∃ c ∈ fs, cov c (m, x) = true := List.any_eq_true
  by_cases h1 : x ≤ m
  · -- nothing new
    have same : ∀ q, Ris (l ++ [x]) q ↔ Ris l q := fun q => by
      rw [ris_snoc]
      refine ⟨fun h => h.elim id fun ⟨_, h2, h3⟩ => ?_, .inl⟩
      have := hle _ h2
      omega
    have e : cpl fs m x = fs := by
      unfold cpl
      rw [decide_eq_true h1]
      rfl
    rw [e]
    refine ⟨fun p => (ih.mem p).trans ?_, fun q h => ih.cover q ((same q).mp h), ih.up⟩
    unfold Far
    rw [same]
    exact ⟨fun h => ⟨h.1, fun q hq => h.2 q ((same q).mp hq)⟩, fun h => ⟨h.1, fun q hq => h.2 q ((same q).mpr hq)⟩⟩
  · have hm : m ∈ l := hmem.resolve_right (by omega)
    have newc : ∀ q : Int × Int, q.2 = x → q.1 ∈ l → cov (m, x) q = true := fun q e h => by
      rw [cov_iff]
      exact ⟨hle _ h, by rw [e]; exact Int.le_refl _⟩
    by_cases h2 : anyCov fs (m, x) = true
    · -- covered
      obtain ⟨c, hc, cc⟩ := anyC.mp h2
      have e : cpl fs m x = fs := by
        unfold cpl
        rw [h2, Bool.or_true]
        rfl
      have rc := ((ih.mem c).mp hc).1
      rw [e]
      refine ⟨fun p => (ih.mem p).trans ⟨fun h => ⟨ris_snoc.mpr (.inl h.1), fun q hq hcov => ?_⟩, fun h => ?_⟩, fun q hq => ?_, ih.up⟩
      · rcases ris_snoc.mp hq with hq | ⟨a, b, _⟩
        · exact h.2 q hq hcov
        · have c1 := cov_trans cc (newc q a b)
          have c2 := h.2 c rc (cov_trans c1 hcov)
          rw [← c2] at hcov ⊢
          exact cov_anti hcov c1
      · have hp : Ris l p := by
          rcases ris_snoc.mp h.1 with hq | ⟨a, b, _⟩
          · exact hq
          · have := h.2 c (ris_snoc.mpr (.inl rc)) (cov_trans cc (newc p a b))
            rw [← this]
            exact rc
        exact ⟨hp, fun q hq => h.2 q (ris_snoc.mpr (.inl hq))⟩
      · rcases ris_snoc.mp hq with hq | ⟨a, b, _⟩
        · exact ih.cover q hq
        · exact ⟨c, hc, cov_trans cc (newc q a b)⟩
    · have noc : ∀ q, Ris l q → cov q (m, x) = true → False := fun q hq hcov => by
        obtain ⟨c, hc, cc⟩ := ih.cover q hq
        exact h2 (anyC.mpr ⟨c, hc, cov_trans cc hcov⟩)
      have e : cpl fs m x = (m, x) :: fs.filter fun c => decide (x < c.2) := by
        unfold cpl
        rw [if_neg]
        rw [Bool.or_eq_true]
        exact fun h => h.elim (fun h => h1 (of_decide_eq_true h)) h2
      have rn : Ris (l ++ [x]) (m, x) := ris_snoc.mpr (.inr ⟨rfl, hm, by show m < x; omega⟩)
      rw [e]
      refine ⟨fun p => ?_, fun q hq => ?_, List.pairwise_cons.mpr ⟨fun c hc => ?_, ih.up.filter _⟩⟩
      · rw [List.mem_cons, List.mem_filter, ih.mem, decide_eq_true_eq]
        refine ⟨fun h => ?_, fun h => ?_⟩
        · rcases h with rfl | ⟨h, hx⟩
          · refine ⟨rn, fun q hq hcov => ?_⟩
            rcases ris_snoc.mp hq with hq | ⟨a, b, _⟩
            · exact (noc q hq hcov).elim
            · exact cov_anti hcov (newc q a b)
          · refine ⟨ris_snoc.mpr (.inl h.1), fun q hq hcov => ?_⟩
            rcases ris_snoc.mp hq with hq | ⟨a, b, _⟩
            · exact h.2 q hq hcov
            · have := (cov_iff.mp hcov).2
              omega
        · rcases ris_snoc.mp h.1 with hq | ⟨a, b, _⟩
          · by_cases hx : x < p.2
            · exact .inr ⟨⟨hq, fun q hq => h.2 q (ris_snoc.mpr (.inl hq))⟩, hx⟩
            · left
              refine (h.2 (m, x) rn (cov_iff.mpr ⟨hle _ (ris_mem hq), ?_⟩)).symm
              show p.2 ≤ x
              omega
          · exact .inl (h.2 (m, x) rn (newc p a b)).symm
      · rcases ris_snoc.mp hq with hq | ⟨a, b, _⟩
        · obtain ⟨c, hc, cc⟩ := ih.cover q hq
          by_cases hx : x < c.2
          · exact ⟨c, List.mem_cons_of_mem _ (List.mem_filter.mpr ⟨hc, decide_eq_true hx⟩), cc⟩
          · refine ⟨(m, x), List.mem_cons_self, cov_trans (cov_iff.mpr ⟨hle _ (ris_mem ((ih.mem c).mp hc).1), ?_⟩) cc⟩
            show c.2 ≤ x
            omega
        · exact ⟨(m, x), List.mem_cons_self, newc q a b⟩
      · obtain ⟨hc, hx⟩ := List.mem_filter.mp hc
        have hx := of_decide_eq_true hx
        have rc := ((ih.mem c).mp hc).1
        have h3 := hle _ (ris_mem rc)
        show m < c.1
        by_cases e : m = c.1
        · exact (noc c rc (cov_iff.mpr ⟨by show c.1 ≤ m; omega, by show x ≤ c.2; omega⟩)).elim
        · omega
theorem farInv (l : List Int) : FarInv l (farL l) := by
  induction l using GV.snoc_ind with
  | h0 =>
    have no : ∀ q, ¬ Ris [] q := fun q h => by
      have := ris_mem h
      cases this
    exact ⟨fun p => ⟨(fun h => absurd h List.not_mem_nil), fun h => (no p h.1).elim⟩, fun q h => (no q h).elim, List.Pairwise.nil⟩
  | h1 l x ih =>
    rw [farL_snoc]
    exact farInv_step ih (minO_le x l) ((minO_mem x l).imp id fun h => h.2)
theorem sorted_ext {l1 l2 : List (Int × Int)} (h1 : l1.Pairwise fun p q => p.1 < q.1) (h2 : l2.Pairwise fun p q => p.1 < q.1) (h : ∀ p, p ∈ l1 ↔ p ∈ l2) : l1 = l2 := by
  induction l1 generalizing l2 with
  | nil =>
    cases l2 with
    | nil => rfl
    | cons p r => exact absurd ((h p).mpr List.mem_cons_self) List.not_mem_nil
  | cons p r ih =>
    cases l2 with
    | nil => exact absurd ((h p).mp List.mem_cons_self) List.not_mem_nil
    | cons p' r' =>
      obtain ⟨a1, a2⟩ := List.pairwise_cons.mp h1
      obtain ⟨b1, b2⟩ := List.pairwise_cons.mp h2
      have e : p = p' := by
        rcases List.mem_cons.mp ((h p).mp List.mem_cons_self) with e | e
        · exact e
        · rcases List.mem_cons.mp ((h p').mpr List.mem_cons_self) with e2 | e2
          · exact e2.symm
          · have := b1 p e
            have := a1 p' e2
            omega
      subst e
      rw [ih a2 b2 fun q => ?_]
      constructor
      · intro hq
        rcases List.mem_cons.mp ((h q).mp (List.mem_cons_of_mem _ hq)) with e | e
        · subst e
          exact absurd (a1 _ hq) (Int.lt_irrefl _)
        · exact e
      · intro hq
        rcases List.mem_cons.mp ((h q).mpr (List.mem_cons_of_mem _ hq)) with e | e
        · subst e
          exact absurd (b1 _ hq) (Int.lt_irrefl _)
        · exact e
/-! ### reach -/
def Pr (l : List Int) (x y : Int) : Prop := ∃ a b, [a, b].Sublist l ∧ a ≤ x ∧ y ≤ b
def fm (ns : List Int) (w : Int) : Nat := ns.findIdx fun s => decide (s ≤ w)
def top (ns : List Int) (w : Int) : Int := maxOf (ns.drop (fm ns w))
def rch (ns : List Int) (w : Int) : Option Int := if w < top ns w then some (top ns w) else none
theorem fm_lt {ns : List Int} {w : Int} (h : w ∈ ns) : fm ns w < ns.length := List.findIdx_lt_length_of_exists ⟨w, h, decide_eq_true (Int.le_refl w)⟩
theorem pr_iff {ns : List Int} {w y : Int} (h : w < y) : Pr ns w y ↔ ∃ b ∈ ns.drop (fm ns w), y ≤ b := by
  induction ns with
  | nil => exact ⟨fun ⟨a, b, s, _⟩ => (by cases s), fun ⟨b, hb, _⟩ => by simp [fm] at hb⟩
  | cons x t ih =>
    by_cases hx : x ≤ w
    · have e : fm (x :: t) w = 0 := by simp [fm, List.findIdx_cons, hx]
      rw [e, List.drop_zero]
      constructor
      · rintro ⟨a, b, s, _, h2⟩
        exact ⟨b, s.subset (by simp), h2⟩
      · rintro ⟨b, hb, h2⟩
        rcases List.mem_cons.mp hb with e | hb
        · omega
        · exact ⟨x, b, (List.singleton_sublist.mpr hb).cons_cons _, hx, h2⟩
    · have e : fm (x :: t) w = fm t w + 1 := by simp [fm, List.findIdx_cons, hx]
      rw [e, List.drop_succ_cons, ← ih]
      constructor
      · rintro ⟨a, b, s, h1, h2⟩
        cases s with
        | cons _ s => exact ⟨a, b, s, h1, h2⟩
        | cons_cons _ s => omega
      · rintro ⟨a, b, s, h1, h2⟩
        exact ⟨a, b, s.cons _, h1, h2⟩
theorem drop_fm {ns : List Int} {w : Int} (h : w ∈ ns) : ns.drop (fm ns w) ≠ [] := fun e => by
  have := fm_lt h
  have h2 := List.drop_eq_nil_iff.mp e
  omega
theorem pr_top {ns : List Int} {w y : Int} (hw : w ∈ ns) (h : w < y) : Pr ns w y ↔ y ≤ top ns w := by
  rw [pr_iff h]
  obtain ⟨m1, m2⟩ := maxOf_mem (drop_fm hw)
  exact ⟨fun ⟨b, hb, h2⟩ => Int.le_trans h2 (m2 b hb), fun h => ⟨_, m1, h⟩⟩
theorem rch_iff {ns : List Int} {w h : Int} (hw : w ∈ ns) : rch ns w = some h ↔ w < h ∧ Pr ns w h ∧ ∀ y, Pr ns w y → y ≤ h := by
  have gen : ∀ y, Pr ns w y → y ≤ w ∨ y ≤ top ns w := fun y hy => by
    by_cases hyw : y ≤ w
    · exact .inl hyw
    · exact .inr ((pr_top hw (by omega)).mp hy)
  unfold rch
  constructor
  · intro e
    split at e
    · rename_i hlt
      cases e
      exact ⟨hlt, (pr_top hw hlt).mpr (Int.le_refl _), fun y hy => by have := gen y hy; omega⟩
    · cases e
  · rintro ⟨h1, h2, h3⟩
    have h4 := (pr_top hw h1).mp h2
    have hlt : w < top ns w := by omega
    have h5 := h3 _ ((pr_top hw hlt).mpr (Int.le_refl _))
    rw [if_pos hlt, show top ns w = h by omega]
theorem rch_none {ns : List Int} {w : Int} (hw : w ∈ ns) : rch ns w = none ↔ ∀ y, w < y → ¬ Pr ns w y := by
  unfold rch
  constructor
  · intro e y hy hp
    split at e
    · cases e
    · have := (pr_top hw hy).mp hp
      omega
  · intro h
    split
    · rename_i hlt
      exact absurd ((pr_top hw hlt).mpr (Int.le_refl _)) (h _ hlt)
    · rfl
theorem rch_of_pr {ns : List Int} {w y : Int} (hw : w ∈ ns) (h : w < y) (hp : Pr ns w y) : ∃ k, rch ns w = some k ∧ y ≤ k := by
  cases e : rch ns w with
  | none => exact absurd hp ((rch_none hw).mp e y h)
  | some k => exact ⟨k, rfl, ((rch_iff hw).mp e).2.2 y hp⟩
theorem rch_le {ns : List Int} {w y : Int} (hw : w ∈ ns) (h : w < y) : Pr ns w y ↔ ∃ k, rch ns w = some k ∧ y ≤ k :=
  ⟨rch_of_pr hw h, fun ⟨k, e, hk⟩ => by
    obtain ⟨_, ⟨a, b, s, h1, h2⟩, _⟩ := (rch_iff hw).mp e
    exact ⟨a, b, s, h1, by omega⟩⟩
theorem rch_congr {ns ms : List Int} {w : Int} (h1 : w ∈ ns) (h2 : w ∈ ms) (h : ∀ y, w < y → (Pr ns w y ↔ Pr ms w y)) : rch ns w = rch ms w := by
  cases e : rch ns w with
  | none => exact ((rch_none h2).mpr fun y hy hp => (rch_none h1).mp e y hy ((h y hy).mpr hp)).symm
  | some k =>
    obtain ⟨a, b, c⟩ := (rch_iff h1).mp e
    refine ((rch_iff h2).mpr ⟨a, (h k a).mp b, fun y hy => ?_⟩).symm
    by_cases hwy : w < y
    · exact c y ((h y hwy).mpr hy)
    · omega
theorem rch_mono {ns : List Int} {a b h k : Int} (ha : a ∈ ns) (hb : b ∈ ns) (hab : a ≤ b) (e1 : rch ns a = some h) (e2 : rch ns b = some k) : h ≤ k := by
  obtain ⟨_, ⟨x, y, s, h1, h2⟩, _⟩ := (rch_iff ha).mp e1
  obtain ⟨_, _, h3⟩ := (rch_iff hb).mp e2
  exact h3 h ⟨x, y, s, by omega, h2⟩
/-! ### far couples and reach -/
theorem pr_far {ns : List Int} {w y : Int} (h : w < y) : Pr ns w y ↔ ∃ c ∈ farL ns, c.1 ≤ w ∧ y ≤ c.2 := by
  have fi := farInv ns
  constructor
  · rintro ⟨a, b, s, h1, h2⟩
    obtain ⟨c, hc, cc⟩ := fi.cover (a, b) ⟨by show a < b; omega, s⟩
    obtain ⟨c1, c2⟩ := cov_iff.mp cc
    have c1 : c.1 ≤ a := c1
    have c2 : b ≤ c.2 := c2
    exact ⟨c, hc, by omega, by omega⟩
  · rintro ⟨c, hc, h1, h2⟩
    exact ⟨c.1, c.2, ((fi.mem c).mp hc).1.2, h1, h2⟩
def Rc (ns done : List Int) (p : Int × Int) : Prop := p.1 ∈ done ∧ rch ns p.1 = some p.2 ∧ ∀ a ∈ done, a < p.1 → rch ns a ≠ some p.2
theorem far_rc {ns done : List Int} (hd : ∀ k, k ∈ done ↔ k ∈ ns) (p : Int × Int) : Far ns p ↔ Rc ns done p := by
  obtain ⟨a, b⟩ := p
  constructor
  · rintro ⟨⟨h1, h2⟩, h3⟩
    have h1 : a < b := h1
    have ha : a ∈ ns := h2.subset List.mem_cons_self
    obtain ⟨k, hk, hbk⟩ := rch_of_pr ha h1 ⟨a, b, h2, Int.le_refl _, Int.le_refl _⟩
    obtain ⟨_, ⟨a', b', s, q1, q2⟩, _⟩ := (rch_iff ha).mp hk
    have e := h3 (a', b') ⟨by show a' < b'; omega, s⟩ (cov_iff.mpr ⟨q1, by show b ≤ b'; omega⟩)
    have e2 : b' = b := congrArg Prod.snd e
    refine ⟨(hd a).mpr ha, ?_, fun x hx hlt hrx => ?_⟩
    · show rch ns a = some b
      rw [hk, show k = b by omega]
    · have hx' := (hd x).mp hx
      have hlt : x < a := hlt
      obtain ⟨_, ⟨a', b', s, q1, q2⟩, _⟩ := (rch_iff hx').mp hrx
      have q2 : b ≤ b' := q2
      have e := h3 (a', b') ⟨by show a' < b'; omega, s⟩ (cov_iff.mpr ⟨by show a' ≤ a; omega, q2⟩)
      have : a' = a := congrArg Prod.fst e
      omega
  · rintro ⟨h1, h2, h3⟩
    have ha := (hd a).mp h1
    obtain ⟨q1, ⟨a', b', s, q2, q3⟩, q4⟩ := (rch_iff ha).mp h2
    have q1 : a < b := q1
    have q3 : b ≤ b' := q3
    have hb : b' ≤ b := q4 b' ⟨a', b', s, q2, Int.le_refl _⟩
    -- no lighter stone reaches so far
    have low : ∀ x y, [x, y].Sublist ns → x ≤ a → b ≤ y → x = a := fun x y s hx hy => by
      by_cases e : x = a
      · exact e
      · have hxn : x ∈ ns := s.subset List.mem_cons_self
        obtain ⟨k, hk, hbk⟩ := rch_of_pr hxn (show x < b by omega) ⟨x, y, s, Int.le_refl _, hy⟩
        have := rch_mono hxn ha hx hk h2
        have this : k ≤ b := this
        have e2 : k = b := by omega
        exact absurd (e2 ▸ hk) (h3 x ((hd x).mpr hxn) (by show x < a; omega))
    have e1 := low a' b' s q2 q3
    have e2 : b' = b := by omega
    subst e1 e2
    refine ⟨⟨q1, s⟩, fun q hq hcov => ?_⟩
    obtain ⟨c1, c2⟩ := cov_iff.mp hcov
    have e3 := low q.1 q.2 hq.2 c1 c2
    exact Prod.ext e3 (Int.le_antisymm (q4 q.2 ⟨q.1, q.2, hq.2, c1, Int.le_refl _⟩) c2)
def foStep (found : List (Int × Int)) (p : Int × Option Int) : List (Int × Int) := match p.2 with
  | none => found
  | some h => if found = [] ∨ lastHi found ≠ some h then found ++ [(p.1, h)] else found
def rchs (ns : List Int) : List (Int × Option Int) := (srt ns).map fun w => (w, rch ns w)
structure FoInv (ns done : List Int) (fs : List (Int × Int)) : Prop where
  mem : ∀ p, p ∈ fs ↔ Rc ns done p
  up : fs.Pairwise fun p q => p.1 < q.1
  last : ∀ m, lastHi fs = some m → ∀ a ∈ done, ∀ h, rch ns a = some h → h ≤ m
  lastM : ∀ m, lastHi fs = some m → ∃ a ∈ done, rch ns a = some m
  none_ : fs = [] → ∀ a ∈ done, rch ns a = none
theorem foInv_step {ns done : List Int} {fs : List (Int × Int)} {low : Int} (ih : FoInv ns done fs) (hlow : ∀ a ∈ done, a < low) (hin : low ∈ ns) (hdn : ∀ a ∈ done, a ∈ ns) : FoInv ns (done ++ [low]) (foStep fs (low, rch ns low)) := by
  have old : ∀ p : Int × Int, p.1 ∈ done → (Rc ns (done ++ [low]) p ↔ Rc ns done p) := fun p hp => by
    have := hlow _ hp
    unfold Rc
    constructor
    · rintro ⟨_, h2, h3⟩
      exact ⟨hp, h2, fun a ha => h3 a (List.mem_append_left _ ha)⟩
    · rintro ⟨h1, h2, h3⟩
      refine ⟨List.mem_append_left _ h1, h2, fun a ha hlt => ?_⟩
      rcases List.mem_append.mp ha with ha | ha
      · exact h3 a ha hlt
      · rw [List.mem_singleton.mp ha] at hlt
        omega
  have split : ∀ {fs' : List (Int × Int)}, (∀ p, p ∈ fs' ↔ p ∈ fs ∨ (p.1 = low ∧ Rc ns (done ++ [low]) p)) → ∀ p, p ∈ fs' ↔ Rc ns (done ++ [low]) p := fun h p => by
    rw [h p, ih.mem p]
    constructor
    · rintro (h | ⟨_, h⟩)
      · exact (old p h.1).mpr h
      · exact h
    · intro h
      rcases List.mem_append.mp h.1 with h1 | h1
      · exact .inl ((old p h1).mp h)
      · exact .inr ⟨List.mem_singleton.mp h1, h⟩
  unfold foStep
  cases hr : rch ns low with
  | none =>
    refine ⟨split fun p => ⟨.inl, fun h => h.elim id fun ⟨e, h⟩ => ?_⟩, ih.up, fun m hm a ha h hh => ?_, fun m hm => ?_, fun h a ha => ?_⟩
    · have := h.2.1
      rw [e, hr] at this
      cases this
    · rcases List.mem_append.mp ha with ha | ha
      · exact ih.last m hm a ha h hh
      · rw [List.mem_singleton.mp ha, hr] at hh
        cases hh
    · obtain ⟨a, ha, h⟩ := ih.lastM m hm
      exact ⟨a, List.mem_append_left _ ha, h⟩
    · rcases List.mem_append.mp ha with ha | ha
      · exact ih.none_ h a ha
      · rw [List.mem_singleton.mp ha]
        exact hr
  | some k =>
    show FoInv ns (done ++ [low]) (if fs = [] ∨ lastHi fs ≠ some k then fs ++ [(low, k)] else fs)
    by_cases hc : fs = [] ∨ lastHi fs ≠ some k
    · rw [if_pos hc]
      have hn : ∀ a ∈ done, ∀ h, rch ns a = some h → h < k := fun a ha h hh => by
        have h1 := rch_mono (hdn a ha) hin (Int.le_of_lt (hlow a ha)) hh hr
        by_cases e : h = k
        · subst e
          rcases hc with hc | hc
          · rw [ih.none_ hc a ha] at hh
            cases hh
          · cases hm : lastHi fs with
            | none =>
              rw [ih.none_ (lastHi_nil hm) a ha] at hh
              cases hh
            | some m =>
              have h2 := ih.last m hm a ha h hh
              obtain ⟨a0, ha0, h0⟩ := ih.lastM m hm
              have h3 := rch_mono (hdn a0 ha0) hin (Int.le_of_lt (hlow a0 ha0)) h0 hr
              rw [hm, show m = h by omega] at hc
              exact absurd rfl hc
        · omega
      have rc : Rc ns (done ++ [low]) (low, k) := ⟨List.mem_append_right _ (List.mem_singleton.mpr rfl), hr, fun a ha hlt hh => by
        rcases List.mem_append.mp ha with ha | ha
        · have := hn a ha k hh
          omega
        · rw [List.mem_singleton.mp ha] at hlt
          exact absurd hlt (Int.lt_irrefl _)⟩
      refine ⟨split fun p => ?_, ?_, fun m hm a ha h hh => ?_, fun m hm => ?_, fun h => ?_⟩
      · rw [List.mem_append, List.mem_singleton]
        refine ⟨fun h => h.imp id ?_, fun h => h.imp id ?_⟩
        · rintro rfl
          exact ⟨rfl, rc⟩
        · rintro ⟨e, h⟩
          refine Prod.ext e ?_
          have := h.2.1
          rw [e, hr] at this
          cases this
          rfl
      · refine List.pairwise_append.mpr ⟨ih.up, List.pairwise_singleton _ _, fun p hp q hq => ?_⟩
        rw [List.mem_singleton.mp hq]
        exact hlow _ ((ih.mem p).mp hp).1
      · rw [lastHi_snoc] at hm
        cases hm
        rcases List.mem_append.mp ha with ha | ha
        · exact Int.le_of_lt (hn a ha h hh)
        · rw [List.mem_singleton.mp ha, hr] at hh
          cases hh
          exact Int.le_refl _
      · rw [lastHi_snoc] at hm
        cases hm
        exact ⟨low, List.mem_append_right _ (List.mem_singleton.mpr rfl), hr⟩
      · simp at h
    · rw [if_neg hc]
      have hl : lastHi fs = some k := Decidable.byContradiction fun e => hc (.inr e)
      obtain ⟨a0, ha0, h0⟩ := ih.lastM k hl
      refine ⟨split fun p => ⟨.inl, fun h => h.elim id fun ⟨e, h⟩ => ?_⟩, ih.up, fun m hm a ha h hh => ?_, fun m hm => ?_, fun h => ?_⟩
      · have h1 := h.2.1
        rw [e, hr] at h1
        cases h1
        exact absurd h0 (h.2.2 a0 (List.mem_append_left _ ha0) (e ▸ hlow _ ha0))
      · rcases List.mem_append.mp ha with ha | ha
        · exact ih.last m hm a ha h hh
        · rw [List.mem_singleton.mp ha, hr] at hh
          cases hh
          rw [hl] at hm
          cases hm
          exact Int.le_refl _
      · rw [hl] at hm
        cases hm
        exact ⟨a0, List.mem_append_left _ ha0, h0⟩
      · exact absurd (.inl h) hc
theorem foInv (ns : List Int) : ∀ done : List Int, done.Pairwise (· < ·) → (∀ a ∈ done, a ∈ ns) → FoInv ns done ((done.map fun w => (w, rch ns w)).foldl foStep []) := by
  intro done
  induction done using GV.snoc_ind with
  | h0 => exact fun _ _ => ⟨fun p => ⟨fun h => absurd h List.not_mem_nil, fun h => absurd h.1 List.not_mem_nil⟩, List.Pairwise.nil, (fun m hm => by cases hm), (fun m hm => by cases hm), fun _ a ha => absurd ha List.not_mem_nil⟩
  | h1 l x ih =>
    intro h hin
    obtain ⟨h1, _, h3⟩ := List.pairwise_append.mp h
    rw [List.map_append, List.foldl_append]
    exact foInv_step (ih h1 fun a ha => hin a (List.mem_append_left _ ha)) (fun a ha => h3 a ha x (List.mem_singleton.mpr rfl)) (hin x (List.mem_append_right _ (List.mem_singleton.mpr rfl))) fun a ha => hin a (List.mem_append_left _ ha)
theorem fo_far (ns : List Int) : (rchs ns).foldl foStep [] = farL ns := by
  have h1 := foInv ns (srt ns) (up_srt ns) fun a ha => (mem_srt ns a).mp ha
  have h2 := farInv ns
  exact sorted_ext h1.up h2.up fun p => (h1.mem p).trans ((far_rc (mem_srt ns) p).symm.trans (h2.mem p).symm)
/-! ### two rows of the same stones -/
theorem srt_congr {ns ms : List Int} (h : ∀ k, k ∈ ns ↔ k ∈ ms) : srt ns = srt ms := by
  have key : ∀ {l m : List Int}, l.Pairwise (· < ·) → m.Pairwise (· < ·) → (∀ k, k ∈ l ↔ k ∈ m) → l = m := by
    intro l
    induction l with
    | nil =>
      intro m _ _ h
      cases m with
      | nil => rfl
      | cons y m => exact absurd ((h y).mpr List.mem_cons_self) List.not_mem_nil
    | cons x l ih =>
      intro m p q h
      cases m with
      | nil => exact absurd ((h x).mp List.mem_cons_self) List.not_mem_nil
      | cons y m =>
        obtain ⟨p1, p2⟩ := List.pairwise_cons.mp p
        obtain ⟨q1, q2⟩ := List.pairwise_cons.mp q
        have e : x = y := by
          rcases List.mem_cons.mp ((h x).mp List.mem_cons_self) with e | hx
          · exact e
          · rcases List.mem_cons.mp ((h y).mpr List.mem_cons_self) with e | hy
            · exact e.symm
            · have := q1 x hx
              have := p1 y hy
              omega
        subst e
        rw [ih p2 q2 fun k => ?_]
        constructor
        · intro hk
          rcases List.mem_cons.mp ((h k).mp (List.mem_cons_of_mem _ hk)) with e | e
          · subst e
            exact absurd (p1 _ hk) (Int.lt_irrefl _)
          · exact e
        · intro hk
          rcases List.mem_cons.mp ((h k).mpr (List.mem_cons_of_mem _ hk)) with e | e
          · subst e
            exact absurd (q1 _ hk) (Int.lt_irrefl _)
          · exact e
  exact key (up_srt ns) (up_srt ms) fun k => by rw [mem_srt, mem_srt, h]
theorem rchs_of_pr {ns ms : List Int} (hm : ∀ k, k ∈ ns ↔ k ∈ ms) (h : ∀ w y, w < y → (Pr ns w y ↔ Pr ms w y)) : rchs ns = rchs ms := by
  unfold rchs
  rw [← srt_congr hm]
  refine List.map_congr_left fun w hw => ?_
  have h1 := (mem_srt ns w).mp hw
  rw [rch_congr h1 ((hm w).mp h1) (h w)]
theorem rchs_far {ns ms : List Int} (hm : ∀ k, k ∈ ns ↔ k ∈ ms) : rchs ns = rchs ms ↔ farL ns = farL ms := by
  constructor
  · intro h
    rw [← fo_far, ← fo_far, h]
  · intro h
    exact rchs_of_pr hm fun w y hwy => by rw [pr_far hwy, pr_far hwy, h]
/-! ### tame changes -/
theorem sub_swap {a b x y : Int} {A B : List Int} (h : [a, b].Sublist (A ++ x :: y :: B)) : [a, b].Sublist (A ++ y :: x :: B) ∨ (a = x ∧ b = y) := by
  induction A with
  | nil =>
    have one : ∀ {z : Int} {l : List Int}, z ∈ l → [z].Sublist l := fun h => List.singleton_sublist.mpr h
    cases h with
    | cons _ h =>
      cases h with
      | cons _ h => exact .inl ((h.cons _).cons _)
      | cons_cons _ h => exact .inl ((h.cons _).cons_cons _)
    | cons_cons _ h =>
      rcases List.mem_cons.mp (List.singleton_sublist.mp h) with e | h
      · exact .inr ⟨rfl, e⟩
      · exact .inl (((one h).cons_cons _).cons _)
  | cons z A ih =>
    cases h with
    | cons _ h => exact (ih h).imp (fun h => h.cons _) id
    | cons_cons _ h =>
      have hb : b ∈ A ++ x :: y :: B := List.singleton_sublist.mp h
      refine .inl (List.Sublist.cons_cons _ (List.singleton_sublist.mpr ?_))
      show b ∈ A ++ y :: x :: B
      simp only [List.mem_append, List.mem_cons] at hb ⊢
      exact hb.imp id fun h => h.elim (fun e => .inr (.inl e)) fun h => h.elim .inl fun h => .inr (.inr h)
def TameAt (x y : Int) (A B : List Int) : Prop := (∃ k ∈ A, k ≤ x ∧ k ≤ y) ∨ ∃ k ∈ B, x ≤ k ∧ y ≤ k
theorem pr_swap1 {x y : Int} {A B : List Int} (t : TameAt x y A B) {w h : Int} (hp : Pr (A ++ x :: y :: B) w h) : Pr (A ++ y :: x :: B) w h := by
  obtain ⟨a, b, s, h1, h2⟩ := hp
  rcases sub_swap s with s | ⟨rfl, rfl⟩
  · exact ⟨a, b, s, h1, h2⟩
  · rcases t with ⟨k, hk, k1, k2⟩ | ⟨k, hk, k1, k2⟩
    · refine ⟨k, b, ?_, by omega, h2⟩
      exact (List.singleton_sublist.mpr hk).append (List.singleton_sublist.mpr (by simp))
    · refine ⟨a, k, ?_, h1, by omega⟩
      exact List.Sublist.trans (((List.singleton_sublist.mpr hk).cons_cons a).cons b) (List.sublist_append_right _ _)
theorem pr_swap {x y : Int} {A B : List Int} (t : TameAt x y A B) (w h : Int) : Pr (A ++ x :: y :: B) w h ↔ Pr (A ++ y :: x :: B) w h :=
  ⟨pr_swap1 t, pr_swap1 (t.imp (fun ⟨k, h, a, b⟩ => ⟨k, h, b, a⟩) fun ⟨k, h, a, b⟩ => ⟨k, h, b, a⟩)⟩
def exch (ns : List Int) (p : Nat) : List Int := (ns.set p (ns.getD (p + 1) 0)).set (p + 1) (ns.getD p 0)
theorem exch_eq {ns : List Int} {p : Nat} (h : p + 1 < ns.length) : ∃ x y A B, ns[p]? = some x ∧ ns[p + 1]? = some y ∧ A = ns.take p ∧ B = ns.drop (p + 2) ∧ ns = A ++ x :: y :: B ∧ exch ns p = A ++ y :: x :: B := by
  induction ns generalizing p with
  | nil => simp at h
  | cons z t ih =>
    cases p with
    | zero =>
      cases t with
      | nil => simp at h
      | cons y t => exact ⟨z, y, [], t, rfl, rfl, rfl, rfl, rfl, rfl⟩
    | succ p =>
      obtain ⟨x, y, A, B, h1, h2, h3, h4, h5, h6⟩ := ih (p := p) (by simpa using h)
      refine ⟨x, y, z :: A, B, h1, h2, by rw [h3]; rfl, h4, congrArg (z :: ·) h5, ?_⟩
      show z :: exch t p = _
      rw [h6]
      rfl
theorem exch_len (ns : List Int) (p : Nat) : (exch ns p).length = ns.length := by
  simp [exch]
theorem exch_mem {ns : List Int} {p : Nat} (h : p + 1 < ns.length) (k : Int) : k ∈ exch ns p ↔ k ∈ ns := by
  obtain ⟨x, y, A, B, _, _, _, _, h5, h6⟩ := exch_eq h
  rw [h6]
  conv => rhs; rw [h5]
  simp only [List.mem_append, List.mem_cons]
  exact ⟨fun h => h.imp id fun h => h.elim (fun e => .inr (.inl e)) fun h => h.elim .inl fun h => .inr (.inr h), fun h => h.imp id fun h => h.elim (fun e => .inr (.inl e)) fun h => h.elim .inl fun h => .inr (.inr h)⟩
/-- tame, as the law tells it -/
def tamB (ns : List Int) (p : Nat) : Bool := (ns.getD p 0 != ns.getD (p + 1) 0) && (List.range ns.length).any fun k => (decide (k < p) && decide (ns.getD k 0 ≤ min (ns.getD p 0) (ns.getD (p + 1) 0))) || (decide (p + 1 < k) && decide (max (ns.getD p 0) (ns.getD (p + 1) 0) ≤ ns.getD k 0))
theorem tamB_at {ns : List Int} {p : Nat} {x y : Int} {A B : List Int} (h : tamB ns p = true) (h1 : ns[p]? = some x) (h2 : ns[p + 1]? = some y) (h3 : A = ns.take p) (h4 : B = ns.drop (p + 2)) : TameAt x y A B := by
  unfold tamB at h
  rw [Bool.and_eq_true] at h
  obtain ⟨k, hk, hh⟩ := List.any_eq_true.mp h.2
  have hk := List.mem_range.mp hk
  have e1 : ns.getD p 0 = x := by rw [List.getD_eq_getElem?_getD, h1]; rfl
  have e2 : ns.getD (p + 1) 0 = y := by rw [List.getD_eq_getElem?_getD, h2]; rfl
  have ek : ns[k]? = some (ns.getD k 0) := by
    rw [List.getD_eq_getElem?_getD, List.getElem?_eq_getElem hk]
    rfl
  rw [e1, e2] at hh
  simp only [Bool.or_eq_true, Bool.and_eq_true, decide_eq_true_eq] at hh
  rcases hh with ⟨a, b⟩ | ⟨a, b⟩
  · refine .inl ⟨ns.getD k 0, ?_, by omega, by omega⟩
    rw [h3]
    exact List.mem_of_getElem? (i := k) (by rw [List.getElem?_take, if_pos a]; exact ek)
  · refine .inr ⟨ns.getD k 0, ?_, by omega, by omega⟩
    rw [h4]
    exact List.mem_of_getElem? (i := k - (p + 2)) (by rw [List.getElem?_drop, show p + 2 + (k - (p + 2)) = k by omega]; exact ek)
theorem rchs_exch {ns : List Int} {p : Nat} (h : p + 1 < ns.length) (t : tamB ns p = true) : rchs (exch ns p) = rchs ns := by
  obtain ⟨x, y, A, B, h1, h2, h3, h4, h5, h6⟩ := exch_eq h
  refine (rchs_of_pr (fun k => (exch_mem h k).symm) fun w v _ => ?_).symm
  rw [h6, h5]
  exact pr_swap (tamB_at t h1 h2 h3 h4) w v
end CK

namespace CK
open PySem PySem.Spec PyProof.Rows L2 GV
/-- v is a value of which is_bag_row says b -/
def Arg (K : PySem.W.Frag) (M : Addr → Prop) (H : Hp) (v : V) (b : Bool) : Prop := (∃ d, Rp K M H v d ∧ (partsD d).length ≤ 1000 ∧ bagB d = b) ∨ (b = false ∧ ∃ a kvs, v = .ref a ∧ ¬ M a ∧ H a = some (.dK kvs))
theorem Arg.mono {K : PySem.W.Frag} {M M' : Addr → Prop} {H H' : Hp} {v : V} {b : Bool} (h : Arg K M H v b) (hm : ∀ a, M' a → M a) (e : ExM M H H') : Arg K M' H' v b :=
  h.imp (fun ⟨d, r, q⟩ => ⟨d, r.mono hm e, q⟩) fun ⟨hb, a, kvs, h1, h2, h3⟩ => ⟨hb, a, kvs, h1, fun z => h2 (hm _ z), e _ _ h3 h2 fun _ z => by cases z⟩
section
variable {P : Program} {w : World} {K : PySem.W.Frag} {mg : Str → Option Value} {base : Heap}
def spBagD : Sp := fun vs H Q _ => ∃ (a : Addr) (kvs : List (Key × V)), vs = [.ref a] ∧ H a = some (.dK kvs) ∧ ∀ H', Evl.Ex H H' → Q (.bl false) H'
theorem cl_is_bag_rowD {f : Addr} {fd : FuncData} (F : At K mg "is_bag_row" s_is_bag_row f fd) (nb : NoB mg) : Cl P w K mg base CX0 1 "is_bag_row" spBagD := by
  refine ⟨f, fd, _, F.fn.ok sc_is_bag_row (fun vs H Q E h => ?_) (fun cdv A outer s H vs Q E hr h => ⟨_, wB.ps, ?_⟩), F.gl, F.fn.kp, F.fn.binds fun _ _ _ _ _ _ us hl => match us, hl with | [_], _ => rfl⟩
  · obtain ⟨a, kvs, rfl, _⟩ := h
    rfl
  · obtain ⟨a, kvs, rfl, hA, q⟩ := h
    refine b_cons (s_if (M := M0) (k := true) alive0 (WD.td (wd_or (k1 := true) (k2 := true) (td_not (k := false) (td_val (PD.is (pd_isi2D rfl nb.isinstance rfl nb.list PyProof.Rows.boot_list rfl nb.tuple PyProof.Rows.boot_tuple (fun H1 Q hq => ce_name (i := 0) rfl (.inl rfl) rfl hq) hA (fun z => z) (by decide +kernel : kitB "dict" "list" = some false) (by decide +kernel : kitB "dict" "tuple" = some false)) rfl))) fun z => by cases z)) (fun _ H2 x2 => ?_) (fun z => by cases z))
    exact b_cons (s_ret (M := M0) alive0 pd_bl fun v H3 x3 rv => by
      cases rv
      exact q H3 (x2.trans x3))
/-- is_bag_row of an argument of either kind -/
theorem ce_bag {X : Cx} {M : Addr → Prop} {σ : St} {H : Hp} {e : Expr} {v : V} {b : Bool} {p pos : Pos} {Q : VK} {j : Nat} (al : Alive M H) (c1 : Cl X.prog X.w X.K X.mg X.base CX0 4 "is_bag_row" (PureR X.K R_bag)) (c2 : Cl X.prog X.w X.K X.mg X.base CX0 1 "is_bag_row" spBagD) (hr : Room j X.A) (hj : 4 ≤ j) (hg : Gl X "is_bag_row")
    (he : ∀ H1 (Q : VK), Q v H1 → wE X e σ H1 Q) (h : Arg X.K M H v b) (q : ∀ H', Evl.Ex H H' → Q (.bl b) H')
    (hs : starEach (e :: []) X.env = (false, eval e X.env) :: starEach [] X.env := by rfl) (hpl : (backTo pos (starEach [] X.env)).any (·.1) = false := by rfl) : wE X (.Call (.Name "is_bag_row" p) [e] [] pos) σ H Q := by
  rcases h with ⟨d, r, hl, hb⟩ | ⟨rfl, a, kvs, rfl, _, hA⟩
  · refine ce_call c1 hr hj hg (ca_cons (he _ _ (ca_nil ⟨M, [d], .bool (bagB d), al, .cons r .nil, ⟨d, rfl, hl, rfl⟩, fun v' H' x rv => ?_⟩)) hs) (by decide) hs hpl
    cases rv
    rw [hb]
    exact q H' x
  · exact ce_call c2 hr (by omega) hg (ca_cons (he _ _ (ca_nil ⟨a, kvs, rfl, hA, q⟩)) hs) (by decide) hs hpl
/-- goes on where the argument is a bag row, or raises with the very argument -/
def spChk (K : PySem.W.Frag) (CR : Addr) (good : (Addr → Prop) → V → Hp → VK → Prop) : Sp := fun vs H Q E => ∃ (M : Addr → Prop) (v : V) (b : Bool), vs = [v] ∧ Alive M H ∧ Arg K M H v b ∧ (b = true → good M v H Q) ∧ (b = false → ∀ H1, Evl.Ex H H1 → Raised CR [("row", v)] H1 E)
theorem cl_chk {f CR : Addr} {fd : FuncData} (F : At K mg "check_bag_row" s_check_bag_row f fd) (c1 : Cl P w K mg base CX0 4 "is_bag_row" (PureR K R_bag)) (c2 : Cl P w K mg base CX0 1 "is_bag_row" spBagD) (er : ErrC P w K mg base "InvalidRow" CR ["row"]) : Cl P w K mg base (L2.CX P w) 5 "check_bag_row" (spChk K CR fun _ _ H Q => ∀ H', Evl.Ex H H' → Q .non H') := by
  refine ⟨f, fd, _, F.fn.okX sc_check_bag_row (fun vs H Q E h => ?_) (fun cdv A outer s H vs Q E hr h => ⟨_, wB.ps, ?_⟩), F.gl, F.fn.kp, F.fn.binds fun _ _ _ _ _ _ us hl => match us, hl with | [_], _ => rfl⟩
  · obtain ⟨M, v, d, rfl, _⟩ := h
    rfl
  · obtain ⟨M, v, b, rfl, al, r, h1, h2⟩ := h
    refine b_cons (cs_if (ct_not (ct_val (ce_bag al c1 c2 hr (by decide) rfl (fun H1 Q hq => ce_name (i := 0) rfl (.inl rfl) rfl hq) r fun H2 x2 => ⟨b, rfl, ?_⟩))))
    cases b with
    | false => exact b_cons (s_raise rfl er (hr.mono (by decide)) (takes_of rfl rfl rfl rfl) rfl (ca_cons (ce_name (i := 0) rfl (.inl rfl) rfl (ca_nil ⟨rfl, (by show 1 ≤ 1000; decide), h2 rfl _ x2⟩))))
    | true => exact b_nil (b_nil (h1 rfl _ x2))
/-- an exception that nobody waits for -/
theorem tkF {X : Cx} : Takes X (fun _ _ _ _ => False) := fun u s' ⟨_, _, _, _, _, _, _, _, _, _, _, _, _, _, _, _, z⟩ => z.elim
/-- a bag row: the numbers -/
def BagV (K : PySem.W.Frag) (M : Addr → Prop) (H : Hp) (v : V) (tp : Bool) (ns : List Int) : Prop := Rp K M H v (sqD tp (ns.map PyData.int)) ∧ ns.length ≤ 40 ∧ ∀ z ∈ ns, isWeightD (.int z) = true
theorem BagV.arg {M : Addr → Prop} {H : Hp} {v : V} {tp : Bool} {ns : List Int} (h : BagV K M H v tp ns) : Arg K M H v true := by
  obtain ⟨r, hl, hw⟩ := h
  refine .inl ⟨_, r, ?_, ?_⟩
  · cases tp <;> (show (ns.map PyData.int).length ≤ 1000; rw [List.length_map]; omega)
  · have e : (ns.map PyData.int).all isWeightD = true := List.all_eq_true.mpr fun d hd => by
      obtain ⟨z, hz, rfl⟩ := List.mem_map.mp hd
      exact hw z hz
    have e2 : decide ((ns.map PyData.int).length ≤ 40) = true := decide_eq_true (by rw [List.length_map]; exact hl)
    cases tp <;> (show (true && decide ((ns.map PyData.int).length ≤ 40) && (ns.map PyData.int).all isWeightD) = true; rw [e, e2]; rfl)
theorem BagV.mono {M M' : Addr → Prop} {H H' : Hp} {v : V} {tp : Bool} {ns : List Int} (h : BagV K M H v tp ns) (hm : ∀ a, M' a → M a) (e : ExM M H H') : BagV K M' H' v tp ns := ⟨h.1.mono hm e, h.2⟩
/-- far_couples: of a bag row a fresh list of pairs; of another thing the error -/
def spFar (K : PySem.W.Frag) (CR : Addr) (f : List Int → List PyData) : Sp := fun vs H Q E => ∃ (M : Addr → Prop) (v : V), vs = [v] ∧ Alive M H ∧ ((∃ tp ns, BagV K M H v tp ns ∧ ∀ p ws H', H p = none → Evl.Ex H H' → H' p = some (.lst ws) → RpAll K M H' ws (f ns) → Q (.ref p) H') ∨ (Arg K M H v false ∧ ∀ H1, Evl.Ex H H1 → Raised CR [("row", v)] H1 E))
theorem cl_far_couples {f CR : Addr} {fd : FuncData} (F : At K mg "far_couples" s_far_couples f fd) (ck : Cl P w K mg base (L2.CX P w) 5 "check_bag_row" (spChk K CR fun _ _ H Q => ∀ H', Evl.Ex H H' → Q .non H')) (cf : Cl P w K mg base CX0 4 "far_of" (FreshR K R_far_of)) : Cl P w K mg base (L2.CX P w) 6 "far_couples" (spFar K CR fun ns => (farL ns).map pairD) := by
  refine ⟨f, fd, _, F.fn.okX sc_far_couples (fun vs H Q E h => ?_) (fun cdv A outer s H vs Q E hr h => ⟨_, wB.ps, ?_⟩), F.gl, F.fn.kp, F.fn.binds fun _ _ _ _ _ _ us hl => match us, hl with | [_], _ => rfl⟩
  · obtain ⟨M, v, rfl, _⟩ := h
    rfl
  · obtain ⟨M, v, rfl, al, h⟩ := h
    have tk : Takes _ (fun cls d (_ : St) H' => E cls d H') := takes_of (X := cxOf (L2.CX P w) P w K mg base n_far_couples "far_couples" (defScope s_far_couples) f cdv A outer s H E) rfl rfl rfl rfl
    rcases h with ⟨tp, ns, bg, q⟩ | ⟨ab, q⟩
    · refine b_cons (cs_expr (ce_callX ck hr (by decide) rfl tk (ca_cons (ce_name (i := 0) rfl (.inl rfl) rfl (ca_nil ⟨M, v, true, rfl, al, bg.arg, fun _ H2 x2 => ?_, fun z => by cases z⟩)))))
      refine b_cons (cs_ret (ce_fd (al.mono x2) (fd_callC cf hr (by decide) rfl (ad_cons (nm 0 (bg.1.mono (fun _ z => z) (ExM.of x2))) ad_nil) ⟨tp, ns, Nat.le_trans bg.2.1 (by decide), rfl, rfl⟩) fun p ws H3 hp x3 h3 r => q p ws H3 (Evl.fresh_back x2 hp) (x2.trans x3) h3 r))
    · exact b_cons (cs_expr (ce_callX ck hr (by decide) rfl tk (ca_cons (ce_name (i := 0) rfl (.inl rfl) rfl (ca_nil ⟨M, v, false, rfl, al, ab, (fun z => by cases z), fun _ => q⟩)))))
end
end CK

namespace CK
open PySem PySem.Spec PyProof.Rows L2 GV
def optD : Option Int → PyData
  | none => .none
  | some k => .int k
def reD (p : Int × Option Int) : PyData := .tuple [.int p.1, optD p.2]
def sndLe (w : Int) : PyData → Bool
  | .tuple [_, .int s] => decide (s ≤ w)
  | _ => false
def fstD : PyData → PyData
  | .tuple (a :: _) => a
  | _ => .none
def fidx (w : Int) : List Int → Nat → List Int
  | [], _ => []
  | x :: t, k => if x ≤ w then (k : Int) :: fidx w t (k + 1) else fidx w t (k + 1)
theorem fidx_cons (w x : Int) (t : List Int) (k : Nat) : fidx w (x :: t) k = if x ≤ w then (k : Int) :: fidx w t (k + 1) else fidx w t (k + 1) := rfl
theorem enum_idx (w : Int) (ns : List Int) (k : Nat) : (((((ns.map PyData.int).zipIdx k).map fun p => PyData.tuple [.int (p.2 : Nat), p.1])).filter (sndLe w)).map fstD = (fidx w ns k).map PyData.int := by
  induction ns generalizing k with
  | nil => rfl
  | cons x t ih =>
    show ((PyData.tuple [.int (k : Nat), .int x] :: ((((t.map PyData.int).zipIdx (k + 1)).map fun p => PyData.tuple [.int (p.2 : Nat), p.1]))).filter (sndLe w)).map fstD = _
    rw [List.filter_cons]
    by_cases h : x ≤ w
    · rw [if_pos (by show decide (x ≤ w) = true; exact decide_eq_true h), List.map_cons, ih]
      rw [fidx_cons, if_pos h]
      rfl
    · rw [if_neg (by show ¬ decide (x ≤ w) = true; rw [decide_eq_true_eq]; exact h), ih]
      rw [fidx_cons, if_neg h]
theorem fidx_ge {w : Int} {ns : List Int} {k : Nat} {y : Int} (h : y ∈ fidx w ns k) : (k : Int) ≤ y := by
  induction ns generalizing k with
  | nil => cases h
  | cons x t ih =>
    rw [fidx_cons] at h
    split at h
    · rcases List.mem_cons.mp h with e | h
      · omega
      · have := ih h
        omega
    · have := ih h
      omega
theorem fidx_min {w : Int} {ns : List Int} (k : Nat) (h : w ∈ ns) : ((fm ns w + k : Nat) : Int) ∈ fidx w ns k ∧ ∀ y ∈ fidx w ns k, ((fm ns w + k : Nat) : Int) ≤ y := by
  induction ns generalizing k with
  | nil => cases h
  | cons x t ih =>
    by_cases hx : x ≤ w
    · have e : fm (x :: t) w = 0 := by simp [fm, List.findIdx_cons, hx]
      rw [e]
      rw [fidx_cons, if_pos hx, Nat.zero_add]
      refine ⟨List.mem_cons_self, fun y hy => ?_⟩
      rcases List.mem_cons.mp hy with e | hy
      · omega
      · have := fidx_ge hy
        omega
    · have e : fm (x :: t) w = fm t w + 1 := by simp [fm, List.findIdx_cons, hx]
      have ht : w ∈ t := (List.mem_cons.mp h).resolve_left (by omega)
      rw [e]
      rw [fidx_cons, if_neg hx, show fm t w + 1 + k = fm t w + (k + 1) by omega]
      exact ih (k + 1) ht
theorem fidx_len (w : Int) (ns : List Int) (k : Nat) : (fidx w ns k).length ≤ ns.length := by
  induction ns generalizing k with
  | nil => exact Nat.le_refl _
  | cons x t ih =>
    rw [fidx_cons]
    have := ih (k + 1)
    split <;> simp only [List.length_cons] <;> omega
theorem cutD_dropI (ns : List Int) (i : Nat) : cutD (ns.map PyData.int) (some (i : Int)) none = (ns.drop i).map PyData.int := by rw [cutD_drop, List.map_drop]
section
variable {P : Program} {w : World} {K : PySem.W.Frag} {mg : Str → Option Value} {base : Heap}
def R_reach_of (ds : List PyData) (d : PyData) : Prop := ∃ (tp : Bool) (ns : List Int) (x : Int), ns.length ≤ 900 ∧ x ∈ ns ∧ ds = [sqD tp (ns.map PyData.int), .int x] ∧ d = optD (rch ns x)
theorem cl_reach_of {f : Addr} {fd : FuncData} (F : At K mg "_reach_of" s_reach_of f fd) (nb : NoB mg) : Cl P w K mg base CX0 1 "_reach_of" (PureR K R_reach_of) := by
  refine cl_pure F sc_reach_of (F.fn.binds fun _ _ _ _ _ _ us hl => match us, hl with | [_, _], _ => rfl) (fun ds d h => ?_) (fun X cdv A outer s H Q E M vs ds d hX hr al r h q => ?_)
  · obtain ⟨tp, ns, x, _, _, rfl, _⟩ := h
    rfl
  · obtain ⟨tp, ns, x, hl, hx, rfl, rfl⟩ := h
    obtain ⟨u, v, rfl, r1, r2⟩ := rpa2 r
    subst hX
    obtain ⟨f1, f2⟩ := fidx_min 0 hx
    refine b_cons (s_set (i := 2) (d := .int (fm ns x : Nat)) al sc_reach_of.nd rfl (.inl rfl) (pd_min (ns := fidx x ns 0) rfl rfl nb.min (PD.is (FD.pd (fd_filter (t := .two 4 5) (own := [("index", 4), ("stone", 5)]) (sndLe x) fstD rfl sc_reach_of.nd (src_enumS rfl nb.enumerate (nm 0 r1)) (blkOk_by (N := n_reach_of) (sc := defScope s_reach_of) (by decide +kernel)) (fun _ _ _ _ _ => pg_tup rfl (pgs_cons (pg_name (i := 4) sc_reach_of.nd rfl (.inl rfl)) (pgs_cons (pg_name (i := 5) sc_reach_of.nd rfl (.inl rfl)) pgs_nil))) ?_ ?_ ?_ ?_)) (congrArg PyData.list (enum_idx x ns 0))) (by simpa using f1) (by simpa using f2)) fun v3 H3 x3 r3 => ?_)
    · intro d hd
      obtain ⟨i, hi⟩ := List.mem_iff_getElem?.mp hd
      obtain ⟨e, _, rfl⟩ := enumD_get hi
      exact ⟨_, _, rfl⟩
    · rintro M H d σ' ⟨da, db, v, w, _, _, _, rfl⟩
      rfl
    · rw [enumD_length, List.length_map]
      omega
    · rintro s0 H0 C cl fp M' H' d σ' hM lift hd ⟨da, db, v', w', rfl, ra, rb, rfl⟩
      obtain ⟨i, hi⟩ := List.mem_iff_getElem?.mp hd
      obtain ⟨e, he, e2⟩ := enumD_get hi
      rw [List.getElem?_map] at he
      obtain ⟨z, _, rfl⟩ := Option.map_eq_some_iff.mp he
      obtain ⟨rfl, rfl⟩ : da = .int (i : Nat) ∧ db = .int z := by
        injection e2 with e2
        injection e2 with a b
        injection b with b
        exact ⟨a, b⟩
      exact ⟨td_le (nm 5 rb) (nm 1 (lift _ _ r2)), nm 4 ra⟩
    cases r3
    have al3 := al.mono x3
    have r1' := r1.mono (fun _ z => z) (ExM.of x3)
    obtain ⟨m1, m2⟩ := maxOf_mem (drop_fm hx)
    refine b_cons (s_set (i := 3) (d := .int (top ns x)) al3 sc_reach_of.nd rfl (.inl rfl) (pd_maxS (tp := tp) (ns := ns.drop (fm ns x)) rfl hr.u2 rfl nb.max (PD.is (pd_sliceS (nm 0 r1') (od_some (nm 2 (.int (fm ns x : Nat)))) od_none) (by rw [cutD_dropI])) m1 m2) fun v4 H4 x4 r4 => ?_)
    cases r4
    refine b_cons (s_ret (al3.mono x4) (pd_if (td_gt (nm 3 (.int (top ns x))) (nm 1 (r2.mono (fun _ z => z) (ExM.of (x3.trans x4))))) (fun k => PD.is (nm 3 (.int (top ns x))) ?_) fun k => PD.is pd_non ?_) fun v5 H5 x5 r5 => q v5 H5 ((x3.trans x4).trans x5) r5)
    · unfold rch
      rw [if_pos (of_decide_eq_true k)]
      rfl
    · unfold rch
      rw [if_neg (of_decide_eq_false k)]
      rfl
def rchD (ns : List Int) : List PyData := (rchs ns).map reD
theorem cl_reach {f CR : Addr} {fd : FuncData} (F : At K mg "reach" s_reach f fd) (nb : NoB mg) (ck : Cl P w K mg base (L2.CX P w) 5 "check_bag_row" (spChk K CR fun _ _ H Q => ∀ H', Evl.Ex H H' → Q .non H')) (cf : Cl P w K mg base CX0 1 "_reach_of" (PureR K R_reach_of)) : Cl P w K mg base (L2.CX P w) 6 "reach" (spFar K CR rchD) := by
  refine ⟨f, fd, _, F.fn.okX sc_reach (fun vs H Q E h => ?_) (fun cdv A outer s H vs Q E hr h => ⟨_, wB.ps, ?_⟩), F.gl, F.fn.kp, F.fn.binds fun _ _ _ _ _ _ us hl => match us, hl with | [_], _ => rfl⟩
  · obtain ⟨M, v, rfl, _⟩ := h
    rfl
  · obtain ⟨M, v, rfl, al, h⟩ := h
    have tk : Takes _ (fun cls d (_ : St) H' => E cls d H') := takes_of (X := cxOf (L2.CX P w) P w K mg base n_reach "reach" (defScope s_reach) f cdv A outer s H E) rfl rfl rfl rfl
    rcases h with ⟨tp, ns, bg, q⟩ | ⟨ab, q⟩
    · refine b_cons (cs_expr (ce_callX ck hr (by decide) rfl tk (ca_cons (ce_nm 0 (ca_nil ⟨M, v, true, rfl, al, bg.arg, fun _ H2 x2 => ?_, fun z => by cases z⟩)))))
      have r1 := bg.1.mono (fun _ z => z) (ExM.of x2)
      have hl := bg.2.1
      have sl := srt_len ns
      refine b_cons (cs_ret (ce_fd (al.mono x2) (fd_map (t := .one 1) (own := [("weight", 1)]) (fun d => match d with | .int x => reD (x, rch ns x) | _ => .none) rfl sc_reach.nd (src_list (FD.pd (fd_sortedSetS (tp := tp) rfl rfl nb.sorted rfl nb.set (nm 0 r1) (by omega) (up_srt ns) (fun k => mem_srt ns k)))) (blkOk_by (N := n_reach) (sc := defScope s_reach) (by decide +kernel)) (fun _ _ _ _ _ => pg_name (i := 1) sc_reach.nd rfl (.inl rfl)) (fun _ _ => trivial) ?_ ?_ ?_) fun p ws H3 hp x3 h3 r => q p ws H3 (Evl.fresh_back x2 hp) (x2.trans x3) h3 ?_))
      · rintro M H d σ' ⟨v, _, rfl⟩
        rfl
      · rw [List.length_map]
        omega
      · rintro s0 H0 C cl fp M' H' d σ' hM lift hd ⟨v', rv, rfl⟩
        obtain ⟨x, hx, rfl⟩ := List.mem_map.mp hd
        have hx := (mem_srt ns x).mp hx
        exact pd_tup (ad_cons (nm 1 rv) (ad_cons (pd_callC cf hr (by decide) rfl (ad_cons (nm 0 (lift _ _ r1)) (ad_cons (nm 1 rv) ad_nil)) ⟨tp, ns, x, by omega, hx, rfl, rfl⟩) ad_nil)) (by simp)
      · rw [List.map_map] at r
        unfold rchD rchs
        rw [List.map_map]
        exact r
    · exact b_cons (cs_expr (ce_callX ck hr (by decide) rfl tk (ca_cons (ce_nm 0 (ca_nil ⟨M, v, false, rfl, al, ab, (fun z => by cases z), fun _ => q⟩)))))
end
end CK

namespace CK
open PySem PySem.Spec PyProof.Rows L2 GV
abbrev S2 (s r : Addr) : Addr → Prop := fun a => a = s ∨ a = r
section
variable {P : Program} {w : World} {K : PySem.W.Frag} {mg : Str → Option Value} {base : Heap}
def okW (z : Int) : Prop := -1000000000000 ≤ z ∧ z ≤ 1000000000000
theorem okW.is {z : Int} (h : okW z) : isWeightD (.int z) = true := by
  show (decide (-mostW ≤ z) && decide (z ≤ mostW)) = true
  rw [decide_eq_true (by unfold mostW; exact h.1), decide_eq_true (by unfold mostW; exact h.2)]
  rfl
/-! ### the world's weights -/
def gaps : List Int := [1, 9, 40000000000, 3]
def starts (u n : Int) : List Int := [0, u - 30, -1000000000000 - 1, 1000000000000 - 3 * n]
theorem ways {i : Nat} {u n g s : Int} (hg : gaps[i]? = some g) (hs : (starts u n)[i]? = some s) (hu : 0 ≤ u ∧ u < 41) (hn : 0 ≤ n ∧ n ≤ 41) : 0 < g ∧ g ≤ 40000000000 ∧ -1000000000000 - 1 ≤ s ∧ s + n * g ≤ 1000000000000 := by
  match i, hg, hs with
  | 0, hg, hs =>
    cases hg
    cases hs
    omega
  | 1, hg, hs =>
    cases hg
    cases hs
    omega
  | 2, hg, hs =>
    cases hg
    cases hs
    omega
  | 3, hg, hs =>
    cases hg
    cases hs
    omega
  | i + 4, hg, hs => cases hg
def spWeights : Sp := fun vs H Q _ => ∃ (a : Addr) (n : Nat) (r c k : Int), vs = [.ref a, .int (n : Nat)] ∧ H a = some (potL r c k) ∧ 1 ≤ n ∧ n ≤ 41 ∧
  ∀ p ns r' k' H', H p = none → ExB a H H' → H' a = some (potL r' c k') → H' p = some (.lst (ns.map V.int)) → ns ≠ [] → ns.length ≤ 1000 → (∀ z ∈ ns, okW z) → Q (.ref p) H'
theorem cl_law_weights {f : Addr} {fd : FuncData} (F : At K mg "_law_weights" s_law_weights f fd) (nb : NoB mg) (cd : Cl P w K mg base CX0 1 "_law_draw" spDraw) : Cl P w K mg base CX0 2 "_law_weights" spWeights := by
  refine ⟨f, fd, _, F.fn.ok sc_law_weights (fun vs H Q E h => ?_) (fun cdv A outer sh H vs Q E hr h => ⟨_, wB.ps, ?_⟩), F.gl, F.fn.kp, F.fn.binds fun _ _ _ _ _ _ us hl => match us, hl with | [_, _], _ => rfl⟩
  · obtain ⟨a, n, r, c, k, rfl, _⟩ := h
    rfl
  · obtain ⟨a, n, r, c, k, rfl, ha, n1, n41, q⟩ := h
    refine b_cons (cs_set (i := 2) sc_law_weights.nd rfl (.inl rfl) (ce_call cd hr (by decide) rfl (ca_cons (ce_name (i := 0) rfl (.inl rfl) rfl (ca_cons (ce_pd alive0 pd_int fun v H1 x1 r1 => ca_nil ⟨a, _, r, c, k, by cases r1; rfl, x1 _ _ ha, by decide, by decide +kernel, fun way r2 k2 H2 w0 w1 e2 ha2 => ?_⟩))))))
    obtain ⟨g, hg⟩ : ∃ g, gaps[way.toNat]? = some g := ⟨_, List.getElem?_eq_getElem (by show way.toNat < 4; omega)⟩
    have hgi := ixD_ints hg
    rw [show ((way.toNat : Nat) : Int) = way by omega] at hgi
    -- gap
    refine b_cons (s_set (i := 3) (d := .int g) alive0 sc_law_weights.nd rfl (.inl rfl) (pd_ix (da := intsD gaps) (FD.pd (fd_lst (ad_cons pd_int (ad_cons pd_int (ad_cons (pd_mul pd_int (pd_pow pd_int pd_int ⟨by decide, by decide, by decide⟩) (.inl ⟨by decide, by decide⟩)) (ad_cons pd_int ad_nil)))) (by show 4 ≤ 100000; decide))) (nm 2 (.int way)) hgi) fun v3 H3 x3 r3 => ?_)
    cases r3
    have ha3 := x3 _ _ ha2
    -- weight
    refine b_cons (cs_set (i := 4) sc_law_weights.nd rfl (.inl rfl) (ce_ix (ce_lst (ca_cons (ce_pd alive0 pd_int fun v4 H4 x4 r4 => ca_cons (ce_sub (ce_call cd hr (by decide) rfl (ca_cons (ce_name (i := 0) rfl (.inl rfl) rfl (ca_cons (ce_pd alive0 pd_int fun v5 H5 x5 r5 => ca_nil ⟨a, _, r2, c, k2, by cases r5; rfl, x5 _ _ (x4 _ _ ha3), by decide, by decide +kernel, fun u r6 k6 H6 u0 u1 e6 ha6 => ?_⟩)))))))))))
    refine ce_pd alive0 pd_int fun v7 H7 x7 r7 => ?_
    cases r7
    refine ⟨u, 30, rfl, rfl, ?_⟩
    refine ca_cons (ce_pd alive0 (pd_sub (pd_neg (pd_pow pd_int pd_int ⟨by decide, by decide, by decide⟩)) pd_int) fun v8 H8 x8 r8 => ca_cons (ce_pd alive0 (pd_sub (pd_pow pd_int pd_int ⟨by decide, by decide, by decide⟩) (pd_mul pd_int (nm 1 (.int (n : Int))) (.inl ⟨by decide, by omega⟩))) fun v9 H9 x9 r9 => ca_nil ⟨(by show 4 ≤ 1000; decide), fun p10 hp10 => ?_⟩))
    cases r4
    cases r8
    cases r9
    have ha9 : H9 a = some (potL r6 c k6) := x9 _ _ (x8 _ _ (x7 _ _ ha6))
    obtain ⟨s0, hs⟩ : ∃ s0, (starts u n)[way.toNat]? = some s0 := ⟨_, List.getElem?_eq_getElem (by show way.toNat < 4; omega)⟩
    have hsi := ixD_ints hs
    rw [show ((way.toNat : Nat) : Int) = way by omega] at hsi
    obtain ⟨g0, g1, s1, s2⟩ := ways hg hs ⟨u0, u1⟩ ⟨by omega, by omega⟩
    refine ce_name (i := 2) rfl (.inl rfl) rfl (rIx_of (M := M0) (da := intsD (starts u n)) (d := .int s0) (.lst (fun z => z) (.inl upd_same) (.ints (starts u n))) hsi fun v10 r10 => ?_)
    cases r10
    generalize hH10 : upd H9 p10 _ = H10
    have x10 : Evl.Ex H9 H10 := hH10 ▸ Evl.Ex.new hp10
    have ha10 := x10 _ _ ha9
    have e10 : ExB a H H10 := (((((((ExB.of x1).trans e2).trans (.of x3)).trans (.of x4)).trans (.of x5)).trans e6).trans (.of ((x7.trans x8).trans (x9.trans x10))))
    -- weights = []
    refine b_cons (cs_set (i := 5) sc_law_weights.nd rfl (.inl rfl) (ce_fd alive0 (fd_lst ad_nil (by simp)) fun p ws H11 hp x11 h11 rw11 => ?_))
    obtain ⟨⟩ := rw11
    have ha11 := x11 _ _ ha10
    have nap : a ≠ p := fun e => by
      rw [← e, ha10] at hp
      cases hp
    have al11 : Alive (S2 a p) H11 := fun x h => h.elim (fun e => ⟨_, e ▸ ha11⟩) fun e => ⟨_, e ▸ h11⟩
    refine b_cons (s_forR (n := n) (slot := 6) PassesOwn.never rfl sc_law_weights.nd rfl (.inl rfl) rfl nb.range (nm 1 (.int (n : Int))) (by omega) al11
      (fun Hs i σ' H' => ∃ (ns : List Int) (wc r' k' : Int) (xk : Option V), σ' = [some (.ref a), some (.int n), some (.int way), some (.int g), some (.int wc), some (.ref p), xk] ∧ ExS (S2 a p) Hs H' ∧ H' a = some (potL r' c k') ∧ H' p = some (.lst (ns.map V.int)) ∧ ns.length = i ∧ s0 + i ≤ wc ∧ wc ≤ s0 + i * g ∧ ∀ z ∈ ns, s0 + 1 ≤ z ∧ z ≤ s0 + i * g) ?_ ?_ ?_ ?_)
    · exact fun Hs xs => ⟨[], s0, r6, k6, none, rfl, fun a o _ h => h, xs _ _ ha11, xs _ _ h11, rfl, by omega, by omega, fun z h => absurd h List.not_mem_nil⟩
    · rintro Hs i σ' H' xs ⟨ns, wc, r', k', xk, rfl, e, h1, h2, _⟩
      exact ⟨e.exM, fun x h => h.elim (fun e => ⟨_, e ▸ h1⟩) fun e => ⟨_, e ▸ h2⟩⟩
    · rintro Hs i σ' H' H12 xs hi ⟨ns, wc, r', k', xk, rfl, e, h1, h2, hlen, b1, b2, hall⟩ x12
      refine b_cons (cs_set (i := 4) sc_law_weights.nd rfl (.inl rfl) (ce_add (ce_pd alive0 (pd_add (nm 4 (.int wc)) pd_int) fun v13 H13 x13 r13 => ce_call cd hr (by decide) rfl (ca_cons (ce_name (i := 0) rfl (.inl rfl) rfl (ca_cons (ce_name (i := 3) rfl (.inl rfl) rfl (ca_nil ⟨a, g, r', c, k', rfl, x13 _ _ (x12 _ _ h1), g0, ?_, fun z r14 k14 H14 z0 z1 e14 ha14 => ?_⟩))))))))
      · exact Nat.lt_of_le_of_lt (m := 40000000000) (by omega) (by decide +kernel)
      cases r13
      refine ⟨_, _, rfl, rfl, ?_⟩
      have hp14 : H14 p = some (.lst (ns.map V.int)) := e14 _ _ (Ne.symm nap) (x13 _ _ (x12 _ _ h2))
      refine b_cons (cs_expr (ce_append (ce_name (i := 5) rfl (.inl rfl) rfl ⟨p, _, rfl, hp14, ce_name (i := 4) rfl (.inl rfl) rfl ⟨_, hp14, by rw [List.length_map]; omega, b_nil ?_⟩⟩)))
      have eg : ((i + 1 : Nat) : Int) * g = (i : Int) * g + g := by
        rw [Int.natCast_add, Int.add_mul]
        show _ + (1 : Int) * g = _
        rw [Int.one_mul]
      refine ⟨ns ++ [wc + 1 + z], wc + 1 + z, r14, k14, _, rfl, ?_, ?_, ?_, ?_, ?_, ?_, fun y hy => ?_⟩
      · exact ((e.trans (.of (x12.trans x13))).trans (ExS.mono (S := fun x => x = a) (fun x o n h => e14 x o n h) fun x e => .inl e)).trans (.upd (.inr rfl))
      · rw [upd_ne nap]
        exact ha14
      · rw [upd_same, List.map_append]
        rfl
      · rw [List.length_append, hlen]
        rfl
      · omega
      · rw [eg]
        omega
      · rw [eg]
        rcases List.mem_append.mp hy with hy | hy
        · have := hall y hy
          omega
        · rw [List.mem_singleton.mp hy]
          omega
    · rintro Hs σ' H' xs ⟨ns, wc, r', k', xk, rfl, e, h1, h2, hlen, b1, b2, hall⟩
      refine b_cons (cs_ret (ce_name (i := 5) rfl (.inl rfl) rfl (q p ns r' k' H' ?_ ?_ h1 h2 (fun e => ?_) (by omega) fun z hz => ?_)))
      · cases hh : H p with
        | none => rfl
        | some o =>
          rw [e10 _ _ (Ne.symm nap) hh] at hp
          cases hp
      · intro x o n h
        refine e x o (fun z => z.elim n fun e => ?_) (xs _ _ (x11 _ _ (e10 x o n h)))
        rw [e] at h
        rw [e10 _ _ (Ne.symm nap) h] at hp
        cases hp
      · rw [e] at hlen
        simp at hlen
        omega
      · have := hall z hz
        exact ⟨by omega, by omega⟩
end
end CK

namespace CK
open PySem PySem.Spec PyProof.Rows L2 GV
/-- the pot, which may change -/
abbrev Ma (a : Addr) : Addr → Prop := fun x => x = a
theorem ExB.exM {a : Addr} {H H' : Hp} (e : ExB a H H') : ExM (Ma a) H H' := fun x o h n _ => e x o n h
theorem ExB.trE {a : Addr} {H H1 H2 : Hp} (e : ExB a H H1) (x : Evl.Ex H1 H2) : ExB a H H2 := e.trans (.of x)
theorem al_pot {a : Addr} {H : Hp} {r c k : Int} (h : H a = some (potL r c k)) : Alive (Ma a) H := fun x e => ⟨_, e ▸ h⟩
theorem fresh_backB {a p : Addr} {H H' : Hp} {o : HO} (e : ExB a H H') (ha : H a = some o) (ha' : ∃ o', H' a = some o') (hp : H' p = none) : H p = none := by
  cases hh : H p with
  | none => rfl
  | some u =>
    by_cases h : p = a
    · subst h
      obtain ⟨o', h'⟩ := ha'
      rw [hp] at h'
      cases h'
    · rw [e p u h hh] at hp
      cases hp
theorem exB_of_S2 {a p : Addr} {H H1 H' : Hp} (e : ExS (S2 a p) H1 H') (x : ExB a H H1) (hp : H p = none) : ExB a H H' := fun y o n h => e y o (fun z => z.elim n fun e' => by
  rw [e', hp] at h
  cases h) (x y o n h)
section
variable {P : Program} {w : World} {K : PySem.W.Frag} {mg : Str → Option Value} {base : Heap}
/-- a draw, as a step -/
theorem ce_draw {X : Cx} {σ : St} {H : Hp} {a : Addr} {r c k : Int} {e1 e2 : Expr} {p pos : Pos} {Q : VK} {j : Nat} {n : Int} (cd : Cl X.prog X.w X.K X.mg X.base CX0 1 "_law_draw" spDraw) (hr : Room j X.A) (hj : 1 ≤ j) (hg : Gl X "_law_draw")
    (he : ∀ H1 (Q : VK), Q (.ref a) H1 → wE X e1 σ H1 Q) (hn : PD X (Ma a) e2 σ H (.int n)) (ha : H a = some (potL r c k)) (h0 : 0 < n) (h1 : n.natAbs < 2 ^ 8000)
    (q : ∀ z r' k' H', 0 ≤ z → z < n → ExB a H H' → H' a = some (potL r' c k') → Q (.int z) H')
    (hs : starEach (e1 :: [e2]) X.env = (false, eval e1 X.env) :: starEach [e2] X.env := by rfl) (hs2 : starEach (e2 :: []) X.env = (false, eval e2 X.env) :: starEach [] X.env := by rfl) (hpl : (backTo pos (starEach [e2] X.env)).any (·.1) = false := by rfl) : wE X (.Call (.Name "_law_draw" p) [e1, e2] [] pos) σ H Q := by
  refine ce_call cd hr hj hg (ca_cons (he _ _ (ca_cons (ce_pd (al_pot ha) hn fun v H2 x2 r2 => ?_) hs2)) hs) (by decide) hs hpl
  cases r2
  exact ca_nil ⟨a, n, r, c, k, rfl, x2 _ _ ha, h0, h1, fun z r' k' H' z0 z1 e h => q z r' k' H' z0 z1 ((ExB.of x2).trans e) h⟩
theorem n8000 {n : Int} (h0 : 0 ≤ n) (h : n ≤ 1000000) : n.natAbs < 2 ^ 8000 := Nat.lt_of_le_of_lt (m := 1000000) (by omega) (by decide +kernel)
/-! ### a bag row -/
def spBagRow : Sp := fun vs H Q _ => ∃ (a : Addr) (most r c k : Int), vs = [.ref a, .int most] ∧ H a = some (potL r c k) ∧ 0 ≤ most ∧ most ≤ 40 ∧
  ∀ p (ns : List Int) r' k' H', H p = none → ExB a H H' → H' a = some (potL r' c k') → H' p = some (.lst (ns.map V.int)) → ns.length ≤ 40 → (∀ z ∈ ns, okW z) → Q (.ref p) H'
theorem cl_law_bag {f : Addr} {fd : FuncData} (F : At K mg "_law_bag" s_law_bag f fd) (nb : NoB mg) (cd : Cl P w K mg base CX0 1 "_law_draw" spDraw) (cw : Cl P w K mg base CX0 2 "_law_weights" spWeights) : Cl P w K mg base CX0 3 "_law_bag" spBagRow := by
  refine ⟨f, fd, _, F.fn.ok sc_law_bag (fun vs H Q E h => ?_) (fun cdv A outer sh H vs Q E hr h => ⟨_, wB.ps, ?_⟩), F.gl, F.fn.kp, F.fn.binds fun _ _ _ _ _ _ us hl => match us, hl with | [_, _], _ => rfl⟩
  · obtain ⟨a, n, r, c, k, rfl, _⟩ := h
    rfl
  · obtain ⟨a, most, r, c, k, rfl, ha, m0, m40, q⟩ := h
    refine b_cons (cs_set (i := 2) sc_law_bag.nd rfl (.inl rfl) (ce_draw cd hr (by decide) rfl (fun H1 Q hq => ce_nm 0 hq) (pd_add (nm 1 (.int most)) pd_int) ha (by omega) (n8000 (by omega) (by omega)) fun size r1 k1 H1 s0 s1 e1 ha1 => ?_))
    obtain ⟨n, rfl⟩ : ∃ n : Nat, size = (n : Int) := ⟨size.toNat, by omega⟩
    have hn : n ≤ 40 := by omega
    -- what both ways make
    have fin : ∀ (D : Addr) (H2 : Hp) r2 k2, ExB a H H2 → H2 a = some (potL r2 c k2) → H2 D = none → ∀ H', (∃ (ns : List Int) (r' k' : Int), ExS (S2 a D) (upd H2 D (.lst [])) H' ∧ H' a = some (potL r' c k') ∧ H' D = some (.lst (ns.map V.int)) ∧ ns.length = n ∧ ∀ z ∈ ns, okW z) → Q (.ref D) H' := by
      rintro D H2 r2 k2 e2 ha2 hD H' ⟨ns, r', k', e, h1, h2, hl, hw⟩
      refine q D ns r' k' H' (fresh_backB e2 ha ⟨_, ha2⟩ hD) ?_ h1 h2 (by omega) hw
      exact exB_of_S2 e (e2.trE (Evl.Ex.new hD)) (fresh_backB e2 ha ⟨_, ha2⟩ hD)
    -- a turn of both
    have turn : ∀ (D : Addr) (H2 : Hp) (i : Nat) (r' k' : Int) (ns : List Int) (H' H4 : Hp) (z r4 k4 : Int), ExS (S2 a D) (upd H2 D (.lst [])) H' → H' D = some (.lst (ns.map V.int)) → ns.length = i → i < n → (∀ z ∈ ns, okW z) → ExB a H' H4 → H4 a = some (potL r4 c k4) → a ≠ D → okW z →
        ∃ acc, H4 D = some (.lst acc) ∧ acc.length < 100000 ∧ ∃ (ns2 : List Int) (r5 k5 : Int), ExS (S2 a D) (upd H2 D (.lst [])) (upd H4 D (.lst (acc ++ [.int z]))) ∧ (upd H4 D (.lst (acc ++ [.int z]))) a = some (potL r5 c k5) ∧ (upd H4 D (.lst (acc ++ [.int z]))) D = some (.lst (ns2.map V.int)) ∧ ns2.length = i + 1 ∧ ∀ z ∈ ns2, okW z := by
      intro D H2 i r' k' ns H' H4 z r4 k4 e h2 hl hi hw e4 ha4 nad hz
      refine ⟨ns.map V.int, e4 _ _ (Ne.symm nad) h2, by rw [List.length_map]; omega, ns ++ [z], r4, k4, ?_, ?_, ?_, ?_, ?_⟩
      · exact (e.trans (ExS.mono (S := fun x => x = a) (fun x o n h => e4 x o n h) fun x e => .inl e)).trans (.upd (.inr rfl))
      · rw [upd_ne nad]
        exact ha4
      · rw [upd_same, List.map_append]
        rfl
      · rw [List.length_append, hl]
        rfl
      · intro y hy
        rcases List.mem_append.mp hy with hy | hy
        · exact hw y hy
        · rw [List.mem_singleton.mp hy]
          exact hz
    refine b_cons (cs_if (ct_eq hr.units (ce_draw cd hr (by decide) rfl (fun H1 Q hq => ce_nm 0 hq) pd_int ha1 (by decide) (by decide +kernel) fun z r2 k2 H2 z0 z1 e2 ha2 => ?_)))
    refine ce_pd alive0 pd_int fun y H3 x3 r3 => ⟨.int z, _, .int z, r3.dp, rfl, rfl, ?_⟩
    have ha3 := x3 _ _ ha2
    have e13 : ExB a H H3 := (e1.trans e2).trE x3
    split
    · refine b_cons (cs_ret (ce_lcR (slot := 4) (own := [("k", 4)]) rfl sc_law_bag.nd rfl nb.range (blkOk_by (N := n_law_bag) (sc := defScope s_law_bag) (by decide +kernel)) (fun _ _ _ _ _ => pg_name (i := 4) sc_law_bag.nd rfl (.inl rfl)) (fun v => rfl) (ce_nm 2 ⟨n, rfl, by omega, fun D hD => ?_⟩)))
      have nad : a ≠ D := fun e => by
        rw [← e, ha3] at hD
        cases hD
      refine ⟨fun i H' => ∃ (ns : List Int) (r' k' : Int), ExS (S2 a D) (upd H3 D (.lst [])) H' ∧ H' a = some (potL r' c k') ∧ H' D = some (.lst (ns.map V.int)) ∧ ns.length = i ∧ ∀ z ∈ ns, okW z, ⟨[], r2, k2, fun x o _ h => h, by rw [upd_ne nad]; exact ha3, upd_same, rfl, fun z h => absurd h List.not_mem_nil⟩, ?_, fin D H3 r2 k2 e13 ha3 hD⟩
      rintro i H' hi ⟨ns, r', k', e, h1, h2, hl, hw⟩ s0 H0 C cl fp
      refine ce_sub (ce_draw cd hr (by decide) rfl (fun H1 Q hq => ce_nm 0 hq) (pd_add (pd_mul pd_int (pd_pow pd_int pd_int ⟨by decide, by decide, by decide⟩) (.inl ⟨by decide, by decide⟩)) pd_int) h1 (by decide) (by decide +kernel) fun z4 r4 k4 H4 z40 z41 e4 ha4 => ce_pd alive0 (pd_pow pd_int pd_int ⟨by decide, by decide, by decide⟩) fun y H5 x5 r5 => ?_)
      cases r5
      refine ⟨_, _, rfl, rfl, turn D H3 i r' k' ns H' H5 (z4 - 10 ^ Int.toNat 12) r4 k4 e h2 hl hi hw (e4.trE x5) (x5 _ _ ha4) nad ?_⟩
      have : z4 < 2 * 1000000000000 + 1 := z41
      exact ⟨by show -1000000000000 ≤ z4 - 1000000000000; omega, by show z4 - 1000000000000 ≤ 1000000000000; omega⟩
    · refine b_nil (b_cons (cs_set (i := 3) sc_law_bag.nd rfl (by first | exact .inl rfl | exact .inr rfl) (ce_call cw hr (by decide) rfl (ca_cons (ce_nm 0 (ca_cons (ce_add (ce_pd alive0 pd_int fun y5 H5 x5 r5 => ce_draw cd hr (by decide) rfl (fun H1 Q hq => ce_nm 0 hq) (pd_add (nm 2 (.int (n : Int))) pd_int) (x5 _ _ ha3) (by omega) (n8000 (by omega) (by omega)) fun z6 r6 k6 H6 z60 z61 e6 ha6 => ?_))))))))
      cases r5
      refine ⟨1, z6, rfl, rfl, ca_nil ⟨a, (1 + z6).toNat, r6, c, k6, by rw [show (((1 + z6).toNat : Nat) : Int) = 1 + z6 by omega], ha6, by omega, by omega, fun p ws r7 k7 H7 hp e7 ha7 hp7 hne hlen hok => ?_⟩⟩
      have e17 : ExB a H H7 := ((e13.trE x5).trans e6).trans e7
      refine b_cons (cs_ret (ce_lcR (slot := 4) (own := [("k", 4)]) rfl sc_law_bag.nd rfl nb.range (blkOk_by (N := n_law_bag) (sc := defScope s_law_bag) (by decide +kernel)) (fun _ _ _ _ _ => pg_name (i := 4) sc_law_bag.nd rfl (.inl rfl)) (fun v => rfl) (ce_nm 2 ⟨n, rfl, by omega, fun D hD => ?_⟩)))
      have nad : a ≠ D := fun e => by
        rw [← e, ha7] at hD
        cases hD
      have npD : p ≠ D := fun e => by
        rw [← e, hp7] at hD
        cases hD
      have nap : p ≠ a := fun e => by
        rw [e, ha6] at hp
        cases hp
      refine ⟨fun i H' => ∃ (ns : List Int) (r' k' : Int), ExS (S2 a D) (upd H7 D (.lst [])) H' ∧ H' a = some (potL r' c k') ∧ H' D = some (.lst (ns.map V.int)) ∧ ns.length = i ∧ ∀ z ∈ ns, okW z, ⟨[], r7, k7, fun x o _ h => h, by rw [upd_ne nad]; exact ha7, upd_same, rfl, fun z h => absurd h List.not_mem_nil⟩, ?_, fin D H7 r7 k7 e17 ha7 hD⟩
      rintro i H' hi ⟨ns, r', k', e, h1, h2, hl, hw⟩ s0 H0 C cl fp
      have hpH : H' p = some (.lst (ws.map V.int)) := e _ _ (fun z => z.elim nap npD) (by rw [upd_ne npD]; exact hp7)
      have rl : Rp K (Ma a) H' (.ref p) (intsD ws) := .lst nap (.inl hpH) (.ints ws)
      have pos : 0 < ws.length := List.length_pos_iff.mpr hne
      refine ce_ix (ce_nm 3 (ce_draw cd hr (by decide) rfl (fun H1 Q hq => ce_nm 0 hq) (pd_len nb rfl (nm 3 rl) (n := ws.length) (by simp [lenD])) h1 (by omega) (n8000 (by omega) (by omega)) fun z8 r8 k8 H8 z80 z81 e8 ha8 => ?_))
      obtain ⟨u, hu⟩ : ∃ u, ws[z8.toNat]? = some u := ⟨_, List.getElem?_eq_getElem (by omega)⟩
      refine rIx_of (M := M0) (da := intsD ws) (d := .int u) (.lst (fun z => z) (.inl (e8 _ _ nap hpH)) (.ints ws)) ?_ fun v9 r9 => ?_
      · have := ixD_ints hu
        rwa [show ((z8.toNat : Nat) : Int) = z8 by omega] at this
      · cases r9
        exact turn D H7 i r' k' ns H' H8 u r8 k8 e h2 hl hi hw e8 ha8 nad (hok u (List.mem_of_getElem? hu))
end
end CK

namespace CK
open PySem PySem.Spec PyProof.Rows L2 GV
theorem ins_mem {α : Type} (l : List α) (k : Nat) (x y : α) : y ∈ l.take k ++ [x] ++ l.drop k ↔ y = x ∨ y ∈ l := by
  rw [List.mem_append, List.mem_append, List.mem_singleton]
  constructor
  · rintro ((h | h) | h)
    · exact .inr (List.mem_of_mem_take h)
    · exact .inl h
    · exact .inr (List.mem_of_mem_drop h)
  · rintro (h | h)
    · exact .inl (.inr h)
    · rw [← List.take_append_drop k l] at h
      exact (List.mem_append.mp h).elim (fun h => .inl (.inl h)) .inr
theorem ins_len {α : Type} (l : List α) (k : Nat) (x : α) : (l.take k ++ [x] ++ l.drop k).length = l.length + 1 := by
  rw [List.length_append, List.length_append, List.length_take, List.length_drop, List.length_singleton]
  omega
section
variable {P : Program} {w : World} {K : PySem.W.Frag} {mg : Str → Option Value} {base : Heap}
/-! ### another order -/
def spOrder (K : PySem.W.Frag) : Sp := fun vs H Q _ => ∃ (a l : Addr) (ns : List Int) (r c k : Int), vs = [.ref a, .ref l] ∧ H a = some (potL r c k) ∧ a ≠ l ∧ H l = some (.lst (ns.map V.int)) ∧ ns.length ≤ 40 ∧
  ∀ p (ms : List Int) r' k' H', H p = none → ExB a H H' → H' a = some (potL r' c k') → H' p = some (.lst (ms.map V.int)) → ms.length = ns.length → (∀ z, z ∈ ms ↔ z ∈ ns) → Q (.ref p) H'
theorem cl_law_order {f : Addr} {fd : FuncData} (F : At K mg "_law_order" s_law_order f fd) (nb : NoB mg) (cd : Cl P w K mg base CX0 1 "_law_draw" spDraw) : Cl P w K mg base CX0 3 "_law_order" (spOrder K) := by
  refine ⟨f, fd, _, F.fn.ok sc_law_order (fun vs H Q E h => ?_) (fun cdv A outer sh H vs Q E hr h => ⟨_, wB.ps, ?_⟩), F.gl, F.fn.kp, F.fn.binds fun _ _ _ _ _ _ us hl => match us, hl with | [_, _], _ => rfl⟩
  · obtain ⟨a, l, ns, r, c, k, rfl, _⟩ := h
    rfl
  · obtain ⟨a, l, ns, r, c, k, rfl, ha, nal, hl, hlen, q⟩ := h
    refine b_cons (cs_set (i := 2) sc_law_order.nd rfl (.inl rfl) (ce_fd alive0 (fd_lst ad_nil (by simp)) fun p ws H1 hp x1 h1 rw1 => ?_))
    obtain ⟨⟩ := rw1
    have ha1 := x1 _ _ ha
    have hl1 := x1 _ _ hl
    have nap : a ≠ p := fun e => by
      rw [← e, ha] at hp
      cases hp
    have nlp : l ≠ p := fun e => by
      rw [← e, hl] at hp
      cases hp
    have rl : Rp K (S2 a p) H1 (.ref l) (intsD ns) := .lst (fun z => z.elim (fun e => nal e.symm) nlp) (.inl hl1) (.ints ns)
    have al1 : Alive (S2 a p) H1 := fun x h => h.elim (fun e => ⟨_, e ▸ ha1⟩) fun e => ⟨_, e ▸ h1⟩
    refine b_cons (s_for (t := .one 3) PassesOwn.never rfl (src_list (nm 1 rl)) (pg_name (i := 3) sc_law_order.nd rfl (.inl rfl)) al1
      (fun Hs i σ' H' => ∃ (ms : List Int) (r' k' : Int) (xk : Option V), σ' = [some (.ref a), some (.ref l), some (.ref p), xk] ∧ ExS (S2 a p) Hs H' ∧ H' a = some (potL r' c k') ∧ H' p = some (.lst (ms.map V.int)) ∧ ms.length = i ∧ ∀ z, z ∈ ms ↔ z ∈ ns.take i) ?_ ?_ (fun _ _ => trivial) ?_ ?_)
    · exact fun Hs xs => ⟨[], r, k, none, rfl, fun a o _ h => h, xs _ _ ha1, xs _ _ h1, rfl, fun z => by simp⟩
    · rintro Hs i σ' H' xs ⟨ms, r', k', xk, rfl, e, h1, h2, _⟩
      exact ⟨e.exM, fun x h => h.elim (fun e => ⟨_, e ▸ h1⟩) fun e => ⟨_, e ▸ h2⟩⟩
    · rintro Hs i d σ' H' H2 σ2 xs hd ⟨ms, r', k', xk, rfl, e, h1, h2, hml, hm⟩ x2 ⟨v, rv, rfl⟩
      rw [List.getElem?_map] at hd
      obtain ⟨z, hz, rfl⟩ := Option.map_eq_some_iff.mp hd
      cases rv
      have hi : i < ns.length := (List.getElem?_eq_some_iff.mp hz).1
      have h1' := x2 _ _ h1
      have h2' := x2 _ _ h2
      have rp : Rp K (Ma a) H2 (.ref p) (intsD ms) := .lst (Ne.symm nap) (.inl h2') (.ints ms)
      refine b_cons (cs_expr (ce_insert (ce_nm 2 ⟨p, rfl, ⟨_, h2'⟩, ce_draw cd hr (by decide) rfl (fun H1 Q hq => ce_nm 0 hq) (pd_add (pd_len nb rfl (nm 2 rp) (n := ms.length) (by simp [lenD])) pd_int) h1' (by omega) (n8000 (by omega) (by omega)) fun y r3 k3 H3 y0 y1 e3 ha3 => ce_nm 3 ⟨ms.map V.int, y.toNat, e3 _ _ (Ne.symm nap) h2', by rw [show ((y.toNat : Nat) : Int) = y by omega], by omega, by rw [List.length_map]; omega, b_nil ?_⟩⟩)))
      refine ⟨ms.take y.toNat ++ [z] ++ ms.drop y.toNat, r3, k3, _, rfl, ?_, ?_, ?_, ?_, fun u => ?_⟩
      · exact ((e.trans (.of x2)).trans (ExS.mono (S := fun x => x = a) (fun x o n h => e3 x o n h) fun x e => .inl e)).trans (.upd (.inr rfl))
      · rw [upd_ne nap]
        exact ha3
      · rw [upd_same, List.map_append, List.map_append, List.map_take, List.map_drop]
        rfl
      · rw [ins_len, hml]
      · rw [ins_mem, hm, take_snoc hz, List.mem_append, List.mem_singleton]
        exact or_comm
    · rintro Hs σ' H' xs ⟨ms, r', k', xk, rfl, e, h1, h2, hml, hm⟩
      rw [List.length_map] at hml
      rw [List.length_map, List.take_length] at hm
      exact b_cons (cs_ret (ce_nm 2 (q p ms r' k' H' hp (exB_of_S2 e ((ExB.of x1).trE xs) hp) h1 h2 hml hm)))
/-! ### as a list or a tuple -/
def spGiven (K : PySem.W.Frag) : Sp := fun vs H Q _ => ∃ (a l : Addr) (ns : List Int) (r c k : Int), vs = [.ref a, .ref l] ∧ H a = some (potL r c k) ∧ a ≠ l ∧ H l = some (.lst (ns.map V.int)) ∧ ns.length ≤ 1000 ∧
  ∀ tp v r' k' H', ExB a H H' → H' a = some (potL r' c k') → Rp K (Ma a) H' v (sqD tp (ns.map PyData.int)) → Q v H'
theorem cl_law_given {f : Addr} {fd : FuncData} (F : At K mg "_law_given" s_law_given f fd) (nb : NoB mg) (cd : Cl P w K mg base CX0 1 "_law_draw" spDraw) : Cl P w K mg base CX0 3 "_law_given" (spGiven K) := by
  refine ⟨f, fd, _, F.fn.ok sc_law_given (fun vs H Q E h => ?_) (fun cdv A outer sh H vs Q E hr h => ⟨_, wB.ps, ?_⟩), F.gl, F.fn.kp, F.fn.binds fun _ _ _ _ _ _ us hl => match us, hl with | [_, _], _ => rfl⟩
  · obtain ⟨a, l, ns, r, c, k, rfl, _⟩ := h
    rfl
  · obtain ⟨a, l, ns, r, c, k, rfl, ha, nal, hl, hlen, q⟩ := h
    refine b_cons (cs_if (ct_eq hr.units (ce_draw cd hr (by decide) rfl (fun H1 Q hq => ce_nm 0 hq) pd_int ha (by decide) (by decide +kernel) fun z r2 k2 H2 z0 z1 e2 ha2 => ?_)))
    refine ce_pd alive0 pd_int fun y H3 x3 r3 => ⟨.int z, _, .int z, r3.dp, rfl, rfl, ?_⟩
    have ha3 := x3 _ _ ha2
    have e3 := e2.trE x3
    have rl : Rp K (Ma a) H3 (.ref l) (intsD ns) := .lst (fun e => nal e.symm) (.inl (e3 _ _ (Ne.symm nal) hl)) (.ints ns)
    split
    · exact b_cons (s_ret (al_pot ha3) (pd_tupleOf rfl nb.tuple (nm 1 rl) rfl) fun v H4 x4 rv => q true v r2 k2 H4 (e3.trE x4) (x4 _ _ ha3) rv)
    · exact b_nil (b_cons (s_ret (al_pot ha3) (FD.pd (fd_listOf rfl nb.list (nm 1 rl) rfl)) fun v H4 x4 rv => q false v r2 k2 H4 (e3.trE x4) (x4 _ _ ha3) rv))
/-! ### what is no bag row -/
theorem nw_big {z : Int} (h : 1000000000000 < z ∨ z < -1000000000000) : isWeightD (.int z) = false := by
  show (decide (-mostW ≤ z) && decide (z ≤ mostW)) = false
  unfold mostW
  rw [Bool.and_eq_false_iff, decide_eq_false_iff_not, decide_eq_false_iff_not]
  omega
theorem bag_no {tp : Bool} {ds : List PyData} {d : PyData} (h : d ∈ ds) (hd : isWeightD d = false) : bagB (sqD tp ds) = false := by
  have e : ds.all isWeightD = false := by
    cases hh : ds.all isWeightD with
    | false => rfl
    | true => exact absurd (List.all_eq_true.mp hh d h) (by rw [hd]; exact Bool.false_ne_true)
  cases tp <;> (show (true && decide (ds.length ≤ 40) && ds.all isWeightD) = false; rw [e, Bool.and_false])
theorem bag_long {tp : Bool} {ds : List PyData} (h : 40 < ds.length) : bagB (sqD tp ds) = false := by
  have e : decide (ds.length ≤ 40) = false := decide_eq_false (by omega)
  cases tp <;> (show (true && decide (ds.length ≤ 40) && ds.all isWeightD) = false; rw [e]; rfl)
theorem parts_sq (tp : Bool) (ds : List PyData) : partsD (sqD tp ds) = ds := by cases tp <;> rfl
def spBad (K : PySem.W.Frag) : Sp := fun vs H Q _ => ∃ (a l : Addr) (ns : List Int) (r c k : Int), vs = [.ref a, .ref l] ∧ H a = some (potL r c k) ∧ a ≠ l ∧ H l = some (.lst (ns.map V.int)) ∧ ns.length ≤ 40 ∧
  ∀ v r' k' H', ExB a H H' → H' a = some (potL r' c k') → Arg K (Ma a) H' v false → Q v H'
theorem cl_law_bad_row {f : Addr} {fd : FuncData} (F : At K mg "_law_bad_row" s_law_bad_row f fd) (nb : NoB mg) (cd : Cl P w K mg base CX0 1 "_law_draw" spDraw) : Cl P w K mg base CX0 3 "_law_bad_row" (spBad K) := by
  refine ⟨f, fd, _, F.fn.ok sc_law_bad_row (fun vs H Q E h => ?_) (fun cdv A outer sh H vs Q E hr h => ⟨_, wB.ps, ?_⟩), F.gl, F.fn.kp, F.fn.binds fun _ _ _ _ _ _ us hl => match us, hl with | [_, _], _ => rfl⟩
  · obtain ⟨a, l, ns, r, c, k, rfl, _⟩ := h
    rfl
  · obtain ⟨a, l, ns, r, c, k, rfl, ha, nal, hl, hlen, q⟩ := h
    -- over
    refine b_cons (cs_set (i := 2) sc_law_bad_row.nd rfl (.inl rfl) (ce_add (ce_pd (al_pot ha) (pd_add (pd_pow pd_int pd_int ⟨by decide, by decide, by decide⟩) pd_int) fun v1 H1 x1 r1 => ce_draw cd hr (by decide) rfl (fun H1 Q hq => ce_nm 0 hq) (pd_pow pd_int pd_int ⟨by decide, by decide, by decide⟩) (x1 _ _ ha) (by decide) (by decide +kernel) fun z2 r2 k2 H2 z20 z21 e2 ha2 => ?_)))
    cases r1
    refine ⟨_, _, rfl, rfl, ?_⟩
    generalize hov : (10 ^ Int.toNat 12 + 1 + z2 : Int) = ov
    have ov1 : 1000000000000 < ov := by
      rw [← hov]
      show 1000000000000 < (1000000000000 + 1 + z2 : Int)
      omega
    have e12 : ExB a H H2 := (ExB.of x1).trans e2
    -- odd
    generalize hod : ([.none, .bool true, .bool false, .str "1", .list [.int 1], .tuple [], .int ov, .int (-ov)] : List PyData) = odds
    have hodl : odds.length = 8 := by rw [← hod]; rfl
    have hodn : ∀ d ∈ odds, isWeightD d = false := by
      rw [← hod]
      intro d hd
      simp only [List.mem_cons, List.not_mem_nil, or_false] at hd
      rcases hd with rfl | rfl | rfl | rfl | rfl | rfl | rfl | rfl
      · rfl
      · rfl
      · rfl
      · rfl
      · rfl
      · rfl
      · exact nw_big (.inl ov1)
      · exact nw_big (.inr (by omega))
    refine b_cons (cs_set (i := 3) sc_law_bad_row.nd rfl (.inl rfl) (ce_ix (ce_pd (d := .list odds) (al_pot ha2) (PD.is (FD.pd (fd_lst (ad_cons pd_non (ad_cons pd_bl (ad_cons pd_bl (ad_cons pd_str (ad_cons (FD.pd (fd_lst (ad_cons pd_int ad_nil) (by simp))) (ad_cons (pd_tup ad_nil (by simp)) (ad_cons (nm 2 (.int ov)) (ad_cons (pd_neg (nm 2 (.int ov))) ad_nil)))))))) (by simp))) (by rw [← hod])) fun v3 H3 x3 r3 => ce_draw cd hr (by decide) rfl (fun H1 Q hq => ce_nm 0 hq) pd_int (x3 _ _ ha2) (by decide) (by decide +kernel) fun z4 r4 k4 H4 z40 z41 e4 ha4 => ?_)))
    obtain ⟨dod, hdod⟩ : ∃ d, odds[z4.toNat]? = some d := ⟨_, List.getElem?_eq_getElem (by omega)⟩
    have hdn := hodn dod (List.mem_of_getElem? hdod)
    refine rIx_of (M := Ma a) (da := .list odds) (d := dod) (r3.mono (fun _ z => z) (ExB.exM e4)) (by rw [show z4 = ((z4.toNat : Nat) : Int) by omega]; exact ixD_list hdod) fun vo ro => ?_
    have e14 : ExB a H H4 := (e12.trE x3).trans e4
    have rl4 : Rp K (Ma a) H4 (.ref l) (intsD ns) := .lst (fun e => nal e.symm) (.inl (e14 _ _ (Ne.symm nal) hl)) (.ints ns)
    -- spoilt
    refine b_cons (cs_set (i := 4) sc_law_bad_row.nd rfl (.inl rfl) (ce_fd (al_pot ha4) (fd_listOf rfl nb.list (nm 1 rl4) rfl) fun p ws H5 hp x5 h5 rw5 => ?_))
    have ew := rw5.of_ints
    subst ew
    have ha5 := x5 _ _ ha4
    have nap : a ≠ p := fun e => by
      rw [← e, ha4] at hp
      cases hp
    refine b_cons (cs_expr (ce_insert (ce_nm 4 ⟨p, rfl, ⟨_, h5⟩, ce_draw cd hr (by decide) rfl (fun H1 Q hq => ce_nm 0 hq) (pd_add (pd_len nb rfl (nm 1 (rl4.mono (fun _ z => z) (ExM.of x5))) (n := ns.length) (by simp [lenD])) pd_int) ha5 (by omega) (n8000 (by omega) (by omega)) fun z6 r6 k6 H6 z60 z61 e6 ha6 => ce_nm 3 ⟨ns.map V.int, z6.toNat, e6 _ _ (Ne.symm nap) h5, by rw [show ((z6.toNat : Nat) : Int) = z6 by omega], by omega, by rw [List.length_map]; omega, ?_⟩⟩)))
    generalize hH7 : upd H6 p (.lst ((ns.map V.int).take z6.toNat ++ [vo] ++ (ns.map V.int).drop z6.toNat)) = H7
    have h7 : H7 p = some (.lst ((ns.map V.int).take z6.toNat ++ [vo] ++ (ns.map V.int).drop z6.toNat)) := by rw [← hH7, upd_same]
    have ha7 : H7 a = some (potL r6 c k6) := by
      rw [← hH7, upd_ne nap]
      exact ha6
    have e47 : ExM (fun x => x = a ∨ x = p) H4 H7 := fun x o h n _ => by
      have n1 : x ≠ a := fun e => n (.inl e)
      have n2 : x ≠ p := fun e => n (.inr e)
      rw [← hH7, upd_ne n2]
      exact e6 _ _ n1 (x5 _ _ h)
    have wid : ∀ {v d}, Rp K (Ma a) H4 v d → Rp K (Ma a) H7 v d := fun r => (r.wide (M' := fun x => x = a ∨ x = p) (fun x h => h.elim .inl fun e => .inr (by rw [e]; exact hp))).mono (fun x h => .inl h) e47
    have e17 : ExB a H H7 := fun x o n h => by
      by_cases n2 : x = p
      · rw [n2] at h
        have : H4 p = some o := e14 _ _ (Ne.symm nap) h
        rw [hp] at this
        cases this
      · rw [← hH7, upd_ne n2]
        exact e6 _ _ n (x5 _ _ (e14 _ _ n h))
    generalize hsd : (ns.map PyData.int).take z6.toNat ++ [dod] ++ (ns.map PyData.int).drop z6.toNat = sd at *
    have hsl : sd.length = ns.length + 1 := by rw [← hsd, ins_len, List.length_map]
    have hsm : dod ∈ sd := by
      rw [← hsd, ins_mem]
      exact .inl rfl
    have rs7 : Rp K (Ma a) H7 (.ref p) (sqD false sd) := .lst (Ne.symm nap) (.inl h7) (by
      rw [← hsd, ← List.map_take, ← List.map_drop, ← List.map_take, ← List.map_drop]
      exact ((RpAll.ints _).append (.cons (wid ro) .nil)).append (RpAll.ints _))
    have rl7 : Rp K (Ma a) H7 (.ref l) (intsD ns) := .lst (fun e => nal e.symm) (.inl (e17 _ _ (Ne.symm nal) hl)) (.ints ns)
    -- long
    refine b_cons (cs_set (i := 5) sc_law_bad_row.nd rfl (.inl rfl) (ce_fd (al_pot ha7) (fd_cat (nm 1 rl7) (FD.pd (fd_listRange rfl rfl nb.list rfl nb.range (pd_sub pd_int (pd_len nb rfl (nm 1 rl7) (n := ns.length) (by simp [lenD]))) (by omega) (by omega))) (by simp; omega)) fun pl wl H8 hpl x8 h8 rl8 => ?_))
    generalize hld : (ns.map PyData.int) ++ ((List.range ((41 : Int) - (ns.length : Nat)).toNat).map Int.ofNat).map PyData.int = ld at *
    have hll : ld.length = 41 := by
      rw [← hld]
      simp
      omega
    have ha8 := x8 _ _ ha7
    have npl : pl ≠ a := fun e => by
      rw [e, ha7] at hpl
      cases hpl
    have rL8 : Rp K (Ma a) H8 (.ref pl) (sqD false ld) := .lst npl (.inl h8) rl8
    have rs8 := rs7.mono (fun _ z => z) (ExM.of x8)
    have sB : ∀ tp, bagB (sqD tp sd) = false := fun tp => bag_no hsm hdn
    have lB : ∀ tp, bagB (sqD tp ld) = false := fun tp => bag_long (by omega)
    have ar : ∀ {tp ds v H}, Rp K (Ma a) H v (sqD tp ds) → ds.length ≤ 1000 → bagB (sqD tp ds) = false → Arg K (Ma a) H v false := fun {tp ds v H} r hl hb => .inl ⟨_, r, by rw [parts_sq]; exact hl, hb⟩
    have sc : ∀ {d v H}, Rp K (Ma a) H v d → (partsD d).length = 0 → bagB d = false → Arg K (Ma a) H v false := fun r hl hb => .inl ⟨_, r, by omega, hb⟩
    -- menu
    refine b_cons (cs_set (i := 6) sc_law_bad_row.nd rfl (.inl rfl) (ce_lst (ca_cons (ce_nm 4 (ca_cons (ce_pd (al_pot ha8) (pd_tupleOf rfl nb.tuple (nm 4 rs8) (items_sq false sd)) fun v9 H9 x9 r9 => ca_cons (ce_nm 5 (ca_cons (ce_pd (al_pot (x9 _ _ ha8)) (pd_tupleOf rfl nb.tuple (nm 5 (rL8.mono (fun _ z => z) (ExM.of x9))) (items_sq false ld)) fun v10 H10 x10 r10 => ?_)))))))))
    have ha10 := x10 _ _ (x9 _ _ ha8)
    refine ca_cons (ce_rep (ce_fd (al_pot ha10) (fd_lst (ad_cons (pd_int (i := 3)) ad_nil) (by simp)) fun p11 ws11 H11 hp11 x11 h11 rw11 => ce_pd (al_pot (x11 _ _ ha10)) pd_int fun v12 H12 x12 r12 => ?_))
    obtain ⟨w0, rfl, r0⟩ := rpa1 rw11
    cases r0
    cases r12
    refine ⟨p11, _, 41, rfl, rfl, x12 _ _ h11, by simp, by omega, fun p13 hp13 => ?_⟩
    rw [replicate_flat]
    generalize hH13 : upd H12 p13 (.lst (List.replicate 41 (V.int 3))) = H13
    have x13 : Evl.Ex H12 H13 := hH13 ▸ Evl.Ex.new hp13
    have ha12 := x12 _ _ (x11 _ _ ha10)
    have np13 : p13 ≠ a := fun e => by
      rw [e, ha12] at hp13
      cases hp13
    have r13 : Rp K (Ma a) H13 (.ref p13) (sqD false ((List.replicate 41 (3 : Int)).map PyData.int)) := .lst np13 (.inl (by rw [← hH13, upd_same, List.map_replicate])) (.ints _)
    have ha13 := x13 _ _ ha12
    refine ca_cons (ce_pd (al_pot ha13) pd_non fun v14 H14 x14 r14 => ca_cons (ce_pd (al_pot (x14 _ _ ha13)) (pd_int (i := 7)) fun v15 H15 x15 r15 => ca_cons (ce_pd (al_pot (x15 _ _ (x14 _ _ ha13))) (pd_bl (k := true)) fun v16 H16 x16 r16 => ca_cons (ce_pd (al_pot (x16 _ _ (x15 _ _ (x14 _ _ ha13)))) pd_str fun v17 H17 x17 r17 => ca_cons (ce_pd (al_pot (x17 _ _ (x16 _ _ (x15 _ _ (x14 _ _ ha13))))) pd_str fun v18 H18 x18 r18 => ?_)))))
    have ha18 := x18 _ _ (x17 _ _ (x16 _ _ (x15 _ _ (x14 _ _ ha13))))
    refine ca_cons (ce_dict0 fun p19 hp19 => ca_cons (ce_dict1 fun p20 hp20 => ca_nil ⟨(by show 12 ≤ 1000; decide), fun pm hpm => ?_⟩))
    generalize hH19 : upd H18 p19 (.dK []) = H19 at hp20 hpm ⊢
    have x19 : Evl.Ex H18 H19 := hH19 ▸ Evl.Ex.new hp19
    generalize hH20 : upd H19 p20 _ = H20 at hpm ⊢
    have x20 : Evl.Ex H19 H20 := hH20 ▸ Evl.Ex.new hp20
    generalize hH21 : upd H20 pm _ = H21
    have x21 : Evl.Ex H20 H21 := hH21 ▸ Evl.Ex.new hpm
    have ha19 := x19 _ _ ha18
    have ha21 := x21 _ _ (x20 _ _ ha19)
    have hm21 : H21 pm = some (.lst [.ref p, v9, .ref pl, v10, .ref p13, v14, v15, v16, v17, v18, .ref p19, .ref p20]) := by rw [← hH21, upd_same]
    have xA : Evl.Ex H18 H21 := (x19.trans x20).trans x21
    have xB : Evl.Ex H13 H21 := ((((x14.trans x15).trans x16).trans x17).trans x18).trans xA
    have xC : Evl.Ex H10 H21 := ((x11.trans x12).trans x13).trans xB
    have n19 : p19 ≠ a := fun e => by
      rw [e, ha18] at hp19
      cases hp19
    have n20 : p20 ≠ a := fun e => by
      rw [e, ha19] at hp20
      cases hp20
    have all : ∀ v ∈ ([.ref p, v9, .ref pl, v10, .ref p13, v14, v15, v16, v17, v18, .ref p19, .ref p20] : List V), Arg K (Ma a) H21 v false := by
      intro v hv
      simp only [List.mem_cons, List.not_mem_nil, or_false] at hv
      rcases hv with rfl | rfl | rfl | rfl | rfl | rfl | rfl | rfl | rfl | rfl | rfl | rfl
      · exact ar (tp := false) (rs8.mono (fun _ z => z) (ExM.of ((x9.trans x10).trans xC))) (by omega) (sB _)
      · exact ar (tp := true) (r9.mono (fun _ z => z) (ExM.of (x10.trans xC))) (by omega) (sB _)
      · exact ar (tp := false) (rL8.mono (fun _ z => z) (ExM.of ((x9.trans x10).trans xC))) (by omega) (lB _)
      · exact ar (tp := true) (r10.mono (fun _ z => z) (ExM.of xC)) (by omega) (lB _)
      · exact ar (tp := false) (r13.mono (fun _ z => z) (ExM.of xB)) (by simp) (bag_long (by simp))
      · exact sc (r14.mono (fun _ z => z) (ExM.of ((((x15.trans x16).trans x17).trans x18).trans xA))) rfl rfl
      · exact sc (r15.mono (fun _ z => z) (ExM.of (((x16.trans x17).trans x18).trans xA))) rfl rfl
      · exact sc (r16.mono (fun _ z => z) (ExM.of ((x17.trans x18).trans xA))) rfl rfl
      · exact sc (r17.mono (fun _ z => z) (ExM.of (x18.trans xA))) rfl rfl
      · exact sc (r18.mono (fun _ z => z) (ExM.of xA)) rfl rfl
      · exact .inr ⟨rfl, p19, [], rfl, n19, x21 _ _ (x20 _ _ (by rw [← hH19, upd_same]))⟩
      · exact .inr ⟨rfl, p20, _, rfl, n20, x21 _ _ (by rw [← hH20, upd_same])⟩
    have nm21 : pm ≠ a := fun e => by
      rw [e, x20 _ _ ha19] at hpm
      cases hpm
    refine b_cons (cs_ret (ce_ix (ce_nm 6 (ce_draw cd hr (by decide) rfl (fun H1 Q hq => ce_nm 0 hq) pd_int ha21 (by decide) (by decide +kernel) fun z22 r22 k22 H22 z220 z221 e22 ha22 => ?_))))
    obtain ⟨vv, hvv⟩ : ∃ v, ([.ref p, v9, .ref pl, v10, .ref p13, v14, v15, v16, v17, v18, .ref p19, .ref p20] : List V)[z22.toNat]? = some v := ⟨_, List.getElem?_eq_getElem (by show z22.toNat < 12; omega)⟩
    refine rIx_lst (e22 _ _ nm21 hm21) (v := vv) ?_ ?_
    · rw [show z22 = ((z22.toNat : Nat) : Int) by omega]
      exact atI_nat hvv
    · exact q vv r22 k22 H22 (((e17.trE x8).trE ((x9.trans x10).trans xC)).trans e22) ha22 ((all vv (List.mem_of_getElem? hvv)).mono (fun _ z => z) (ExB.exM e22))
end
end CK

namespace CK
open PySem PySem.Spec PyProof.Rows L2 GV
theorem wideP {M : Addr → Prop} {p : Addr} {H : Hp} (hp : H p = none) : ∀ a, (M a ∨ a = p) → M a ∨ H a = none := fun a h => h.imp id fun e => by rw [e]; exact hp
theorem exM_of_exB {M : Addr → Prop} {p : Addr} {H H' : Hp} (e : ExB p H H') : ExM (fun a => M a ∨ a = p) H H' := fun a o h m _ => e a o (fun z => m (.inr z)) h
theorem getD_of {ns : List Int} {i : Nat} {z : Int} (h : ns[i]? = some z) : ns.getD i 0 = z := by
  rw [List.getD_eq_getElem?_getD, h]
  rfl
def tCond (ns : List Int) (p k : Nat) : Bool := (decide (k < p) && decide (ns.getD k 0 ≤ min (ns.getD p 0) (ns.getD (p + 1) 0))) || (decide (p + 1 < k) && decide (max (ns.getD p 0) (ns.getD (p + 1) 0) ≤ ns.getD k 0))
theorem tamB_eq (ns : List Int) (p : Nat) : tamB ns p = ((ns.getD p 0 != ns.getD (p + 1) 0) && (List.range ns.length).any (tCond ns p)) := rfl
section
variable {P : Program} {w : World} {K : PySem.W.Frag} {mg : Str → Option Value} {base : Heap}
def R_tame (ds : List PyData) (d : PyData) : Prop := ∃ (ns : List Int) (p : Nat), p + 1 < ns.length ∧ ns.length ≤ 1000 ∧ ds = [intsD ns, .int (p : Nat)] ∧ d = .bool (tamB ns p)
theorem cl_law_tame {f : Addr} {fd : FuncData} (F : At K mg "_law_tame" s_law_tame f fd) (nb : NoB mg) : Cl P w K mg base CX0 1 "_law_tame" (PureR K R_tame) := by
  refine cl_pure F sc_law_tame (F.fn.binds fun _ _ _ _ _ _ us hl => match us, hl with | [_, _], _ => rfl) (fun ds d h => ?_) (fun X cdv A outer s H Q E M vs ds d hX hr al r h q => ?_)
  · obtain ⟨ns, p, _, _, rfl, _⟩ := h
    rfl
  · obtain ⟨ns, p, hp, hl, rfl, rfl⟩ := h
    obtain ⟨u, v, rfl, r1, r2⟩ := rpa2 r
    subst hX
    obtain ⟨x, hx⟩ := get_i (ns := ns) (i := p) (by omega)
    obtain ⟨y, hy⟩ := get_i (ns := ns) (i := p + 1) hp
    have ex := getD_of hx
    have ey := getD_of hy
    have i1 : ((p : Nat) : Int) + 1 = ((p + 1 : Nat) : Int) := by omega
    refine b_cons (s_set (i := 2) (d := .int (min x y)) al sc_law_tame.nd rfl (.inl rfl) (pd_min2 rfl nb.min (pd_ix (nm 0 r1) (nm 1 r2) (ixD_ints hx)) (pd_ix (nm 0 r1) (PD.is (pd_add (nm 1 r2) pd_int) (congrArg PyData.int i1)) (ixD_ints hy))) fun v2 H2 x2 rv2 => ?_)
    cases rv2
    have r1a := r1.mono (fun _ z => z) (ExM.of x2)
    have r2a := r2.mono (fun _ z => z) (ExM.of x2)
    refine b_cons (s_set (i := 3) (d := .int (max x y)) (al.mono x2) sc_law_tame.nd rfl (.inl rfl) (pd_max2 rfl nb.max (pd_ix (nm 0 r1a) (nm 1 r2a) (ixD_ints hx)) (pd_ix (nm 0 r1a) (PD.is (pd_add (nm 1 r2a) pd_int) (congrArg PyData.int i1)) (ixD_ints hy))) fun v3 H3 x3 rv3 => ?_)
    cases rv3
    have al3 := (al.mono x2).mono x3
    have r1b := r1a.mono (fun _ z => z) (ExM.of x3)
    have r2b := r2a.mono (fun _ z => z) (ExM.of x3)
    refine b_cons (s_if (k := decide (x = y)) al3 (TD.is (td_eq hr.units (nm 2 (.int (min x y))) (nm 3 (.int (max x y))) rfl rfl) ?_) (fun hk H4 x4 => ?_) (fun hk H4 x4 => ?_))
    · rw [Bool.eq_iff_iff, decide_eq_true_eq]
      simp [PyData.eqv]
      omega
    · have := of_decide_eq_true hk
      refine b_cons (s_ret (al3.mono x4) (PD.is pd_bl ?_) fun v H5 x5 rv => q v H5 (((x2.trans x3).trans x4).trans x5) rv)
      rw [tamB_eq, ex, ey, this]
      simp
    · have hxy : x ≠ y := of_decide_eq_false hk
      have al4 := al3.mono x4
      have r1c := r1b.mono (fun _ z => z) (ExM.of x4)
      have r2c := r2b.mono (fun _ z => z) (ExM.of x4)
      have x04 := (x2.trans x3).trans x4
      have yes : ∀ k, k < ns.length → tCond ns p k = true → tamB ns p = true := fun k hk hc => by
        rw [tamB_eq, Bool.and_eq_true]
        exact ⟨by rw [ex, ey]; simpa using hxy, List.any_eq_true.mpr ⟨k, List.mem_range.mpr hk, hc⟩⟩
      refine b_nil (b_cons (s_forR (n := ns.length) (slot := 4) PassesOwn.never rfl sc_law_tame.nd rfl (.inl rfl) rfl nb.range (pd_len nb rfl (nm 0 r1c) (by simp [lenD])) (by omega) al4 (fun Hs i σ' H' => (∃ xk, σ' = [some u, some v, some (.int (min x y)), some (.int (max x y)), xk]) ∧ Evl.Ex Hs H' ∧ ∀ k, k < i → tCond ns p k = false) ?_ ?_ ?_ ?_))
      · exact fun H1 x1 => ⟨⟨_, rfl⟩, Evl.Ex.refl _, fun k h => absurd h (Nat.not_lt_zero _)⟩
      · rintro H1 i σ' H' x1 ⟨_, ex, _⟩
        exact ⟨.of ex, (al4.mono x1).mono ex⟩
      · rintro H1 i σ' H' H5 x1 hi ⟨⟨xk, rfl⟩, exx, hno⟩ x5
        obtain ⟨z, hz⟩ := get_i hi
        have ez := getD_of hz
        have xx := (x1.trans exx).trans x5
        have al5 := al4.mono xx
        have r1d := r1c.mono (fun _ z => z) (ExM.of xx)
        have r2d := r2c.mono (fun _ z => z) (ExM.of xx)
        refine b_cons (s_if (k := decide (((i : Nat) : Int) < (p : Nat)) && decide (z ≤ min x y)) al5 (WD.td (wd_and (td_lt (nm 4 (.int (i : Nat))) (nm 1 r2d)) fun _ => wd_and1 (td_le (pd_ix (nm 0 r1d) (nm 4 (.int (i : Nat))) (ixD_ints hz)) (nm 2 (.int (min x y)))))) (fun hk H6 x6 => ?_) (fun hk H6 x6 => ?_))
        · refine b_cons (s_ret (al5.mono x6) (PD.is pd_bl ?_) fun v H7 x7 rv => q v H7 (((x04.trans xx).trans x6).trans x7) rv)
          rw [Bool.and_eq_true, decide_eq_true_eq, decide_eq_true_eq] at hk
          rw [yes i hi]
          unfold tCond
          rw [ex, ey, ez, decide_eq_true hk.2, decide_eq_true (by omega : i < p)]
          rfl
        · refine b_nil (b_cons (s_if (k := decide (((p : Nat) : Int) + 1 < (i : Nat)) && decide (max x y ≤ z)) (al5.mono x6) (WD.td (wd_and (td_gt (nm 4 (.int (i : Nat))) (pd_add (nm 1 (r2d.mono (fun _ z => z) (ExM.of x6))) pd_int)) fun _ => wd_and1 (td_ge (pd_ix (nm 0 (r1d.mono (fun _ z => z) (ExM.of x6))) (nm 4 (.int (i : Nat))) (ixD_ints hz)) (nm 3 (.int (max x y)))))) (fun hk2 H7 x7 => ?_) (fun hk2 H7 x7 => ?_)))
          · refine b_cons (s_ret ((al5.mono x6).mono x7) (PD.is pd_bl ?_) fun v H8 x8 rv => q v H8 ((((x04.trans xx).trans x6).trans x7).trans x8) rv)
            rw [Bool.and_eq_true, decide_eq_true_eq, decide_eq_true_eq] at hk2
            rw [yes i hi]
            unfold tCond
            rw [ex, ey, ez, decide_eq_true hk2.2, decide_eq_true (by omega : p + 1 < i), Bool.or_comm]
            rfl
          · refine b_nil (b_nil ⟨⟨_, rfl⟩, ((exx.trans x5).trans x6).trans x7, fun k hk3 => ?_⟩)
            by_cases e : k = i
            · subst e
              unfold tCond
              rw [ex, ey, ez, Bool.or_eq_false_iff]
              refine ⟨?_, ?_⟩
              · rw [← hk]
                congr 1
                rw [Bool.eq_iff_iff, decide_eq_true_eq, decide_eq_true_eq]
                omega
              · rw [← hk2]
                congr 1
                rw [Bool.eq_iff_iff, decide_eq_true_eq, decide_eq_true_eq]
                omega
            · exact hno k (by omega)
      · rintro H1 σ' H' x1 ⟨⟨xk, rfl⟩, exx, hno⟩
        refine b_cons (s_ret (al4.mono (x1.trans exx)) (PD.is pd_bl ?_) fun v H5 x5 rv => q v H5 ((x04.trans (x1.trans exx)).trans x5) rv)
        rw [tamB_eq, show (List.range ns.length).any (tCond ns p) = false from List.any_eq_false.mpr fun k hk => by rw [hno k (List.mem_range.mp hk)]; exact Bool.false_ne_true, Bool.and_false]
/-! ### all tame places -/
def tameL (ns : List Int) : List Nat := (List.range (ns.length - 1)).filter (tamB ns)
def natD (l : List Nat) : List PyData := l.map fun i => .int (i : Nat)
def R_tameL (ds es : List PyData) : Prop := ∃ ns : List Int, ns.length ≤ 1000 ∧ ds = [intsD ns] ∧ es = natD (tameL ns)
theorem cl_law_tame_list {f : Addr} {fd : FuncData} (F : At K mg "_law_tame_list" s_law_tame_list f fd) (nb : NoB mg) (ct : Cl P w K mg base CX0 1 "_law_tame" (PureR K R_tame)) : Cl P w K mg base CX0 2 "_law_tame_list" (FreshR K R_tameL) := by
  refine ⟨f, fd, _, F.fn.ok sc_law_tame_list (fun vs H Q E h => ?_) (fun cdv A outer sh H vs Q E hr h => ⟨_, wB.ps, ?_⟩), F.gl, F.fn.kp, F.fn.binds fun _ _ _ _ _ _ us hl => match us, hl with | [_], _ => rfl⟩
  · obtain ⟨M, ds, es, al, r, ⟨ns, _, rfl, _⟩, _⟩ := h
    rw [r.length]
    rfl
  · obtain ⟨M, ds, es, al, r, ⟨ns, hl, rfl, rfl⟩, q⟩ := h
    obtain ⟨v, rfl, r1⟩ := rpa1 r
    refine b_cons (cs_ret (ce_fd al (fd_filter (t := .one 1) (own := [("place", 1)]) (fun d => match d with | .int i => tamB ns i.toNat | _ => false) id rfl sc_law_tame_list.nd (src_range1 rfl nb.range (pd_sub (pd_len nb rfl (nm 0 r1) (n := ns.length) (by simp [lenD])) pd_int) (by omega) (by omega)) (blkOk_by (N := n_law_tame_list) (sc := defScope s_law_tame_list) (by decide +kernel)) (fun _ _ _ _ _ => pg_name (i := 1) sc_law_tame_list.nd rfl (.inl rfl)) (fun _ _ => trivial) ?_ ?_ ?_) fun p ws H2 hp x2 h2 r2 => q p ws H2 hp x2 h2 ?_))
    · rintro M H d σ' ⟨v, _, rfl⟩
      rfl
    · rw [List.length_map, List.length_range]
      omega
    · rintro s0 H0 C cl fp M' H' d σ' hM lift hd ⟨v', rv, rfl⟩
      obtain ⟨i, hi, rfl⟩ := List.mem_map.mp hd
      have hi := List.mem_range.mp hi
      rw [Int.zero_add] at rv ⊢
      exact ⟨td_val (pd_callC ct hr (by decide) rfl (ad_cons (nm 0 (lift _ _ r1)) (ad_cons (nm 1 rv) ad_nil)) ⟨ns, i, by omega, hl, rfl, rfl⟩), nm 1 rv⟩
    · have e : (((List.range ((ns.length : Int) - 1).toNat).map fun i => PyData.int (0 + (i : Nat))).filter fun d => match d with | .int i => tamB ns i.toNat | _ => false).map id = natD (tameL ns) := by
        rw [List.map_id, List.filter_map]
        unfold natD tameL
        rw [show ((ns.length : Int) - 1).toNat = ns.length - 1 by omega]
        have e1 : ((fun d => match d with | .int i => tamB ns i.toNat | _ => false) ∘ fun i : Nat => PyData.int (0 + (i : Nat))) = tamB ns := by
          funext i
          show tamB ns (0 + (i : Int)).toNat = _
          rw [show (0 + (i : Int)).toNat = i by omega]
        rw [e1]
        exact List.map_congr_left fun i _ => by rw [Int.zero_add]
      rw [e] at r2
      exact r2
/-! ### two neighbours exchanged -/
def R_exch (ds es : List PyData) : Prop := ∃ (ns : List Int) (p : Nat), p + 1 < ns.length ∧ ns.length ≤ 1000 ∧ ds = [intsD ns, .int (p : Nat)] ∧ es = (exch ns p).map PyData.int
theorem cl_law_exchanged {f : Addr} {fd : FuncData} (F : At K mg "_law_exchanged" s_law_exchanged f fd) (nb : NoB mg) : Cl P w K mg base CX0 1 "_law_exchanged" (FreshR K R_exch) := by
  refine ⟨f, fd, _, F.fn.ok sc_law_exchanged (fun vs H Q E h => ?_) (fun cdv A outer sh H vs Q E hr h => ⟨_, wB.ps, ?_⟩), F.gl, F.fn.kp, F.fn.binds fun _ _ _ _ _ _ us hl => match us, hl with | [_, _], _ => rfl⟩
  · obtain ⟨M, ds, es, al, r, ⟨ns, p, _, _, rfl, _⟩, _⟩ := h
    rw [r.length]
    rfl
  · obtain ⟨M, ds, es, al, r, ⟨ns, p, hp, hl, rfl, rfl⟩, q⟩ := h
    obtain ⟨u, v, rfl, r1, r2⟩ := rpa2 r
    cases r2
    obtain ⟨x, hx⟩ := get_i (ns := ns) (i := p) (by omega)
    obtain ⟨y, hy⟩ := get_i (ns := ns) (i := p + 1) hp
    have i1 : ((p : Nat) : Int) + 1 = ((p + 1 : Nat) : Int) := by omega
    refine b_cons (cs_set (i := 2) sc_law_exchanged.nd rfl (.inl rfl) (ce_fd al (fd_listOf rfl nb.list (nm 0 r1) rfl) fun l ws H1 hl1 x1 h1 rw1 => ?_))
    have ew := rw1.of_ints
    subst ew
    let M' : Addr → Prop := fun a => M a ∨ a = l
    have al1 : Alive M' H1 := fun a h => h.elim (al.mono x1 a) fun e => ⟨_, e ▸ h1⟩
    have r1' : Rp K M' H1 u (intsD ns) := (r1.wide (wideP hl1)).mono (fun _ z => z) (.of x1)
    refine b_cons (cs_sub (ce_pd al1 (pd_ix (nm 0 r1') (PD.is (pd_add (nm 1 (.int (p : Nat))) pd_int) (congrArg PyData.int i1)) (ixD_ints hy)) fun v3 H3 x3 r3 => ce_nm 2 (ce_nm 1 ⟨l, _, (p : Nat), p, rfl, rfl, x3 _ _ h1, ?_, ?_⟩)))
    · rw [List.length_map]
      exact Evl.ixN_nat (by omega)
    cases r3
    generalize hH4 : upd H3 l _ = H4
    have h4 : H4 l = some (.lst ((ns.map V.int).set p (.int y))) := by rw [← hH4, upd_same]
    have e34 : ExM M' H3 H4 := fun a o h n _ => by
      rw [← hH4, upd_ne fun e => n (.inr e)]
      exact h
    have r1'' : Rp K M' H4 u (intsD ns) := (r1'.mono (fun _ z => z) (ExM.of x3)).mono (fun _ z => z) e34
    have al4 : Alive M' H4 := fun a h => by
      by_cases e : a = l
      · exact ⟨_, e ▸ h4⟩
      · obtain ⟨o, ho⟩ := al1 a h
        exact ⟨o, by rw [← hH4, upd_ne e]; exact x3 _ _ ho⟩
    refine b_cons (cs_sub (ce_pd al4 (pd_ix (nm 0 r1'') (nm 1 (.int (p : Nat))) (ixD_ints hx)) fun v5 H5 x5 r5 => ce_nm 2 (ce_pd (al4.mono x5) (PD.is (pd_add (nm 1 (.int (p : Nat))) pd_int) (congrArg PyData.int i1)) fun v6 H6 x6 r6 => ?_)))
    cases r5
    cases r6
    refine ⟨l, _, ((p + 1 : Nat) : Int), p + 1, rfl, rfl, x6 _ _ (x5 _ _ h4), ?_, ?_⟩
    · rw [List.length_set, List.length_map]
      exact Evl.ixN_nat (by omega)
    · refine b_cons (cs_ret (ce_nm 2 (q l _ _ hl1 (fun a o h => ?_) upd_same ?_)))
      · have n : a ≠ l := fun e => by
          rw [e, hl1] at h
          cases h
        rw [upd_ne n]
        refine x6 _ _ (x5 _ _ ?_)
        rw [← hH4, upd_ne n]
        exact x3 _ _ (x1 _ _ h)
      · have e : ((ns.map V.int).set p (.int y)).set (p + 1) (.int x) = (exch ns p).map V.int := by
          unfold exch
          rw [getD_of hx, getD_of hy, List.map_set, List.map_set]
        rw [e]
        exact RpAll.ints _
end
end CK

namespace CK
open PySem PySem.Spec PyProof.Rows L2 GV
/-! ### the law's reach -/
theorem fidx_range (w : Int) (ns : List Int) (k : Nat) : ((List.range ns.length).filter fun i => decide (ns.getD i 0 ≤ w)).map (fun i => ((i + k : Nat) : Int)) = fidx w ns k := by
  induction ns generalizing k with
  | nil => rfl
  | cons x t ih =>
    rw [List.length_cons, List.range_succ_eq_map, List.filter_cons, fidx_cons, ← ih (k + 1)]
    have e : ((List.map Nat.succ (List.range t.length)).filter fun i => decide ((x :: t).getD i 0 ≤ w)).map (fun i => ((i + k : Nat) : Int)) = ((List.range t.length).filter fun i => decide (t.getD i 0 ≤ w)).map (fun i => ((i + (k + 1) : Nat) : Int)) := by
      rw [List.filter_map, List.map_map]
      refine List.map_congr_left fun i _ => ?_
      show ((i + 1 + k : Nat) : Int) = ((i + (k + 1) : Nat) : Int)
      omega
    by_cases h : x ≤ w
    · rw [if_pos (by show decide (x ≤ w) = true; exact decide_eq_true h), if_pos h, List.map_cons, e, Nat.zero_add]
    · rw [if_neg (by show ¬ decide (x ≤ w) = true; rw [decide_eq_true_eq]; exact h), if_neg h, e]
def bh (ns : List Int) (w : Int) : List Int := (ns.drop (fm ns w + 1)).filter fun x => decide (w < x)
theorem drop_cons {ns : List Int} {w : Int} (h : w ∈ ns) : ∃ x, x ≤ w ∧ ns.drop (fm ns w) = x :: ns.drop (fm ns w + 1) := by
  have hl := fm_lt h
  refine ⟨ns[fm ns w], ?_, List.drop_eq_getElem_cons hl⟩
  have := List.findIdx_getElem (xs := ns) (p := fun s => decide (s ≤ w)) (w := hl)
  exact of_decide_eq_true this
theorem rch_bh {ns : List Int} {w : Int} (h : w ∈ ns) : rch ns w = if bh ns w = [] then none else some (maxOf (bh ns w)) := by
  obtain ⟨x, hx, e⟩ := drop_cons h
  obtain ⟨m1, m2⟩ := maxOf_mem (drop_fm h)
  have key : ∀ y, y ∈ bh ns w ↔ y ∈ ns.drop (fm ns w) ∧ w < y := fun y => by
    unfold bh
    rw [List.mem_filter, decide_eq_true_eq, e, List.mem_cons]
    constructor
    · rintro ⟨a, b⟩
      exact ⟨.inr a, b⟩
    · rintro ⟨a, b⟩
      exact ⟨a.resolve_left (by omega), b⟩
  unfold rch
  by_cases hb : bh ns w = []
  · rw [if_pos hb, if_neg]
    intro hlt
    have := (key _).mpr ⟨m1, hlt⟩
    rw [hb] at this
    cases this
  · obtain ⟨b1, b2⟩ := maxOf_mem hb
    obtain ⟨c1, c2⟩ := (key _).mp b1
    have h1 : maxOf (bh ns w) ≤ top ns w := m2 _ c1
    have hlt : w < top ns w := by omega
    have h2 : top ns w ≤ maxOf (bh ns w) := b2 _ ((key _).mpr ⟨m1, hlt⟩)
    rw [if_neg hb, if_pos hlt, show top ns w = maxOf (bh ns w) by omega]
theorem intF {f : Int → Bool} (l : List Int) : ((l.map PyData.int).filter fun d => match d with | .int i => f i | _ => false) = (l.filter f).map PyData.int := by
  rw [List.filter_map]
  rfl
theorem eqv_nil {ds : List PyData} : PyData.eqv (.list ds) (.list []) = ds.isEmpty := by
  cases ds <;> simp [PyData.eqv, PyData.eqvAll]
section
variable {P : Program} {w : World} {K : PySem.W.Frag} {mg : Str → Option Value} {base : Heap}
def R_lreach (ds : List PyData) (d : PyData) : Prop := ∃ (ns : List Int) (x : Int), ns.length ≤ 900 ∧ x ∈ ns ∧ ds = [intsD ns, .int x] ∧ d = optD (rch ns x)
theorem cl_law_reach {f : Addr} {fd : FuncData} (F : At K mg "_law_reach" s_law_reach f fd) (nb : NoB mg) : Cl P w K mg base CX0 1 "_law_reach" (PureR K R_lreach) := by
  refine cl_pure F sc_law_reach (F.fn.binds fun _ _ _ _ _ _ us hl => match us, hl with | [_, _], _ => rfl) (fun ds d h => ?_) (fun X cdv A outer s H Q E M vs ds d hX hr al r h q => ?_)
  · obtain ⟨ns, x, _, _, rfl, _⟩ := h
    rfl
  · obtain ⟨ns, x, hl, hx, rfl, rfl⟩ := h
    obtain ⟨u, v, rfl, r1, r2⟩ := rpa2 r
    subst hX
    obtain ⟨f1, f2⟩ := fidx_min 0 hx
    refine b_cons (s_set (i := 2) (d := .int (fm ns x : Nat)) al sc_law_reach.nd rfl (.inl rfl) (pd_min (ns := fidx x ns 0) rfl rfl nb.min (PD.is (FD.pd (fd_filter (t := .one 4) (own := [("k", 4)]) (fun d => match d with | .int i => decide (ns.getD i.toNat 0 ≤ x) | _ => false) id rfl sc_law_reach.nd (src_range1 rfl nb.range (pd_len nb rfl (nm 0 r1) (n := ns.length) (by simp [lenD])) (by omega) (by omega)) (blkOk_by (N := n_law_reach) (sc := defScope s_law_reach) (by decide +kernel)) (fun _ _ _ _ _ => pg_name (i := 4) sc_law_reach.nd rfl (.inl rfl)) (fun _ _ => trivial) ?_ ?_ ?_)) ?_) (by simpa using f1) (by simpa using f2)) fun v3 H3 x3 r3 => ?_)
    · rintro M H d σ' ⟨v, _, rfl⟩
      rfl
    · rw [List.length_map, List.length_range]
      omega
    · rintro s0 H0 C cl fp M' H' d σ' hM lift hd ⟨v', rv, rfl⟩
      obtain ⟨i, hi, rfl⟩ := List.mem_map.mp hd
      have hi := List.mem_range.mp hi
      obtain ⟨z, hz⟩ := get_i (ns := ns) (i := i) (by omega)
      rw [Int.zero_add] at rv ⊢
      refine ⟨TD.is (td_le (pd_ix (nm 0 (lift _ _ r1)) (nm 4 rv) (ixD_ints hz)) (nm 1 (lift _ _ r2))) ?_, nm 4 rv⟩
      show decide (z ≤ x) = decide (ns.getD ((i : Nat) : Int).toNat 0 ≤ x)
      rw [show ((i : Nat) : Int).toNat = i by omega, getD_of hz]
    · rw [List.map_id, List.filter_map]
      refine congrArg PyData.list ?_
      rw [← fidx_range, List.map_map, show ((ns.length : Nat) : Int).toNat = ns.length by omega]
      have e1 : ((fun d => match d with | .int i => decide (ns.getD i.toNat 0 ≤ x) | _ => false) ∘ fun i : Nat => PyData.int (0 + (i : Nat))) = fun i => decide (ns.getD i 0 ≤ x) := by
        funext i
        show decide (ns.getD (0 + (i : Int)).toNat 0 ≤ x) = _
        rw [show (0 + (i : Int)).toNat = i by omega]
      rw [e1]
      exact List.map_congr_left fun i _ => by
        show PyData.int (0 + (i : Nat)) = PyData.int ((i + 0 : Nat) : Int)
        rw [Int.zero_add, Nat.add_zero]
    cases r3
    have al3 := al.mono x3
    have r1' := r1.mono (fun _ z => z) (ExM.of x3)
    have r2' := r2.mono (fun _ z => z) (ExM.of x3)
    have hcut : cutD (ns.map PyData.int) (some (((fm ns x : Nat) : Int) + 1)) none = (ns.drop (fm ns x + 1)).map PyData.int := by
      rw [show ((fm ns x : Nat) : Int) + 1 = ((fm ns x + 1 : Nat) : Int) by omega, cutD_dropI]
    refine b_cons (s_setLc (i := 3) (t := .one 5) (own := [("other", 5)]) rfl sc_law_reach.nd (src_list (FD.pd (fd_slice (nm 0 r1') (od_some (pd_add (nm 2 (.int (fm ns x : Nat))) pd_int)) od_none))) (blkOk_by (N := n_law_reach) (sc := defScope s_law_reach) (by decide +kernel)) (fun _ _ _ _ _ => pg_name (i := 5) sc_law_reach.nd rfl (.inl rfl)) (fun _ _ => trivial) ?_ (fun d => match d with | .int i => decide (x < i) | _ => false) id ?_ ?_ al3 rfl rfl rfl fun l ws H4 hl4 x4 h4 r4 => ?_)
    · rintro M H d σ' ⟨v, _, rfl⟩
      rfl
    · rw [hcut, List.length_map, List.length_drop]
      omega
    · rintro s0 H0 C cl fp M' H'' d σ' hM lift hd ⟨v', rv, rfl⟩
      rw [hcut] at hd
      obtain ⟨z, _, rfl⟩ := List.mem_map.mp hd
      exact ⟨tsd_one (td_gt (nm 5 rv) (nm 1 (lift _ _ r2'))), fun _ => nm 5 rv⟩
    rw [hcut, intF, List.map_id] at r4
    have al4 := al3.mono x4
    have rb : Rp K M H4 (.ref l) (intsD (bh ns x)) := .lst (al3.fresh hl4) (.inl h4) r4
    rw [rch_bh hx] at q
    refine b_cons (s_if (k := (bh ns x).isEmpty) al4 (TD.is (td_eq hr.units (nm 3 rb) (FD.pd (fd_lst ad_nil (by simp))) (shapedI _) rfl) (by rw [eqv_nil]; simp)) (fun k H5 x5 => ?_) (fun k H5 x5 => ?_))
    · refine b_cons (s_ret (al4.mono x5) (PD.is pd_non ?_) fun v6 H6 x6 r6 => q v6 H6 (((x3.trans x4).trans x5).trans x6) r6)
      rw [if_pos (List.isEmpty_iff.mp k)]
      rfl
    · have hne : bh ns x ≠ [] := fun e => by
        rw [e] at k
        cases k
      obtain ⟨m1, m2⟩ := maxOf_mem hne
      refine b_nil (b_cons (s_ret (al4.mono x5) (PD.is (pd_maxS (tp := false) rfl hr.u2 rfl nb.max (nm 3 (rb.mono (fun _ z => z) (ExM.of x5))) m1 m2) ?_) fun v6 H6 x6 r6 => q v6 H6 (((x3.trans x4).trans x5).trans x6) r6))
      rw [if_neg hne]
      rfl
theorem rchs_len (ns : List Int) : (rchs ns).length ≤ ns.length := by
  unfold rchs
  rw [List.length_map]
  exact srt_len ns
theorem rchD_get {ns : List Int} {i : Nat} {x : Int} (h : (srt ns)[i]? = some x) : (rchD ns)[i]? = some (reD (x, rch ns x)) := by
  unfold rchD rchs
  rw [List.getElem?_map, List.getElem?_map, h]
  rfl
def R_isr (ds : List PyData) (d : PyData) : Prop := ∃ ns : List Int, ns.length ≤ 40 ∧ ds = [.list (rchD ns), intsD ns] ∧ d = .bool true
theorem cl_law_is_reach {f : Addr} {fd : FuncData} (F : At K mg "_law_is_reach" s_law_is_reach f fd) (nb : NoB mg) (cn : Cl P w K mg base CX0 1 "_law_is_number" (PureR K R_num)) (cr : Cl P w K mg base CX0 1 "_law_reach" (PureR K R_lreach)) : Cl P w K mg base CX0 2 "_law_is_reach" (PureR K R_isr) := by
  refine cl_pure F sc_law_is_reach (F.fn.binds fun _ _ _ _ _ _ us hl => match us, hl with | [_, _], _ => rfl) (fun ds d h => ?_) (fun X cdv A outer s H Q E M vs ds d hX hr al r h q => ?_)
  · obtain ⟨ns, _, rfl, _⟩ := h
    rfl
  · obtain ⟨ns, hl, rfl, rfl⟩ := h
    obtain ⟨u, v, rfl, r1, r2⟩ := rpa2 r
    subst hX
    have slen := srt_len ns
    have rl : (rchD ns).length = (srt ns).length := by
      unfold rchD rchs
      rw [List.length_map, List.length_map]
    refine b_cons (s_set (i := 2) al sc_law_is_reach.nd rfl (.inl rfl) (FD.pd (fd_sortedSet rfl rfl nb.sorted rfl nb.set (nm 1 r2) (by omega) (up_srt ns) (fun k => mem_srt ns k))) fun v2 H2 x2 rw2 => ?_)
    have al2 := al.mono x2
    have r1a := r1.mono (fun _ z => z) (ExM.of x2)
    have r2a := r2.mono (fun _ z => z) (ExM.of x2)
    refine b_cons (s_if (k := false) al2 ?_ (fun k => by cases k) (fun _ H3 x3 => ?_))
    · refine TD.is (WD.td (wd_or (td_not (td_val (pd_isi rfl nb.isinstance rfl nb.list PyProof.Rows.boot_list (nm 0 r1a) (kit_list _)))) fun _ => wd_or1 (td_ne hr.units (pd_len nb rfl (nm 0 r1a) rfl) (pd_len nb rfl (nm 2 rw2) rfl) rfl rfl))) ?_
      rw [rl]
      simp [PyData.eqv]
    · have al3 := al2.mono x3
      have r1b := r1a.mono (fun _ z => z) (ExM.of x3)
      have r2b := r2a.mono (fun _ z => z) (ExM.of x3)
      have rwb := rw2.mono (fun _ z => z) (ExM.of x3)
      refine b_nil (b_cons (s_forR (n := (srt ns).length) (slot := 3) PassesOwn.never rfl sc_law_is_reach.nd rfl (.inl rfl) rfl nb.range (pd_len nb rfl (nm 2 rwb) (by simp [lenD])) (by omega) al3 (fun Hs i σ' H' => (∃ xk xp xd, σ' = [some u, some v, some v2, xk, xp, xd]) ∧ Evl.Ex Hs H') ?_ ?_ ?_ ?_))
      · exact fun H1 x1 => ⟨⟨_, _, _, rfl⟩, Evl.Ex.refl _⟩
      · rintro H1 i σ' H' x1 ⟨_, ex⟩
        exact ⟨.of ex, (al3.mono x1).mono ex⟩
      · rintro H1 i σ' H' H5 x1 hi ⟨⟨xk, xp, xd, rfl⟩, exx⟩ x5
        obtain ⟨x, hx⟩ := get_i hi
        have hxn : x ∈ ns := (mem_srt ns x).mp (List.mem_of_getElem? hx)
        have xx := (x1.trans exx).trans x5
        have al5 := al3.mono xx
        have r1c := r1b.mono (fun _ z => z) (ExM.of xx)
        have r2c := r2b.mono (fun _ z => z) (ExM.of xx)
        have rwc := rwb.mono (fun _ z => z) (ExM.of xx)
        refine b_cons (s_set (i := 4) al5 sc_law_is_reach.nd rfl (.inl rfl) (pd_ix (nm 0 r1c) (nm 3 (.int (i : Nat))) (ixD_list (rchD_get hx))) fun v6 H6 x6 r6 => ?_)
        have al6 := al5.mono x6
        have r2d := r2c.mono (fun _ z => z) (ExM.of x6)
        have rwd := rwc.mono (fun _ z => z) (ExM.of x6)
        refine b_cons (s_if (k := false) al6 (TD.is (WD.td (wd_or (td_not (k := true) (td_val (pd_isi rfl nb.isinstance rfl nb.tuple PyProof.Rows.boot_tuple (nm 4 r6) (kit_tup _)))) fun _ => wd_or (k1 := false) (TD.is (td_ne hr.units (pd_len nb rfl (nm 4 r6) rfl) pd_int rfl rfl) (by simp [PyData.eqv])) fun _ => wd_or1 (td_not (k := true) (td_val (pd_callC cn hr (by decide) rfl (ad_cons (pd_ix (nm 4 r6) pd_int rfl) (ad_cons (pd_ix (nm 2 rwd) (nm 3 (.int (i : Nat))) (ixD_ints hx)) ad_nil)) ⟨x, rfl, rfl⟩))))) rfl) (fun k => by cases k) (fun _ H7 x7 => ?_))
        have al7 := al6.mono x7
        have r2e := r2d.mono (fun _ z => z) (ExM.of x7)
        have rwe := rwd.mono (fun _ z => z) (ExM.of x7)
        have r6e := r6.mono (fun _ z => z) (ExM.of x7)
        refine b_nil (b_cons (s_set (i := 5) al7 sc_law_is_reach.nd rfl (.inl rfl) (pd_callC cr hr (by decide) rfl (ad_cons (nm 1 r2e) (ad_cons (pd_ix (nm 2 rwe) (nm 3 (.int (i : Nat))) (ixD_ints hx)) ad_nil)) ⟨ns, x, by omega, hxn, rfl, rfl⟩) fun v8 H8 x8 r8 => ?_))
        have al8 := al7.mono x8
        have r6f := r6e.mono (fun _ z => z) (ExM.of x8)
        have x58 := ((x6.trans x7).trans x8)
        have go : ∀ H', Evl.Ex H8 H' → (∃ xk xp xd, [some u, some v, some v2, some (.int (i : Nat)), some v6, some v8] = [some u, some v, some v2, xk, xp, xd]) ∧ Evl.Ex H1 H' := fun H' x => ⟨⟨_, _, _, rfl⟩, ((exx.trans x5).trans x58).trans x⟩
        generalize hro : rch ns x = ro at r6f r8
        refine b_cons (s_if al8 (td_isN (nm 5 r8)) (fun k H9 x9 => ?_) (fun k H9 x9 => ?_))
        · cases ro with
          | some z => cases k
          | none => exact b_cons (s_if (k := false) (al8.mono x9) (TD.is (td_notN (pd_ix (nm 4 (r6f.mono (fun _ z => z) (ExM.of x9))) pd_int rfl)) rfl) (fun k => by cases k) (fun _ H10 x10 => b_nil (b_nil (b_nil (go _ (x9.trans x10))))))
        · cases ro with
          | none => cases k
          | some z => exact b_cons (s_if (k := false) (al8.mono x9) (td_not (k := true) (td_val (pd_callC cn hr (by decide) rfl (ad_cons (pd_ix (nm 4 (r6f.mono (fun _ z => z) (ExM.of x9))) pd_int rfl) (ad_cons (nm 5 (r8.mono (fun _ z => z) (ExM.of x9))) ad_nil)) ⟨z, rfl, rfl⟩))) (fun k => by cases k) (fun _ H10 x10 => b_nil (b_nil (b_nil (go _ (x9.trans x10))))))
      · rintro H1 σ' H' x1 ⟨⟨xk, xp, xd, rfl⟩, exx⟩
        exact b_cons (s_ret (al3.mono (x1.trans exx)) pd_bl fun v H5 x5 rv => q v H5 (((x2.trans x3).trans (x1.trans exx)).trans x5) rv)
end
end CK

namespace CK
open PySem PySem.Spec PyProof.Rows L2 GV
theorem foStep_len (f : List (Int × Int)) (p : Int × Option Int) : (foStep f p).length ≤ f.length + 1 := by
  unfold foStep
  split
  · omega
  · split
    · rw [List.length_append, List.length_singleton]
      omega
    · omega
theorem fo_len (rs : List (Int × Option Int)) : (rs.foldl foStep []).length ≤ rs.length := by
  refine snoc_ind (P := fun rs => (rs.foldl foStep []).length ≤ rs.length) (Nat.le_refl 0) (fun l x ih => ?_) rs
  rw [List.foldl_append, List.length_append]
  exact Nat.le_trans (foStep_len _ _) (Nat.succ_le_succ ih)
theorem fo_take {rs : List (Int × Option Int)} {i : Nat} {p : Int × Option Int} (h : rs[i]? = some p) : (rs.take (i + 1)).foldl foStep [] = foStep ((rs.take i).foldl foStep []) p := by
  rw [take_snoc h, List.foldl_append]
  rfl
theorem shapedP (l : List (Int × Int)) : SeqAt.shaped (pairsD l) = true := shaped1 fun d hd => by
  obtain ⟨k, _, rfl⟩ := List.mem_map.mp hd
  trivial
section
variable {P : Program} {w : World} {K : PySem.W.Frag} {mg : Str → Option Value} {base : Heap}
def R_lfo (ds es : List PyData) : Prop := ∃ rs : List (Int × Option Int), rs.length ≤ 1000 ∧ ds = [.list (rs.map reD)] ∧ es = (rs.foldl foStep []).map pairD
theorem cl_law_far_of {f : Addr} {fd : FuncData} (F : At K mg "_law_far_of" s_law_far_of f fd) (nb : NoB mg) : Cl P w K mg base CX0 1 "_law_far_of" (FreshR K R_lfo) := by
  refine ⟨f, fd, _, F.fn.ok sc_law_far_of (fun vs H Q E h => ?_) (fun cdv A outer sh H vs Q E hr h => ⟨_, wB.ps, ?_⟩), F.gl, F.fn.kp, F.fn.binds fun _ _ _ _ _ _ us hl => match us, hl with | [_], _ => rfl⟩
  · obtain ⟨M, ds, es, al, r, ⟨rs, _, rfl, _⟩, _⟩ := h
    rw [r.length]
    rfl
  · obtain ⟨M, ds, es, al, r, ⟨rs, hl, rfl, rfl⟩, q⟩ := h
    obtain ⟨v, rfl, r1⟩ := rpa1 r
    refine b_cons (cs_set (i := 1) sc_law_far_of.nd rfl (.inl rfl) (ce_fd al (fd_lst ad_nil (by simp)) fun p ws H1 hp x1 h1 rw1 => ?_))
    obtain ⟨⟩ := rw1
    have r1' : Rp K (fun a => M a ∨ a = p) H1 v (.list (rs.map reD)) := (r1.wide (wideP hp)).mono (fun _ z => z) (.of x1)
    have al1 : Alive (fun a => M a ∨ a = p) H1 := fun a h => h.elim (al.mono x1 a) fun e => ⟨_, e ▸ h1⟩
    refine b_cons (s_for (t := .one 2) PassesOwn.never rfl (src_list (nm 0 r1')) (pg_name (i := 2) sc_law_far_of.nd rfl (.inl rfl)) al1
      (fun Hs i σ' H' => ∃ ws x2, σ' = [some v, some (.ref p), x2] ∧ ExB p Hs H' ∧ H' p = some (.lst ws) ∧ RpAll K (fun a => M a ∨ a = p) H' ws (((rs.take i).foldl foStep []).map pairD)) ?_ ?_ (fun _ _ => trivial) ?_ ?_)
    · intro Hs xs
      exact ⟨[], none, rfl, fun a o _ h => h, xs _ _ h1, .nil⟩
    · rintro Hs i σ' H' xs ⟨ws, x2, rfl, ex, hw, _⟩
      refine ⟨exM_of_exB ex, fun a h => ?_⟩
      rcases h with h | e
      · obtain ⟨o, ho⟩ := (al.mono x1).mono xs a h
        exact ⟨o, ex a o (fun z => (al.fresh hp) (z ▸ h)) ho⟩
      · exact ⟨_, e ▸ hw⟩
    · rintro Hs i d σ' H' H2 σ2 xs hd ⟨ws, x2, rfl, ex, hw, rws⟩ xh ⟨v2, rv2, rfl⟩
      rw [List.getElem?_map] at hd
      obtain ⟨pr, hpr, rfl⟩ := Option.map_eq_some_iff.mp hd
      have hw2 := xh _ _ hw
      rw [fo_take hpr]
      have flen := fo_len (rs.take i)
      rw [List.length_take] at flen
      generalize hF : (rs.take i).foldl foStep [] = F at rws flen ⊢
      have rF : Rp K M0 H2 (.ref p) (pairsD F) := .lst (fun z => z) (.inl hw2) (rws.mono (fun _ z => z) (.of xh)).m0
      have rv0 := rv2.m0
      have x02 : ExB p Hs H2 := ex.trans (.of xh)
      obtain ⟨x, o⟩ := pr
      have keep : ∀ H3, Evl.Ex H2 H3 → foStep F (x, o) = F → ∃ ws x2, [some v, some (.ref p), some v2] = [some v, some (.ref p), x2] ∧ ExB p Hs H3 ∧ H3 p = some (.lst ws) ∧ RpAll K (fun a => M a ∨ a = p) H3 ws ((foStep F (x, o)).map pairD) := fun H3 x3 e => ⟨ws, _, rfl, x02.trans (.of x3), x3 _ _ hw2, by rw [e]; exact (rws.mono (fun _ z => z) (.of xh)).mono (fun _ z => z) (.of x3)⟩
      cases o with
      | none => exact b_cons (s_if (k := false) alive0 (WD.td (wd_and (k1 := false) (k2 := true) (TD.is (td_notN (pd_ix (nm 2 rv0) pd_int rfl)) rfl) fun z => by cases z)) (fun k => by cases k) (fun _ H3 x3 => b_nil (b_nil (keep H3 x3 rfl))))
      | some h =>
        have step : foStep F (x, some h) = if F = [] ∨ lastHi F ≠ some h then F ++ [(x, h)] else F := rfl
        refine b_cons (s_if (k := F.isEmpty || !decide (lastHi F = some h)) alive0 (WD.td (wd_and (k1 := true) (TD.is (td_notN (pd_ix (nm 2 rv0) pd_int rfl)) rfl) fun _ => wd_and1 (WD.td (wd_or (TD.is (td_eq hr.units (nm 1 rF) (FD.pd (fd_lst ad_nil (by simp))) (shapedP F) rfl) (by rw [eqv_nil]; simp)) fun hF2 => wd_or1 ?_)))) (fun k H3 x3 => ?_) (fun k H3 x3 => ?_))
        · cases hm : lastHi F with
          | none =>
            rw [lastHi_nil hm] at hF2
            cases hF2
          | some m =>
            obtain ⟨lo, hlo⟩ := ixD_last hm
            refine TD.is (td_ne hr.units (pd_ix (nm 2 rv0) pd_int rfl) (pd_ix (pd_ix (nm 1 rF) (pd_neg pd_int) hlo) pd_int rfl) rfl rfl) ?_
            show (!PyData.eqv (.int h) (.int m)) = !decide (some m = some h)
            congr 1
            rw [Bool.eq_iff_iff, decide_eq_true_eq]
            simp [PyData.eqv]
            exact eq_comm
        · have hc : F = [] ∨ lastHi F ≠ some h := by
            rw [Bool.or_eq_true] at k
            exact k.imp List.isEmpty_iff.mp fun k => by simpa using k
          rw [step, if_pos hc]
          refine b_cons (cs_expr (ce_append (ce_nm 1 ⟨p, ws, rfl, x3 _ _ hw2, ce_nm 2 ⟨ws, x3 _ _ hw2, ?_, b_nil (b_nil ⟨_, _, rfl, (x02.trans (.of x3)).trans .upd, upd_same, ?_⟩)⟩⟩)))
          · rw [rws.length, List.length_map]
            omega
          · have eD : ExM (fun a => M a ∨ a = p) H3 (upd H3 p (.lst (ws ++ [v2]))) := fun a o h nm _ => by
              rw [upd_ne (fun e => nm (.inr e))]
              exact h
            rw [List.map_append]
            exact (((rws.mono (fun _ z => z) (.of xh)).mono (fun _ z => z) (.of x3)).append (.cons (rv2.mono (fun _ z => z) (.of x3)) .nil)).mono (fun _ z => z) eD
        · refine b_nil (b_nil (keep H3 x3 ?_))
          rw [step, if_neg]
          rw [Bool.or_eq_false_iff] at k
          rintro (e | e)
          · rw [e] at k
            exact absurd k.1 (by simp)
          · exact e (by simpa using k.2)
    · rintro Hs σ' H' xs ⟨ws, x2, rfl, ex, hw, rws⟩
      refine b_cons (cs_ret (ce_nm 1 (q p ws H' hp ?_ hw ?_)))
      · exact fun a o h => ex a o (ne_of_none h hp) (xs _ _ (x1 _ _ h))
      · rw [List.length_map, List.take_length] at rws
        exact rws.mono (fun _ z => .inl z) (ExM.refl _)
def R_cov (ds : List PyData) (d : PyData) : Prop := ∃ ns : List Int, ns.length ≤ 40 ∧ ds = [.list (rchD ns), pairsD (farL ns)] ∧ d = .bool true
def withinB (ns : List Int) (x y : Int) : Bool := match rch ns x with
  | none => false
  | some r => decide (y ≤ r)
theorem within_far {ns : List Int} {x y : Int} (hx : x ∈ ns) (h : x < y) : withinB ns x y = !((farL ns).filter fun c => decide (c.1 ≤ x) && decide (y ≤ c.2)).isEmpty := by
  have h1 := rch_le hx h
  have h2 := pr_far (ns := ns) h
  rw [Bool.eq_iff_iff]
  have e1 : withinB ns x y = true ↔ ∃ k, rch ns x = some k ∧ y ≤ k := by
    unfold withinB
    cases hr : rch ns x with
    | none => simp
    | some r => simp
  have e2 : ((!((farL ns).filter fun c => decide (c.1 ≤ x) && decide (y ≤ c.2)).isEmpty) = true) ↔ ∃ c ∈ farL ns, c.1 ≤ x ∧ y ≤ c.2 := by
    constructor
    · intro hh
      cases hl : (farL ns).filter fun c => decide (c.1 ≤ x) && decide (y ≤ c.2) with
      | nil =>
        rw [hl] at hh
        cases hh
      | cons c l =>
        have hc : c ∈ (farL ns).filter fun c => decide (c.1 ≤ x) && decide (y ≤ c.2) := by rw [hl]; exact List.mem_cons_self
        obtain ⟨a, b⟩ := List.mem_filter.mp hc
        rw [Bool.and_eq_true, decide_eq_true_eq, decide_eq_true_eq] at b
        exact ⟨c, a, b⟩
    · rintro ⟨c, a, b1, b2⟩
      have hc : c ∈ (farL ns).filter fun c => decide (c.1 ≤ x) && decide (y ≤ c.2) := List.mem_filter.mpr ⟨a, by rw [Bool.and_eq_true, decide_eq_true_eq, decide_eq_true_eq]; exact ⟨b1, b2⟩⟩
      cases hl : (farL ns).filter fun c => decide (c.1 ≤ x) && decide (y ≤ c.2) with
      | nil =>
        rw [hl] at hc
        cases hc
      | cons c l => rfl
  rw [e1, e2, ← h1, ← h2]
theorem cl_law_covered {f : Addr} {fd : FuncData} (F : At K mg "_law_covered" s_law_covered f fd) (nb : NoB mg) : Cl P w K mg base CX0 1 "_law_covered" (PureR K R_cov) := by
  refine cl_pure F sc_law_covered (F.fn.binds fun _ _ _ _ _ _ us hl => match us, hl with | [_, _], _ => rfl) (fun ds d h => ?_) (fun X cdv A outer s H Q E M vs ds d hX hr al r h q => ?_)
  · obtain ⟨ns, _, rfl, _⟩ := h
    rfl
  · obtain ⟨ns, hl, rfl, rfl⟩ := h
    obtain ⟨u, v, rfl, r1, r2⟩ := rpa2 r
    subst hX
    have slen := srt_len ns
    have flen := farL_len ns
    have rl : (rchD ns).length = (srt ns).length := by
      unfold rchD rchs
      rw [List.length_map, List.length_map]
    refine b_cons (s_setLc (i := 2) (t := .one 3) (own := [("pair", 3)]) rfl sc_law_covered.nd (src_list (nm 0 r1)) (blkOk_by (N := n_law_covered) (sc := defScope s_law_covered) (by decide +kernel)) (fun _ _ _ _ _ => pg_name (i := 3) sc_law_covered.nd rfl (.inl rfl)) (fun _ _ => trivial) ?_ (fun _ => true) fstD ?_ ?_ al rfl rfl rfl fun l ws H1 hl1 x1 h1 rw1 => ?_)
    · rintro M H d σ' ⟨v, _, rfl⟩
      rfl
    · omega
    · rintro s0 H0 C cl fp M' H'' d σ' hM lift hd ⟨v', rv, rfl⟩
      unfold rchD at hd
      obtain ⟨z, _, rfl⟩ := List.mem_map.mp hd
      exact ⟨tsd_nil, fun _ => pd_ix (nm 3 rv) pd_int rfl⟩
    have ew : ((rchD ns).filter fun _ => true).map fstD = (srt ns).map PyData.int := by
      rw [filt_all]
      unfold rchD rchs
      rw [List.map_map, List.map_map]
      rfl
    rw [ew] at rw1
    have al1 := al.mono x1
    have rwt : Rp K M H1 (.ref l) (intsD (srt ns)) := .lst (al.fresh hl1) (.inl h1) rw1
    have r1a := r1.mono (fun _ z => z) (ExM.of x1)
    have r2a := r2.mono (fun _ z => z) (ExM.of x1)
    refine b_cons (s_for (t := .one 3) PassesOwn.never rfl (src_list (nm 0 r1a)) (pg_name (i := 3) sc_law_covered.nd rfl (by first | exact .inl rfl | exact .inr rfl)) al1
      (fun Hs i σ' H' => (∃ xp xh xw, σ' = [some u, some v, some (.ref l), xp, xh, xw, none]) ∧ Evl.Ex Hs H') ?_ ?_ (fun _ _ => trivial) ?_ ?_)
    · exact fun Hs xs => ⟨⟨_, _, _, rfl⟩, Evl.Ex.refl _⟩
    · rintro Hs i σ' H' xs ⟨_, ex⟩
      exact ⟨.of ex, (al1.mono xs).mono ex⟩
    · rintro Hs i d σ' H' H2 σ2 xs hd ⟨⟨xp, xh, xw, rfl⟩, ex⟩ x2 ⟨v3, rv3, rfl⟩
      have xx := (xs.trans ex).trans x2
      have al2 := al1.mono xx
      unfold rchD rchs at hd
      rw [List.map_map, List.getElem?_map] at hd
      obtain ⟨x, hx, rfl⟩ := Option.map_eq_some_iff.mp hd
      have hxn : x ∈ ns := (mem_srt ns x).mp (List.mem_of_getElem? hx)
      have rv3 : Rp K M H2 v3 (reD (x, rch ns x)) := rv3
      have rwb := rwt.mono (fun _ z => z) (ExM.of xx)
      have r2b := r2a.mono (fun _ z => z) (ExM.of xx)
      refine b_cons (s_for (t := .one 4) PassesOwn.never rfl (src_list (nm 2 rwb)) (pg_name (i := 4) sc_law_covered.nd rfl (by first | exact .inl rfl | exact .inr rfl)) al2
        (fun Hs2 j σ' H' => (∃ xh xw, σ' = [some u, some v, some (.ref l), some v3, xh, xw, none]) ∧ Evl.Ex Hs2 H') ?_ ?_ (fun _ _ => trivial) ?_ ?_)
      · exact fun Hs2 xs2 => ⟨⟨_, _, rfl⟩, Evl.Ex.refl _⟩
      · rintro Hs2 j σ' H' xs2 ⟨_, ex2⟩
        exact ⟨.of ex2, (al2.mono xs2).mono ex2⟩
      · rintro Hs2 j d σ' H' H3 σ3 xs2 hd2 ⟨⟨xh2, xw2, rfl⟩, ex2⟩ x3 ⟨v4, rv4, rfl⟩
        rw [List.getElem?_map] at hd2
        obtain ⟨y, hy, rfl⟩ := Option.map_eq_some_iff.mp hd2
        have xy := (xs2.trans ex2).trans x3
        have al3 := al2.mono xy
        have rv3c := rv3.mono (fun _ z => z) (ExM.of xy)
        have r2c := r2b.mono (fun _ z => z) (ExM.of xy)
        refine b_cons (s_if al3 (td_gt (nm 4 rv4) (pd_ix (nm 3 rv3c) pd_int rfl)) (fun hk H4 x4 => ?_) (fun hk H4 x4 => ?_))
        · have hlt : x < y := of_decide_eq_true hk
          have al4 := al3.mono x4
          have rv3d := rv3c.mono (fun _ z => z) (ExM.of x4)
          have r2d := r2c.mono (fun _ z => z) (ExM.of x4)
          have rv4d := rv4.mono (fun _ z => z) (ExM.of x4)
          refine b_cons (s_set (i := 5) (d := .bool (withinB ns x y)) al4 sc_law_covered.nd rfl (by first | exact .inl rfl | exact .inr rfl) ?_ fun v5 H5 x5 r5 => ?_)
          · unfold withinB
            generalize rch ns x = ro at rv3d ⊢
            cases ro with
            | none => exact pd_and (k1 := false) (k2 := true) (PD.is (pd_notN (pd_ix (nm 3 rv3d) pd_int rfl)) rfl) fun z => by cases z
            | some r => exact pd_and (k1 := true) (PD.is (pd_notN (pd_ix (nm 3 rv3d) pd_int rfl)) rfl) fun _ => pd_one (pd_le (nm 4 rv4d) (pd_ix (nm 3 rv3d) pd_int rfl))
          · have al5 := al4.mono x5
            have r2e := r2d.mono (fun _ z => z) (ExM.of x5)
            have rv3e := rv3d.mono (fun _ z => z) (ExM.of x5)
            have rv4e := rv4d.mono (fun _ z => z) (ExM.of x5)
            have ef : (((farL ns).map pairD).filter fun d => decide ((unP d).1 ≤ x) && decide (y ≤ (unP d).2)).map id = ((farL ns).filter fun c => decide (c.1 ≤ x) && decide (y ≤ c.2)).map pairD := by
              rw [List.map_id, List.filter_map]
              rfl
            refine b_cons (s_if (k := false) al5 (TD.is (td_ne hr.units (nm 5 r5) (pd_ne hr.units (PD.is (FD.pd (fd_filter (t := .one 6) (own := [("one", 6)]) (fun d => decide ((unP d).1 ≤ x) && decide (y ≤ (unP d).2)) id rfl sc_law_covered.nd (src_list (nm 1 r2e)) (blkOk_by (N := n_law_covered) (sc := defScope s_law_covered) (by decide +kernel)) (fun _ _ _ _ _ => pg_name (i := 6) sc_law_covered.nd rfl (.inl rfl)) (fun _ _ => trivial) ?_ ?_ ?_)) (congrArg PyData.list ef)) (FD.pd (fd_lst ad_nil (by simp))) (shapedP _) rfl) rfl rfl) ?_) (fun k => by cases k) (fun _ H6 x6 => ?_))
            · rintro M H d σ' ⟨v, _, rfl⟩
              rfl
            · rw [List.length_map]
              omega
            · rintro s0 H0 C cl fp M' H'' d σ' hM lift hd ⟨v', rv, rfl⟩
              obtain ⟨c, _, rfl⟩ := List.mem_map.mp hd
              exact ⟨WD.td (wd_and (td_le (pd_ix (nm 6 rv) pd_int rfl) (pd_ix (nm 3 (lift _ _ rv3e)) pd_int rfl)) fun _ => wd_and1 (td_ge (pd_ix (nm 6 rv) pd_int rfl) (nm 4 (lift _ _ rv4e)))), nm 6 rv⟩
            · rw [eqv_nil, within_far hxn hlt]
              simp [PyData.eqv]
            · exact b_nil (b_nil (b_nil ⟨⟨_, _, rfl⟩, (((ex2.trans x3).trans x4).trans x5).trans x6⟩))
        · exact b_nil (b_nil ⟨⟨_, _, rfl⟩, (ex2.trans x3).trans x4⟩)
      · rintro Hs2 σ' H' xs2 ⟨⟨xh2, xw2, rfl⟩, ex2⟩
        exact b_nil ⟨⟨_, _, _, rfl⟩, ((ex.trans x2).trans xs2).trans ex2⟩
    · rintro Hs σ' H' xs ⟨⟨xp, xh, xw, rfl⟩, ex⟩
      exact b_cons (s_ret (al1.mono (xs.trans ex)) pd_bl fun v H5 x5 rv => q v H5 ((x1.trans (xs.trans ex)).trans x5) rv)
end
end CK

namespace CK
open PySem PySem.Spec PyProof.Rows L2 GV
theorem eqv_int (i j : Int) : PyData.eqv (.int i) (.int j) = decide (i = j) := by
  rw [Bool.eq_iff_iff, decide_eq_true_eq]
  simp [PyData.eqv]
theorem tabs_eqB {a : Addr} {H H' : Hp} {T : List (Addr × Str)} {xs : List V} (t : LamX.Tabs T H) (e : ExB a H H') (h : H a = some (.lst xs)) : LamX.Tabs T H' := GV.Tabs.exS (S := fun x => x = a) t (fun x o n h => e x o n h) fun x e => ⟨_, e ▸ h⟩
theorem exM_ofN {M : Addr → Prop} {H H' : Hp} (e : LamX.ExtN H H') : ExM M H H' := fun a o h _ n => e a o h n
/-! ### what _law_told makes of a call -/
structure Told (K : PySem.W.Frag) (mg : Str → Option Value) (CR : Addr) : Prop where
  gR : mg "InvalidRow" = some (.ref CR)
  ex : PySem.W.exmOne K (.ref CR) (.ref CR) = some true
  xR : XfC K CR
  nR : PySem.W.findIn K (.ref CR) "row" = some none
def NewT (H : Hp) (vs : List V) (Q : VK) : Prop := ∀ p H2, H p = none → Evl.Ex H H2 → H2 p = some (.tup vs) → Q (.ref p) H2
def ToldV (Q : VK) : VK := fun v H1 => NewT H1 [.str "value", v] Q
def ToldX (CR : Addr) (Q : VK) : XK := fun cls d H1 => cls = .ref CR ∧ ∃ dd fs v, d = some dd ∧ H1 dd = some (.xd fs) ∧ fs.lookup ("row" : Str) = some v ∧ NewT H1 [.str "InvalidRow", v] Q
def TTt (CR : Addr) : (XK → Hp → VK → Prop) → Hp → VK → Prop := fun tl H Q => tl (ToldX CR Q) H (ToldV Q)
theorem slot1 {σ : L2.St} {a : Addr} (h : 1 < σ.length) : (σ.set 1 (some (V.ref a)))[1]? = some (some (V.ref a)) := by
  rw [List.getElem?_set_self h]
theorem told_gives {X : Cx} {g CR : Addr} {cdg : Value} {q : Str} (T : Told X.K X.mg CR) : LamX.GivesTo X n_law_told "_law_told" (defScope s_law_told) g cdg (defBody s_law_told) "call" q (TTt CR) := by
  intro f c' s H Q tl hcall hco htt
  refine ⟨_, wB.ps, ?_⟩
  refine b_cons (s_try (Wout := fun _ _ _ _ => False) rfl rfl sc_law_told.nd (fun u s' ⟨_, _, _, _, _, _, _, _, _, _, _, _, _, _, _, _, z⟩ => z.elim)
    (.as_ (i := 1) ⟨rfl, by decide, .inl T.gR⟩ rfl rfl (fun a oe cls d pn hz hd => psW hz hd) .nil)
    fun pn xe tk => ?_)
  refine b_cons (cs_ret (ce_tup (ca_cons (ce_str (ca_cons ⟨_, PE.weak (hcall _ pn xe (ToldX CR Q) _ _ tk fun cls d σ' H' h => ?_), ToldV Q, ⟨rfl, hco, htt⟩, fun v2 H2 hq => ca_nil ⟨(by show 2 ≤ 1000; decide), fun p hp => hq p _ hp (Evl.Ex.new hp) upd_same⟩⟩)))))
  obtain ⟨rfl, dd, fs, v, rfl, hdd, hf, hq⟩ := h
  refine ⟨true, T.ex, fun _ a ha hlt => ?_, fun z => by cases z⟩
  intro oe pn hz hd
  refine b_cons (cs_ret (ce_tup (ca_cons (ce_str (ca_cons (ce_xf T.xR T.nR hz hd (ce_name (i := 1) rfl (.inl rfl) ?_ ⟨rfl, rfl, dd, fs, v, rfl, hdd, hf, ca_nil ⟨(by show 2 ≤ 1000; decide), fun p hp => hq p _ hp (Evl.Ex.new hp) upd_same⟩⟩)))))))
  exact slot1 hlt
/-- a def of the text, with the code object that is its own -/
structure FunC (K : PySem.W.Frag) (mg : Str → Option Value) (x : Str) (st : Stmt) (f : Addr) (fd : FuncData) (cdv : Value) : Prop where
  ex : ∃ oc od kV doc pm an ct osl, fd = PySem.W.fnOf x x (defArgs st) (defBody st) (defScope st) .none kV doc pm an cdv ct ∧ K.lookup f = some ⟨oc, od, .func fd, osl⟩ ∧ PySem.W.codeIn K cdv x = true
  kp : PySem.W.keepIn K (.ref f) = true
  gl : mg x = some (.ref f)
theorem FunC.fn {K : PySem.W.Frag} {mg : Str → Option Value} {x : Str} {st : Stmt} {f : Addr} {fd : FuncData} {cdv : Value} (F : FunC K mg x st f fd cdv) : Fun K x x st f fd := by
  obtain ⟨oc, od, kV, doc, pm, an, ct, osl, h1, h2, h3⟩ := F.ex
  exact ⟨⟨oc, od, kV, doc, pm, an, cdv, ct, osl, h1, h2, h3⟩, F.kp⟩
section
variable {P : Program} {w : World} {K : PySem.W.Frag} {mg : Str → Option Value} {base : Heap}
theorem FunC.ok {x : Str} {st : Stmt} {f : Addr} {fd : FuncData} {cdv : Value} {N ps : List Str} {k : Nat} {sp : Sp} (F : FunC K mg x st f fd cdv) (S : FnScope N ps (defScope st)) (len : ∀ vs H Q E, sp vs H Q E → vs.length = ps.length)
    (body : ∀ (A : Around) (outer : List Env) (s : Shared) (H : Hp) (vs : List V) (Q : VK) (E : XK), Room k (A.deeper (PyProof.Rows.envOfC x (defScope st) s.heap.objs.size f cdv)) → sp vs H Q E →
      wB (cxOf CX0 P w K mg base N x (defScope st) f cdv A outer s H E).nox (defBody st) { nx := fun _ H' => Q .non H', rt := Q } (L2.start N vs) H) : FnOk P w K mg base CX0 (k + 1) f fd ps sp := by
  obtain ⟨oc, od, kV, doc, pm, an, ct, osl, rfl, lk, hcd⟩ := F.ex
  exact fn_of lk hcd S len fun A outer s H vs Q E hr hsp => ⟨_, PSs.nox wB.ps, body A outer s H vs Q E hr hsp⟩
/-- the table of the code objects of the lambda in the def whose code is cdv -/
def LamB (mg : Str → Option Value) (base : Heap) (T : List (Addr × Str)) (cdv : Value) (q : Str) : Prop := ∃ c Pt, cdv = .ref c ∧ LamX.TabB base mg c Pt ∧ (Pt, q) ∈ T ∧ ∀ p ∈ T, p.1 = Pt → p.2 = q
theorem ce_told {X : Cx} {σ : St} {H : Hp} {CR g : Addr} {fd : FuncData} {T : List (Addr × Str)} {k : Nat} {params : Arguments} {body : Expr} {scope : Scope} {p lpos pos : Pos} {Q : VK} (F : At X.K X.mg "_law_told" s_law_told g fd) (To : Told X.K X.mg CR) (lb : LamB X.mg X.base T X.env.code (X.env.qual ++ "<lambda>"))
    (hr : Room (k + 2) X.A) (hg : Gl X "_law_told") (L : LamX.LamS X.env.scope scope) (hdef : defaultsOf params X.env = ([], [])) (hbind : ∀ (q : Str) (cl : List (Str × Addr)) (pm cv ctv : Value), bindArgs (PySem.W.kla_fn "<lambda>" q params body scope cl pm cv ctv) ⟨[], []⟩ = pure [])
    (hT : LamX.Tabs T H) (h : ∀ H1, LamX.ExtN H H1 → LamX.Tabs T H1 → ∀ A outer s H0 f c', Room k (A.deeper (LamX.lamEnv X scope s.heap.objs.size f c')) → wE (LamX.lamCx X A outer s H0 (ToldX CR Q) scope f c') body σ H1 (ToldV Q)) :
    wE X (.Call (.Name "_law_told" p) [.Lambda params body scope lpos] [] pos) σ H Q := by
  obtain ⟨oc, od, kV, doc, pm, an, cdv, ct, osl, e, lk, hcd⟩ := F.fn.ex
  obtain ⟨c, Pt, hc, tb, hm, hu⟩ := lb
  have hb := F.fn.binds (ps := p_law_told) fun _ _ _ _ _ _ us hl => match us, hl with | [_], _ => rfl
  rw [e] at lk hb
  exact ⟨_, LamX.pe_lamcall (t := fun E σ H Q => ∀ (A : Around) (outer : List Env) (s : Shared) (H0 : Hp) (f c' : Addr), Room k (A.deeper (LamX.lamEnv X scope s.heap.objs.size f c')) → wE (LamX.lamCx X A outer s H0 E scope f c') body σ H Q) hg F.gl F.fn.kp lk hcd hb sc_law_told rfl (.inl rfl) (told_gives To) tb hc hm hu hr L hdef hbind
    (fun A outer s H0 E f c' hr' => ⟨fun pins sh σ H Q I h => wE.pe.run pins sh σ H Q I (h A outer s H0 f c' hr')⟩), hT, h⟩
/-! ### one row kept -/
def spKept (K : PySem.W.Frag) : Sp := fun vs H Q _ => ∃ (M : Addr → Prop) (u v : V) (tp : Bool) (ns : List Int), vs = [u, v] ∧ Alive M H ∧ Rp K M H u (intsD ns) ∧ BagV K M H v tp ns ∧ ∀ H', Evl.Ex H H' → Q (.bl true) H'
theorem cl_row_kept {f CR : Addr} {fd : FuncData} (F : At K mg "_law_row_kept" s_law_row_kept f fd) (nb : NoB mg) (cr : Cl P w K mg base (L2.CX P w) 6 "reach" (spFar K CR rchD)) (cf : Cl P w K mg base (L2.CX P w) 6 "far_couples" (spFar K CR fun ns => (farL ns).map pairD)) (ci : Cl P w K mg base CX0 2 "_law_is_reach" (PureR K R_isr)) (cp : Cl P w K mg base CX0 4 "_law_is_pairs" (PureR K R_pairs)) (co : Cl P w K mg base CX0 1 "_law_far_of" (FreshR K R_lfo)) (cc : Cl P w K mg base CX0 1 "_law_covered" (PureR K R_cov)) : Cl P w K mg base CX0 7 "_law_row_kept" (spKept K) := by
  refine ⟨f, fd, _, F.fn.ok sc_law_row_kept (fun vs H Q E h => ?_) (fun cdv A outer sh H vs Q E hr h => ⟨_, wB.ps, ?_⟩), F.gl, F.fn.kp, F.fn.binds fun _ _ _ _ _ _ us hl => match us, hl with | [_, _], _ => rfl⟩
  · obtain ⟨M, u, v, tp, ns, rfl, _⟩ := h
    rfl
  · obtain ⟨M, u, v, tp, ns, rfl, al, ru, bg, q⟩ := h
    have hl := bg.2.1
    have flen := farL_len ns
    have rlen := rchs_len ns
    refine b_cons (cs_set (i := 2) sc_law_row_kept.nd rfl (.inl rfl) (ce_callX cr hr (by decide) rfl tkF (ca_cons (ce_nm 1 (ca_nil ⟨M, v, rfl, al, .inl ⟨tp, ns, bg, fun p ws H1 hp x1 h1 rw1 => ?_⟩⟩)))))
    have al1 := al.mono x1
    have rt : Rp K M H1 (.ref p) (.list (rchD ns)) := .lst (al.fresh hp) (.inl h1) rw1
    refine b_cons (s_if (k := false) al1 (td_not (k := true) (td_val (pd_callC ci hr (by decide) rfl (ad_cons (nm 2 rt) (ad_cons (nm 0 (ru.mono (fun _ z => z) (ExM.of x1))) ad_nil)) ⟨ns, hl, rfl, rfl⟩))) (fun k => by cases k) (fun _ H2 x2 => ?_))
    have al2 := al1.mono x2
    have bg2 := bg.mono (fun _ z => z) (ExM.of (x1.trans x2))
    refine b_nil (b_cons (cs_set (i := 3) sc_law_row_kept.nd rfl (.inl rfl) (ce_callX cf hr (by decide) rfl tkF (ca_cons (ce_nm 1 (ca_nil ⟨M, v, rfl, al2, .inl ⟨tp, ns, bg2, fun p3 ws3 H3 hp3 x3 h3 rw3 => ?_⟩⟩))))))
    have al3 := al2.mono x3
    have rf : Rp K M H3 (.ref p3) (pairsD (farL ns)) := .lst (al2.fresh hp3) (.inl h3) rw3
    have rt3 := rt.mono (fun _ z => z) (ExM.of (x2.trans x3))
    refine b_cons (s_if (k := false) al3 (td_not (k := true) (td_val (pd_callC cp hr (by decide) rfl (ad_cons (nm 3 rf) (ad_cons (PD.is (FD.pd (fd_callC co hr (by decide) rfl (ad_cons (nm 2 rt3) ad_nil) ⟨rchs ns, by omega, rfl, rfl⟩)) (congrArg PyData.list (congrArg (List.map pairD) (fo_far ns)))) ad_nil)) ⟨farL ns, by omega, rfl, rfl⟩))) (fun k => by cases k) (fun _ H4 x4 => ?_))
    exact b_nil (b_cons (s_ret (al3.mono x4) (pd_callC cc hr (by decide) rfl (ad_cons (nm 2 (rt3.mono (fun _ z => z) (ExM.of x4))) (ad_cons (nm 3 (rf.mono (fun _ z => z) (ExM.of x4))) ad_nil)) ⟨ns, hl, rfl, rfl⟩) fun v5 H5 x5 r5 => by
      cases r5
      exact q H5 ((((x1.trans x2).trans x3).trans x4).trans x5)))
/-! ### a second row -/
def spSecond (K : PySem.W.Frag) : Sp := fun vs H Q _ => ∃ (a l : Addr) (ns : List Int) (r c k : Int), vs = [.ref a, .ref l] ∧ H a = some (potL r c k) ∧ a ≠ l ∧ H l = some (.lst (ns.map V.int)) ∧ ns.length ≤ 40 ∧
  ∀ v (ms : List Int) (b : Bool) r' k' H', ExB a H H' → H' a = some (potL r' c k') → Rp K (Ma a) H' v (.tuple [intsD ms, .bool b]) → ms.length = ns.length → (∀ z, z ∈ ms ↔ z ∈ ns) → (b = true → rchs ms = rchs ns) → Q v H'
theorem cl_law_second {f : Addr} {fd : FuncData} (F : At K mg "_law_second" s_law_second f fd) (nb : NoB mg) (cd : Cl P w K mg base CX0 1 "_law_draw" spDraw) (ce : Cl P w K mg base CX0 1 "_law_exchanged" (FreshR K R_exch)) (co : Cl P w K mg base CX0 3 "_law_order" (spOrder K)) (ct : Cl P w K mg base CX0 2 "_law_tame_list" (FreshR K R_tameL)) : Cl P w K mg base CX0 4 "_law_second" (spSecond K) := by
  refine ⟨f, fd, _, F.fn.ok sc_law_second (fun vs H Q E h => ?_) (fun cdv A outer sh H vs Q E hr h => ⟨_, wB.ps, ?_⟩), F.gl, F.fn.kp, F.fn.binds fun _ _ _ _ _ _ us hl => match us, hl with | [_, _], _ => rfl⟩
  · obtain ⟨a, l, ns, r, c, k, rfl, _⟩ := h
    rfl
  · obtain ⟨a, l, ns, r, c, k, rfl, ha, nal, hl, hlen, q⟩ := h
    refine b_cons (cs_set (i := 2) sc_law_second.nd rfl (.inl rfl) (ce_draw cd hr (by decide) rfl (fun H1 Q hq => ce_nm 0 hq) pd_int ha (by decide) (by decide +kernel) fun way r1 k1 H1 w0 w1 e1 ha1 => ?_))
    have hl1 := e1 _ _ (Ne.symm nal) hl
    have rlM : ∀ {H'}, H' l = some (.lst (ns.map V.int)) → Rp K (Ma a) H' (.ref l) (intsD ns) := fun h => .lst (fun e => nal e.symm) (.inl h) (.ints ns)
    -- a new pair
    have fin : ∀ (H2 : Hp) (p : Addr) (ms : List Int) (b : Bool) r2 k2, ExB a H H2 → H2 a = some (potL r2 c k2) → H2 p = some (.lst (ms.map V.int)) → p ≠ a → ms.length = ns.length → (∀ z, z ∈ ms ↔ z ∈ ns) → (b = true → rchs ms = rchs ns) → ∀ t, H2 t = none → Q (.ref t) (upd H2 t (.tup [.ref p, .bl b])) := by
      intro H2 p ms b r2 k2 e2 ha2 hp np hml hm hb t ht
      refine q (.ref t) ms b r2 k2 _ (e2.trE (Evl.Ex.new ht)) ((Evl.Ex.new ht) _ _ ha2) ?_ hml hm hb
      exact Rp.newT (X := (cxOf CX0 P w K mg base n_law_second "_law_second" (defScope s_law_second) f cdv A outer sh H E).nox) (al_pot ha2) ht (.cons (.lst np (.inl hp) (.ints ms)) (.cons (.bl b) .nil))
    have rest1 : ∀ H2, Evl.Ex H1 H2 → wB (cxOf CX0 P w K mg base n_law_second "_law_second" (defScope s_law_second) f cdv A outer sh H E).nox ((defBody s_law_second).drop 2) { nx := fun _ H' => Q .non H', rt := Q } [some (.ref a), some (.ref l), some (.int way), none, none, none] H2 := by
      intro H2 x2
      have ha2 := x2 _ _ ha1
      have hl2 := x2 _ _ hl1
      refine b_cons (s_if (k := decide (way = 1)) alive0 (TD.is (td_eq hr.units (nm 2 (.int way)) pd_int rfl rfl) (eqv_int _ _)) (fun _ H3 x3 => ?_) (fun _ H3 x3 => ?_))
      · have ha3 := x3 _ _ ha2
        refine b_cons (cs_ret (ce_tup (ca_cons (ce_call co hr (by decide) rfl (ca_cons (ce_nm 0 (ca_cons (ce_nm 1 (ca_nil ⟨a, l, ns, r1, c, k1, rfl, ha3, nal, x3 _ _ hl2, hlen, fun p ms r4 k4 H4 hp e4 ha4 hp4 hml hm => ca_cons (ce_pd (al_pot ha4) pd_bl fun v5 H5 x5 r5 => ?_)⟩)))))))))
        cases r5
        refine ca_nil ⟨(by show 2 ≤ 1000; decide), fin H5 p ms false r4 k4 ((((e1.trE x2).trE x3).trans e4).trE x5) (x5 _ _ ha4) (x5 _ _ hp4) ?_ hml hm fun z => by cases z⟩
        rintro rfl
        rw [ha3] at hp
        cases hp
      · have hl3 := x3 _ _ hl2
        have ha3 := x3 _ _ ha2
        refine b_nil (b_cons (cs_set (i := 3) sc_law_second.nd rfl (.inl rfl) (ce_fd (al_pot ha3) (fd_listOf rfl nb.list (nm 1 (rlM hl3)) rfl) fun p ws H4 hp x4 h4 rw4 => ?_)))
        have ew := rw4.of_ints
        subst ew
        have ha4 := x4 _ _ ha3
        have np : p ≠ a := fun e => by
          rw [e, ha3] at hp
          cases hp
        have e04 : ExB a H H4 := ((e1.trE x2).trE x3).trE x4
        have last : ∀ σ' H', (∃ (pn : Addr) (ms : List Int) (r' k' : Int) (xk xt : Option V), σ' = [some (.ref a), some (.ref l), some (.int way), some (.ref pn), xk, xt] ∧ ExB a H H' ∧ H' a = some (potL r' c k') ∧ H' pn = some (.lst (ms.map V.int)) ∧ pn ≠ a ∧ ms.length = ns.length ∧ (∀ z, z ∈ ms ↔ z ∈ ns) ∧ rchs ms = rchs ns) →
            wB (cxOf CX0 P w K mg base n_law_second "_law_second" (defScope s_law_second) f cdv A outer sh H E).nox ((defBody s_law_second).drop 5) { nx := fun _ H' => Q .non H', rt := Q } σ' H' := by
          rintro σ' H' ⟨pn, ms, r', k', xk, xt, rfl, e, h1, h2, np', hml, hm, hrr⟩
          refine b_cons (cs_ret (ce_tup (ca_cons (ce_nm 3 (ca_cons (ce_pd (al_pot h1) pd_bl fun v5 H5 x5 r5 => ?_))))))
          cases r5
          exact ca_nil ⟨(by show 2 ≤ 1000; decide), fin H5 pn ms true r' k' (e.trE x5) (x5 _ _ h1) (x5 _ _ h2) np' hml hm fun _ => hrr⟩
        refine b_cons (s_forRW (slot := 4) PassesOwn.never rfl sc_law_second.nd rfl (.inl rfl) rfl nb.range (ce_draw cd hr (by decide) rfl (fun H1 Q hq => ce_nm 0 hq) pd_int ha4 (by decide) (by decide +kernel) fun z r5 k5 H5 z0 z1 e5 ha5 => ⟨z.toNat, fun _ σ' H' => ∃ (pn : Addr) (ms : List Int) (r' k' : Int) (xk xt : Option V), σ' = [some (.ref a), some (.ref l), some (.int way), some (.ref pn), xk, xt] ∧ ExB a H H' ∧ H' a = some (potL r' c k') ∧ H' pn = some (.lst (ms.map V.int)) ∧ pn ≠ a ∧ ms.length = ns.length ∧ (∀ z, z ∈ ms ↔ z ∈ ns) ∧ rchs ms = rchs ns, by rw [show ((z.toNat : Nat) : Int) = z by omega], by omega, ⟨p, ns, r5, k5, none, none, rfl, e04.trans e5, ha5, e5 _ _ np h4, np, rfl, fun _ => Iff.rfl, rfl⟩, ?_, fun σ' H' h => last σ' H' h⟩))
        rintro i σ' H' hi ⟨pn, ms, r', k', xk, xt, rfl, e, h1, h2, np', hml, hm, hrr⟩
        have rM : Rp K (Ma a) H' (.ref pn) (intsD ms) := .lst np' (.inl h2) (.ints ms)
        refine b_cons (cs_set (i := 5) sc_law_second.nd rfl (.inl rfl) (ce_fd (al_pot h1) (fd_callC ct hr (by decide) rfl (ad_cons (nm 3 rM) ad_nil) ⟨ms, by omega, rfl, rfl⟩) fun pt wt H6 hpt x6 h6 rw6 => ?_))
        have h16 := x6 _ _ h1
        have h26 := x6 _ _ h2
        have npt : pt ≠ a := fun e => by
          rw [e, h1] at hpt
          cases hpt
        have rT : Rp K (Ma a) H6 (.ref pt) (.list (natD (tameL ms))) := .lst npt (.inl h6) rw6
        have shT : SeqAt.shaped (.list (natD (tameL ms))) = true := shaped1 fun d hd => by
          obtain ⟨k, _, rfl⟩ := List.mem_map.mp hd
          trivial
        refine b_cons (s_if (k := (tameL ms).isEmpty) (al_pot h16) (TD.is (td_eq hr.units (nm 5 rT) (FD.pd (fd_lst ad_nil (by simp))) shT rfl) (by rw [eqv_nil]; simp [natD])) (fun _ H7 x7 => ?_) (fun k H7 x7 => ?_))
        · exact b_cons ⟨_, ps_break, last _ _ ⟨pn, ms, r', k', _, _, rfl, (e.trE x6).trE x7, x7 _ _ h16, x7 _ _ h26, np', hml, hm, hrr⟩⟩
        · have h17 := x7 _ _ h16
          have h27 := x7 _ _ h26
          have pos : 0 < (tameL ms).length := by
            cases ht : tameL ms with
            | nil =>
              rw [ht] at k
              cases k
            | cons _ _ => simp
          have tl : (tameL ms).length ≤ 40 := by
            have h1 := List.length_filter_le (tamB ms) (List.range (ms.length - 1))
            rw [List.length_range] at h1
            unfold tameL
            omega
          have rT7 := rT.mono (fun _ z => z) (ExM.of x7)
          refine b_nil (b_cons (cs_set (i := 3) sc_law_second.nd rfl (.inl rfl) (ce_call ce hr (by decide) rfl (ca_cons (ce_nm 3 (ca_cons (ce_ix (ce_nm 5 (ce_draw cd hr (by decide) rfl (fun H1 Q hq => ce_nm 0 hq) (pd_len nb rfl (nm 5 rT7) (n := (tameL ms).length) (by simp [lenD, natD])) h17 (by omega) (n8000 (by omega) (by omega)) fun z8 r8 k8 H8 z80 z81 e8 ha8 => ?_)))))))))
          obtain ⟨tt, htt⟩ : ∃ t, (tameL ms)[z8.toNat]? = some t := ⟨_, List.getElem?_eq_getElem (by omega)⟩
          obtain ⟨t1, t2⟩ := List.mem_filter.mp (List.mem_of_getElem? htt)
          have t1 := List.mem_range.mp t1
          refine rIx_of (M := Ma a) (da := .list (natD (tameL ms))) (d := .int (tt : Nat)) (rT7.mono (fun _ z => z) (ExB.exM e8)) ?_ fun v9 r9 => ?_
          · rw [show z8 = ((z8.toNat : Nat) : Int) by omega]
            refine ixD_list ?_
            unfold natD
            rw [List.getElem?_map, htt]
            rfl
          · have h28 := e8 _ _ np' h27
            refine ca_nil ⟨Ma a, [intsD ms, .int (tt : Nat)], (exch ms tt).map PyData.int, al_pot ha8, .cons (.lst np' (.inl h28) (.ints ms)) (.cons r9 .nil), ⟨ms, tt, by omega, by omega, rfl, rfl⟩, fun p9 ws9 H9 hp9 x9 h9 rw9 => ?_⟩
            have ew9 := rw9.of_ints
            subst ew9
            refine b_nil ⟨p9, exch ms tt, r8, k8, _, _, rfl, ((((e.trE x6).trE x7).trans e8).trE x9), x9 _ _ ha8, h9, ?_, ?_, fun z => ?_, ?_⟩
            · rintro rfl
              rw [ha8] at hp9
              cases hp9
            · rw [exch_len, hml]
            · rw [exch_mem (by omega), hm]
            · rw [rchs_exch (by omega) t2, hrr]
    refine b_cons (s_if (k := decide (way = 0) && decide (1 < ns.length)) (al_pot ha1) (WD.td (wd_and (TD.is (td_eq hr.units (nm 2 (.int way)) pd_int rfl rfl) (k' := decide (way = 0)) (eqv_int _ _)) fun _ => wd_and1 (TD.is (td_gt (pd_len nb rfl (nm 1 (rlM hl1)) (n := ns.length) (by simp [lenD])) pd_int) ?_))) (fun hk H2 x2 => ?_) (fun _ H2 x2 => b_nil (rest1 H2 x2)))
    · rw [Bool.eq_iff_iff, decide_eq_true_eq, decide_eq_true_eq]
      omega
    · rw [Bool.and_eq_true, decide_eq_true_eq, decide_eq_true_eq] at hk
      have ha2 := x2 _ _ ha1
      have hl2 := x2 _ _ hl1
      refine b_cons (cs_ret (ce_tup (ca_cons (ce_call ce hr (by decide) rfl (ca_cons (ce_nm 1 (ca_cons (ce_draw cd hr (by decide) rfl (fun H1 Q hq => ce_nm 0 hq) (pd_sub (pd_len nb rfl (nm 1 (rlM hl2)) (n := ns.length) (by simp [lenD])) pd_int) ha2 (by omega) (n8000 (by omega) (by omega)) fun z r3 k3 H3 z0 z1 e3 ha3 => ?_))))))))
      have hl3 := e3 _ _ (Ne.symm nal) hl2
      refine ca_nil ⟨Ma a, [intsD ns, .int (z.toNat : Nat)], (exch ns z.toNat).map PyData.int, al_pot ha3, .cons (rlM hl3) (.cons (by rw [show ((z.toNat : Nat) : Int) = z by omega]; exact .int z) .nil), ⟨ns, z.toNat, by omega, by omega, rfl, rfl⟩, fun p ws H4 hp x4 h4 rw4 => ca_cons (ce_pd (al_pot (x4 _ _ ha3)) pd_bl fun v5 H5 x5 r5 => ?_)⟩
      have ew := rw4.of_ints
      subst ew
      cases r5
      refine ca_nil ⟨(by show 2 ≤ 1000; decide), fin H5 p (exch ns z.toNat) false r3 k3 (((e1.trE x2).trans e3).trE (x4.trans x5)) (x5 _ _ (x4 _ _ ha3)) (x5 _ _ h4) ?_ (exch_len _ _) (fun y => exch_mem (by omega) y) fun z => by cases z⟩
      rintro rfl
      rw [ha3] at hp
      cases hp
end
end CK

namespace CK
open PySem PySem.Spec PyProof.Rows L2 GV
/-! ### == of such lists -/
theorem eqvAll_map {α : Type} [DecidableEq α] (f : α → PyData) (hf : ∀ p q, PyData.eqv (f p) (f q) = decide (p = q)) : ∀ l m : List α, PyData.eqvAll (l.map f) (m.map f) = decide (l = m)
  | [], [] => by simp [PyData.eqvAll]
  | [], _ :: _ => by simp [PyData.eqvAll]
  | _ :: _, [] => by simp [PyData.eqvAll]
  | x :: l, y :: m => by
    show (PyData.eqv (f x) (f y) && PyData.eqvAll (l.map f) (m.map f)) = _
    rw [hf, eqvAll_map f hf l m, Bool.eq_iff_iff, Bool.and_eq_true, decide_eq_true_eq, decide_eq_true_eq, decide_eq_true_eq, List.cons.injEq]
theorem eqv_ints (ns ms : List Int) : PyData.eqv (intsD ns) (intsD ms) = decide (ns = ms) := by
  show PyData.eqvAll _ _ = _
  exact eqvAll_map PyData.int eqv_int ns ms
theorem eqv_pr (p q : Int × Int) : PyData.eqv (pairD p) (pairD q) = decide (p = q) := by
  show (PyData.eqv (.int p.1) (.int q.1) && (PyData.eqv (.int p.2) (.int q.2) && true)) = _
  rw [eqv_int, eqv_int, Bool.and_true, Bool.eq_iff_iff, Bool.and_eq_true, decide_eq_true_eq, decide_eq_true_eq, decide_eq_true_eq]
  exact ⟨fun h => Prod.ext h.1 h.2, fun h => by rw [h]; exact ⟨rfl, rfl⟩⟩
theorem eqv_opt (o u : Option Int) : PyData.eqv (optD o) (optD u) = decide (o = u) := by
  cases o <;> cases u
  · rfl
  · rfl
  · rfl
  · show PyData.eqv (.int _) (.int _) = _
    rw [eqv_int, Bool.eq_iff_iff, decide_eq_true_eq, decide_eq_true_eq, Option.some.injEq]
theorem eqv_re (p q : Int × Option Int) : PyData.eqv (reD p) (reD q) = decide (p = q) := by
  show (PyData.eqv (.int p.1) (.int q.1) && (PyData.eqv (optD p.2) (optD q.2) && true)) = _
  rw [eqv_int, eqv_opt, Bool.and_true, Bool.eq_iff_iff, Bool.and_eq_true, decide_eq_true_eq, decide_eq_true_eq, decide_eq_true_eq]
  exact ⟨fun h => Prod.ext h.1 h.2, fun h => by rw [h]; exact ⟨rfl, rfl⟩⟩
theorem shaped_map {α : Type} (f : α → PyData) (h : ∀ p, (f p).canLay0 = true ∧ (f p).depth ≤ 1) (l : List α) : SeqAt.shaped (.list (l.map f)) = true := by
  have key : PyData.canLayAll0 (l.map f) = true ∧ PyData.depthAll (l.map f) ≤ 1 := by
    induction l with
    | nil => exact ⟨rfl, Nat.zero_le _⟩
    | cons x l ih =>
      obtain ⟨a, b⟩ := h x
      obtain ⟨c, d⟩ := ih
      refine ⟨?_, ?_⟩
      · show ((f x).canLay0 && PyData.canLayAll0 (l.map f)) = true
        rw [a, c]
        rfl
      · show max (f x).depth (PyData.depthAll (l.map f)) ≤ 1
        omega
  refine shaped_of key.1 ?_
  show PyData.depthAll (l.map f) + 1 ≤ 64
  have := key.2
  omega
theorem shapedR (rs : List (Int × Option Int)) : SeqAt.shaped (.list (rs.map reD)) = true := shaped_map reD (fun p => by
  obtain ⟨x, o⟩ := p
  cases o
  · exact ⟨rfl, Nat.le_refl 1⟩
  · exact ⟨rfl, Nat.le_refl 1⟩) rs
theorem Rp.sameB {K : PySem.W.Frag} {M : Addr → Prop} {H : Hp} {v : V} {d : PyData} (r : Rp K M H v d) : sameB v = true := by
  cases r <;> rfl
theorem Arg.sameB {K : PySem.W.Frag} {M : Addr → Prop} {H : Hp} {v : V} {b : Bool} (h : Arg K M H v b) : sameB v = true := by
  rcases h with ⟨d, r, _⟩ | ⟨_, a, kvs, rfl, _⟩
  · exact CK.Rp.sameB r
  · rfl
theorem ct_ne {X : Cx} {σ : L2.St} {H : Hp} {a b : Expr} {pos : Pos} {Q : Bool → Hp → Prop} (hu : X.A.units + 64 < cLine) (h : wE X a σ H fun x H2 => wE X b σ H2 fun y H3 => ∃ da db, Dp X.K H3 x da ∧ Dp X.K H3 y db ∧ SeqAt.shaped da = true ∧ SeqAt.shaped db = true ∧ Q (!PyData.eqv da db) H3) : wT X (.Compare a [.NotEq] [b] pos) σ H Q :=
  ⟨_, pt_cmpR (op_neD hu) wE.pe wE.pe (nomark _), wE.weak h fun x H2 h2 => wE.weak h2 fun y H3 ⟨da, db, h1, h2, h3, h4, q⟩ => ⟨da, db, h1, h2, h3, h4, _, rfl, q⟩⟩
section
variable {P : Program} {w : World} {K : PySem.W.Frag} {mg : Str → Option Value} {base : Heap}
/-- all that the law calls -/
structure Calls (P : Program) (w : World) (K : PySem.W.Frag) (mg : Str → Option Value) (base : Heap) (CR : Addr) : Prop where
  nb : NoB mg
  draw : Cl P w K mg base CX0 1 "_law_draw" spDraw
  pot : Cl P w K mg base CX0 1 "_law_pot" (spPot K)
  bag : Cl P w K mg base CX0 3 "_law_bag" spBagRow
  given : Cl P w K mg base CX0 3 "_law_given" (spGiven K)
  bad : Cl P w K mg base CX0 3 "_law_bad_row" (spBad K)
  second : Cl P w K mg base CX0 4 "_law_second" (spSecond K)
  kept : Cl P w K mg base CX0 7 "_law_row_kept" (spKept K)
  reach : Cl P w K mg base (L2.CX P w) 6 "reach" (spFar K CR rchD)
  far : Cl P w K mg base (L2.CX P w) 6 "far_couples" (spFar K CR fun ns => (farL ns).map pairD)
  toldF : ∃ g fd, At K mg "_law_told" s_law_told g fd
  told : Told K mg CR
def spWorld (K : PySem.W.Frag) (T : List (Addr × Str)) : Sp := fun vs H Q _ => ∃ (a : Addr) (r c k : Int), vs = [.ref a] ∧ H a = some (potL r c k) ∧ LamX.Tabs T H ∧ ∀ H', ExM (Ma a) H H' → LamX.Tabs T H' → Q (.bl true) H'
theorem cl_law_world {f CR : Addr} {fd : FuncData} {cdv : Value} {T : List (Addr × Str)} (F : FunC K mg "_law_world" s_law_world f fd cdv) (L : Calls P w K mg base CR)
    (lb : LamB mg base T cdv ((PyProof.Rows.envOfC "_law_world" (defScope s_law_world) 0 f cdv).qual ++ "<lambda>")) : Cl P w K mg base CX0 9 "_law_world" (spWorld K T) := by
  have nb := L.nb
  refine ⟨f, fd, _, F.ok sc_law_world (fun vs H Q E h => ?_) (fun A outer sh H vs Q E hr h => ?_), F.gl, F.kp, F.fn.binds fun _ _ _ _ _ _ us hl => match us, hl with | [_], _ => rfl⟩
  · obtain ⟨a, r, c, k, rfl, _⟩ := h
    rfl
  · obtain ⟨a, r, c, k, rfl, ha, hT, q⟩ := h
    obtain ⟨g, fdT, FT⟩ := L.toldF
    -- row
    refine b_cons (cs_set (i := 1) sc_law_world.nd rfl (by first | exact .inl rfl | exact .inr rfl) (ce_call L.bag hr (by decide) rfl (ca_cons (ce_nm 0 (ca_cons (ce_ix (ce_pd (al_pot ha) (FD.pd (fd_lst (ds := [6, 9, 12, 40].map PyData.int) (ad_cons pd_int (ad_cons pd_int (ad_cons pd_int (ad_cons pd_int ad_nil)))) (by simp))) fun v1 H1 x1 r1 => ce_draw L.draw hr (by decide) rfl (fun H1 Q hq => ce_nm 0 hq) pd_int (x1 _ _ ha) (by decide) (by decide +kernel) fun z2 r2 k2 H2 z20 z21 e2 ha2 => ?_)))))))
    obtain ⟨most, hmost⟩ : ∃ m, ([6, 9, 12, 40] : List Int)[z2.toNat]? = some m := ⟨_, List.getElem?_eq_getElem (by show z2.toNat < 4; omega)⟩
    have hm40 : 0 ≤ most ∧ most ≤ 40 := by
      have := List.mem_of_getElem? hmost
      simp only [List.mem_cons, List.not_mem_nil, or_false] at this
      omega
    refine rIx_of (M := Ma a) (da := .list ([6, 9, 12, 40].map PyData.int)) (d := .int most) (r1.mono (fun _ z => z) (ExB.exM e2)) (by rw [show z2 = ((z2.toNat : Nat) : Int) by omega]; exact ixD_ints hmost) fun v3 r3 => ?_
    cases r3
    refine ca_nil ⟨a, most, r2, c, k2, rfl, ha2, hm40.1, hm40.2, fun l ns r4 k4 H4 hl4 e4 ha4 hl hlen hok => ?_⟩
    have nal : a ≠ l := fun e => by
      rw [← e, ha2] at hl4
      cases hl4
    have e04 : ExB a H H4 := ((ExB.of x1).trans e2).trans e4
    have hw : ∀ z ∈ ns, isWeightD (.int z) = true := fun z hz => (hok z hz).is
    -- passed
    refine b_cons (cs_set (i := 2) sc_law_world.nd rfl (by first | exact .inl rfl | exact .inr rfl) (ce_call L.given hr (by decide) rfl (ca_cons (ce_nm 0 (ca_cons (ce_nm 1 (ca_nil ⟨a, l, ns, r4, c, k4, rfl, ha4, nal, hl, by omega, fun tp vp r5 k5 H5 e5 ha5 rp5 => ?_⟩)))))))
    have hl5 := e5 _ _ (Ne.symm nal) hl
    have rl : ∀ {H'}, H' l = some (.lst (ns.map V.int)) → Rp K (Ma a) H' (.ref l) (intsD ns) := fun h => .lst (fun e => nal e.symm) (.inl h) (.ints ns)
    have bp : ∀ {H'}, Rp K (Ma a) H' vp (sqD tp (ns.map PyData.int)) → BagV K (Ma a) H' vp tp ns := fun r => ⟨r, hlen, hw⟩
    refine b_cons (cs_if (ct_not (ct_val (ce_call L.kept hr (by decide) rfl (ca_cons (ce_nm 1 (ca_cons (ce_nm 2 (ca_nil ⟨Ma a, _, vp, tp, ns, rfl, al_pot ha5, rl hl5, bp rp5, fun H6 x6 => ⟨true, rfl, ?_⟩⟩)))))))))
    rw [if_neg (by decide)]
    have ha6 := x6 _ _ ha5
    have hl6 := x6 _ _ hl5
    have rp6 := rp5.mono (fun _ z => z) (ExM.of x6)
    -- drawn
    refine b_nil (b_cons (cs_set (i := 3) sc_law_world.nd rfl (by first | exact .inl rfl | exact .inr rfl) (ce_call L.second hr (by decide) rfl (ca_cons (ce_nm 0 (ca_cons (ce_nm 1 (ca_nil ⟨a, l, ns, r5, c, k5, rfl, ha6, nal, hl6, hlen, fun vd ms b r7 k7 H7 e7 ha7 rd7 hml hmm hb => ?_⟩))))))))
    have hl7 := e7 _ _ (Ne.symm nal) hl6
    have rp7 := rp6.mono (fun _ z => z) (ExB.exM e7)
    refine b_cons (s_set (i := 4) (d := intsD ms) (al_pot ha7) sc_law_world.nd rfl (by first | exact .inl rfl | exact .inr rfl) (pd_ix (nm 3 rd7) pd_int rfl) fun vs8 H8 x8 rs8 => ?_)
    have ha8 := x8 _ _ ha7
    have hwm : ∀ z ∈ ms, isWeightD (.int z) = true := fun z hz => hw z ((hmm z).mp hz)
    have bm : ∀ {H' v}, Rp K (Ma a) H' v (.tuple (ms.map PyData.int)) → BagV K (Ma a) H' v true ms := fun r => ⟨r, by omega, hwm⟩
    refine b_cons (cs_if (ct_not (ct_val (ce_call L.kept hr (by decide) rfl (ca_cons (ce_nm 4 (ca_cons (ce_pd (al_pot ha8) (pd_tupleOf rfl nb.tuple (nm 4 rs8) rfl) fun vt9 H9 x9 rt9 => ca_nil ⟨Ma a, vs8, vt9, true, ms, rfl, al_pot (x9 _ _ ha8), rs8.mono (fun _ z => z) (ExM.of x9), bm rt9, fun H10 x10 => ⟨true, rfl, ?_⟩⟩))))))))
    rw [if_neg (by decide)]
    have x710 := (x8.trans x9).trans x10
    have ha10 := x710 _ _ ha7
    have rp10 := rp7.mono (fun _ z => z) (ExM.of x710)
    have rs10 := rs8.mono (fun _ z => z) (ExM.of (x9.trans x10))
    have rd10 := rd7.mono (fun _ z => z) (ExM.of x710)
    -- same
    refine b_nil (b_cons (cs_set (i := 5) sc_law_world.nd rfl (by first | exact .inl rfl | exact .inr rfl) (ce_eq hr.units (ce_callX L.reach hr (by decide) rfl tkF (ca_cons (ce_nm 2 (ca_nil ⟨Ma a, vp, rfl, al_pot ha10, .inl ⟨tp, ns, bp rp10, fun p11 ws11 H11 hp11 x11 h11 rw11 => ce_callX L.reach hr (by decide) rfl tkF (ca_cons (ce_pd (al_pot (x11 _ _ ha10)) (pd_tupleOf rfl nb.tuple (nm 4 (rs10.mono (fun _ z => z) (ExM.of x11))) rfl) fun v12 H12 x12 r12 => ca_nil ⟨Ma a, v12, rfl, al_pot (x12 _ _ (x11 _ _ ha10)), .inl ⟨true, ms, bm r12, fun p13 ws13 H13 hp13 x13 h13 rw13 => ⟨.list (rchD ns), .list (rchD ms), ?_, ?_, shapedR _, shapedR _, ?_⟩⟩⟩))⟩⟩)))))))
    · have np : p11 ≠ a := fun e => by
        rw [e, ha10] at hp11
        cases hp11
      have r0 : Rp K (Ma a) H11 (.ref p11) (.list (rchD ns)) := .lst np (.inl h11) rw11
      exact (r0.mono (fun _ z => z) (ExM.of (x12.trans x13))).dp
    · have np : p13 ≠ a := fun e => by
        rw [e, x12 _ _ (x11 _ _ ha10)] at hp13
        cases hp13
      have r0 : Rp K (Ma a) H13 (.ref p13) (.list (rchD ms)) := .lst np (.inl h13) rw13
      exact r0.dp
    have es : PyData.eqv (.list (rchD ns)) (.list (rchD ms)) = decide (rchs ns = rchs ms) := by
      show PyData.eqvAll _ _ = _
      exact eqvAll_map reD eqv_re _ _
    rw [es]
    have x1013 := (x11.trans x12).trans x13
    have ha13 := x1013 _ _ ha10
    have rp13 := rp10.mono (fun _ z => z) (ExM.of x1013)
    have rs13 := rs10.mono (fun _ z => z) (ExM.of x1013)
    have rd13 := rd10.mono (fun _ z => z) (ExM.of x1013)
    generalize hsm : decide (rchs ns = rchs ms) = sm
    have hfar : decide (farL ns = farL ms) = sm := by
      rw [← hsm, Bool.eq_iff_iff, decide_eq_true_eq, decide_eq_true_eq]
      exact (rchs_far fun z => (hmm z).symm).symm
    refine b_cons (cs_if (ct_ne hr.units (ce_nm 5 (ce_eq hr.units (ce_callX L.far hr (by decide) rfl tkF (ca_cons (ce_nm 2 (ca_nil ⟨Ma a, vp, rfl, al_pot ha13, .inl ⟨tp, ns, bp rp13, fun p14 ws14 H14 hp14 x14 h14 rw14 => ce_callX L.far hr (by decide) rfl tkF (ca_cons (ce_pd (al_pot (x14 _ _ ha13)) (pd_tupleOf rfl nb.tuple (nm 4 (rs13.mono (fun _ z => z) (ExM.of x14))) rfl) fun v15 H15 x15 r15 => ca_nil ⟨Ma a, v15, rfl, al_pot (x15 _ _ (x14 _ _ ha13)), .inl ⟨true, ms, bm r15, fun p16 ws16 H16 hp16 x16 h16 rw16 => ⟨pairsD (farL ns), pairsD (farL ms), ?_, ?_, shapedP _, shapedP _, ⟨.bool sm, .bool sm, .bl _, ?_, rfl, rfl, ?_⟩⟩⟩⟩))⟩⟩))))))))
    · have np : p14 ≠ a := fun e => by
        rw [e, ha13] at hp14
        cases hp14
      have r0 : Rp K (Ma a) H14 (.ref p14) (pairsD (farL ns)) := .lst np (.inl h14) rw14
      exact (r0.mono (fun _ z => z) (ExM.of (x15.trans x16))).dp
    · have np : p16 ≠ a := fun e => by
        rw [e, x15 _ _ (x14 _ _ ha13)] at hp16
        cases hp16
      have r0 : Rp K (Ma a) H16 (.ref p16) (pairsD (farL ms)) := .lst np (.inl h16) rw16
      exact r0.dp
    · have ef : PyData.eqv (pairsD (farL ns)) (pairsD (farL ms)) = sm := by
        rw [← hfar]
        show PyData.eqvAll _ _ = _
        exact eqvAll_map pairD eqv_pr _ _
      rw [ef]
      exact .bl sm
    rw [show PyData.eqv (.bool sm) (.bool sm) = true by cases sm <;> rfl, if_neg (by decide)]
    have x1316 := (x14.trans x15).trans x16
    have ha16 := x1316 _ _ ha13
    have rd16 := rd13.mono (fun _ z => z) (ExM.of x1316)
    refine b_nil (b_cons (s_if (k := false) (al_pot ha16) (TD.is (WD.td (wd_and (td_val (pd_ix (nm 3 rd16) pd_int rfl)) fun _ => wd_and1 (td_not (td_val (nm 5 (.bl sm)))))) ?_) (fun k => by cases k) (fun _ H17 x17 => ?_)))
    · cases b with
      | false => rfl
      | true =>
        rw [← hsm, hb rfl]
        simp
    have ha17 := x17 _ _ ha16
    have hl17 : H17 l = some (.lst (ns.map V.int)) := x17 _ _ (x1316 _ _ (x1013 _ _ (x710 _ _ hl7)))
    have rp17 := rp13.mono (fun _ z => z) (ExM.of (x1316.trans x17))
    -- bad
    refine b_nil (b_cons (cs_set (i := 6) sc_law_world.nd rfl (by first | exact .inl rfl | exact .inr rfl) (ce_call L.bad hr (by decide) rfl (ca_cons (ce_nm 0 (ca_cons (ce_nm 1 (ca_nil ⟨a, l, ns, r7, c, k7, rfl, ha17, nal, hl17, hlen, fun vb r18 k18 H18 e18 ha18 ab18 => ?_⟩))))))))
    have e017 : ExB a H H17 := (((((e04.trans e5).trE x6).trans e7).trE x710).trE x1013).trE (x1316.trans x17)
    have e018 : ExB a H H18 := e017.trans e18
    have t18 := tabs_eqB hT e018 ha
    have hl18 := e18 _ _ (Ne.symm nal) hl17
    have rp18 := rp17.mono (fun _ z => z) (ExB.exM e18)
    refine b_cons (cs_ret (ce_and (ce_eqSame hr.units (ce_told (k := 6) FT L.told lb (hr.mono (by decide)) rfl (LamX.lamS_by (by show LamX.lamSB (defScope s_law_world) _ = true; decide +kernel)) rfl (fun _ _ _ _ _ => rfl) t18 fun H19 e19 t19 A2 outer2 sh2 H02 f2 c2' hr2 => ?_))))
    have m19 : ExM (Ma a) H18 H19 := exM_ofN e19
    have ha19 : H19 a = some (potL r18 c k18) := (exM_ofN (M := M0) e19).lst (fun z => z) ha18
    have ab19 := ab18.mono (fun _ z => z) m19
    refine ce_callX L.reach hr2 (by decide) rfl (takes_of rfl rfl rfl rfl) (ca_cons (ce_nm 6 (ca_nil ⟨Ma a, vb, rfl, al_pot ha19, .inr ⟨ab19, fun H20 x20 d21 H21 hd21 x21 h21 => ?_⟩⟩)))
    refine ⟨rfl, d21, _, vb, rfl, h21, by simp [List.lookup], fun p22 H22 hp22 x22 h22 => ?_⟩
    have x1922 := (x20.trans x21).trans x22
    refine ce_tup (ca_cons (ce_str (ca_cons (ce_nm 6 (ca_nil ⟨(by show 2 ≤ 1000; decide), fun p23 hp23 => ?_⟩)))))
    have x23 := Evl.Ex.new (H := H22) (o := .tup [V.str "InvalidRow", vb]) hp23
    refine ⟨p22, p23, [.str "InvalidRow", vb], rfl, rfl, .inl (.inl (x23 _ _ h22)), .inl (.inl upd_same), ?_, true, rfl, fun _ => ?_, fun z => by cases z⟩
    · intro v hv
      simp only [List.mem_cons, List.not_mem_nil, or_false] at hv
      rcases hv with rfl | rfl
      · rfl
      · exact ab18.sameB
    generalize upd H22 p23 (HO.tup [V.str "InvalidRow", vb]) = H23 at x23 ⊢
    have m1823 : ExM (Ma a) H18 H23 := m19.trans (.of (x1922.trans x23))
    have ha23 := (x1922.trans x23) _ _ ha19
    refine ce_one (ce_pd (al_pot ha23) (PD.is (pd_eq hr.units (FD.pd (fd_listOf rfl nb.list (nm 2 (rp18.mono (fun _ z => z) m1823)) (items_sq _ _))) (nm 1 ((rl hl18).mono (fun _ z => z) m1823)) (shapedI _) (shapedI _)) (by rw [eqv_ints, decide_eq_true rfl])) fun v24 H24 x24 r24 => ?_)
    cases r24
    exact q H24 ((ExB.exM e018).trans (m1823.trans (.of x24))) (t19.ext ((x1922.trans x23).trans x24))
end
end CK

namespace CK
open PySem PySem.Spec PyProof.Rows L2 GV
def spLaw (K : PySem.W.Frag) (T : List (Addr × Str)) : Sp := fun vs H Q _ => ∃ (a : Addr) (ns : List Int), vs = [.ref a] ∧ SqL K H a (ns.map V.int) ∧ ns.length ≤ 63 ∧ LamX.Tabs T H ∧ ∀ H', Q (.bl true) H'
section
variable {P : Program} {w : World} {K : PySem.W.Frag} {mg : Str → Option Value} {base : Heap}
theorem ok_law {f CR : Addr} {fd : FuncData} {T : List (Addr × Str)} (F : At K mg "law" s_law f fd) (L : Calls P w K mg base CR) (cw : Cl P w K mg base CX0 9 "_law_world" (spWorld K T)) : FnOk P w K mg base CX0 10 f fd ["script"] (spLaw K T) := by
  refine F.fn.ok sc_law (fun vs H Q E h => ?_) (fun cdv A outer sh H vs Q E hr h => ⟨_, wB.ps, ?_⟩)
  · obtain ⟨a, ns, rfl, _⟩ := h
    rfl
  obtain ⟨a0, script, rfl, hS, hlen, hT, q⟩ := h
  have nb := L.nb
  have sc0 : ScAt K M0 H a0 script := ScAt.of hS fun z => z
  refine b_cons (s_forRW (slot := 1) PassesOwn.never rfl sc_law.nd rfl (.inl rfl) rfl nb.range (ce_pd alive0 (pd_min2 rfl nb.min pd_int (pd_max2 rfl nb.max pd_int (pd_scLen (j := 0) sc0 rfl nb.len))) fun v H1 x1 r1 => ?_))
  generalize hm : min (3 : Int) (max 1 (script.length : Nat)) = m at r1
  have hm0 : 0 ≤ m ∧ m ≤ 3 := by omega
  cases r1
  refine ⟨m.toNat, fun i σ' H' => (∃ xk, σ' = [some (.ref a0), xk]) ∧ ScAt K M0 H' a0 script ∧ LamX.Tabs T H', by rw [Int.toNat_of_nonneg hm0.1], by omega, ⟨⟨_, rfl⟩, sc0.mono (fun _ z => z) (ExM.of x1), hT.ext x1⟩, ?_, ?_⟩
  · rintro i σ' H' hi ⟨⟨xk, rfl⟩, sc, t⟩
    refine b_cons (cs_if (ct_not (ct_val (ce_call cw hr (by decide) rfl (ca_cons (ce_call L.pot hr (by decide) rfl (ca_cons (ce_nm 0 (ca_cons (ce_nm 1 (ca_nil ⟨M0, a0, script, i, rfl, alive0, sc, fun p r c H2 hp x2 h2 => ca_nil ⟨p, r, c, 0, rfl, h2, t.ext x2, fun H3 m3 t3 => ⟨true, rfl, ?_⟩⟩⟩)))))))))))
    rw [if_neg (by decide)]
    refine b_nil (b_nil ⟨⟨_, rfl⟩, ?_, t3⟩)
    have sc2 : ScAt K (Ma p) H2 a0 script := by
      rcases sc with ⟨_, h⟩ | h
      · refine .inl ⟨?_, ?_⟩
        · rintro rfl
          exact GV.Rd.there h hp
        · exact GV.Rd.exM (M := M0) h (fun z => z) (ExM.of x2)
      · exact .inr h
    exact sc2.mono (fun _ z => z.elim) m3
  · rintro σ' H' ⟨⟨xk, rfl⟩, sc, t⟩
    exact b_cons (s_ret alive0 pd_bl fun v H5 x5 r5 => by
      cases r5
      exact q H5)
end
/-! ### what the top has written -/
theorem at_mk {K : PySem.W.Frag} {h : Heap} {mg : Str → Option Value} {x : Str} {st : Stmt} {f : Addr} {od an : Option Addr} {sl : Array (Option Value)} {oc kV dc pm cd ct : Value} (X : K.In h) (G : h.Ns mainGlobals mg) (a : PySem.W.nsIn K mainGlobals x = some (some (.ref f)))
    (l : K.lookup f = some ⟨oc, od, .func (PySem.W.fnOf x x (defArgs st) (defBody st) (defScope st) .none kV dc pm an cd ct), sl⟩) (c : PySem.W.codeIn K cd x = true) (k : PySem.W.keepIn K (.ref f) = true) : ∃ f fd, At K mg x st f fd :=
  ⟨f, _, fun_mk l c k, PySem.W.mg_of X G a⟩
/-- whether an error of the class at S is one of the class at D -/
theorem exm_of {K : PySem.W.Frag} {S D : Addr} {b : Bool} (h1 : PySem.W.subIn K (.ref S) (.type "BaseException") = some true) (h0 : PySem.W.subIn K (.ref D) (.type "BaseException") = some true) (h2 : PySem.W.isClsIn K D = true) (h3 : PySem.W.typeIn K (.ref D) = some (.type "type")) (h4 : PySem.W.subIn K (.ref S) (.ref D) = some b) : PySem.W.exmOne K (.ref S) (.ref D) = some b := by
  have e1 : (PySem.W.subIn K (.ref D) (.type "BaseException") == some true) = true := by rw [h0] <;> rfl
  have e2 : ((PySem.W.clsIn K D).isSome && PySem.W.typeIn K (.ref D) == some (.type "type")) = true := by
    have h2' : (PySem.W.clsIn K D).isSome = true := h2
    rw [h2', h3] <;> rfl
  show (if (PySem.W.subIn K (.ref D) (.type "BaseException") == some true) = true then (if ((PySem.W.clsIn K D).isSome && PySem.W.typeIn K (.ref D) == some (.type "type")) = true then PySem.W.subIn K (.ref S) (.ref D) else none) else none) = some b
  rw [if_pos e1, if_pos e2]
  exact h4
abbrev qL (x : Str) (st : Stmt) (f c : Addr) : Str := (PyProof.Rows.envOfC x (defScope st) 0 f (.ref c)).qual ++ "<lambda>"
/-- a def with a lambda in it: its code object, and the table that hangs on it -/
structure LamF (K : PySem.W.Frag) (mg : Str → Option Value) (h : Heap) (x : Str) (st : Stmt) (f c Pt : Addr) : Prop where
  fn : ∃ fd, FunC K mg x st f fd (.ref c)
  hd : PySem.W.CodeHd h c Pt
  tb : h.get? Pt = some (PySem.W.tabObj #[])
  no : K.lookup Pt = none
theorem lam_mk {K : PySem.W.Frag} {h : Heap} {mg : Str → Option Value} {x : Str} {st : Stmt} {f c Pt : Addr} {od an : Option Addr} {sl : Array (Option Value)} {oc kV dc pm ct : Value} (X : K.In h) (G : h.Ns mainGlobals mg) (a : PySem.W.nsIn K mainGlobals x = some (some (.ref f)))
    (l : K.lookup f = some ⟨oc, od, .func (PySem.W.fnOf x x (defArgs st) (defBody st) (defScope st) .none kV dc pm an (.ref c) ct), sl⟩) (co : PySem.W.codeIn K (.ref c) x = true) (k : PySem.W.keepIn K (.ref f) = true) (hd : PySem.W.codeHdIn K c Pt = true) (tb : h.get? Pt = some (PySem.W.tabObj #[])) (no : K.lookup Pt = none) : LamF K mg h x st f c Pt :=
  ⟨⟨_, ⟨_, _, _, _, _, _, _, _, rfl, l, co⟩, k, PySem.W.mg_of X G a⟩, PySem.W.codeHd_of_K X hd, tb, no⟩
theorem gi_mk {K : PySem.W.Frag} {h : Heap} {mg : Str → Option Value} {x : Str} {i : Int} {t : Tok} (X : K.In h) (G : h.Ns mainGlobals mg) (a : PySem.W.nsIn K mainGlobals x = some (some (.int i t))) : ∃ t, mg x = some (.int i t) := ⟨t, PySem.W.mg_of X G a⟩
structure Facts (K : PySem.W.Frag) (mg : Str → Option Value) : Prop where
  nb : NoB mg
  is_integer : ∃ f fd, At K mg "is_integer" s_is_integer f fd
  is_number : ∃ f fd, At K mg "is_number" s_is_number f fd
  is_weight : ∃ f fd, At K mg "is_weight" s_is_weight f fd
  is_bag_row : ∃ f fd, At K mg "is_bag_row" s_is_bag_row f fd
  check_bag_row : ∃ f fd, At K mg "check_bag_row" s_check_bag_row f fd
  covers : ∃ f fd, At K mg "covers" s_covers f fd
  covered : ∃ f fd, At K mg "covered" s_covered f fd
  couples_with : ∃ f fd, At K mg "_couples_with" s_couples_with f fd
  far_of : ∃ f fd, At K mg "far_of" s_far_of f fd
  far_couples : ∃ f fd, At K mg "far_couples" s_far_couples f fd
  reach_of : ∃ f fd, At K mg "_reach_of" s_reach_of f fd
  reach : ∃ f fd, At K mg "reach" s_reach f fd
  law_pot : ∃ f fd, At K mg "_law_pot" s_law_pot f fd
  law_draw : ∃ f fd, At K mg "_law_draw" s_law_draw f fd
  law_weights : ∃ f fd, At K mg "_law_weights" s_law_weights f fd
  law_bag : ∃ f fd, At K mg "_law_bag" s_law_bag f fd
  law_order : ∃ f fd, At K mg "_law_order" s_law_order f fd
  law_given : ∃ f fd, At K mg "_law_given" s_law_given f fd
  law_bad_row : ∃ f fd, At K mg "_law_bad_row" s_law_bad_row f fd
  law_is_number : ∃ f fd, At K mg "_law_is_number" s_law_is_number f fd
  law_is_list : ∃ f fd, At K mg "_law_is_list" s_law_is_list f fd
  law_is_row : ∃ f fd, At K mg "_law_is_row" s_law_is_row f fd
  law_is_pairs : ∃ f fd, At K mg "_law_is_pairs" s_law_is_pairs f fd
  law_tame : ∃ f fd, At K mg "_law_tame" s_law_tame f fd
  law_tame_list : ∃ f fd, At K mg "_law_tame_list" s_law_tame_list f fd
  law_exchanged : ∃ f fd, At K mg "_law_exchanged" s_law_exchanged f fd
  law_told : ∃ f fd, At K mg "_law_told" s_law_told f fd
  law_reach : ∃ f fd, At K mg "_law_reach" s_law_reach f fd
  law_is_reach : ∃ f fd, At K mg "_law_is_reach" s_law_is_reach f fd
  law_far_of : ∃ f fd, At K mg "_law_far_of" s_law_far_of f fd
  law_covered : ∃ f fd, At K mg "_law_covered" s_law_covered f fd
  law_second : ∃ f fd, At K mg "_law_second" s_law_second f fd
  law_row_kept : ∃ f fd, At K mg "_law_row_kept" s_law_row_kept f fd
  law : ∃ f fd, At K mg "law" s_law f fd
  gW : ∃ t, mg "MOST_WEIGHT" = some (.int mostW t)
  gS : ∃ t, mg "MOST_STONES" = some (.int 40 t)
/-- the error class -/
structure EFacts (K : PySem.W.Frag) (mg : Str → Option Value) (CR : Addr) : Prop where
  told : Told K mg CR
  oR : OexC K CR
  iR : ∃ f fd, PySem.W.findIn K (.ref CR) "__init__" = some (some (.ref f)) ∧ PySem.W.typeIn K (.ref f) = some (.type "function") ∧ Fun K "__init__" "InvalidRow.__init__" s_InvalidRow_init f fd
section
variable {P : Program} {w : World} {K : PySem.W.Frag} {mg : Str → Option Value} {base : Heap}
theorem lcalls {CR : Addr} (FA : Facts K mg) (EF : EFacts K mg CR) : Calls P w K mg base CR := by
  have nb := FA.nb
  obtain ⟨_, _, a1⟩ := FA.is_integer
  have c1 : Cl P w K mg base CX0 1 "is_integer" _ := cl_is_integer a1 nb
  obtain ⟨_, _, a2⟩ := FA.is_number
  have c2 := cl_is_number a2 c1
  obtain ⟨_, _, a3⟩ := FA.is_weight
  obtain ⟨_, gW⟩ := FA.gW
  obtain ⟨_, gS⟩ := FA.gS
  have c3 := cl_is_weight a3 c2 gW
  obtain ⟨_, _, a4⟩ := FA.is_bag_row
  have c4 := cl_is_bag_row a4 nb c3 gS
  have c4d : Cl P w K mg base CX0 1 "is_bag_row" _ := cl_is_bag_rowD a4 nb
  obtain ⟨fR, fdR, w1, w2, w3⟩ := EF.iR
  have To := EF.told
  have erR : ErrC P w K mg base "InvalidRow" CR ["row"] := ⟨To.gR, EF.oR, To.xR, fun f hf => by rw [List.mem_singleton.mp hf]; exact To.nR, fR, fdR, _, w1, w2, ok_initR w3 EF.oR To.nR, w3.binds fun _ _ _ _ _ _ us hl => match us, hl with | [_, _], _ => rfl⟩
  obtain ⟨_, _, a5⟩ := FA.check_bag_row
  have c5 := cl_chk a5 c4 c4d erR
  obtain ⟨_, _, a6⟩ := FA.covers
  have c6 : Cl P w K mg base CX0 1 "covers" _ := cl_covers a6
  obtain ⟨_, _, a7⟩ := FA.covered
  have c7 := cl_covered a7 c6 nb
  obtain ⟨_, _, a8⟩ := FA.couples_with
  have c8 := cl_couples_with a8 c7
  obtain ⟨_, _, a9⟩ := FA.far_of
  have c9 := cl_far_of a9 c8 nb
  obtain ⟨_, _, a10⟩ := FA.far_couples
  have c10 := cl_far_couples a10 c5 c9
  obtain ⟨_, _, a11⟩ := FA.reach_of
  have c11 : Cl P w K mg base CX0 1 "_reach_of" _ := cl_reach_of a11 nb
  obtain ⟨_, _, a12⟩ := FA.reach
  have c12 := cl_reach a12 nb c5 c11
  obtain ⟨_, _, b1⟩ := FA.law_pot
  obtain ⟨_, _, b2⟩ := FA.law_draw
  have cd : Cl P w K mg base CX0 1 "_law_draw" spDraw := cl_law_draw b2 nb
  obtain ⟨_, _, b3⟩ := FA.law_weights
  have cW := cl_law_weights b3 nb cd
  obtain ⟨_, _, b4⟩ := FA.law_bag
  obtain ⟨_, _, b5⟩ := FA.law_order
  have cO := cl_law_order b5 nb cd
  obtain ⟨_, _, b6⟩ := FA.law_given
  obtain ⟨_, _, b7⟩ := FA.law_bad_row
  obtain ⟨_, _, b8⟩ := FA.law_is_number
  have cN : Cl P w K mg base CX0 1 "_law_is_number" _ := cl_law_is_number b8 nb
  obtain ⟨_, _, b9⟩ := FA.law_is_list
  have cL := cl_law_is_list b9 cN nb
  obtain ⟨_, _, b10⟩ := FA.law_is_row
  have cR := cl_law_is_row b10 cL nb
  obtain ⟨_, _, b11⟩ := FA.law_is_pairs
  have cP := cl_law_is_pairs b11 cR nb
  obtain ⟨_, _, b12⟩ := FA.law_tame
  have cT : Cl P w K mg base CX0 1 "_law_tame" _ := cl_law_tame b12 nb
  obtain ⟨_, _, b13⟩ := FA.law_tame_list
  have cTL := cl_law_tame_list b13 nb cT
  obtain ⟨_, _, b14⟩ := FA.law_exchanged
  have cE : Cl P w K mg base CX0 1 "_law_exchanged" _ := cl_law_exchanged b14 nb
  obtain ⟨g15, fd15, b15⟩ := FA.law_told
  obtain ⟨_, _, b16⟩ := FA.law_reach
  have cLR : Cl P w K mg base CX0 1 "_law_reach" _ := cl_law_reach b16 nb
  obtain ⟨_, _, b17⟩ := FA.law_is_reach
  have cIR := cl_law_is_reach b17 nb cN cLR
  obtain ⟨_, _, b18⟩ := FA.law_far_of
  have cFO : Cl P w K mg base CX0 1 "_law_far_of" _ := cl_law_far_of b18 nb
  obtain ⟨_, _, b19⟩ := FA.law_covered
  have cC : Cl P w K mg base CX0 1 "_law_covered" _ := cl_law_covered b19 nb
  obtain ⟨_, _, b20⟩ := FA.law_second
  obtain ⟨_, _, b21⟩ := FA.law_row_kept
  exact ⟨nb, cd, cl_law_pot b1 nb, cl_law_bag b4 nb cd cW, cl_law_given b6 nb cd, cl_law_bad_row b7 nb cd, cl_law_second b20 nb cd cE cO cTL, cl_row_kept b21 nb c12 c10 cIR cP cFO cC, c12, c10, ⟨g15, fd15, b15⟩, To⟩
end
theorem law_at {l : PySem.W.OpenLaw} {w : World} {K : PySem.W.Frag} {h : Heap} {mg : Str → Option Value} {fa CR f1 c1 P1 : Addr} (hfa : mg "law" = some (.ref fa)) (A : Facts K mg) (EF : EFacts K mg CR)
    (l1 : LamF K mg h "_law_world" s_law_world f1 c1 P1) : LamX.LawAtS l w K CX0 10 63 "script" mg fa h := by
  obtain ⟨f, fd, AL⟩ := A.law
  have e := hfa.symm.trans AL.gl
  cases e
  obtain ⟨oc, od, kV, doc, pm, an, cdv, ct, osl, e1, _, _⟩ := AL.fn.ex
  refine ⟨fd, [(c1, P1)], spLaw K [(P1, qL "_law_world" s_law_world f1 c1)], ?_, ?_, ?_, ?_, ?_, ?_⟩
  · simp only [List.mem_cons, List.not_mem_nil, or_false]
    rintro p rfl
    exact l1.tb
  · simp only [List.mem_cons, List.not_mem_nil, or_false]
    rintro p rfl
    exact l1.no
  · simp only [List.mem_cons, List.not_mem_nil, or_false]
    rintro p rfl
    exact l1.hd
  · intro s u
    rw [e1]
    exact .of_eq rfl
  · intro H a ns hl _ ht hS
    refine ⟨a, ns, rfl, hS, hl, ?_, fun _ => rfl⟩
    intro p hp
    simp only [List.mem_cons, List.not_mem_nil, or_false] at hp
    rcases hp with rfl
    exact LamX.TabS.nil (ht (c1, P1) (by simp))
  · intro base KB GB tb
    obtain ⟨fd1, F1⟩ := l1.fn
    have L := lcalls (P := l.prog) (w := w) (base := base) A EF
    refine ok_law AL L (cl_law_world F1 L ⟨c1, P1, rfl, tb (c1, P1) (by simp), by simp [qL], ?_⟩)
    simp only [List.mem_cons, List.not_mem_nil, or_false]
    rintro p rfl e
    rfl
open PySem.W (nsIn findIn typeIn subIn keepIn isClsIn hasDictIn codeIn fnOf)
theorem ef_mk {K : PySem.W.Frag} {h : Heap} {mg : Str → Option Value} {CW fW : Addr} (X : K.In h) (G : h.Ns mainGlobals mg)
    {nmW qW : Str} {NW : Addr} {bsW bmW : List Value} {snW : List Str} {subW : List Value} {abW : Bool} {colW : Option Bool} {ddW : Option Addr} {w0 w1 w2 w3 w5 : Option Value}
    {od1 an1 : Option Addr} {sl1 : Array (Option Value)} {oc1 kV1 dc1 pm1 cd1 ct1 : Value}
    (aW : nsIn K mainGlobals "InvalidRow" = some (some (.ref CW)))
    (lW : K.lookup CW = some (excClassObj nmW qW CW NW bsW bmW true snW subW abW colW ddW w0 w1 w2 w3 w5 "ValueError.__new__")) (rW : HandSPX.refsVE bmW = true)
    (saW : findIn K (.ref CW) "__setattr__" = some (some (.builtin "object.__setattr__")))
    (eW : subIn K (.ref CW) (.type "BaseException") = some true)
    (tW : typeIn K (.ref CW) = some (.type "type"))
    (kW : keepIn K (.ref CW) = true)
    (gaW : findIn K (.ref CW) "__getattribute__" = some (some (.builtin "BaseException.__getattribute__")))
    (ggW : findIn K (.ref CW) "__getattr__" = some none) (hdW : hasDictIn K CW = true)
    (nW : findIn K (.ref CW) "row" = some none)
    (cW : isClsIn K CW = true)
    (ww : subIn K (.ref CW) (.ref CW) = some true)
    (iW : findIn K (.ref CW) "__init__" = some (some (.ref fW))) (yW : typeIn K (.ref fW) = some (.type "function")) (l1 : K.lookup fW = some ⟨oc1, od1, .func (fnOf "__init__" "InvalidRow.__init__" (defArgs s_InvalidRow_init) (defBody s_InvalidRow_init) (defScope s_InvalidRow_init) .none kV1 dc1 pm1 an1 cd1 ct1), sl1⟩) (c1 : codeIn K cd1 "InvalidRow.__init__" = true) (k1 : keepIn K (.ref fW) = true) : EFacts K mg CW :=
  ⟨⟨PySem.W.mg_of X G aW, exm_of eW eW cW tW ww, ⟨gaW, ggW, eW, hdW⟩, nW⟩, ⟨⟨_, _, _, _, _, _, _, _, _, _, _, _, _, _, _, lW, rW⟩, saW, eW, tW, kW⟩, ⟨fW, _, iW, yW, fun_mk l1 c1 k1⟩⟩
end CK

open PySem PySem.W PyProof.Rows in
set_option maxRecDepth 100000 in
set_option maxHeartbeats 0 in
theorem PySem.Challenge.cw_millbrook_k10_reach_holds : PySem.Challenge.rw_millbrook_k10_reach.Holds := by
  w_on; o_law; k_head; (case hw => w_witness2)
  k_fill
  refine LamX.walk_ofTs (l := PySem.Challenge.rw_millbrook_k10_reach) (n := 63) (k := 10) (x := "script") (CX := fun _ => L2.CX0) rfl (by rw [sizeLine_eq]; decide) rfl ⟨rfl, by decide, by decide⟩ (fun w h Y => PySem.W.km_in_of Y) ?F (fun _ _ _ _ _ z => z)
  case F =>
    intro w mg fa h Y KX G hmg
    have TB := PySem.W.km_tabs_of Y
    refine' CK.law_at hmg ⟨⟨PySem.W.mg_none_of KX G ?z_0, PySem.W.mg_none_of KX G ?z_1, PySem.W.mg_none_of KX G ?z_2, PySem.W.mg_none_of KX G ?z_3, PySem.W.mg_none_of KX G ?z_4, PySem.W.mg_none_of KX G ?z_5, PySem.W.mg_none_of KX G ?z_6, PySem.W.mg_none_of KX G ?z_7, PySem.W.mg_none_of KX G ?z_8, PySem.W.mg_none_of KX G ?z_9, PySem.W.mg_none_of KX G ?z_10, PySem.W.mg_none_of KX G ?z_11, PySem.W.mg_none_of KX G ?z_12, PySem.W.mg_none_of KX G ?z_13, PySem.W.mg_none_of KX G ?z_14, PySem.W.mg_none_of KX G ?z_15, PySem.W.mg_none_of KX G ?z_16⟩, CK.at_mk KX G ?a_17 ?l_18 ?c_19 ?k_20, CK.at_mk KX G ?a_21 ?l_22 ?c_23 ?k_24, CK.at_mk KX G ?a_25 ?l_26 ?c_27 ?k_28, CK.at_mk KX G ?a_29 ?l_30 ?c_31 ?k_32, CK.at_mk KX G ?a_33 ?l_34 ?c_35 ?k_36, CK.at_mk KX G ?a_37 ?l_38 ?c_39 ?k_40, CK.at_mk KX G ?a_41 ?l_42 ?c_43 ?k_44, CK.at_mk KX G ?a_45 ?l_46 ?c_47 ?k_48, CK.at_mk KX G ?a_49 ?l_50 ?c_51 ?k_52, CK.at_mk KX G ?a_53 ?l_54 ?c_55 ?k_56, CK.at_mk KX G ?a_57 ?l_58 ?c_59 ?k_60, CK.at_mk KX G ?a_61 ?l_62 ?c_63 ?k_64, CK.at_mk KX G ?a_65 ?l_66 ?c_67 ?k_68, CK.at_mk KX G ?a_69 ?l_70 ?c_71 ?k_72, CK.at_mk KX G ?a_73 ?l_74 ?c_75 ?k_76, CK.at_mk KX G ?a_77 ?l_78 ?c_79 ?k_80, CK.at_mk KX G ?a_81 ?l_82 ?c_83 ?k_84, CK.at_mk KX G ?a_85 ?l_86 ?c_87 ?k_88, CK.at_mk KX G ?a_89 ?l_90 ?c_91 ?k_92, CK.at_mk KX G ?a_93 ?l_94 ?c_95 ?k_96, CK.at_mk KX G ?a_97 ?l_98 ?c_99 ?k_100, CK.at_mk KX G ?a_101 ?l_102 ?c_103 ?k_104, CK.at_mk KX G ?a_105 ?l_106 ?c_107 ?k_108, CK.at_mk KX G ?a_109 ?l_110 ?c_111 ?k_112, CK.at_mk KX G ?a_113 ?l_114 ?c_115 ?k_116, CK.at_mk KX G ?a_117 ?l_118 ?c_119 ?k_120, CK.at_mk KX G ?a_121 ?l_122 ?c_123 ?k_124, CK.at_mk KX G ?a_125 ?l_126 ?c_127 ?k_128, CK.at_mk KX G ?a_129 ?l_130 ?c_131 ?k_132, CK.at_mk KX G ?a_133 ?l_134 ?c_135 ?k_136, CK.at_mk KX G ?a_137 ?l_138 ?c_139 ?k_140, CK.at_mk KX G ?a_141 ?l_142 ?c_143 ?k_144, CK.at_mk KX G ?a_145 ?l_146 ?c_147 ?k_148, CK.at_mk KX G ?a_149 ?l_150 ?c_151 ?k_152, CK.gi_mk KX G ?g_153, CK.gi_mk KX G ?g_154⟩ (CK.ef_mk KX G ?e_155 ?e_156 ?dec_157 ?e_158 ?e_159 ?e_160 ?e_161 ?e_162 ?e_163 ?e_164 ?e_165 ?e_166 ?sub_167 ?e_168 ?e_169 ?e_170 ?e_171 ?e_172) (CK.lam_mk (Pt := 261) KX G ?m_173 ?m_174 ?m_175 ?m_176 ?hd_177 ?tab_178 ?no_179)
    (case z_0 => k_is)
    (case z_1 => k_is)
    (case z_2 => k_is)
    (case z_3 => k_is)
    (case z_4 => k_is)
    (case z_5 => k_is)
    (case z_6 => k_is)
    (case z_7 => k_is)
    (case z_8 => k_is)
    (case z_9 => k_is)
    (case z_10 => k_is)
    (case z_11 => k_is)
    (case z_12 => k_is)
    (case z_13 => k_is)
    (case z_14 => k_is)
    (case z_15 => k_is)
    (case z_16 => k_is)
    (case a_17 => k_is)
    (case l_18 => k_is)
    (case c_19 => k_is)
    (case k_20 => k_is)
    (case a_21 => k_is)
    (case l_22 => k_is)
    (case c_23 => k_is)
    (case k_24 => k_is)
    (case a_25 => k_is)
    (case l_26 => k_is)
    (case c_27 => k_is)
    (case k_28 => k_is)
    (case a_29 => k_is)
    (case l_30 => k_is)
    (case c_31 => k_is)
    (case k_32 => k_is)
    (case a_33 => k_is)
    (case l_34 => k_is)
    (case c_35 => k_is)
    (case k_36 => k_is)
    (case a_37 => k_is)
    (case l_38 => k_is)
    (case c_39 => k_is)
    (case k_40 => k_is)
    (case a_41 => k_is)
    (case l_42 => k_is)
    (case c_43 => k_is)
    (case k_44 => k_is)
    (case a_45 => k_is)
    (case l_46 => k_is)
    (case c_47 => k_is)
    (case k_48 => k_is)
    (case a_49 => k_is)
    (case l_50 => k_is)
    (case c_51 => k_is)
    (case k_52 => k_is)
    (case a_53 => k_is)
    (case l_54 => k_is)
    (case c_55 => k_is)
    (case k_56 => k_is)
    (case a_57 => k_is)
    (case l_58 => k_is)
    (case c_59 => k_is)
    (case k_60 => k_is)
    (case a_61 => k_is)
    (case l_62 => k_is)
    (case c_63 => k_is)
    (case k_64 => k_is)
    (case a_65 => k_is)
    (case l_66 => k_is)
    (case c_67 => k_is)
    (case k_68 => k_is)
    (case a_69 => k_is)
    (case l_70 => k_is)
    (case c_71 => k_is)
    (case k_72 => k_is)
    (case a_73 => k_is)
    (case l_74 => k_is)
    (case c_75 => k_is)
    (case k_76 => k_is)
    (case a_77 => k_is)
    (case l_78 => k_is)
    (case c_79 => k_is)
    (case k_80 => k_is)
    (case a_81 => k_is)
    (case l_82 => k_is)
    (case c_83 => k_is)
    (case k_84 => k_is)
    (case a_85 => k_is)
    (case l_86 => k_is)
    (case c_87 => k_is)
    (case k_88 => k_is)
    (case a_89 => k_is)
    (case l_90 => k_is)
    (case c_91 => k_is)
    (case k_92 => k_is)
    (case a_93 => k_is)
    (case l_94 => k_is)
    (case c_95 => k_is)
    (case k_96 => k_is)
    (case a_97 => k_is)
    (case l_98 => k_is)
    (case c_99 => k_is)
    (case k_100 => k_is)
    (case a_101 => k_is)
    (case l_102 => k_is)
    (case c_103 => k_is)
    (case k_104 => k_is)
    (case a_105 => k_is)
    (case l_106 => k_is)
    (case c_107 => k_is)
    (case k_108 => k_is)
    (case a_109 => k_is)
    (case l_110 => k_is)
    (case c_111 => k_is)
    (case k_112 => k_is)
    (case a_113 => k_is)
    (case l_114 => k_is)
    (case c_115 => k_is)
    (case k_116 => k_is)
    (case a_117 => k_is)
    (case l_118 => k_is)
    (case c_119 => k_is)
    (case k_120 => k_is)
    (case a_121 => k_is)
    (case l_122 => k_is)
    (case c_123 => k_is)
    (case k_124 => k_is)
    (case a_125 => k_is)
    (case l_126 => k_is)
    (case c_127 => k_is)
    (case k_128 => k_is)
    (case a_129 => k_is)
    (case l_130 => k_is)
    (case c_131 => k_is)
    (case k_132 => k_is)
    (case a_133 => k_is)
    (case l_134 => k_is)
    (case c_135 => k_is)
    (case k_136 => k_is)
    (case a_137 => k_is)
    (case l_138 => k_is)
    (case c_139 => k_is)
    (case k_140 => k_is)
    (case a_141 => k_is)
    (case l_142 => k_is)
    (case c_143 => k_is)
    (case k_144 => k_is)
    (case a_145 => k_is)
    (case l_146 => k_is)
    (case c_147 => k_is)
    (case k_148 => k_is)
    (case a_149 => k_is)
    (case l_150 => k_is)
    (case c_151 => k_is)
    (case k_152 => k_is)
    (case g_153 => k_is)
    (case g_154 => k_is)
    (case e_155 => k_is)
    (case e_156 => k_is)
    (case dec_157 => decide +kernel)
    (case e_158 => k_is)
    (case e_159 => k_is)
    (case e_160 => k_is)
    (case e_161 => k_is)
    (case e_162 => k_is)
    (case e_163 => k_is)
    (case e_164 => k_is)
    (case e_165 => k_is)
    (case e_166 => k_is)
    (case sub_167 => first | rfl | k_is)
    (case e_168 => k_is)
    (case e_169 => k_is)
    (case e_170 => k_is)
    (case e_171 => k_is)
    (case e_172 => k_is)
    (case m_173 => k_is)
    (case m_174 => k_is)
    (case m_175 => k_is)
    (case m_176 => k_is)
    (case hd_177 => kernel_rfl)
    (case tab_178 => exact TB _ (by simp))
    (case no_179 => first | rfl | k_is)

