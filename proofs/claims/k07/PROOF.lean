import PyProof.Rows.All
import Wide.All
import OpenK.AllK
import Wide.FinOn
import HandS.ForMost
import HandS.SetFor
import HandS.ForExc
import HandS.IsInst
import HandS.Evl
import HandS.Flow
import HandS.Codes
import HandS.Wide
import HandS.TupAny
import HandS.Conv
import HandS.Strs
import HandS.SortInts
import KE.DataMinMax
import KE.DataAny
import KE.SortData
import HandS.SortKw
import HandS.ExcInit
import HandS.ExcField
import HandS.Small
import HandS.TryMany
import HandS.Property
import HandS.Lambda
import KE.GoesEnum
import HandS.More
import HandS.NoneIn
import HandS.TupLe
import PyProof.TupleOfSeq
import HandS.WideBits
import HandS.ExcIs
import KE.KExcIs
import PyProof.NeKinds
import KE.KNest
import KE.KNestM
import HandS.EndTab
import PySem.Challenge.RW_millbrook_k07_tame_places
set_option Elab.async false
set_option linter.all false
set_option maxRecDepth 100000
namespace GV
open PySem PySem.Spec PyProof.Rows L2
/-- a set as it is new -/
abbrev nset (w : World) : Obj := { cls := .type "set", dict := none, data := .set #[] 0 (.fresh 0 0 (!w.params.followText "set-order")) }
section
variable {P : Program} {w : World} {A : Around} {E : Value → Shared → Prop} {s : Shared}
set_option maxHeartbeats 3200000 in
/-- set(l), l a list of ints: its members in the order of the world -/
theorem set_ofL {l : Addr} {items : Array Value} (ns : List Int) {Q : Value → Shared → Prop} (hh : A.handled = none) (hl : s.heap.IsList l items) (hit : IntsAre items.toList ns) (hb : ns.length + 1 < scanBound)
    (fin : ∀ (g : Heap) (tk c : Nat), SetR w g s.heap.objs.size (fun j => decide (j ∈ ns)) c → c ≤ ns.length → (∀ b o, s.heap.get? b = some o → g.get? b = some o) → Q (.ref s.heap.objs.size) { s with heap := g, toks := tk }) :
    wpAny (model P w) A (call (.type "set") [.ref l]) Q E s := by
  have size : items.size = ns.length := by
    have q := IntsAre.length hit
    rwa [Array.length_toList] at q
  obtain ⟨c, tl, hmro⟩ := F.called_set.mro
  have a1 := F.called_set.made
  have a2 := F.called_set.sub
  refine wpAny_call (codeAny_of_tree (show wpAny _ _ (callAny (.type "set") _) _ _ _ from wpAny_pure ⟨Code.quiet_builtin _ (by decide +kernel), codeAny_builtin F.entry_type_call ?_⟩))
  rw [Around.under_plain (weight_type_call_type "set" [.ref l] []) rfl]
  have a3 := F.called_set.notType
  have a4 := F.called_set.canCreate
  have a5 := F.typeCall_set_1 (.ref l)
  repeat (any_goals first | assumption | wp_step)
  refine codeAny_mono (code_set_led1 (.ref l) (E := E) (Q₁ := fun o s₁ => o = .ref s.heap.objs.size ∧ s₁ = { s with heap := s.heap.push (nset w) }) ⟨rfl, rfl⟩) fun r s₁ hr => ?_
  rcases r with er | fl
  · exact hr
  rcases fl with _ | _ | _ | ob
  iterate 3 exact hr.elim
  obtain ⟨rfl, rfl⟩ := hr
  have at0 : (s.heap.push (nset w)).get? s.heap.objs.size = some (nset w) := Heap.get?_push_size _ rfl
  have ty0 : Shared.TypeIs { s with heap := s.heap.push (nset w) } (.ref s.heap.objs.size) "set" := ⟨_, at0, rfl⟩
  have b1 := F.called_set.init.lookup
  have b2 := F.called_set.init.bind (.ref s.heap.objs.size)
  repeat (any_goals first | assumption | wp_step)
  refine codeAny_mono (codeAny_call_builtin (R := wants (fun r s₂ => r = .none ∧ ∃ g tk c, s₂ = { s with heap := g, toks := tk } ∧ SetR w g s.heap.objs.size (fun j => decide (j ∈ ns)) c ∧ c ≤ ns.length ∧ (∀ b o, s.heap.get? b = some o → g.get? b = some o)) E)
    F.called_set.init.plain F.entry_set_init (check_set_init_1 ty0 ?_)) fun r₂ s₂ hr₂ => ?_
  · obtain ⟨⟨oc, od, odt, osl⟩, hol, hcl, nl, hdl⟩ := hl
    simp only at hcl hdl
    subst hcl hdl
    have ol : (s.heap.push (nset w)).get? l = some { cls := .type "list", dict := od, data := .seq items nl, slots := osl } := Heap.get?_push_of_some _ hol
    have c1 := F.sub_list_set
    have c2 := F.sub_list_frozenset
    have c3 : (Value.type "list" == Value.type "dict") = false := by decide
    have isl : (s.heap.push (nset w)).IsList l items := ⟨_, ol, rfl, nl, rfl⟩
    unfold Builtin.«set.__init__» noKeywords Builtin.Frozenset.updateFrom
    generalize hPI : pyIter = PI
    wp_walk
    subst hPI
    refine wpAny_pyIter_list isl (wpAny_bind (wpAny_runValue ?_))
    have lt : l < s.heap.objs.size := Heap.lt_size hol
    have hh3 : A.in1.in1.in1.handled = none := by simp [hh]
    have neI : l ≠ (s.heap.push (nset w)).objs.size := by
      rw [Heap.size_push]
      exact Nat.ne_of_lt (Nat.lt_succ_of_lt lt)
    have nf : s.heap.objs.size ∉ [(s.heap.push (nset w)).objs.size, l] := by
      rw [Heap.size_push]
      simp only [List.mem_cons, List.not_mem_nil, or_false, not_or]
      exact And.intro (Nat.ne_of_lt (Nat.lt_succ_self _)) (Nat.ne_of_gt lt)
    have val : ∀ (i : Nat) (v : Value), items[i]? = some v → ∃ k t, ns[i]? = some k ∧ v = .int k t := fun i v hv => by
      have hi : i < ns.length := by rw [← size]; exact (Array.getElem?_eq_some_iff.mp hv).1
      obtain ⟨t, e⟩ := PyProof.Rows.IntsAre.int_at hit i v (by rwa [Array.getElem?_toList])
      refine ⟨ns[i], t, List.getElem?_eq_getElem hi, ?_⟩
      rw [e, List.getD_eq_getElem?_getD, List.getElem?_eq_getElem hi, Option.getD_some]
    refine set_update_ints ((Walks.list hh3 _ l neI items).toS) s.heap.objs.size nf ns size hb val (items.size - 0) 0 _ (by omega) (Nat.zero_le _) ⟨⟨_, Heap.get?_push_size _ rfl, rfl, rfl⟩, isl.push _⟩ ?z ?y
    case z => exact ⟨0, Nat.le_refl 0, setR_new_at (Heap.get?_push_of_some _ at0)⟩
    case y =>
      rintro ⟨g, gn, dr, tk, os⟩ c' hm hc' hS'
      obtain rfl : gn = s.gens := hm.gens
      obtain rfl : dr = s.drawn := hm.drawn
      obtain rfl : os = s.os := hm.os
      refine wpAny_pure (show wpAny _ _ (ret Value.none) _ _ _ from wpAny_pure ⟨rfl, g, tk, c', rfl, hS', size ▸ hc', fun b o e => ?_⟩)
      have b0 : b < s.heap.objs.size := Heap.lt_size e
      refine hm.heap b o ?_ (Heap.get?_push_of_some _ (Heap.get?_push_of_some _ e))
      rw [Heap.size_push]
      simp only [List.mem_cons, List.not_mem_nil, or_false, not_or]
      exact And.intro (Nat.ne_of_lt b0) (Nat.ne_of_lt (Nat.lt_succ_of_lt b0))
  · rcases r₂ with er | fl₂
    · exact hr₂
    rcases fl₂ with _ | _ | _ | r
    iterate 3 exact hr₂.elim
    obtain ⟨rfl, g, tk, c', rfl, hS', hc', hk'⟩ := hr₂
    repeat (any_goals first | assumption | wp_step)
    exact fin _ _ _ hS' hc' hk'
end
end GV

/-! Rules upon the syntax itself: the weakest reading of a piece of text, and what it gives on data. -/
namespace GV
open PySem PySem.Spec PyProof.Rows L2
abbrev St := L2.St

/-! ### the weakest readings -/
def wE (X : Cx) (e : Expr) : TE := fun σ H Q => ∃ t, PE X e t ∧ t σ H Q
def wT (X : Cx) (e : Expr) : TT := fun σ H Q => ∃ t, PT X e t ∧ t σ H Q
def wA (X : Cx) (es : List Expr) : TA := fun σ H Q => ∃ t, PA X es t ∧ t σ H Q
def wS (X : Cx) (st : Stmt) : TS := fun D σ H => ∃ t, PS X st t ∧ t D σ H
def wB (X : Cx) (st : List Stmt) : TS := fun D σ H => ∃ t, PSs X st t ∧ t D σ H
section
variable {X : Cx}
theorem wE.pe {e : Expr} : PE X e (wE X e) := ⟨fun pins s σ H Q I ⟨_, h, q⟩ => h.run pins s σ H Q I q⟩
theorem wT.pt {e : Expr} : PT X e (wT X e) := ⟨fun pins s σ H Q I ⟨_, h, q⟩ => h.run pins s σ H Q I q⟩
theorem wA.pa {es : List Expr} : PA X es (wA X es) := ⟨fun pos pins s σ H Q I ⟨_, h, q⟩ => h.run pos pins s σ H Q I q⟩
theorem wS.ps {st : Stmt} : PS X st (wS X st) := ⟨fun pins s σ H D I ⟨_, h, q⟩ => h.run pins s σ H D I q⟩
theorem wB.ps {st : List Stmt} : PSs X st (wB X st) := ⟨fun pins s σ H D I ⟨_, h, q⟩ => h.run pins s σ H D I q⟩
end

/-! ### what is known of the heap: all but the mutable things at M and the tables -/
def NT (o : HO) : Prop := ∀ ps, o ≠ .tbl ps
def ExM (M : Addr → Prop) (H H' : Hp) : Prop := ∀ a o, H a = some o → ¬ M a → NT o → H' a = some o
def Alive (M : Addr → Prop) (H : Hp) : Prop := ∀ a, M a → ∃ o, H a = some o
theorem ExM.refl {M : Addr → Prop} (H : Hp) : ExM M H H := fun _ _ h _ _ => h
theorem ExM.trans {M : Addr → Prop} {H H1 H2 : Hp} (a : ExM M H H1) (b : ExM M H1 H2) : ExM M H H2 := fun x o h m n => b x o (a x o h m n) m n
theorem ExM.of {M : Addr → Prop} {H H' : Hp} (e : Evl.Ex H H') : ExM M H H' := fun a o h _ _ => e a o h
theorem Alive.mono {M : Addr → Prop} {H H' : Hp} (a : Alive M H) (e : Evl.Ex H H') : Alive M H' := fun x m => let ⟨o, h⟩ := a x m; ⟨o, e x o h⟩
theorem Alive.fresh {M : Addr → Prop} {H : Hp} {p : Addr} (a : Alive M H) (h : H p = none) : ¬ M p := fun m => by
  obtain ⟨o, q⟩ := a p m
  rw [h] at q
  cases q

mutual
/-- v is the datum d, none of whose parts lies in M -/
inductive Rp (K : PySem.W.Frag) (M : Addr → Prop) (H : Hp) : V → PyData → Prop
  | non : Rp K M H .non .none
  | bl (b : Bool) : Rp K M H (.bl b) (.bool b)
  | int (i : Int) : Rp K M H (.int i) (.int i)
  | str (x : Str) : Rp K M H (.str x) (.str x)
  | lst {a : Addr} {xs : List V} {ds : List PyData} : ¬ M a → Rd H a (.lst xs) → RpAll K M H xs ds → Rp K M H (.ref a) (.list ds)
  | tup {a : Addr} {xs : List V} {ds : List PyData} : ¬ M a → Rd H a (.tup xs) → RpAll K M H xs ds → Rp K M H (.ref a) (.tuple ds)
inductive RpAll (K : PySem.W.Frag) (M : Addr → Prop) (H : Hp) : List V → List PyData → Prop
  | nil : RpAll K M H [] []
  | cons {v : V} {vs : List V} {d : PyData} {ds : List PyData} : Rp K M H v d → RpAll K M H vs ds → RpAll K M H (v :: vs) (d :: ds)
end

section
variable {K : PySem.W.Frag} {M M' : Addr → Prop} {H H' : Hp}
theorem Rd.exM {a : Addr} {xs : List V} (h : Rd H a (.lst xs)) (m : ¬ M a) (e : ExM M H H') : Rd H' a (.lst xs) := by
  rcases h with h | ⟨o, h⟩
  · exact .inl (e _ _ h m (fun _ z => by cases z))
  · exact .inr ⟨o, e _ _ h m (fun _ z => by cases z)⟩
theorem Rd.exT {a : Addr} {xs : List V} (h : Rd H a (.tup xs)) (m : ¬ M a) (e : ExM M H H') : Rd H' a (.tup xs) := by
  rcases h with h | ⟨o, h⟩
  · exact .inl (e _ _ h m (fun _ z => by cases z))
  · exact .inr ⟨o, e _ _ h m (fun _ z => by cases z)⟩
theorem Rd.there {a : Addr} {u : HO} (h : Rd H a u) : H a ≠ none := by
  rcases h with h | ⟨o, h⟩ <;> rw [h] <;> exact fun z => by cases z
mutual
theorem Rp.mono {v : V} {d : PyData} : (r : Rp K M H v d) → (hm : ∀ a, M' a → M a) → ExM M H H' → Rp K M' H' v d
  | .non, _, _ => .non
  | .bl b, _, _ => .bl b
  | .int i, _, _ => .int i
  | .str x, _, _ => .str x
  | .lst m h r, hm, e => .lst (fun z => m (hm _ z)) (Rd.exM h m e) (RpAll.mono r hm e)
  | .tup m h r, hm, e => .tup (fun z => m (hm _ z)) (Rd.exT h m e) (RpAll.mono r hm e)
theorem RpAll.mono {vs : List V} {ds : List PyData} : (r : RpAll K M H vs ds) → (hm : ∀ a, M' a → M a) → ExM M H H' → RpAll K M' H' vs ds
  | .nil, _, _ => .nil
  | .cons r rs, hm, e => .cons (Rp.mono r hm e) (RpAll.mono rs hm e)
end
mutual
/-- further mutable things, none of which was there -/
theorem Rp.wide {v : V} {d : PyData} : (r : Rp K M H v d) → (∀ a, M' a → M a ∨ H a = none) → Rp K M' H v d
  | .non, _ => .non
  | .bl b, _ => .bl b
  | .int i, _ => .int i
  | .str x, _ => .str x
  | .lst m h r, hm => .lst (fun z => (hm _ z).elim m (Rd.there h)) h (RpAll.wide r hm)
  | .tup m h r, hm => .tup (fun z => (hm _ z).elim m (Rd.there h)) h (RpAll.wide r hm)
theorem RpAll.wide {vs : List V} {ds : List PyData} : (r : RpAll K M H vs ds) → (∀ a, M' a → M a ∨ H a = none) → RpAll K M' H vs ds
  | .nil, _ => .nil
  | .cons r rs, hm => .cons (Rp.wide r hm) (RpAll.wide rs hm)
end
mutual
theorem Rp.dp {v : V} {d : PyData} : (r : Rp K M H v d) → Dp K H v d
  | .non => .non
  | .bl b => .bl b
  | .int i => .int i
  | .str x => .str x
  | .lst _ h r => .lst (.inl h) (RpAll.dp r)
  | .tup _ h r => .tup (.inl h) (RpAll.dp r)
theorem RpAll.dp {vs : List V} {ds : List PyData} : (r : RpAll K M H vs ds) → DpAll K H vs ds
  | .nil => .nil
  | .cons r rs => .cons (Rp.dp r) (RpAll.dp rs)
end
theorem RpAll.length : ∀ {vs : List V} {ds : List PyData}, RpAll K M H vs ds → vs.length = ds.length
  | _, _, .nil => rfl
  | _, _, .cons _ rs => congrArg (· + 1) rs.length
theorem RpAll.get : ∀ {vs : List V} {ds : List PyData} {i : Nat} {d : PyData}, RpAll K M H vs ds → ds[i]? = some d → ∃ v, vs[i]? = some v ∧ Rp K M H v d
  | _, _, 0, _, .cons r _, e => by
    simp at e
    subst e
    exact ⟨_, rfl, r⟩
  | _, _, i + 1, d, .cons _ rs, e => by
    obtain ⟨v, h1, h2⟩ := RpAll.get (i := i) (d := d) rs (by simpa using e)
    exact ⟨v, by simpa using h1, h2⟩
  | _, _, _, _, .nil, e => by simp at e
theorem RpAll.append : ∀ {vs ws : List V} {ds es : List PyData}, RpAll K M H vs ds → RpAll K M H ws es → RpAll K M H (vs ++ ws) (ds ++ es)
  | _, _, _, _, .nil, s => s
  | _, _, _, _, .cons r rs, s => .cons r (RpAll.append rs s)
theorem RpAll.ints : ∀ ns : List Int, RpAll K M H (ns.map V.int) (ns.map PyData.int)
  | [] => .nil
  | n :: r => .cons (.int n) (RpAll.ints r)
theorem RpAll.strs : ∀ ns : List Str, RpAll K M H (ns.map V.str) (ns.map PyData.str)
  | [] => .nil
  | n :: r => .cons (.str n) (RpAll.strs r)
theorem RpAll.of_ints : ∀ {vs : List V} {ns : List Int}, RpAll K M H vs (ns.map PyData.int) → vs = ns.map V.int
  | [], [], .nil => rfl
  | _ :: _, n :: r, .cons h hs => by
    cases h
    rw [RpAll.of_ints hs]
    rfl
end

/-! ### what a piece of text gives -/
structure PD (X : Cx) (M : Addr → Prop) (e : Expr) (σ : St) (H : Hp) (d : PyData) : Prop where
  run : ∀ H1, ExM M H H1 → Alive M H1 → ∀ Q : VK, (∀ v H2, Evl.Ex H1 H2 → Rp X.K M H2 v d → Q v H2) → wE X e σ H1 Q
structure TD (X : Cx) (M : Addr → Prop) (e : Expr) (σ : St) (H : Hp) (b : Bool) : Prop where
  run : ∀ H1, ExM M H H1 → Alive M H1 → ∀ Q : Bool → Hp → Prop, (∀ H2, Evl.Ex H1 H2 → Q b H2) → wT X e σ H1 Q
structure AD (X : Cx) (M : Addr → Prop) (es : List Expr) (σ : St) (H : Hp) (ds : List PyData) : Prop where
  run : ∀ H1, ExM M H H1 → Alive M H1 → ∀ Q : List V → Hp → Prop, (∀ vs H2, Evl.Ex H1 H2 → RpAll X.K M H2 vs ds → Q vs H2) → wA X es σ H1 Q

section
variable {X : Cx} {M : Addr → Prop} {σ : St} {H H' : Hp} {a b c e : Expr} {da db d : PyData} {pos : Pos}
theorem PD.mono (h : PD X M e σ H d) (x : ExM M H H') : PD X M e σ H' d := ⟨fun H1 e1 al Q q => h.run H1 (x.trans e1) al Q q⟩
theorem TD.mono {k : Bool} (h : TD X M e σ H k) (x : ExM M H H') : TD X M e σ H' k := ⟨fun H1 e1 al Q q => h.run H1 (x.trans e1) al Q q⟩
theorem AD.mono {es : List Expr} {ds : List PyData} (h : AD X M es σ H ds) (x : ExM M H H') : AD X M es σ H' ds := ⟨fun H1 e1 al Q q => h.run H1 (x.trans e1) al Q q⟩
theorem PD.is {d' : PyData} (h : PD X M e σ H d) (q : d = d') : PD X M e σ H d' := q ▸ h
theorem TD.is {k k' : Bool} (h : TD X M e σ H k) (q : k = k') : TD X M e σ H k' := q ▸ h
/-- names and constants -/
theorem pd_name {i : Nat} {x : Str} {v : V} (hN : X.N[i]? = some x) (hv : Vis X.env.scope x) (hs : σ[i]? = some (some v)) (r : Rp X.K M H v d)
    (hd : (x == ("__debug__" : Str)) = false := by decide) (hcd : (x == ("__classdict__" : Str)) = false := by decide) : PD X M (.Name x pos) σ H d :=
  ⟨fun H1 e1 _ Q q => ⟨_, pe_var hN hv hd hcd, v, hs, q v H1 (Evl.Ex.refl H1) (r.mono (fun _ z => z) e1)⟩⟩
theorem pd_int {i : Int} {j} : PD X M (.Constant (.int i) j pos) σ H (.int i) := ⟨fun H1 _ _ Q q => ⟨_, pe_int, q _ H1 (Evl.Ex.refl H1) (.int i)⟩⟩
theorem pd_bl {k : Bool} {j} : PD X M (.Constant (.bool k) j pos) σ H (.bool k) := ⟨fun H1 _ _ Q q => ⟨_, pe_bl, q _ H1 (Evl.Ex.refl H1) (.bl k)⟩⟩
theorem pd_non {j} : PD X M (.Constant .none j pos) σ H .none := ⟨fun H1 _ _ Q q => ⟨_, pe_non, q _ H1 (Evl.Ex.refl H1) .non⟩⟩
theorem pd_str {x : Str} {j} : PD X M (.Constant (.str x) j pos) σ H (.str x) := ⟨fun H1 _ _ Q q => ⟨_, pe_str, q _ H1 (Evl.Ex.refl H1) (.str x)⟩⟩
theorem pd_globI {x : Str} {i : Int} {t : Tok} (hg : Gl X x) (hm : X.mg x = some (.int i t)) (hd : (x == ("__debug__" : Str)) = false := by decide) : PD X M (.Name x pos) σ H (.int i) :=
  ⟨fun H1 _ _ Q q => ⟨_, pe_glob hg hm (v := .int i) ⟨t, rfl⟩ hd, q _ H1 (Evl.Ex.refl H1) (.int i)⟩⟩

/-! ### two operands -/
/-- an operator by values -/
def RD2 (X : Cx) (M : Addr → Prop) (r : R2) (da db d : PyData) : Prop :=
  ∀ x y H1, Rp X.K M H1 x da → Rp X.K M H1 y db → Alive M H1 → ∀ Q : VK, (∀ v H2, Evl.Ex H1 H2 → Rp X.K M H2 v d → Q v H2) → r x y H1 Q
theorem pd_binR {op : Operator} {r : R2} (ho : OpR X (binaryOp op) r) (hr : RD2 X M r da db d) (ha : PD X M a σ H da) (hb : PD X M b σ H db) : PD X M (.BinOp a op b pos) σ H d := ⟨fun H1 e1 al Q q =>
  ⟨_, pe_op ho wE.pe wE.pe, ha.run H1 e1 al _ fun x H2 x2 rx => hb.run H2 (e1.trans (.of x2)) (al.mono x2) _ fun y H3 x3 ry =>
    hr x y H3 (rx.mono (fun _ z => z) (.of x3)) ry ((al.mono x2).mono x3) Q fun v H4 x4 rv => q v H4 ((x2.trans x3).trans x4) rv⟩⟩
theorem pd_cmpR {op : CmpOp} {r : R2} (ho : OpR X (compareOp op) r) (hm : behindInMarks op b = false) (hr : RD2 X M r da db d) (ha : PD X M a σ H da) (hb : PD X M b σ H db) : PD X M (.Compare a [op] [b] pos) σ H d := ⟨fun H1 e1 al Q q =>
  ⟨_, pe_cmpR ho wE.pe wE.pe hm, ha.run H1 e1 al _ fun x H2 x2 rx => hb.run H2 (e1.trans (.of x2)) (al.mono x2) _ fun y H3 x3 ry =>
    hr x y H3 (rx.mono (fun _ z => z) (.of x3)) ry ((al.mono x2).mono x3) Q fun v H4 x4 rv => q v H4 ((x2.trans x3).trans x4) rv⟩⟩
theorem rd_I0 {g : Int → Int → Int} {i j : Int} : RD2 X M (rI0 fun i j => .int (g i j)) (.int i) (.int j) (.int (g i j)) := fun x y H1 rx ry _ Q q => by
  cases rx
  cases ry
  exact ⟨i, j, rfl, rfl, q _ H1 (Evl.Ex.refl H1) (.int _)⟩
theorem rd_I {C : Int → Int → Prop} {g : Int → Int → Int} {i j : Int} (hc : C i j) : RD2 X M (rI C fun i j => .int (g i j)) (.int i) (.int j) (.int (g i j)) := fun x y H1 rx ry _ Q q => by
  cases rx
  cases ry
  exact ⟨i, j, rfl, rfl, hc, q _ H1 (Evl.Ex.refl H1) (.int _)⟩
theorem rd_B0 {g : Int → Int → Bool} {i j : Int} : RD2 X M (rI0 fun i j => .bl (g i j)) (.int i) (.int j) (.bool (g i j)) := fun x y H1 rx ry _ Q q => by
  cases rx
  cases ry
  exact ⟨i, j, rfl, rfl, q _ H1 (Evl.Ex.refl H1) (.bl _)⟩
theorem pd_add {i j : Int} (ha : PD X M a σ H (.int i)) (hb : PD X M b σ H (.int j)) : PD X M (.BinOp a .Add b pos) σ H (.int (i + j)) := pd_binR op_add rd_I0 ha hb
theorem pd_sub {i j : Int} (ha : PD X M a σ H (.int i)) (hb : PD X M b σ H (.int j)) : PD X M (.BinOp a .Sub b pos) σ H (.int (i - j)) := pd_binR op_sub rd_I0 ha hb
theorem pd_mul {i j : Int} (ha : PD X M a σ H (.int i)) (hb : PD X M b σ H (.int j)) (hc : CMul i j) : PD X M (.BinOp a .Mult b pos) σ H (.int (i * j)) := pd_binR op_mul (rd_I hc) ha hb
theorem pd_lt {i j : Int} (ha : PD X M a σ H (.int i)) (hb : PD X M b σ H (.int j)) : PD X M (.Compare a [.Lt] [b] pos) σ H (.bool (decide (i < j))) := pd_cmpR op_lt (nomark _) rd_B0 ha hb
theorem pd_le {i j : Int} (ha : PD X M a σ H (.int i)) (hb : PD X M b σ H (.int j)) : PD X M (.Compare a [.LtE] [b] pos) σ H (.bool (decide (i ≤ j))) := pd_cmpR op_le (nomark _) rd_B0 ha hb
theorem pd_gt {i j : Int} (ha : PD X M a σ H (.int i)) (hb : PD X M b σ H (.int j)) : PD X M (.Compare a [.Gt] [b] pos) σ H (.bool (decide (j < i))) := pd_cmpR op_gt (nomark _) rd_B0 ha hb
theorem pd_ge {i j : Int} (ha : PD X M a σ H (.int i)) (hb : PD X M b σ H (.int j)) : PD X M (.Compare a [.GtE] [b] pos) σ H (.bool (decide (j ≤ i))) := pd_cmpR op_ge (nomark _) rd_B0 ha hb
end
end GV

namespace GV
open PySem PySem.Spec PyProof.Rows L2
section
variable {X : Cx} {M : Addr → Prop} {σ : St} {H H' : Hp} {a b c e : Expr} {da db d : PyData} {pos : Pos} {es : List Expr} {ds : List PyData}

/-! ### truth, and, or, not -/
theorem pd_and {k1 k2 : Bool} {rest : List Expr} (ha : PD X M a σ H (.bool k1)) (hb : k1 = true → PD X M (.BoolOp .And (b :: rest) pos) σ H (.bool k2)) : PD X M (.BoolOp .And (a :: b :: rest) pos) σ H (.bool (k1 && k2)) := .mk fun H1 e1 al Q q =>
  ⟨_, pe_and wE.pe wE.pe, ha.run H1 e1 al _ fun x H2 x2 rx => by
    cases rx
    refine ⟨k1, rfl, ?_⟩
    cases k1 with
    | true => exact (hb rfl).run H2 (e1.trans (.of x2)) (al.mono x2) Q fun v H3 x3 rv => q v H3 (x2.trans x3) rv
    | false => exact q _ H2 x2 (.bl _)⟩
theorem pd_or {k1 k2 : Bool} {rest : List Expr} (ha : PD X M a σ H (.bool k1)) (hb : k1 = false → PD X M (.BoolOp .Or (b :: rest) pos) σ H (.bool k2)) : PD X M (.BoolOp .Or (a :: b :: rest) pos) σ H (.bool (k1 || k2)) := .mk fun H1 e1 al Q q =>
  ⟨_, pe_or wE.pe wE.pe, ha.run H1 e1 al _ fun x H2 x2 rx => by
    cases rx
    refine ⟨k1, rfl, ?_⟩
    cases k1 with
    | false => exact (hb rfl).run H2 (e1.trans (.of x2)) (al.mono x2) Q fun v H3 x3 rv => q v H3 (x2.trans x3) rv
    | true => exact q _ H2 x2 (.bl _)⟩
theorem pd_one {op} (h : PD X M a σ H d) : PD X M (.BoolOp op [a] pos) σ H d := .mk fun H1 e1 al Q q => ⟨_, pe_one wE.pe, h.run H1 e1 al Q q⟩
theorem pd_not {k : Bool} (h : PD X M a σ H (.bool k)) : PD X M (.UnaryOp .Not a pos) σ H (.bool (!k)) := .mk fun H1 e1 al Q q =>
  ⟨_, pe_not wE.pe, h.run H1 e1 al _ fun x H2 x2 rx => by
    cases rx
    exact ⟨k, rfl, q _ H2 x2 (.bl _)⟩⟩
theorem td_val {k : Bool} (h : PD X M e σ H (.bool k)) (he : ∀ whole, isTrue e X.env whole = (do let v ← whole; standAt e.pos; holding [v] (truthy v)) := by intro _; rfl) : TD X M e σ H k := .mk fun H1 e1 al Q q =>
  ⟨_, pt_val wE.pe he, h.run H1 e1 al _ fun x H2 x2 rx => by
    cases rx
    exact ⟨k, rfl, q H2 x2⟩⟩
theorem td_not {k : Bool} (h : TD X M a σ H k) : TD X M (.UnaryOp .Not a pos) σ H (!k) := .mk fun H1 e1 al Q q => ⟨_, pt_not wT.pt, h.run H1 e1 al _ fun H2 x2 => q H2 x2⟩
/-- a chain of tests -/
structure WD (X : Cx) (M : Addr → Prop) (e : Expr) (σ : St) (H : Hp) (k : Bool) : Prop where
  ex : ∃ t, PW X e t ∧ ∀ H1, ExM M H H1 → Alive M H1 → ∀ Q : Bool → Hp → Prop, (∀ H2, Evl.Ex H1 H2 → Q k H2) → t σ H1 Q
theorem WD.td {k : Bool} (h : WD X M e σ H k) : TD X M e σ H k := .mk fun H1 e1 al Q q => let ⟨t, p, r⟩ := h.ex; ⟨t, p.pt, r H1 e1 al Q q⟩
theorem wd_and1 {k : Bool} (h : TD X M a σ H k) : WD X M (.BoolOp .And [a] pos) σ H k := .mk ⟨_, pw_and1 wT.pt, h.run⟩
theorem wd_or1 {k : Bool} (h : TD X M a σ H k) : WD X M (.BoolOp .Or [a] pos) σ H k := .mk ⟨_, pw_or1 wT.pt, h.run⟩
/-- the reading of a chain, of any of its ends -/
def wW (X : Cx) (e : Expr) : TT := fun σ H Q => ∃ t, PW X e t ∧ t σ H Q
theorem wW.pw {e : Expr} : PW X e (wW X e) := ⟨fun pins s σ H whole Q I ⟨_, h, q⟩ => h.run pins s σ H whole Q I q⟩
theorem wd_and {k1 k2 : Bool} {rest : List Expr} (ha : TD X M a σ H k1) (hb : k1 = true → WD X M (.BoolOp .And (b :: rest) pos) σ H k2) : WD X M (.BoolOp .And (a :: b :: rest) pos) σ H (k1 && k2) :=
  .mk ⟨_, pw_and wT.pt wW.pw, fun H1 e1 al Q q => ha.run H1 e1 al _ fun H2 x2 => by
    cases k1 with
    | true =>
      obtain ⟨t, p, r⟩ := (hb rfl).ex
      exact ⟨t, p, r H2 (e1.trans (.of x2)) (al.mono x2) Q fun H3 x3 => q H3 (x2.trans x3)⟩
    | false => exact q H2 x2⟩
theorem wd_or {k1 k2 : Bool} {rest : List Expr} (ha : TD X M a σ H k1) (hb : k1 = false → WD X M (.BoolOp .Or (b :: rest) pos) σ H k2) : WD X M (.BoolOp .Or (a :: b :: rest) pos) σ H (k1 || k2) :=
  .mk ⟨_, pw_or wT.pt wW.pw, fun H1 e1 al Q q => ha.run H1 e1 al _ fun H2 x2 => by
    cases k1 with
    | false =>
      obtain ⟨t, p, r⟩ := (hb rfl).ex
      exact ⟨t, p, r H2 (e1.trans (.of x2)) (al.mono x2) Q fun H3 x3 => q H3 (x2.trans x3)⟩
    | true => exact q H2 x2⟩
theorem pd_if {k : Bool} (ht : TD X M c σ H k) (ha : k = true → PD X M a σ H d) (hb : k = false → PD X M b σ H d) : PD X M (.IfExp c a b pos) σ H d := .mk fun H1 e1 al Q q =>
  ⟨_, pe_ifExp wT.pt wE.pe wE.pe, ht.run H1 e1 al _ fun H2 x2 => by
    cases k with
    | true => exact (ha rfl).run H2 (e1.trans (.of x2)) (al.mono x2) Q fun v H3 x3 rv => q v H3 (x2.trans x3) rv
    | false => exact (hb rfl).run H2 (e1.trans (.of x2)) (al.mono x2) Q fun v H3 x3 rv => q v H3 (x2.trans x3) rv⟩

/-! ### lists of parts, displays -/
theorem ad_nil : AD X M [] σ H [] := .mk fun H1 _ _ Q q => ⟨_, pa_nil, q [] H1 (Evl.Ex.refl H1) .nil⟩
theorem ad_cons (h : PD X M e σ H d) (hr : AD X M es σ H ds) (hs : starEach (e :: es) X.env = (false, eval e X.env) :: starEach es X.env := by rfl) : AD X M (e :: es) σ H (d :: ds) := .mk fun H1 e1 al Q q =>
  ⟨_, pa_cons wE.pe wA.pa hs, h.run H1 e1 al _ fun v H2 x2 rv => hr.run H2 (e1.trans (.of x2)) (al.mono x2) _ fun vs H3 x3 rvs =>
    q (v :: vs) H3 (x2.trans x3) (.cons (rv.mono (fun _ z => z) (.of x3)) rvs)⟩
theorem Rp.newT {p : Addr} {xs : List V} (al : Alive M H) (hp : H p = none) (r : RpAll X.K M H xs ds) : Rp X.K M (upd H p (.tup xs)) (.ref p) (.tuple ds) :=
  .tup (al.fresh hp) (.inl upd_same) (r.mono (fun _ z => z) (.of (Evl.Ex.new hp)))
theorem Rp.newL {p : Addr} {xs : List V} (al : Alive M H) (hp : H p = none) (r : RpAll X.K M H xs ds) : Rp X.K M (upd H p (.lst xs)) (.ref p) (.list ds) :=
  .lst (al.fresh hp) (.inl upd_same) (r.mono (fun _ z => z) (.of (Evl.Ex.new hp)))
theorem pd_tup {x1} (h : AD X M es σ H ds) (hl : ds.length ≤ 100000) : PD X M (.Tuple es x1 pos) σ H (.tuple ds) := .mk fun H1 e1 al Q q =>
  ⟨_, pe_tup wA.pa, h.run H1 e1 al _ fun vs H2 x2 r => ⟨by rw [r.length]; exact Evl.sz_of hl, fun p hp => q _ _ (x2.trans (Evl.Ex.new hp)) (.newT (al.mono x2) hp r)⟩⟩
/-- .. a new one -/
structure FD (X : Cx) (M : Addr → Prop) (e : Expr) (σ : St) (H : Hp) (ds : List PyData) : Prop where
  run : ∀ H1, ExM M H H1 → Alive M H1 → ∀ Q : VK, (∀ p vs H2, H1 p = none → Evl.Ex H1 H2 → H2 p = some (.lst vs) → RpAll X.K M H2 vs ds → Q (.ref p) H2) → wE X e σ H1 Q
theorem FD.mono (h : FD X M e σ H ds) (x : ExM M H H') : FD X M e σ H' ds := .mk fun H1 e1 al Q q => h.run H1 (x.trans e1) al Q q
theorem FD.pd (h : FD X M e σ H ds) : PD X M e σ H (.list ds) := .mk fun H1 e1 al Q q => h.run H1 e1 al Q fun p vs H2 hp x2 h2 r => q _ H2 x2 (.lst (al.fresh hp) (.inl h2) r)
theorem fd_lst (h : AD X M es σ H ds) (hl : ds.length ≤ 100000) : FD X M (.List es pos) σ H ds := .mk fun H1 e1 al Q q =>
  ⟨_, pe_lst wA.pa, h.run H1 e1 al _ fun vs H2 x2 r => ⟨by rw [r.length]; exact Evl.sz_of hl, fun p hp => q p vs _ (Evl.fresh_back x2 hp) (x2.trans (Evl.Ex.new hp)) upd_same (r.mono (fun _ z => z) (.of (Evl.Ex.new hp)))⟩⟩

/-! ### == and is -/
theorem pd_eq (hu : X.A.units + 64 < cLine) (ha : PD X M a σ H da) (hb : PD X M b σ H db) (sa : SeqAt.shaped da = true) (sb : SeqAt.shaped db = true) : PD X M (.Compare a [.Eq] [b] pos) σ H (.bool (PyData.eqv da db)) :=
  pd_cmpR (op_eqD hu) (nomark _) (fun x y H1 rx ry _ Q q => ⟨da, db, rx.dp, ry.dp, sa, sb, q _ H1 (Evl.Ex.refl H1) (.bl _)⟩) ha hb
theorem pd_ne (hu : X.A.units + 64 < cLine) (ha : PD X M a σ H da) (hb : PD X M b σ H db) (sa : SeqAt.shaped da = true) (sb : SeqAt.shaped db = true) : PD X M (.Compare a [.NotEq] [b] pos) σ H (.bool (!PyData.eqv da db)) :=
  pd_cmpR (op_neD hu) (nomark _) (fun x y H1 rx ry _ Q q => ⟨da, db, rx.dp, ry.dp, sa, sb, q _ H1 (Evl.Ex.refl H1) (.bl _)⟩) ha hb
def isNone : PyData → Bool
  | .none => true
  | _ => false
theorem Rp.isN {K : PySem.W.Frag} {x : V} (r : Rp K M H x d) : decide (x = .non) = isNone d := by
  cases r <;> rfl
theorem pd_isN {j p2} (ha : PD X M a σ H da) : PD X M (.Compare a [.Is] [.Constant .none j p2] pos) σ H (.bool (isNone da)) :=
  pd_cmpR op_isN (nomark _) (fun x y H1 rx ry _ Q q => by
    cases ry
    exact ⟨rfl, q _ H1 (Evl.Ex.refl H1) (by rw [rx.isN]; exact .bl _)⟩) ha pd_non
theorem pd_notN {j p2} (ha : PD X M a σ H da) : PD X M (.Compare a [.IsNot] [.Constant .none j p2] pos) σ H (.bool (!isNone da)) :=
  pd_cmpR op_notN (nomark _) (fun x y H1 rx ry _ Q q => by
    cases ry
    exact ⟨rfl, q _ H1 (Evl.Ex.refl H1) (by rw [rx.isN]; exact .bl _)⟩) ha pd_non

/-! ### items -/
def ixD : PyData → PyData → Option PyData
  | .list ds, .int i => atI ds i
  | .tuple ds, .int i => atI ds i
  | .str z, .int i => if z.length ≤ sizeLine then (atI z.cps.toList i).map fun c => .str ⟨#[c]⟩ else none
  | _, _ => none
theorem atI_rp {K : PySem.W.Frag} {xs : List V} {i : Int} (r : RpAll K M H xs ds) (h : atI ds i = some d) : ∃ v, atI xs i = some v ∧ Rp K M H v d := by
  unfold atI at h ⊢
  rw [r.length]
  cases e : ixN ds.length i with
  | none =>
    rw [e] at h
    cases h
  | some j =>
    rw [e] at h
    obtain ⟨v, h1, h2⟩ := r.get h
    exact ⟨v, h1, h2⟩
theorem pd_ix (ha : PD X M a σ H da) (hb : PD X M b σ H db) (h : ixD da db = some d) (hs : PlainIx b := by exact fun _ _ => rfl) : PD X M (.Subscript a b pos) σ H d := .mk fun H1 e1 al Q q =>
  ⟨_, pe_ix ix_seq wE.pe wE.pe hs, ha.run H1 e1 al _ fun x H2 x2 rx => hb.run H2 (e1.trans (.of x2)) (al.mono x2) _ fun y H3 x3 ry => by
    have rx' := rx.mono (fun _ z => z) (.of x3)
    have fin : ∀ v, Rp X.K M H3 v d → Q v H3 := fun v rv => q v H3 (x2.trans x3) rv
    cases ry with
    | int i =>
      cases rx' with
      | lst m hs rs =>
        obtain ⟨v, hv, rv⟩ := atI_rp rs h
        exact .inl ⟨_, _, i, v, rfl, rfl, .inl hs, hv, fin v rv⟩
      | tup m hs rs =>
        obtain ⟨v, hv, rv⟩ := atI_rp rs h
        exact .inr (.inl ⟨_, _, i, v, rfl, rfl, .inl hs, hv, fin v rv⟩)
      | str z =>
        simp only [ixD] at h
        split at h
        · rename_i hz
          cases e : atI z.cps.toList i with
          | none =>
            rw [e] at h
            cases h
          | some c =>
            rw [e] at h
            cases h
            exact .inr (.inr ⟨z, i, c, rfl, rfl, hz, e, fin _ (.str _)⟩)
        · cases h
      | _ => cases h
    | _ => cases da <;> cases h⟩

/-! ### own defs that leave all as it is -/
def PureR (K : PySem.W.Frag) (R : List PyData → PyData → Prop) : Sp := fun vs H Q _ => ∃ M ds d, Alive M H ∧ RpAll K M H vs ds ∧ R ds d ∧ ∀ v H', Evl.Ex H H' → Rp K M H' v d → Q v H'
theorem pd_call {R : List PyData → PyData → Prop} {CX : CXT} {E : XK} {k : Nat} {f : Addr} {fd : FuncData} {ps : List Str} {x : Str} {p : Pos} (F : FnOk X.prog X.w X.K X.mg X.base CX k f fd ps (PureR X.K R)) (hr : Room k X.A) (hg : Gl X x) (hm : X.mg x = some (.ref f)) (hk : PySem.W.keepIn X.K (.ref f) = true)
    (hb : Binds X.K fd ps []) (hx : Passes CX X E) (h : AD X M (e :: es) σ H ds) (hR : R ds d)
    (hdb : (x == ("__debug__" : Str)) = false := by decide) (he : starEach (e :: es) X.env = (false, eval e X.env) :: starEach es X.env := by rfl) (hpl : (backTo pos (starEach es X.env)).any (·.1) = false := by rfl) : PD X M (.Call (.Name x p) (e :: es) [] pos) σ H d := .mk fun H1 e1 al Q q =>
  ⟨_, pe_call F hr hg hm hk hb .nil hx wA.pa hdb he hpl, h.run H1 e1 al _ fun vs H2 x2 r => by
    rw [List.append_nil]
    exact ⟨M, ds, d, al.mono x2, r, hR, fun v H3 x3 rv => q v H3 (x2.trans x3) rv⟩⟩
end

/-! ### statements -/
section
variable {X : Cx} {M : Addr → Prop} {σ : St} {H : Hp} {c e : Expr} {d : PyData} {pos : Pos} {st : Stmt} {sts A B : List Stmt} {D : Ends}
theorem b_nil (h : D.nx σ H) : wB X [] D σ H := ⟨_, pss_nil, h⟩
theorem b_cons (h : wS X st { D with nx := wB X sts D } σ H) : wB X (st :: sts) D σ H := ⟨_, pss_cons wS.ps wB.ps, h⟩
theorem s_ret (al : Alive M H) (h : PD X M e σ H d) (q : ∀ v H2, Evl.Ex H H2 → Rp X.K M H2 v d → D.rt v H2) : wS X (.Return (some e) pos) D σ H := ⟨_, ps_ret wE.pe, h.run H (ExM.refl H) al _ q⟩
theorem s_retN (q : D.rt .non H) : wS X (.Return none pos) D σ H := ⟨_, ps_retN, q⟩
theorem s_if {k : Bool} (al : Alive M H) (h : TD X M c σ H k) (h1 : k = true → ∀ H2, Evl.Ex H H2 → wB X A D σ H2) (h2 : k = false → ∀ H2, Evl.Ex H H2 → wB X B D σ H2) : wS X (.If c A B pos) D σ H :=
  ⟨_, ps_if wT.pt wB.ps wB.ps, h.run H (ExM.refl H) al _ fun H2 x2 => by
    cases k with
    | true => exact h1 rfl H2 x2
    | false => exact h2 rfl H2 x2⟩
theorem s_set {i : Nat} {x : Str} {p : Pos} (al : Alive M H) (hN : X.N.Nodup) (hi : X.N[i]? = some x) (hx : Loc X.env.scope x) (h : PD X M e σ H d) (q : ∀ v H2, Evl.Ex H H2 → Rp X.K M H2 v d → D.nx (σ.set i (some v)) H2)
    (hs : swapsWith e (some (.Name x p)) pos.line X.env = pure false := by rfl) (hf : X.fn x = true ∨ X.env.scope.names.lookup x = some .local := by first | exact .inl rfl | exact .inr rfl | assumption) : wS X (.Assign [.Name x p] e pos) D σ H :=
  ⟨_, ps_set hN hi hx wE.pe hs hf, h.run H (ExM.refl H) al _ fun v H2 x2 r => q v H2 x2 r⟩
end
end GV

namespace GV
open PySem PySem.Spec PyProof.Rows L2
section
variable {X : Cx} {M : Addr → Prop} {σ : St} {H H' : Hp} {a b c e : Expr} {da db d : PyData} {pos : Pos} {es : List Expr} {ds : List PyData}

/-! ### more of ints -/
theorem pd_neg {i : Int} (ha : PD X M a σ H (.int i)) : PD X M (.UnaryOp .USub a pos) σ H (.int (-i)) := .mk fun H1 e1 al Q q =>
  ⟨_, pe_un un_neg wE.pe, ha.run H1 e1 al _ fun x H2 x2 rx => by
    cases rx
    exact ⟨i, rfl, q _ H2 x2 (.int _)⟩⟩
theorem pd_mulW {i j : Int} (ha : PD X M a σ H (.int i)) (hb : PD X M b σ H (.int j)) (hc : CMulW i j) : PD X M (.BinOp a .Mult b pos) σ H (.int (i * j)) := pd_binR op_mulW (rd_I hc) ha hb
theorem pd_div {i j : Int} (ha : PD X M a σ H (.int i)) (hb : PD X M b σ H (.int j)) (hc : CDivW i j) : PD X M (.BinOp a .FloorDiv b pos) σ H (.int (i / j)) := pd_binR op_fdivW (rd_I hc) ha hb
theorem pd_mod {i j : Int} (ha : PD X M a σ H (.int i)) (hb : PD X M b σ H (.int j)) (hc : 0 < j) : PD X M (.BinOp a .Mod b pos) σ H (.int (i % j)) := pd_binR op_mod (rd_I (C := fun _ j => 0 < j) hc) ha hb
theorem pd_pow {i j : Int} (ha : PD X M a σ H (.int i)) (hb : PD X M b σ H (.int j)) (hc : CPow i j) : PD X M (.BinOp a .Pow b pos) σ H (.int (i ^ j.toNat)) := pd_binR op_pow (rd_I hc) ha hb

/-! ### built-ins, by values -/
def RDn (X : Cx) (M : Addr → Prop) (r : List V → Hp → VK → Prop) (ds : List PyData) (d : PyData) : Prop :=
  ∀ vs H1, RpAll X.K M H1 vs ds → Alive M H1 → ∀ Q : VK, (∀ v H2, Evl.Ex H1 H2 → Rp X.K M H2 v d → Q v H2) → r vs H1 Q
def RFn (X : Cx) (M : Addr → Prop) (r : List V → Hp → VK → Prop) (ds es : List PyData) : Prop :=
  ∀ vs H1, RpAll X.K M H1 vs ds → Alive M H1 → ∀ Q : VK, (∀ p ws H2, H1 p = none → Evl.Ex H1 H2 → H2 p = some (.lst ws) → RpAll X.K M H2 ws es → Q (.ref p) H2) → r vs H1 Q
theorem pd_callB {id : String} {x : Str} {p : Pos} {r : List V → Hp → VK → Prop} (hc : CallR X (.builtin id) r) (hg : Gl X x) (hm : X.mg x = none) (hv : bootBuiltins x = some (.builtin id)) (h : AD X M (e :: es) σ H ds) (hr : RDn X M r ds d)
    (hn : x ≠ "__name__" := by decide) (hdb : (x == ("__debug__" : Str)) = false := by decide) (he : starEach (e :: es) X.env = (false, eval e X.env) :: starEach es X.env := by rfl) (hpl : (backTo pos (starEach es X.env)).any (·.1) = false := by rfl) :
    PD X M (.Call (.Name x p) (e :: es) [] pos) σ H d := .mk fun H1 e1 al Q q =>
  ⟨_, pe_callB hc hg hm hv wA.pa hn hdb he hpl, h.run H1 e1 al _ fun vs H2 x2 rs => hr vs H2 rs (al.mono x2) Q fun v H3 x3 rv => q v H3 (x2.trans x3) rv⟩
theorem pd_callTy {T : String} {x : Str} {p : Pos} {r : List V → Hp → VK → Prop} (hc : CallR X (.type T) r) (hg : Gl X x) (hm : X.mg x = none) (hv : bootBuiltins x = some (.type T)) (h : AD X M (e :: es) σ H ds) (hr : RDn X M r ds d)
    (hn : x ≠ "__name__" := by decide) (hdb : (x == ("__debug__" : Str)) = false := by decide) (he : starEach (e :: es) X.env = (false, eval e X.env) :: starEach es X.env := by rfl) (hpl : (backTo pos (starEach es X.env)).any (·.1) = false := by rfl) :
    PD X M (.Call (.Name x p) (e :: es) [] pos) σ H d := .mk fun H1 e1 al Q q =>
  ⟨_, pe_callTy hc hg hm hv wA.pa hn hdb he hpl, h.run H1 e1 al _ fun vs H2 x2 rs => hr vs H2 rs (al.mono x2) Q fun v H3 x3 rv => q v H3 (x2.trans x3) rv⟩
theorem fd_callTy {T : String} {x : Str} {p : Pos} {r : List V → Hp → VK → Prop} {fs : List PyData} (hc : CallR X (.type T) r) (hg : Gl X x) (hm : X.mg x = none) (hv : bootBuiltins x = some (.type T)) (h : AD X M (e :: es) σ H ds) (hr : RFn X M r ds fs)
    (hn : x ≠ "__name__" := by decide) (hdb : (x == ("__debug__" : Str)) = false := by decide) (he : starEach (e :: es) X.env = (false, eval e X.env) :: starEach es X.env := by rfl) (hpl : (backTo pos (starEach es X.env)).any (·.1) = false := by rfl) :
    FD X M (.Call (.Name x p) (e :: es) [] pos) σ H fs := .mk fun H1 e1 al Q q =>
  ⟨_, pe_callTy hc hg hm hv wA.pa hn hdb he hpl, h.run H1 e1 al _ fun vs H2 x2 rs => hr vs H2 rs (al.mono x2) Q fun p ws H3 hp x3 h3 rv => q p ws H3 (Evl.fresh_back x2 hp) (x2.trans x3) h3 rv⟩
theorem fd_callB {id : String} {x : Str} {p : Pos} {r : List V → Hp → VK → Prop} {fs : List PyData} (hc : CallR X (.builtin id) r) (hg : Gl X x) (hm : X.mg x = none) (hv : bootBuiltins x = some (.builtin id)) (h : AD X M (e :: es) σ H ds) (hr : RFn X M r ds fs)
    (hn : x ≠ "__name__" := by decide) (hdb : (x == ("__debug__" : Str)) = false := by decide) (he : starEach (e :: es) X.env = (false, eval e X.env) :: starEach es X.env := by rfl) (hpl : (backTo pos (starEach es X.env)).any (·.1) = false := by rfl) :
    FD X M (.Call (.Name x p) (e :: es) [] pos) σ H fs := .mk fun H1 e1 al Q q =>
  ⟨_, pe_callB hc hg hm hv wA.pa hn hdb he hpl, h.run H1 e1 al _ fun vs H2 x2 rs => hr vs H2 rs (al.mono x2) Q fun p ws H3 hp x3 h3 rv => q p ws H3 (Evl.fresh_back x2 hp) (x2.trans x3) h3 rv⟩
theorem rpa1 {vs : List V} {K : PySem.W.Frag} (r : RpAll K M H vs [d]) : ∃ v, vs = [v] ∧ Rp K M H v d := by
  obtain ⟨⟩ | ⟨r1, r⟩ := r
  obtain ⟨⟩ := r
  exact ⟨_, rfl, r1⟩
theorem rpa2 {vs : List V} {K : PySem.W.Frag} (r : RpAll K M H vs [da, db]) : ∃ v w, vs = [v, w] ∧ Rp K M H v da ∧ Rp K M H w db := by
  obtain ⟨⟩ | ⟨r1, r⟩ := r
  obtain ⟨v, rfl, r2⟩ := rpa1 r
  exact ⟨_, _, rfl, r1, r2⟩
/-- int(n), int(True) -/
theorem rn_int {i : Int} : RDn X M (fun xs H Q => (∃ i, xs = [.int i] ∧ Q (.int i) H) ∨ ∃ k, xs = [.bl k] ∧ Q (.int (if k then 1 else 0)) H) [.int i] (.int i) := fun vs H1 r _ Q q => by
  obtain ⟨v, rfl, r1⟩ := rpa1 r
  cases r1
  exact .inl ⟨i, rfl, q _ H1 (Evl.Ex.refl H1) (.int _)⟩
theorem rn_intB {k : Bool} : RDn X M (fun xs H Q => (∃ i, xs = [.int i] ∧ Q (.int i) H) ∨ ∃ k, xs = [.bl k] ∧ Q (.int (if k then 1 else 0)) H) [.bool k] (.int (if k then 1 else 0)) := fun vs H1 r _ Q q => by
  obtain ⟨v, rfl, r1⟩ := rpa1 r
  cases r1
  exact .inr ⟨k, rfl, q _ H1 (Evl.Ex.refl H1) (.int _)⟩
theorem rn_abs {i : Int} : RDn X M (fun xs H Q => ∃ i, xs = [.int i] ∧ Q (.int (if i < 0 then -i else i)) H) [.int i] (.int (if i < 0 then -i else i)) := fun vs H1 r _ Q q => by
  obtain ⟨v, rfl, r1⟩ := rpa1 r
  cases r1
  exact ⟨i, rfl, q _ H1 (Evl.Ex.refl H1) (.int _)⟩
theorem rn_max2 {i j : Int} : RDn X M (fun xs H Q => ∃ i j, xs = [.int i, .int j] ∧ Q (.int (if j > i then j else i)) H) [.int i, .int j] (.int (if j > i then j else i)) := fun vs H1 r _ Q q => by
  obtain ⟨v, w, rfl, r1, r2⟩ := rpa2 r
  cases r1
  cases r2
  exact ⟨i, j, rfl, q _ H1 (Evl.Ex.refl H1) (.int _)⟩
theorem rn_min2 {i j : Int} : RDn X M (fun xs H Q => ∃ i j, xs = [.int i, .int j] ∧ Q (.int (if j < i then j else i)) H) [.int i, .int j] (.int (if j < i then j else i)) := fun vs H1 r _ Q q => by
  obtain ⟨v, w, rfl, r1, r2⟩ := rpa2 r
  cases r1
  cases r2
  exact ⟨i, j, rfl, q _ H1 (Evl.Ex.refl H1) (.int _)⟩
/-- len -/
def lenD : PyData → Option Nat
  | .list ds => some ds.length
  | .tuple ds => some ds.length
  | .str z => if z.length ≤ sizeLine then some z.length else none
  | _ => none
theorem rn_len {n : Nat} (h : lenD d = some n) : RDn X M (fun xs H Q => ∃ x n, xs = [x] ∧ LenV X.K x H n ∧ Q (.int n) H) [d] (.int n) := fun vs H1 r _ Q q => by
  obtain ⟨v, rfl, r1⟩ := rpa1 r
  have fin := q (.int n) H1 (Evl.Ex.refl H1) (.int _)
  cases r1 with
  | lst m hs rs =>
    cases h
    exact ⟨_, _, rfl, .inl ⟨_, .inl hs, rs.length.symm⟩, fin⟩
  | tup m hs rs =>
    cases h
    exact ⟨_, _, rfl, .inr ⟨_, .inl hs, rs.length.symm⟩, fin⟩
  | str z =>
    simp only [lenD] at h
    split at h
    · rename_i hz
      cases h
      exact ⟨_, _, rfl, ⟨hz, rfl⟩, fin⟩
    · cases h
  | _ => cases h
/-- list(xs), tuple(xs) -/
def itemsD : PyData → Option (List PyData)
  | .list ds => some ds
  | .tuple ds => some ds
  | _ => none
theorem rf_list (h : itemsD d = some ds) : RFn X M (fun xs H Q => ∃ p ys, xs = [.ref p] ∧ (SqL X.K H p ys ∨ SqT X.K H p ys) ∧ ∀ l, H l = none → Q (.ref l) (upd H l (.lst ys))) [d] ds := fun vs H1 r al Q q => by
  obtain ⟨v, rfl, r1⟩ := rpa1 r
  cases r1 with
  | lst m hs rs =>
    cases h
    exact ⟨_, _, rfl, .inl (.inl hs), fun l hl => q l _ _ hl (Evl.Ex.new hl) upd_same (rs.mono (fun _ z => z) (.of (Evl.Ex.new hl)))⟩
  | tup m hs rs =>
    cases h
    exact ⟨_, _, rfl, .inr (.inl hs), fun l hl => q l _ _ hl (Evl.Ex.new hl) upd_same (rs.mono (fun _ z => z) (.of (Evl.Ex.new hl)))⟩
  | _ => cases h
theorem rn_tuple (h : itemsD d = some ds) : RDn X M (fun xs H Q => ∃ p ys, xs = [.ref p] ∧ ((SqL X.K H p ys ∧ ∀ l, H l = none → Q (.ref l) (upd H l (.tup ys))) ∨ (SqT X.K H p ys ∧ Q (.ref p) H))) [d] (.tuple ds) := fun vs H1 r al Q q => by
  obtain ⟨v, rfl, r1⟩ := rpa1 r
  cases r1 with
  | lst m hs rs =>
    cases h
    exact ⟨_, _, rfl, .inl ⟨.inl hs, fun l hl => q _ _ (Evl.Ex.new hl) (.newT (X := X) al hl rs)⟩⟩
  | tup m hs rs =>
    cases h
    exact ⟨_, _, rfl, .inr ⟨.inl hs, q _ H1 (Evl.Ex.refl H1) (.tup m hs rs)⟩⟩
  | _ => cases h

/-! ### slices of a list -/
theorem cutV_map (xs : List V) (lo hi : Option Int) : True := True.intro
def cutD (xs : List PyData) (lo hi : Option Int) : List PyData := (xs.drop (HT.sIx xs.length 0 lo)).take (HT.sIx xs.length xs.length hi - HT.sIx xs.length 0 lo)
theorem RpAll.take {K : PySem.W.Frag} : ∀ {vs : List V} {ds : List PyData} (n : Nat), RpAll K M H vs ds → RpAll K M H (vs.take n) (ds.take n)
  | _, _, 0, _ => .nil
  | _, _, n + 1, .nil => .nil
  | _, _, n + 1, .cons r rs => .cons r (RpAll.take n rs)
theorem RpAll.drop {K : PySem.W.Frag} : ∀ {vs : List V} {ds : List PyData} (n : Nat), RpAll K M H vs ds → RpAll K M H (vs.drop n) (ds.drop n)
  | _, _, 0, r => r
  | _, _, n + 1, .nil => .nil
  | _, _, n + 1, .cons r rs => RpAll.drop n rs
theorem RpAll.cut {K : PySem.W.Frag} {vs : List V} {ds : List PyData} (lo hi : Option Int) (r : RpAll K M H vs ds) : RpAll K M H (cutV vs lo hi) (cutD ds lo hi) := by
  unfold cutV cutD
  rw [r.length]
  exact (r.drop _).take _
/-- an optional part of a slice -/
structure OD (X : Cx) (M : Addr → Prop) (e : Option Expr) (σ : St) (H : Hp) (o : Option Int) : Prop where
  ex : ∃ t, PO X e t ∧ ∀ H1, ExM M H H1 → Alive M H1 → ∀ Q : Option Int → Hp → Prop, (∀ H2, Evl.Ex H1 H2 → Q o H2) → t σ H1 Q
theorem od_none : OD X M none σ H none := ⟨_, po_none, fun H1 _ _ Q q => q H1 (Evl.Ex.refl H1)⟩
theorem od_some {i : Int} (h : PD X M e σ H (.int i)) : OD X M (some e) σ H (some i) := ⟨_, po_some wE.pe, fun H1 e1 al Q q => h.run H1 e1 al _ fun x H2 x2 r => by
  cases r
  exact ⟨i, rfl, q H2 x2⟩⟩
theorem fd_slice {lo hi : Option Expr} {l u : Option Int} {p2 : Pos} (h : PD X M e σ H (.list ds)) (hl : OD X M lo σ H l) (hu : OD X M hi σ H u) : FD X M (.Subscript e (.Slice lo hi none p2) pos) σ H (cutD ds l u) := by
  obtain ⟨tl, pl, rl⟩ := hl.ex
  obtain ⟨tu, pu, ru⟩ := hu.ex
  refine .mk fun H1 e1 al Q q => ⟨_, pe_slice sl_list wE.pe pl pu, h.run H1 e1 al _ fun x H2 x2 r => ?_⟩
  refine rl H2 (e1.trans (.of x2)) (al.mono x2) _ fun H3 x3 => ru H3 ((e1.trans (.of x2)).trans (.of x3)) ((al.mono x2).mono x3) _ fun H4 x4 => ?_
  have r4 := r.mono (fun _ z => z) (.of (x3.trans x4))
  cases r4 with
  | lst m hs rs =>
    exact ⟨_, _, rfl, .inl hs, fun p hp => q p _ _ (Evl.fresh_back (x2.trans (x3.trans x4)) hp) ((x2.trans (x3.trans x4)).trans (Evl.Ex.new hp)) upd_same ((rs.cut l u).mono (fun _ z => z) (.of (Evl.Ex.new hp)))⟩

/-! ### list + list -/
def rCatR : R2 := fun x y H Q => ∃ l b xs zs, x = .ref l ∧ y = .ref b ∧ Rd H l (.lst xs) ∧ Rd H b (.lst zs) ∧ xs.length + zs.length ≤ sizeLine ∧ ∀ p, H p = none → Q (.ref p) (upd H p (.lst (xs ++ zs)))
theorem op_catR : OpR X (binaryOp .Add) rCatR := by
  intro pins s σ H x y v u Q I rx ry h
  obtain ⟨l, b, xs, zs, rfl, rfl, hH, hB, hz, q⟩ := h
  cases rx
  cases ry
  obtain ⟨z, its, n, r, e⟩ := hH.ok I.hok
  obtain ⟨z2, its2, n2, r2, e2⟩ := hB.ok I.hok
  have hl := r.length
  have hl2 := r2.length
  refine PySem.P.add_list e e2 ?_ (by rw [List.size_toArray, List.size_toArray]; omega)
  have ea : its.toArray ++ its2.toArray = (its ++ its2).toArray := by simp
  rw [ea]
  exact ⟨.ref _, _, I.lnew (t' := s.toks) (r.append r2) (by rw [List.length_append]; omega), rfl, q _ I.fresh⟩
theorem fd_cat {es fs : List PyData} (ha : PD X M a σ H (.list es)) (hb : PD X M b σ H (.list fs)) (hl : es.length + fs.length ≤ 100000) : FD X M (.BinOp a .Add b pos) σ H (es ++ fs) := .mk fun H1 e1 al Q q =>
  ⟨_, pe_op op_catR wE.pe wE.pe, ha.run H1 e1 al _ fun x H2 x2 rx => hb.run H2 (e1.trans (.of x2)) (al.mono x2) _ fun y H3 x3 ry => by
    have rx' := rx.mono (fun _ z => z) (.of x3)
    cases rx' with
    | lst m1 h1 r1 =>
      cases ry with
      | lst m2 h2 r2 =>
        exact ⟨_, _, _, _, rfl, rfl, h1, h2, by rw [r1.length, r2.length]; exact Evl.sz_of hl, fun p hp => q p _ _ (Evl.fresh_back (x2.trans x3) hp) ((x2.trans x3).trans (Evl.Ex.new hp)) upd_same
          ((r1.append r2).mono (fun _ z => z) (.of (Evl.Ex.new hp)))⟩⟩
end
end GV

namespace GV
open PySem PySem.Spec PyProof.Rows L2

/-! ### what is walked -/
/-- from H0 on the iterator gives these data, one after another -/
structure Wk (K : PySem.W.Frag) (M : Addr → Prop) (J : It) (H0 : Hp) (ds : List PyData) : Prop where
  go : ∀ M' i H, (∀ a, M' a → M a ∨ H0 a = none) → ExM M' H0 H → i < ds.length → J.go i H
  stop : ∀ M' H, (∀ a, M' a → M a ∨ H0 a = none) → ExM M' H0 H → J.stop ds.length H
  yld : ∀ M' i H x H', (∀ a, M' a → M a ∨ H0 a = none) → ExM M' H0 H → Alive M' H → J.yld i H x H' → Evl.Ex H H' ∧ ∀ d, ds[i]? = some d → Rp K M' H' x d
structure Src (X : Cx) (M : Addr → Prop) (tg iter : Expr) (σ : St) (H : Hp) (ds : List PyData) : Prop where
  ex : ∃ wi, PI X tg iter wi ∧ ∀ H1, ExM M H H1 → Alive M H1 → ∀ R, (∀ J H2, Evl.Ex H1 H2 → Wk X.K M J H2 ds → R J H2) → wi σ H1 R
section
variable {X : Cx} {K : PySem.W.Frag} {M : Addr → Prop} {σ : St} {H H' : Hp} {a b c e tg iter : Expr} {da db d : PyData} {pos : Pos} {es : List Expr} {ds : List PyData}
theorem rd_inj {a : Addr} {u w : HO} (h : Rd H a u) (h' : H a = some w ∨ ∃ o, H a = some (.frz o w)) (hf : ∀ o z, u ≠ .frz o z) (hf' : ∀ o z, w ≠ .frz o z) : u = w := by
  rcases h with h | ⟨o, h⟩ <;> rcases h' with h' | ⟨o', h'⟩ <;> rw [h] at h' <;> cases h'
  · rfl
  · exact absurd rfl (hf _ _)
  · exact absurd rfl (hf' _ _)
  · rfl
theorem wk_list {a : Addr} {xs : List V} (m : ¬ M a) (h : Rd H a (.lst xs)) (r : RpAll K M H xs ds) : Wk K M (Itl K a) H ds := by
  have nm : ∀ M' : Addr → Prop, (∀ a, M' a → M a ∨ H a = none) → ¬ M' a := fun M' hm z => (hm a z).elim m (Rd.there h)
  have at_ : ∀ (M' : Addr → Prop) (H' : Hp), (∀ a, M' a → M a ∨ H a = none) → ExM M' H H' → Rd H' a (.lst xs) := fun M' H' hm e => Rd.exM (M := M') h (nm M' hm) e
  refine ⟨fun M' i H' hm e hi => ?_, fun M' H' hm e => ?_, fun M' i H' x H'' hm e al y => ?_⟩
  · have hx : i < xs.length := by rw [r.length]; exact hi
    exact ⟨xs, xs[i], .inl (at_ M' H' hm e), List.getElem?_eq_getElem hx⟩
  · exact ⟨xs, .inl (at_ M' H' hm e), by rw [r.length]; exact Nat.le_refl _⟩
  · obtain ⟨rfl, y⟩ := y
    refine ⟨Evl.Ex.refl _, fun d hd => ?_⟩
    obtain ⟨v, hv, rv⟩ := r.get hd
    have q := y xs (.inl (at_ M' _ hm e))
    rw [hv] at q
    cases q
    exact (rv.wide hm).mono (fun _ z => z) e
theorem wk_tup {a : Addr} {xs : List V} (m : ¬ M a) (h : Rd H a (.tup xs)) (r : RpAll K M H xs ds) : Wk K M (Itt K a) H ds := by
  have nm : ∀ M' : Addr → Prop, (∀ a, M' a → M a ∨ H a = none) → ¬ M' a := fun M' hm z => (hm a z).elim m (Rd.there h)
  have at_ : ∀ (M' : Addr → Prop) (H' : Hp), (∀ a, M' a → M a ∨ H a = none) → ExM M' H H' → Rd H' a (.tup xs) := fun M' H' hm e => Rd.exT (M := M') h (nm M' hm) e
  refine ⟨fun M' i H' hm e hi => ?_, fun M' H' hm e => ?_, fun M' i H' x H'' hm e al y => ?_⟩
  · have hx : i < xs.length := by rw [r.length]; exact hi
    exact ⟨xs, xs[i], .inl (at_ M' H' hm e), List.getElem?_eq_getElem hx⟩
  · exact ⟨xs, .inl (at_ M' H' hm e), by rw [r.length]; exact Nat.le_refl _⟩
  · obtain ⟨rfl, y⟩ := y
    refine ⟨Evl.Ex.refl _, fun d hd => ?_⟩
    obtain ⟨v, hv, rv⟩ := r.get hd
    have q := y xs (.inl (at_ M' _ hm e))
    rw [hv] at q
    cases q
    exact (rv.wide hm).mono (fun _ z => z) e
theorem wk_range (lo : Int) (n : Nat) : Wk K M (Itr lo n) H ((List.range n).map fun i => PyData.int (lo + (i : Nat))) := by
  refine ⟨fun M' i H' hm e hi => ?_, fun M' H' hm e => ?_, fun M' i H' x H'' hm e al y => ?_⟩
  · rw [List.length_map, List.length_range] at hi
    exact hi
  · rw [List.length_map, List.length_range]
    exact Nat.le_refl _
  · obtain ⟨rfl, rfl⟩ := y
    refine ⟨Evl.Ex.refl _, fun d hd => ?_⟩
    rw [List.getElem?_map] at hd
    obtain ⟨j, hj, rfl⟩ := Option.map_eq_some_iff.mp hd
    obtain ⟨h1, h2⟩ := List.getElem?_eq_some_iff.mp hj
    rw [List.getElem_range] at h2
    subst h2
    exact .int _
def enumD (ds : List PyData) : List PyData := ds.zipIdx.map fun p => .tuple [.int (p.2 : Nat), p.1]
theorem enumD_get {i : Nat} {d : PyData} (h : (enumD ds)[i]? = some d) : ∃ e, ds[i]? = some e ∧ d = .tuple [.int (i : Nat), e] := by
  unfold enumD at h
  rw [List.getElem?_map] at h
  obtain ⟨p, hp, rfl⟩ := Option.map_eq_some_iff.mp h
  rw [List.getElem?_zipIdx] at hp
  obtain ⟨e, he, rfl⟩ := Option.map_eq_some_iff.mp hp
  exact ⟨e, he, by simp⟩
theorem enumD_length : (enumD ds).length = ds.length := by
  unfold enumD
  rw [List.length_map, List.length_zipIdx]
theorem wk_enum {a : Addr} {xs : List V} (m : ¬ M a) (h : Rd H a (.lst xs)) (r : RpAll K M H xs ds) : Wk K M (Ite K a) H (enumD ds) := by
  have nm : ∀ M' : Addr → Prop, (∀ a, M' a → M a ∨ H a = none) → ¬ M' a := fun M' hm z => (hm a z).elim m (Rd.there h)
  have at_ : ∀ (M' : Addr → Prop) (H' : Hp), (∀ a, M' a → M a ∨ H a = none) → ExM M' H H' → Rd H' a (.lst xs) := fun M' H' hm e => Rd.exM (M := M') h (nm M' hm) e
  refine ⟨fun M' i H' hm e hi => ?_, fun M' H' hm e => ?_, fun M' i H' x H'' hm e al y => ?_⟩
  · have hx : i < xs.length := by rw [r.length, ← enumD_length]; exact hi
    exact ⟨xs, xs[i], .inl (at_ M' H' hm e), List.getElem?_eq_getElem hx⟩
  · exact ⟨xs, .inl (at_ M' H' hm e), by rw [r.length, enumD_length]; exact Nat.le_refl _⟩
  · obtain ⟨T, z, rfl, hT, rfl, y⟩ := y
    refine ⟨Evl.Ex.new hT, fun d hd => ?_⟩
    obtain ⟨e', he, rfl⟩ := enumD_get hd
    obtain ⟨v, hv, rv⟩ := r.get he
    have q := y xs (.inl (at_ M' _ hm e))
    rw [hv] at q
    cases q
    exact .tup (al.fresh hT) (.inl upd_same) (.cons (.int _) (.cons (((rv.wide hm).mono (fun _ z => z) e).mono (fun _ z => z) (.of (Evl.Ex.new hT))) .nil))
theorem src_list (h : PD X M iter σ H (.list ds)) : Src X M tg iter σ H ds := ⟨_, pi_list wE.pe, fun H1 e1 al R q => h.run H1 e1 al _ fun v H2 x2 r => by
  cases r with
  | lst m hr rs => exact ⟨_, rfl, ⟨_, .inl hr⟩, q _ H2 x2 (wk_list m hr rs)⟩⟩
theorem src_tup (h : PD X M iter σ H (.tuple ds)) : Src X M tg iter σ H ds := ⟨_, pi_tup wE.pe, fun H1 e1 al R q => h.run H1 e1 al _ fun v H2 x2 r => by
  cases r with
  | tup m hr rs => exact ⟨_, rfl, ⟨_, .inl hr⟩, q _ H2 x2 (wk_tup m hr rs)⟩⟩
theorem src_enum {p tpos : Pos} {elts : List Expr} {kk : Nat} (hg : Gl X "enumerate") (hm : X.mg "enumerate" = none) (h : PD X M e σ H (.list ds)) (hs : starEach [e] X.env = [(false, eval e X.env)] := by rfl)
    (hs' : starEach (e :: []) X.env = (false, eval e X.env) :: starEach [] X.env := by rfl) : Src X M (.Tuple elts kk tpos) (.Call (.Name "enumerate" p) [e] [] pos) σ H (enumD ds) :=
  ⟨_, pi_enum hg hm wA.pa hs, fun H1 e1 al R q => (ad_cons h ad_nil hs').run H1 e1 al _ fun vs H2 x2 rs => by
    obtain ⟨v, rfl, r⟩ := rpa1 rs
    cases r with
    | lst m hr rr => exact ⟨_, _, rfl, .inl hr, q _ H2 x2 (wk_enum m hr rr)⟩⟩
theorem src_range1 {p : Pos} {j : Int} (hg : Gl X "range") (hm : X.mg "range" = none) (h : PD X M e σ H (.int j)) (h1 : -(2 ^ 62) ≤ j) (h2 : j < 2 ^ 62) (hs : starEach [e] X.env = [(false, eval e X.env)] := by rfl)
    (hs' : starEach (e :: []) X.env = (false, eval e X.env) :: starEach [] X.env := by rfl) : Src X M tg (.Call (.Name "range" p) [e] [] pos) σ H ((List.range j.toNat).map fun i => PyData.int (0 + (i : Nat))) :=
  ⟨_, pi_range1 hg hm wA.pa hs, fun H1 e1 al R q => (ad_cons h ad_nil hs').run H1 e1 al _ fun vs H2 x2 rs => by
    obtain ⟨v, rfl, r⟩ := rpa1 rs
    cases r
    exact ⟨j, rfl, h1, h2, q _ H2 x2 (wk_range 0 j.toNat)⟩⟩
theorem src_range2 {p : Pos} {a b : Expr} {i j : Int} (hg : Gl X "range") (hm : X.mg "range" = none) (ha : PD X M a σ H (.int i)) (hb : PD X M b σ H (.int j)) (h1 : -(2 ^ 62) ≤ i ∧ i < 2 ^ 62) (h2 : -(2 ^ 62) ≤ j ∧ j < 2 ^ 62)
    (hs : starEach [a, b] X.env = [(false, eval a X.env), (false, eval b X.env)] := by rfl) (hs2 : starEach [b] X.env = [(false, eval b X.env)] := by rfl)
    (hsa : starEach (a :: [b]) X.env = (false, eval a X.env) :: starEach [b] X.env := by rfl) (hsb : starEach (b :: []) X.env = (false, eval b X.env) :: starEach [] X.env := by rfl) :
    Src X M tg (.Call (.Name "range" p) [a, b] [] pos) σ H ((List.range (j - i).toNat).map fun k => PyData.int (i + (k : Nat))) :=
  ⟨_, pi_range2 hg hm wA.pa hs hs2, fun H1 e1 al R q => (ad_cons ha (ad_cons hb ad_nil hsb) hsa).run H1 e1 al _ fun vs H2 x2 rs => by
    obtain ⟨v, w, rfl, r1, r2⟩ := rpa2 rs
    cases r1
    cases r2
    exact ⟨i, j, rfl, ⟨h1.1, h1.2, h2.1, h2.2⟩, q _ H2 x2 (wk_range i (j - i).toNat)⟩⟩

/-! ### targets: a name, two names -/
inductive Tg where
  | one (i : Nat)
  | two (i j : Nat)
def Tg.g (K : PySem.W.Frag) : Tg → TG
  | .one i => gName i
  | .two i j => gTup K 2 (gCons (gName i) (gCons (gName j) gNil))
def Tg.Ok (K : PySem.W.Frag) (M : Addr → Prop) (H : Hp) (d : PyData) (σ : St) : Tg → St → Prop
  | .one i, σ' => ∃ v, Rp K M H v d ∧ σ' = σ.set i (some v)
  | .two i j, σ' => ∃ da db v w, d = .tuple [da, db] ∧ Rp K M H v da ∧ Rp K M H w db ∧ σ' = (σ.set i (some v)).set j (some w)
def Tg.Fits : Tg → PyData → Prop
  | .one _, _ => True
  | .two _ _, d => ∃ da db, d = .tuple [da, db]
theorem Tg.run {t : Tg} {v : V} {Q : St → Hp → Prop} (f : t.Fits d) (r : Rp K M H v d) (q : ∀ σ', t.Ok K M H d σ σ' → Q σ' H) : t.g K v σ H Q := by
  cases t with
  | one i => exact q _ ⟨v, r, rfl⟩
  | two i j =>
    obtain ⟨da, db, rfl⟩ := f
    cases r with
    | tup m h rs =>
      obtain ⟨v1, w1, rfl, r1, r2⟩ := rpa2 rs
      exact ⟨_, _, rfl, .inl h, rfl, v1, [w1], rfl, w1, [], rfl, rfl, q _ ⟨da, db, v1, w1, rfl, r1, r2, rfl⟩⟩

/-! ### for -/
theorem s_for {t : Tg} {body : List Stmt} {D : Ends} (hp : PassesOwn (model X.prog X.w) X.A X.env X.xe) (hc : X.calm = true) (hi : Src X M tg iter σ H ds) (hg : PG X tg (t.g X.K)) (al : Alive M H) (J : Hp → Nat → St → Hp → Prop)
    (h0 : ∀ H1, Evl.Ex H H1 → J H1 0 σ H1) (hk : ∀ H1 i σ' H', Evl.Ex H H1 → J H1 i σ' H' → ExM M H1 H' ∧ Alive M H') (hf : ∀ d ∈ ds, t.Fits d)
    (ht : ∀ H1 i d σ' H' H2 σ2, Evl.Ex H H1 → ds[i]? = some d → J H1 i σ' H' → Evl.Ex H' H2 → t.Ok X.K M H2 d σ' σ2 → wB X body { D with nx := J H1 (i + 1), ct := J H1 (i + 1), bk := D.nx } σ2 H2)
    (hd : ∀ H1 σ' H', Evl.Ex H H1 → J H1 ds.length σ' H' → D.nx σ' H') (hs : ∀ x, foldedSetIterable iter X.env x = pure x := by intro _; rfl) : wS X (.For tg iter body [] pos) D σ H := by
  obtain ⟨wi, pi, run⟩ := hi.ex
  refine ⟨_, ps_for hp hc pi hg wB.ps hs, run H (ExM.refl H) al _ fun It H1 x1 wk => ?_⟩
  refine ⟨fun i m σ' H' => m = ds.length - i ∧ i ≤ ds.length ∧ J H1 i σ' H', ⟨ds.length, rfl, Nat.zero_le _, h0 H1 x1⟩, ?_⟩
  rintro i m σ' H' ⟨rfl, hi', j⟩
  obtain ⟨e, al'⟩ := hk H1 i σ' H' x1 j
  by_cases hlt : i < ds.length
  · refine .inr ⟨wk.go M i H' (fun _ z => .inl z) e hlt, J H1 (i + 1), fun σ2 H2 j2 => ⟨ds.length - (i + 1), by omega, rfl, hlt, j2⟩, fun x H2 y => ?_⟩
    obtain ⟨x2, r⟩ := wk.yld M i H' x H2 (fun _ z => .inl z) e al' y
    have hd' : ds[i]? = some ds[i] := List.getElem?_eq_getElem hlt
    exact Tg.run (hf _ (List.getElem_mem hlt)) (r _ hd') fun σ2 ok => ht H1 i _ σ' H' H2 σ2 x1 hd' j x2 ok
  · have e2 : i = ds.length := by omega
    subst e2
    exact .inl ⟨wk.stop M H' (fun _ z => .inl z) e, hd H1 σ' H' x1 j⟩

/-! ### [elt for target in iter if ..] -/
def wTs (X : Cx) (ifs : List Expr) : TT := fun σ H Q => ∃ t, PTs X ifs t ∧ t σ H Q
theorem wTs.pts {ifs : List Expr} : PTs X ifs (wTs X ifs) := ⟨fun pins s σ H Q I ⟨_, h, q⟩ => h.run pins s σ H Q I q⟩
/-- the tests' answer -/
structure TsD (X : Cx) (M : Addr → Prop) (ifs : List Expr) (σ : St) (H : Hp) (k : Bool) : Prop where
  run : ∀ H1, ExM M H H1 → Alive M H1 → ∀ Q : Bool → Hp → Prop, (∀ H2, Evl.Ex H1 H2 → Q k H2) → wTs X ifs σ H1 Q
theorem tsd_nil : TsD X M [] σ H true := ⟨fun H1 _ _ Q q => ⟨_, pts_nil, q H1 (Evl.Ex.refl H1)⟩⟩
theorem tsd_one {k : Bool} (h : TD X M c σ H k) : TsD X M [c] σ H k := ⟨fun H1 e1 al Q q => ⟨_, pts_one wT.pt, h.run H1 e1 al Q q⟩⟩
abbrev Cx.lc (X : Cx) (s : Shared) (H : Hp) (scope : Scope) (C : Addr) (cl : List (Str × Addr)) (fp : List Addr) : Cx := X.blk s H scope (compEnvC scope cl C X.env) fp
theorem lc_core {t : Tg} {elt : Expr} {ifs : List Expr} {scope : Scope} {own : List (Str × Nat)} (hc : X.calm = true) (hN : X.N.Nodup) (hi : Src X M tg iter σ H ds) (ok : BlkOk X.N X.env.scope scope own)
    (hg : ∀ s H C cl fp, PG (Cx.lc X s H scope C cl fp) tg (t.g X.K)) (hf : ∀ d ∈ ds, t.Fits d) (hw : ∀ M H d σ', t.Ok X.K M H d (wipe σ (own.map (·.2))) σ' → wipe σ' (own.map (·.2)) = wipe σ (own.map (·.2)))
    (p : PyData → Bool) (f : PyData → PyData) (hl : ds.length ≤ 100000)
    (body : ∀ s0 H0 C cl fp M' H' d σ', (∀ a, M a → M' a) → (∀ v e, Rp X.K M H v e → Rp X.K M' H' v e) → d ∈ ds → t.Ok X.K M' H' d (wipe σ (own.map (·.2))) σ' →
      TsD (Cx.lc X s0 H0 scope C cl fp) M' ifs σ' H' (p d) ∧ (p d = true → PD (Cx.lc X s0 H0 scope C cl fp) M' elt σ' H' (f d))) :
    ∃ wi, PI X tg iter wi ∧ ∀ H1, ExM M H H1 → Alive M H1 → ∀ Q : VK, (∀ l ws H2, H1 l = none → Evl.Ex H1 H2 → H2 l = some (.lst ws) → RpAll X.K M H2 ws ((ds.filter p).map f) → Q (.ref l) H2) →
      tLc wi (t.g X.K) (fun σ H Q => ∀ s0 H0 C cl fp, wTs (Cx.lc X s0 H0 scope C cl fp) ifs σ H Q) (fun σ H Q => ∀ s0 H0 C cl fp, wE (Cx.lc X s0 H0 scope C cl fp) elt σ H Q) (own.map (·.2)) σ H1 Q := by
  obtain ⟨wi, pi, run⟩ := hi.ex
  refine ⟨wi, pi, fun H1 e1 al Q q => ?_⟩
  refine run H1 e1 al _ fun It Hs xs wk D hD => ?_
  have alS := al.mono xs
  -- D is mutable meanwhile
  let M' : Addr → Prop := fun a => M a ∨ a = D
  have hm : ∀ a, M' a → M a ∨ Hs a = none := fun a z => z.elim .inl fun e => .inr (by rw [e]; exact hD)
  have al2 : ∀ H', Evl.Ex Hs H' → (∃ acc, H' D = some (.lst acc)) → Alive M' H' := fun H' e ⟨acc, h⟩ a z => by
    rcases z with z | z
    · exact (alS.mono e) a z
    · subst z
      exact ⟨_, h⟩
  refine ⟨fun i m H' => m = ds.length - i ∧ i ≤ ds.length ∧ Evl.Ex Hs H' ∧ ∃ acc, H' D = some (.lst acc) ∧ acc.length ≤ i ∧ RpAll X.K M' H' acc (((ds.take i).filter p).map f), ⟨ds.length, rfl, Nat.zero_le _, Evl.Ex.new hD, [], upd_same, Nat.le_refl _, by simpa using RpAll.nil⟩, ?_⟩
  rintro i m H' ⟨rfl, hi', x, acc, hacc, hlen, racc⟩
  have eM : ExM M' Hs H' := .of x
  have al' := al2 H' x ⟨acc, hacc⟩
  by_cases hlt : i < ds.length
  · refine .inr ⟨wk.go M' i H' hm eM hlt, fun H2 => Evl.Ex Hs H2 ∧ ∃ acc, H2 D = some (.lst acc) ∧ acc.length ≤ i + 1 ∧ RpAll X.K M' H2 acc (((ds.take (i + 1)).filter p).map f), fun H2 ⟨a1, a2⟩ => ⟨ds.length - (i + 1), by omega, rfl, hlt, a1, a2⟩, fun v H2 y => ?_⟩
    obtain ⟨x2, r⟩ := wk.yld M' i H' v H2 hm eM al' y
    have hd' : ds[i]? = some ds[i] := List.getElem?_eq_getElem hlt
    have hmem := List.getElem_mem hlt
    have hacc2 : H2 D = some (.lst acc) := x2 _ _ hacc
    have lift : ∀ v e, Rp X.K M H v e → Rp X.K M' H2 v e := fun v e rv => ((rv.mono (fun _ z => z) (e1.trans (.of xs))).wide hm).mono (fun _ z => z) (.of (x.trans x2))
    have al3 := al2 H2 (x.trans x2) ⟨acc, hacc2⟩
    refine Tg.run (hf _ hmem) (r _ hd') fun σ2 okk => ⟨hw _ _ _ _ okk, ?_⟩
    have all := fun s0 H0 C cl fp => body s0 H0 C cl fp M' H2 ds[i] σ2 (fun _ z => .inl z) lift hmem okk
    -- the test
    have tk : (ds.take (i + 1)).filter p = (ds.take i).filter p ++ (if p ds[i] = true then [ds[i]] else []) := by
      rw [List.take_add_one, hd', List.filter_append]
      simp only [Option.toList_some, List.filter_cons, List.filter_nil]
    have fin : ∀ b, b = p ds[i] → ∀ H3, Evl.Ex H2 H3 → (if b = true then (∀ s0 H0 C cl fp, wE (Cx.lc X s0 H0 scope C cl fp) elt σ2 H3 fun y H4 => ∃ acc, H4 D = some (.lst acc) ∧ acc.length < sizeLine ∧
        (Evl.Ex Hs (upd H4 D (.lst (acc ++ [y]))) ∧ ∃ acc', (upd H4 D (.lst (acc ++ [y]))) D = some (.lst acc') ∧ acc'.length ≤ i + 1 ∧ RpAll X.K M' (upd H4 D (.lst (acc ++ [y]))) acc' (((ds.take (i + 1)).filter p).map f)))
        else (Evl.Ex Hs H3 ∧ ∃ acc, H3 D = some (.lst acc) ∧ acc.length ≤ i + 1 ∧ RpAll X.K M' H3 acc (((ds.take (i + 1)).filter p).map f))) := by
      intro b hb H3 x3
      have hacc3 := x3 _ _ hacc2
      cases b with
      | true =>
        rw [if_pos rfl]
        intro s0 H0 C cl fp
        refine ((all s0 H0 C cl fp).2 hb.symm).run H3 (.of x3) (al3.mono x3) _ fun y H4 x4 ry => ?_
        have x5 : Evl.Ex Hs H4 := ((x.trans x2).trans x3).trans x4
        refine ⟨acc, x4 _ _ hacc3, ?_, Evl.Ex.mut x5 hD, _, upd_same, ?_, ?_⟩
        · exact Nat.lt_of_lt_of_le (Nat.lt_of_le_of_lt hlen hlt) (Evl.sz_of hl)
        · rw [List.length_append, List.length_singleton]
          omega
        · rw [tk, if_pos hb.symm, List.map_append]
          have eD : ExM M' H4 (upd H4 D (.lst (acc ++ [y]))) := fun a o h nm _ => by
            rw [upd_ne (fun e => nm (.inr e))]
            exact h
          exact (racc.mono (fun _ z => z) (.of ((x2.trans x3).trans x4))).append (.cons ry .nil) |>.mono (fun _ z => z) eD
      | false =>
        rw [if_neg Bool.false_ne_true]
        refine ⟨(x.trans x2).trans x3, acc, hacc3, by omega, ?_⟩
        rw [tk, if_neg (by rw [← hb]; exact Bool.false_ne_true), List.append_nil]
        exact racc.mono (fun _ z => z) (.of (x2.trans x3))
    intro s0 H0 C cl fp
    exact (all s0 H0 C cl fp).1.run H2 (ExM.refl H2) al3 _ fun H3 x3 => fin _ rfl H3 x3
  · have e2 : i = ds.length := by omega
    subst e2
    refine .inl ⟨wk.stop M' H' hm eM, q D acc H' (Evl.fresh_back xs hD) (xs.trans x) hacc ?_⟩
    rw [List.take_length] at racc
    exact racc.mono (fun _ z => .inl z) (ExM.refl _)
theorem fd_lc {t : Tg} {elt : Expr} {ifs : List Expr} {scope : Scope} {own : List (Str × Nat)} (hc : X.calm = true) (hN : X.N.Nodup) (hi : Src X M tg iter σ H ds) (ok : BlkOk X.N X.env.scope scope own)
    (hg : ∀ s H C cl fp, PG (Cx.lc X s H scope C cl fp) tg (t.g X.K)) (hf : ∀ d ∈ ds, t.Fits d) (hw : ∀ M H d σ', t.Ok X.K M H d (wipe σ (own.map (·.2))) σ' → wipe σ' (own.map (·.2)) = wipe σ (own.map (·.2)))
    (p : PyData → Bool) (f : PyData → PyData) (hl : ds.length ≤ 100000)
    (body : ∀ s0 H0 C cl fp M' H' d σ', (∀ a, M a → M' a) → (∀ v e, Rp X.K M H v e → Rp X.K M' H' v e) → d ∈ ds → t.Ok X.K M' H' d (wipe σ (own.map (·.2))) σ' →
      TsD (Cx.lc X s0 H0 scope C cl fp) M' ifs σ' H' (p d) ∧ (p d = true → PD (Cx.lc X s0 H0 scope C cl fp) M' elt σ' H' (f d)))
    (hs : ∀ x, foldedSetIterable iter X.env x = pure x := by intro _; rfl) : FD X M (.ListComp elt [⟨tg, iter, ifs, 0⟩] scope pos) σ H ((ds.filter p).map f) := by
  obtain ⟨wi, pi, run⟩ := lc_core hc hN hi ok hg hf hw p f hl body
  exact .mk fun H1 e1 al Q q => ⟨_, pe_lc hc hN pi ok hg (fun s0 H0 C cl fp => ⟨fun pins s σ H Q I h => wTs.pts.run pins s σ H Q I (h s0 H0 C cl fp)⟩) (fun s0 H0 C cl fp => ⟨fun pins s σ H Q I h => wE.pe.run pins s σ H Q I (h s0 H0 C cl fp)⟩) hs, run H1 e1 al Q q⟩
/-- y = [elt for target in iter if ..], where y stands in the block alone -/
theorem s_setLc {t : Tg} {elt : Expr} {ifs : List Expr} {scope : Scope} {own : List (Str × Nat)} (hc : X.calm = true) (hN : X.N.Nodup) (hi : Src X M tg iter σ H ds) (ok : BlkOk X.N X.env.scope scope own)
    (hg : ∀ s H C cl fp, PG (Cx.lc X s H scope C cl fp) tg (t.g X.K)) (hf : ∀ d ∈ ds, t.Fits d) (hw : ∀ M H d σ', t.Ok X.K M H d (wipe σ (own.map (·.2))) σ' → wipe σ' (own.map (·.2)) = wipe σ (own.map (·.2)))
    (p : PyData → Bool) (f : PyData → PyData) (hl : ds.length ≤ 100000)
    (body : ∀ s0 H0 C cl fp M' H' d σ', (∀ a, M a → M' a) → (∀ v e, Rp X.K M H v e → Rp X.K M' H' v e) → d ∈ ds → t.Ok X.K M' H' d (wipe σ (own.map (·.2))) σ' →
      TsD (Cx.lc X s0 H0 scope C cl fp) M' ifs σ' H' (p d) ∧ (p d = true → PD (Cx.lc X s0 H0 scope C cl fp) M' elt σ' H' (f d)))
    {i : Nat} {y : Str} {py spos : Pos} {D : Ends} (al : Alive M H) (hy : X.N[i]? = some y) (hyl : X.env.scope.names.lookup y = some .local) (hsw : swapsWith (.ListComp elt [⟨tg, iter, ifs, 0⟩] scope pos) (some (.Name y py)) spos.line X.env = pure true) (q : ∀ l ws H2, H l = none → Evl.Ex H H2 → H2 l = some (.lst ws) → RpAll X.K M H2 ws ((ds.filter p).map f) → D.nx (σ.set i (some (.ref l))) H2)
    (hs : ∀ x, foldedSetIterable iter X.env x = pure x := by intro _; rfl) : wS X (.Assign [.Name y py] (.ListComp elt [⟨tg, iter, ifs, 0⟩] scope pos) spos) D σ H := by
  obtain ⟨wi, pi, run⟩ := lc_core hc hN hi ok hg hf hw p f hl body
  exact ⟨_, ps_setLc hc hN hy hyl hsw pi ok hg (fun s0 H0 C cl fp => ⟨fun pins s σ H Q I h => wTs.pts.run pins s σ H Q I (h s0 H0 C cl fp)⟩) (fun s0 H0 C cl fp => ⟨fun pins s σ H Q I h => wE.pe.run pins s σ H Q I (h s0 H0 C cl fp)⟩) hs, run H (ExM.refl H) al _ q⟩
end
end GV

namespace GV
open PySem PySem.Spec PyProof.Rows L2
/-- the names of the built-ins that the text asks for are the built-ins' own -/
structure NoB (mg : Str → Option Value) : Prop where
  isinstance : mg "isinstance" = none
  int : mg "int" = none
  bool : mg "bool" = none
  str : mg "str" = none
  list : mg "list" = none
  tuple : mg "tuple" = none
  set : mg "set" = none
  len : mg "len" = none
  range : mg "range" = none
  enumerate : mg "enumerate" = none
  abs : mg "abs" = none
  min : mg "min" = none
  max : mg "max" = none
  sum : mg "sum" = none
  any : mg "any" = none
  all : mg "all" = none
  sorted : mg "sorted" = none
section
variable {X : Cx} {M : Addr → Prop} {σ : St} {H H' : Hp} {a b c e : Expr} {da db d : PyData} {pos : Pos} {es : List Expr} {ds : List PyData}

/-! ### isinstance of data, by one built-in class -/
def tyD : PyData → String
  | .none => "NoneType"
  | .bool _ => "bool"
  | .int _ => "int"
  | .str _ => "str"
  | .list _ => "list"
  | .tuple _ => "tuple"
  | .dict _ => "dict"
theorem Rp.tyX {K : PySem.W.Frag} {v : V} (r : Rp K M H v d) : TyX K H v (.type (tyD d)) := by
  cases r with
  | non => exact .base .non
  | bl b => exact .base (.bl b)
  | int i => exact .base (.int i)
  | str x => exact .base (.str x)
  | lst m h rs =>
    rcases h with h | ⟨o, h⟩
    · exact .base (.lst h)
    · exact .base (.frz h)
  | tup m h rs =>
    rcases h with h | ⟨o, h⟩
    · exact .base (.tup h)
    · exact .fTuple h
theorem pd_isi {T : String} {x : Str} {p p2 : Pos} {k : Bool} (hg : Gl X "isinstance") (hm : X.mg "isinstance" = none) (hgT : Gl X x) (hmT : X.mg x = none) (hv : bootBuiltins x = some (.type T)) (ha : PD X M a σ H d) (hk : kitB (tyD d) T = some k)
    (hn : x ≠ "__name__" := by decide) (hd : (x == ("__debug__" : Str)) = false := by decide)
    (h1 : starEach (a :: [.Name x p2]) X.env = (false, eval a X.env) :: starEach [.Name x p2] X.env := by rfl) (h2 : starEach (.Name x p2 :: []) X.env = (false, eval (.Name x p2) X.env) :: starEach [] X.env := by rfl)
    (hpl : (backTo pos (starEach [.Name x p2] X.env)).any (·.1) = false := by rfl) :
    PD X M (.Call (.Name "isinstance" p) [a, .Name x p2] [] pos) σ H (.bool k) := .mk fun H1 e1 al Q q =>
  ⟨_, pe_callB call_isi hg hm PyProof.Rows.boot_isinstance (pa_cons wE.pe (pa_cons (pe_bltn (v := .ty T) hgT hmT hv rfl hn hd) pa_nil h2) h1) (by decide) (by decide) h1 hpl, ha.run H1 e1 al _ fun v H2 x2 r =>
    ⟨v, .ty T, .type (tyD d), .type T, k, rfl, .ty T, r.tyX, kit_ty hk, q _ H2 x2 (.bl k)⟩⟩

/-! ### a chain of two comparisons of ints -/
theorem pd_leLe {i j k : Int} (ha : PD X M a σ H (.int i)) (hb : PD X M b σ H (.int j)) (hc : PD X M c σ H (.int k)) (h1 : lastMarks [.LtE, .LtE] [b, c] = false := by with_unfolding_all rfl) : PD X M (.Compare a [.LtE, .LtE] [b, c] pos) σ H (.bool (decide (i ≤ j) && decide (j ≤ k))) := .mk fun H1 e1 al Q q =>
  ⟨_, pe_chain op_le op_le wE.pe wE.pe wE.pe h1, ha.run H1 e1 al _ fun x H2 x2 rx => hb.run H2 (e1.trans (.of x2)) (al.mono x2) _ fun y H3 x3 ry => by
    cases rx
    cases ry
    refine ⟨i, j, rfl, rfl, _, rfl, ?_⟩
    by_cases h : i ≤ j
    · rw [if_pos (decide_eq_true h)]
      refine hc.run H3 ((e1.trans (.of x2)).trans (.of x3)) ((al.mono x2).mono x3) _ fun z H4 x4 rz => ?_
      cases rz
      refine ⟨j, k, rfl, rfl, q _ H4 ((x2.trans x3).trans x4) ?_⟩
      rw [decide_eq_true h]
      exact .bl _
    · rw [if_neg (by rw [decide_eq_false h]; exact Bool.false_ne_true)]
      refine q _ H3 (x2.trans x3) ?_
      rw [decide_eq_false h]
      exact .bl _⟩

/-! ### any, all, sum, min, max, in -/
theorem RpAll.of_bools {K : PySem.W.Frag} : ∀ {vs : List V} {bs : List Bool}, RpAll K M H vs (bs.map PyData.bool) → vs = bs.map V.bl
  | [], [], .nil => rfl
  | _ :: _, n :: r, .cons h hs => by
    cases h
    rw [RpAll.of_bools hs]
    rfl
theorem rn_any {bs : List Bool} : RDn X M (rAny X.K) [.list (bs.map PyData.bool)] (.bool (bs.any id)) := fun vs H1 r _ Q q => by
  obtain ⟨v, rfl, r1⟩ := rpa1 r
  cases r1 with
  | lst m hs rs => exact ⟨_, bs, rfl, .inl (by rw [← rs.of_bools]; exact hs), q _ H1 (Evl.Ex.refl H1) (.bl _)⟩
theorem rn_all {bs : List Bool} : RDn X M (rAll X.K) [.list (bs.map PyData.bool)] (.bool (bs.all id)) := fun vs H1 r _ Q q => by
  obtain ⟨v, rfl, r1⟩ := rpa1 r
  cases r1 with
  | lst m hs rs => exact ⟨_, bs, rfl, .inl (by rw [← rs.of_bools]; exact hs), q _ H1 (Evl.Ex.refl H1) (.bl _)⟩
theorem rn_sum {ns : List Int} : RDn X M (rSum X.K) [.list (ns.map PyData.int)] (.int ns.sum) := fun vs H1 r _ Q q => by
  obtain ⟨v, rfl, r1⟩ := rpa1 r
  cases r1 with
  | lst m hs rs => exact ⟨_, ns, rfl, .inl (by rw [← rs.of_ints]; exact hs), q _ H1 (Evl.Ex.refl H1) (.int _)⟩
theorem rn_max {ns : List Int} {m : Int} (hm : m ∈ ns) (hx : ∀ y ∈ ns, y ≤ m) : RDn X M (rMax X.K) [.list (ns.map PyData.int)] (.int m) := fun vs H1 r _ Q q => by
  obtain ⟨v, rfl, r1⟩ := rpa1 r
  cases r1 with
  | lst m' hs rs =>
    refine ⟨_, ns, rfl, .inl (by rw [← rs.of_ints]; exact hs), List.length_pos_of_mem hm, fun k hk hkx => q _ H1 (Evl.Ex.refl H1) ?_⟩
    rw [Int.le_antisymm (hx k hk) (hkx m hm)]
    exact .int _
theorem rn_min {ns : List Int} {m : Int} (hm : m ∈ ns) (hx : ∀ y ∈ ns, m ≤ y) : RDn X M (rMin X.K) [.list (ns.map PyData.int)] (.int m) := fun vs H1 r _ Q q => by
  obtain ⟨v, rfl, r1⟩ := rpa1 r
  cases r1 with
  | lst m' hs rs =>
    refine ⟨_, ns, rfl, .inl (by rw [← rs.of_ints]; exact hs), List.length_pos_of_mem hm, fun k hk hkx => q _ H1 (Evl.Ex.refl H1) ?_⟩
    rw [Int.le_antisymm (hkx m hm) (hx k hk)]
    exact .int _

/-! ### min(e, default=f) of a list of ints -/
def minOr (d : PyData) : List Int → PyData
  | [] => d
  | n :: r => .int (r.foldl min n)
theorem ints_alike (ns : List Int) : PySem.W.AlikeAll (ns.map PyData.int) := by
  refine ⟨fun x hx y hy => ?_, fun x hx => ?_⟩
  · obtain ⟨i, _, rfl⟩ := List.mem_map.mp hx
    obtain ⟨j, _, rfl⟩ := List.mem_map.mp hy
    rfl
  · obtain ⟨i, _, rfl⟩ := List.mem_map.mp hx
    exact fun z => by cases z
theorem ints_depth (ns : List Int) : PyData.depthAll (ns.map PyData.int) = 0 := by
  induction ns with
  | nil => rfl
  | cons n r ih =>
    show max (PyData.depth (.int n)) (PyData.depthAll (r.map PyData.int)) = 0
    rw [ih]
    rfl
theorem dpAll_ints {K : PySem.W.Frag} (ns : List Int) : DpAll K H (ns.map V.int) (ns.map PyData.int) := (RpAll.ints (M := fun _ => False) ns).dp
def rMinDf (K : PySem.W.Frag) : List V → List V → Hp → VK → Prop := fun xs zs H Q => ∃ (a : Addr) (ns : List Int) (z : V), xs = [.ref a] ∧ zs = [z] ∧ SqL K H a (ns.map V.int) ∧ (ns = [] → Q z H) ∧ (∀ n r, ns = n :: r → Q (.int (r.foldl min n)) H)
theorem cr_minDf (hc : X.calm = true) (hu : X.A.units + 2 < cLine) : CallRK X (.builtin "min") ["default"] (rMinDf X.K) := by
  intro pins s σ H xs zs us ws Q I rx rz h
  obtain ⟨a, ns, z, rfl, rfl, hs, q0, q1⟩ := h
  obtain ⟨w, rfl, rw'⟩ := vals1 rz
  rw [Vals.ref1 rx]
  obtain ⟨its, rv, pl, _⟩ := I.list hs
  obtain ⟨as, hr⟩ := Dp.readsAll I _ _ its (dpAll_ints ns) rv
  refine PySem.W.min_list_default (I.ok.hd hc) pl.isList hr (ints_alike ns) (by rw [ints_depth]; omega) (fun e h' tk k => ?_) (fun y ys i v h' tk bs e hv hrd k => ?_)
  · refine ⟨z, H, I.kept k, rw', q0 ?_⟩
    cases ns with
    | nil => rfl
    | cons n r => cases e
  · cases ns with
    | nil => cases e
    | cons n r =>
      cases e
      rw [PySem.W.minD_ints] at hrd
      cases hrd with
      | int i t => exact ⟨.int _, H, I.kept k, ⟨t, rfl⟩, q1 n r rfl⟩
theorem pd_minDf {p kp : Pos} {ns : List Int} (hc : X.calm = true) (hu : X.A.units + 2 < cLine) (hg : Gl X "min") (hm : X.mg "min" = none) (ha : PD X M a σ H (.list (ns.map PyData.int))) (hb : PD X M b σ H d)
    (h1 : starEach (a :: []) X.env = (false, eval a X.env) :: starEach [] X.env := by rfl)
    (he : backTo pos (starEach (a :: []) X.env) = (false, eval a X.env) :: backTo pos (starEach [] X.env) := by rfl) (hpl : (backTo pos (starEach (a :: []) X.env)).any (·.1) = false := by rfl)
    (hall : (backToKw pos (keywordEach [⟨some "default", b, kp⟩] X.env)).all (·.1.isSome) = true := by rfl) (hnone : (backToKw pos (keywordEach [⟨some "default", b, kp⟩] X.env)).any (·.1.isNone) = false := by rfl)
    (hks : (backToKw pos (keywordEach [⟨some "default", b, kp⟩] X.env)).filterMap (·.1) = (["default"] : List Str) := by rfl) :
    PD X M (.Call (.Name "min" p) [a] [⟨some "default", b, kp⟩] pos) σ H (minOr d ns) := .mk fun H1 e1 al Q q =>
  ⟨_, pe_callBK (cr_minDf hc hu) hg hm PyProof.Rows.boot_min (pa_cons wE.pe pa_nil h1) (pk_cons wE.pe pk_nil) (by decide) (by decide) he hpl hall hnone hks, ha.run H1 e1 al _ fun v H2 x2 r => hb.run H2 (e1.trans (.of x2)) (al.mono x2) _ fun w H3 x3 rw' => by
    have r3 := r.mono (fun _ z => z) (.of x3)
    cases r3 with
    | lst m hs rs =>
      refine ⟨_, ns, w, rfl, rfl, .inl (by rw [← rs.of_ints]; exact hs), fun e => q _ H3 (x2.trans x3) ?_, fun n r e => q _ H3 (x2.trans x3) ?_⟩
      · rw [e]
        exact rw'
      · rw [e]
        exact .int _⟩
end
end GV

namespace GV
open PySem PySem.Spec PyProof.Rows L2
section
variable {X : Cx} {M : Addr → Prop} {σ : St} {H H' : Hp} {a b c e : Expr} {pos : Pos}
theorem up_ext : ∀ {l m : List Int}, l.Pairwise (· < ·) → m.Pairwise (· < ·) → (∀ k, k ∈ l ↔ k ∈ m) → l = m
  | [], [], _, _, _ => rfl
  | [], y :: m, _, _, h => absurd ((h y).mpr (List.mem_cons_self ..)) (by simp)
  | x :: l, [], _, _, h => absurd ((h x).mp (List.mem_cons_self ..)) (by simp)
  | x :: l, y :: m, p, q, h => by
    obtain ⟨p1, p2⟩ := List.pairwise_cons.mp p
    obtain ⟨q1, q2⟩ := List.pairwise_cons.mp q
    have hx := (h x).mp (List.mem_cons_self ..)
    have hy := (h y).mpr (List.mem_cons_self ..)
    have e : x = y := by
      rcases List.mem_cons.mp hx with e | hx
      · exact e
      · rcases List.mem_cons.mp hy with e | hy
        · exact e.symm
        · have := q1 x hx
          have := p1 y hy
          omega
    subst e
    rw [up_ext p2 q2 fun k => ?_]
    constructor
    · intro hk
      rcases List.mem_cons.mp ((h k).mp (List.mem_cons_of_mem _ hk)) with e | e
      · subst e
        exact absurd (p1 _ hk) (Int.lt_irrefl _)
      · exact e
    · intro hk
      rcases List.mem_cons.mp ((h k).mpr (List.mem_cons_of_mem _ hk)) with e | e
      · subst e
        exact absurd (q1 _ hk) (Int.lt_irrefl _)
      · exact e
/-- sorted(set(e)), e a list of ints, fewer than 64 -/
theorem fd_sortedSet {p p2 q2 : Pos} {ns out : List Int} (hc : X.calm = true) (hg : Gl X "sorted") (hm : X.mg "sorted" = none) (hg2 : Gl X "set") (hm2 : X.mg "set" = none) (ha : PD X M a σ H (.list (ns.map PyData.int)))
    (hl : ns.length < 64) (ho : out.Pairwise (· < ·)) (hmem : ∀ k, k ∈ out ↔ k ∈ ns)
    (na : starEach [a] X.env = (false, eval a X.env) :: starEach [] X.env := by rfl) : FD X M (.Call (.Name "sorted" p) [.Call (.Name "set" p2) [a] [] q2] [] pos) σ H (out.map PyData.int) := .mk fun H1 e1 al Q q => by
  refine ⟨fun σ H Q => wE X a σ H fun x H1 => ∃ l, x = V.ref l ∧ SqL X.K H1 l (ns.map V.int) ∧ ∀ p, H1 p = none → Q (.ref p) (upd H1 p (.lst (out.map V.int))), ⟨fun pins s σ H Q I h => ?_⟩, ?_⟩
  · refine Call_ (ld_blt I hg hm PyProof.Rows.boot_sorted ?_)
    refine PyProof.Rows.callWith_builtin1 (PyProof.Rows.args_cons ?_ rfl) rfl rfl
    refine Call_ (ld_blt I hg2 hm2 PyProof.Rows.boot_set (PyProof.Rows.callWith_type1 (PyProof.Rows.args_cons (thn (wE.pe.run pins s σ H _ I h) fun v s1 ⟨x, H1, I1, r1, l, e2, hq, q1⟩ => PyProof.Rows.args_nil ?_) na) na rfl))
    subst e2
    cases r1
    obtain ⟨its, r, pl, hz⟩ := I1.list hq
    refine set_ofL ns (I1.ok.hd hc) pl.isList (by simpa using r.ints) (by unfold scanBound; omega) fun g tk c R hcl k => PyProof.Rows.args_nil ?_
    have I2 : Inv X pins σ H1 { s1 with heap := g, toks := tk } := I1.kept k
    refine sorted_set R (I1.ok.hd hc) (by omega) fun s' p o c' ns' k2 g2 o2 hp hgp hi hs hm' hlen => ?_
    have en : ns' = out := up_ext hs ho fun z => by
      rw [hm' z, hmem z]
      exact decide_eq_true_iff
    subst en
    have hn : H1 p = none := I2.hok.fresh hp
    have ln : (ns'.map V.int).length ≤ sizeLine := by
      rw [List.length_map]
      refine Evl.sz_of (Nat.le_trans ?_ (show 64 ≤ 100000 by decide))
      omega
    have J : Inv X pins σ (upd H1 p (.lst (ns'.map V.int))) { ({ s1 with heap := g, toks := tk } : Shared) with heap := s'.heap, gens := s'.gens, drawn := s'.drawn, toks := s'.toks } := I2.call (ch := []) (Un.laid k2 hp hn) (I2.hok.laid k2 hp ⟨ln, o.toList, c', vals_of_ints hi, hgp⟩) (by rw [g2]; exact I2.bare) (fun _ z => nomatch z)
    obtain ⟨hp', g', d', t', os'⟩ := s'
    obtain rfl : os' = s1.os := o2
    exact ⟨.ref p, _, J, rfl, q1 p hn⟩
  · refine ha.run H1 e1 al _ fun v H2 x2 r => ?_
    cases r with
    | lst m hr rs => exact ⟨_, rfl, .inl (by rw [← rs.of_ints]; exact hr), fun p hp => q p _ _ (Evl.fresh_back x2 hp) (x2.trans (Evl.Ex.new hp)) upd_same (RpAll.ints out)⟩
end
end GV

namespace GV
open PySem PySem.Spec PyProof.Rows L2
/-! ### a def of the text that keeps a promise, by its name -/
structure Cl (P : Program) (w : World) (K : PySem.W.Frag) (mg : Str → Option Value) (base : Heap) (CX : CXT) (k : Nat) (x : Str) (sp : Sp) : Prop where
  ex : ∃ (f : Addr) (fd : FuncData) (ps : List Str), FnOk P w K mg base CX k f fd ps sp ∧ mg x = some (.ref f) ∧ PySem.W.keepIn K (.ref f) = true ∧ Binds K fd ps []
section
variable {P : Program} {w : World} {K : PySem.W.Frag} {mg : Str → Option Value} {base : Heap}
/-- where a def stands -/
structure At (K : PySem.W.Frag) (mg : Str → Option Value) (x : Str) (st : Stmt) (f : Addr) (fd : FuncData) : Prop where
  fn : Fun K x x st f fd
  gl : mg x = some (.ref f)
theorem pureR_len {R : List PyData → PyData → Prop} {n : Nat} (hR : ∀ ds d, R ds d → ds.length = n) : ∀ vs H Q E, PureR K R vs H Q E → vs.length = n := fun vs H Q E h => by
  obtain ⟨M, ds, d, al, r, hr, _⟩ := h
  rw [r.length]
  exact hR ds d hr
/-- a pure def -/
theorem cl_pure {x : Str} {st : Stmt} {f : Addr} {fd : FuncData} {N ps : List Str} {k : Nat} {R : List PyData → PyData → Prop} (F : At K mg x st f fd) (S : FnScope N ps (defScope st)) (hb : Binds K fd ps []) (hR : ∀ ds d, R ds d → ds.length = ps.length)
    (body : ∀ (X : Cx) (cdv : Value) (A : Around) (outer : List Env) (s : Shared) (H : Hp) (Q : VK) (E : XK) (M : Addr → Prop) (vs : List V) (ds : List PyData) (d : PyData), X = (cxOf CX0 P w K mg base N x (defScope st) f cdv A outer s H E).nox → Room k X.A → Alive M H → RpAll K M H vs ds → R ds d →
      (∀ v H', Evl.Ex H H' → Rp K M H' v d → Q v H') → wB X (defBody st) { nx := fun _ H' => Q .non H', rt := Q } (L2.start N vs) H) :
    Cl P w K mg base CX0 (k + 1) x (PureR K R) := by
  refine ⟨f, fd, ps, F.fn.ok S (pureR_len hR) (fun cdv A outer s H vs Q E hr h => ⟨_, wB.ps, ?_⟩), F.gl, F.fn.kp, hb⟩
  obtain ⟨M, ds, d, al, r, hr', q⟩ := h
  exact body _ cdv A outer s H Q E M vs ds d rfl hr al r hr' q
end
section
variable {X : Cx} {M : Addr → Prop} {σ : St} {H H' : Hp} {a b c e : Expr} {da db d : PyData} {pos : Pos} {es : List Expr} {ds : List PyData}
theorem pd_callC {R : List PyData → PyData → Prop} {j k : Nat} {x : Str} {p : Pos} (cl : Cl X.prog X.w X.K X.mg X.base CX0 k x (PureR X.K R)) (hr : Room j X.A) (hkj : k ≤ j) (hg : Gl X x) (h : AD X M (e :: es) σ H ds) (hR : R ds d)
    (hdb : (x == ("__debug__" : Str)) = false := by decide) (he : starEach (e :: es) X.env = (false, eval e X.env) :: starEach es X.env := by rfl) (hpl : (backTo pos (starEach es X.env)).any (·.1) = false := by rfl) : PD X M (.Call (.Name x p) (e :: es) [] pos) σ H d := by
  obtain ⟨f, fd, ps, F, hm, hk, hb⟩ := cl.ex
  exact pd_call F (hr.mono hkj) hg hm hk hb pass0 h hR hdb he hpl
/-- .. a def that makes a list -/
def FreshR (K : PySem.W.Frag) (R : List PyData → List PyData → Prop) : Sp := fun vs H Q _ => ∃ M ds es, Alive M H ∧ RpAll K M H vs ds ∧ R ds es ∧ ∀ p ws H', H p = none → Evl.Ex H H' → H' p = some (.lst ws) → RpAll K M H' ws es → Q (.ref p) H'
theorem fd_callC {R : List PyData → List PyData → Prop} {fs : List PyData} {j k : Nat} {x : Str} {p : Pos} (cl : Cl X.prog X.w X.K X.mg X.base CX0 k x (FreshR X.K R)) (hr : Room j X.A) (hkj : k ≤ j) (hg : Gl X x) (h : AD X M (e :: es) σ H ds) (hR : R ds fs)
    (hdb : (x == ("__debug__" : Str)) = false := by decide) (he : starEach (e :: es) X.env = (false, eval e X.env) :: starEach es X.env := by rfl) (hpl : (backTo pos (starEach es X.env)).any (·.1) = false := by rfl) : FD X M (.Call (.Name x p) (e :: es) [] pos) σ H fs := by
  obtain ⟨f, fd, ps, F, hm, hk, hb⟩ := cl.ex
  exact .mk fun H1 e1 al Q q => ⟨_, pe_call F (hr.mono hkj) hg hm hk hb .nil pass0 wA.pa hdb he hpl, h.run H1 e1 al _ fun vs H2 x2 r => by
    rw [List.append_nil]
    exact ⟨M, ds, fs, al.mono x2, r, hR, fun p ws H3 hp x3 h3 rv => q p ws H3 (Evl.fresh_back x2 hp) (x2.trans x3) h3 rv⟩⟩

/-! ### where things change: step by step -/
abbrev M0 : Addr → Prop := fun _ => False
theorem alive0 : Alive M0 H := fun _ z => z.elim
theorem Rp.m0 {K : PySem.W.Frag} {v : V} (r : Rp K M H v d) : Rp K M0 H v d := r.mono (fun _ z => z.elim) (ExM.refl H)
theorem RpAll.m0 {K : PySem.W.Frag} {vs : List V} (r : RpAll K M H vs ds) : RpAll K M0 H vs ds := r.mono (fun _ z => z.elim) (ExM.refl H)
theorem ce_pd {Q : VK} (al : Alive M H) (h : PD X M e σ H d) (q : ∀ v H2, Evl.Ex H H2 → Rp X.K M H2 v d → Q v H2) : wE X e σ H Q := h.run H (ExM.refl H) al Q q
theorem ce_fd {Q : VK} (al : Alive M H) (h : FD X M e σ H ds) (q : ∀ p ws H2, H p = none → Evl.Ex H H2 → H2 p = some (.lst ws) → RpAll X.K M H2 ws ds → Q (.ref p) H2) : wE X e σ H Q := h.run H (ExM.refl H) al Q q
/-! ### comparisons as tests -/
theorem td_cmpR {op : CmpOp} {r : R2} {k : Bool} (ho : OpR X (compareOp op) r) (hm : behindInMarks op b = false) (hr : RD2 X M r da db (.bool k)) (ha : PD X M a σ H da) (hb : PD X M b σ H db) : TD X M (.Compare a [op] [b] pos) σ H k := .mk fun H1 e1 al Q q =>
  ⟨_, pt_cmpR ho wE.pe wE.pe hm, ha.run H1 e1 al _ fun x H2 x2 rx => hb.run H2 (e1.trans (.of x2)) (al.mono x2) _ fun y H3 x3 ry =>
    hr x y H3 (rx.mono (fun _ z => z) (.of x3)) ry ((al.mono x2).mono x3) _ fun v H4 x4 rv => by
      cases rv
      exact ⟨k, rfl, q H4 ((x2.trans x3).trans x4)⟩⟩
theorem td_lt {i j : Int} (ha : PD X M a σ H (.int i)) (hb : PD X M b σ H (.int j)) : TD X M (.Compare a [.Lt] [b] pos) σ H (decide (i < j)) := td_cmpR op_lt (nomark _) rd_B0 ha hb
theorem td_le {i j : Int} (ha : PD X M a σ H (.int i)) (hb : PD X M b σ H (.int j)) : TD X M (.Compare a [.LtE] [b] pos) σ H (decide (i ≤ j)) := td_cmpR op_le (nomark _) rd_B0 ha hb
theorem td_gt {i j : Int} (ha : PD X M a σ H (.int i)) (hb : PD X M b σ H (.int j)) : TD X M (.Compare a [.Gt] [b] pos) σ H (decide (j < i)) := td_cmpR op_gt (nomark _) rd_B0 ha hb
theorem td_ge {i j : Int} (ha : PD X M a σ H (.int i)) (hb : PD X M b σ H (.int j)) : TD X M (.Compare a [.GtE] [b] pos) σ H (decide (j ≤ i)) := td_cmpR op_ge (nomark _) rd_B0 ha hb
theorem rd_eqD (hu : X.A.units + 64 < cLine) (sa : SeqAt.shaped da = true) (sb : SeqAt.shaped db = true) : RD2 X M (rEqD X.K) da db (.bool (PyData.eqv da db)) := fun x y H1 rx ry _ Q q => ⟨da, db, rx.dp, ry.dp, sa, sb, q _ H1 (Evl.Ex.refl H1) (.bl _)⟩
theorem rd_neD (hu : X.A.units + 64 < cLine) (sa : SeqAt.shaped da = true) (sb : SeqAt.shaped db = true) : RD2 X M (rNeD X.K) da db (.bool (!PyData.eqv da db)) := fun x y H1 rx ry _ Q q => ⟨da, db, rx.dp, ry.dp, sa, sb, q _ H1 (Evl.Ex.refl H1) (.bl _)⟩
theorem td_eq (hu : X.A.units + 64 < cLine) (ha : PD X M a σ H da) (hb : PD X M b σ H db) (sa : SeqAt.shaped da = true) (sb : SeqAt.shaped db = true) : TD X M (.Compare a [.Eq] [b] pos) σ H (PyData.eqv da db) := td_cmpR (op_eqD hu) (nomark _) (rd_eqD hu sa sb) ha hb
theorem td_ne (hu : X.A.units + 64 < cLine) (ha : PD X M a σ H da) (hb : PD X M b σ H db) (sa : SeqAt.shaped da = true) (sb : SeqAt.shaped db = true) : TD X M (.Compare a [.NotEq] [b] pos) σ H (!PyData.eqv da db) := td_cmpR (op_neD hu) (nomark _) (rd_neD hu sa sb) ha hb
theorem td_isN {j p2} (ha : PD X M a σ H da) : TD X M (.Compare a [.Is] [.Constant .none j p2] pos) σ H (isNone da) :=
  td_cmpR op_isN (nomark _) (fun x y H1 rx ry _ Q q => by
    cases ry
    exact ⟨rfl, q _ H1 (Evl.Ex.refl H1) (by rw [rx.isN]; exact .bl _)⟩) ha pd_non
theorem td_notN {j p2} (ha : PD X M a σ H da) : TD X M (.Compare a [.IsNot] [.Constant .none j p2] pos) σ H (!isNone da) :=
  td_cmpR op_notN (nomark _) (fun x y H1 rx ry _ Q q => by
    cases ry
    exact ⟨rfl, q _ H1 (Evl.Ex.refl H1) (by rw [rx.isN]; exact .bl _)⟩) ha pd_non
theorem snoc_ind {α : Type} {P : List α → Prop} (h0 : P []) (h1 : ∀ l x, P l → P (l ++ [x])) (l : List α) : P l := by
  have key : ∀ n (l : List α), l.length = n → P l := by
    intro n
    induction n with
    | zero =>
      intro l hl
      rw [List.eq_nil_of_length_eq_zero hl]
      exact h0
    | succ n ih =>
      intro l hl
      have hne : l ≠ [] := fun e => by
        rw [e] at hl
        cases hl
      rw [← List.dropLast_concat_getLast hne]
      refine h1 _ _ (ih _ ?_)
      rw [List.length_dropLast, hl]
      rfl
  exact key _ l rfl
theorem filt_all {α : Type} (l : List α) : (l.filter fun _ => true) = l := List.filter_eq_self.mpr fun _ _ => rfl
/-- [elt for target in iter] -/
theorem fd_map {tg iter : Expr} {t : Tg} {elt : Expr} {scope : Scope} {own : List (Str × Nat)} (f : PyData → PyData) (hc : X.calm = true) (hN : X.N.Nodup) (hi : Src X M tg iter σ H ds) (ok : BlkOk X.N X.env.scope scope own)
    (hg : ∀ s H C cl fp, PG (Cx.lc X s H scope C cl fp) tg (t.g X.K)) (hf : ∀ d ∈ ds, t.Fits d) (hw : ∀ M H d σ', t.Ok X.K M H d (wipe σ (own.map (·.2))) σ' → wipe σ' (own.map (·.2)) = wipe σ (own.map (·.2))) (hl : ds.length ≤ 100000)
    (body : ∀ s0 H0 C cl fp M' H' d σ', (∀ a, M a → M' a) → (∀ v e, Rp X.K M H v e → Rp X.K M' H' v e) → d ∈ ds → t.Ok X.K M' H' d (wipe σ (own.map (·.2))) σ' → PD (Cx.lc X s0 H0 scope C cl fp) M' elt σ' H' (f d))
    (hs : ∀ x, foldedSetIterable iter X.env x = pure x := by intro _; rfl) : FD X M (.ListComp elt [⟨tg, iter, [], 0⟩] scope pos) σ H (ds.map f) := by
  have h := fd_lc (pos := pos) hc hN hi ok hg hf hw (fun _ => true) f hl (fun s0 H0 C cl fp M' H' d σ' hM lift hd hok => ⟨tsd_nil, fun _ => body s0 H0 C cl fp M' H' d σ' hM lift hd hok⟩) hs
  rwa [filt_all] at h
/-- [elt for target in iter if test] -/
theorem fd_filter {tg iter tst : Expr} {t : Tg} {elt : Expr} {scope : Scope} {own : List (Str × Nat)} (p : PyData → Bool) (f : PyData → PyData) (hc : X.calm = true) (hN : X.N.Nodup) (hi : Src X M tg iter σ H ds) (ok : BlkOk X.N X.env.scope scope own)
    (hg : ∀ s H C cl fp, PG (Cx.lc X s H scope C cl fp) tg (t.g X.K)) (hf : ∀ d ∈ ds, t.Fits d) (hw : ∀ M H d σ', t.Ok X.K M H d (wipe σ (own.map (·.2))) σ' → wipe σ' (own.map (·.2)) = wipe σ (own.map (·.2))) (hl : ds.length ≤ 100000)
    (body : ∀ s0 H0 C cl fp M' H' d σ', (∀ a, M a → M' a) → (∀ v e, Rp X.K M H v e → Rp X.K M' H' v e) → d ∈ ds → t.Ok X.K M' H' d (wipe σ (own.map (·.2))) σ' → TD (Cx.lc X s0 H0 scope C cl fp) M' tst σ' H' (p d) ∧ PD (Cx.lc X s0 H0 scope C cl fp) M' elt σ' H' (f d))
    (hs : ∀ x, foldedSetIterable iter X.env x = pure x := by intro _; rfl) : FD X M (.ListComp elt [⟨tg, iter, [tst], 0⟩] scope pos) σ H ((ds.filter p).map f) :=
  fd_lc hc hN hi ok hg hf hw p f hl (fun s0 H0 C cl fp M' H' d σ' hM lift hd hok => let ⟨h1, h2⟩ := body s0 H0 C cl fp M' H' d σ' hM lift hd hok; ⟨tsd_one h1, fun _ => h2⟩) hs
/-- the name in slot i, by what is known of its value -/
theorem nm (i : Nat) {x : Str} {v : V} (r : Rp X.K M H v d) (hN : X.N[i]? = some x := by rfl) (hv : Vis X.env.scope x := by first | exact .inl rfl | exact .inr (.inl rfl) | exact .inr (.inr rfl)) (hs : σ[i]? = some (some v) := by rfl)
    (hd : (x == ("__debug__" : Str)) = false := by decide) (hcd : (x == ("__classdict__" : Str)) = false := by decide) : PD X M (.Name x pos) σ H d := pd_name hN hv hs r hd hcd
theorem ce_name {i : Nat} {x : Str} {v : V} {Q : VK} (hN : X.N[i]? = some x) (hv : Vis X.env.scope x) (hs : σ[i]? = some (some v)) (q : Q v H)
    (hd : (x == ("__debug__" : Str)) = false := by decide) (hcd : (x == ("__classdict__" : Str)) = false := by decide) : wE X (.Name x pos) σ H Q := ⟨_, pe_var hN hv hd hcd, v, hs, q⟩
theorem ca_nil {Q : List V → Hp → Prop} (q : Q [] H) : wA X [] σ H Q := ⟨_, pa_nil, q⟩
theorem ca_cons {Q : List V → Hp → Prop} (h : wE X e σ H fun v H2 => wA X es σ H2 fun vs H3 => Q (v :: vs) H3) (hs : starEach (e :: es) X.env = (false, eval e X.env) :: starEach es X.env := by rfl) : wA X (e :: es) σ H Q := ⟨_, pa_cons wE.pe wA.pa hs, h⟩
theorem ce_bin {op : Operator} {r : R2} {Q : VK} (ho : OpR X (binaryOp op) r) (h : wE X a σ H fun x H2 => wE X b σ H2 fun y H3 => r x y H3 Q) : wE X (.BinOp a op b pos) σ H Q := ⟨_, pe_op ho wE.pe wE.pe, h⟩
theorem ce_add {Q : VK} (h : wE X a σ H fun x H2 => wE X b σ H2 fun y H3 => ∃ i j, x = .int i ∧ y = .int j ∧ Q (.int (i + j)) H3) : wE X (.BinOp a .Add b pos) σ H Q := ce_bin op_add h
theorem ce_sub {Q : VK} (h : wE X a σ H fun x H2 => wE X b σ H2 fun y H3 => ∃ i j, x = .int i ∧ y = .int j ∧ Q (.int (i - j)) H3) : wE X (.BinOp a .Sub b pos) σ H Q := ce_bin op_sub h
theorem ce_call {sp : Sp} {Q : VK} {j k : Nat} {x : Str} {p : Pos} (cl : Cl X.prog X.w X.K X.mg X.base CX0 k x sp) (hr : Room j X.A) (hkj : k ≤ j) (hg : Gl X x) (h : wA X (e :: es) σ H fun vs H2 => sp vs H2 Q E0)
    (hdb : (x == ("__debug__" : Str)) = false := by decide) (he : starEach (e :: es) X.env = (false, eval e X.env) :: starEach es X.env := by rfl) (hpl : (backTo pos (starEach es X.env)).any (·.1) = false := by rfl) : wE X (.Call (.Name x p) (e :: es) [] pos) σ H Q := by
  obtain ⟨f, fd, ps, F, hm, hk, hb⟩ := cl.ex
  refine ⟨_, pe_call F (hr.mono hkj) hg hm hk hb .nil pass0 wA.pa hdb he hpl, ?_⟩
  obtain ⟨t, h1, h2⟩ := h
  refine ⟨t, h1, ?_⟩
  have e1 : (fun vs H1 => sp (vs ++ []) H1 Q E0) = fun vs H1 => sp vs H1 Q E0 := by
    funext vs H1
    rw [List.append_nil]
  rw [e1]
  exact h2
theorem ce_ix {Q : VK} (h : wE X a σ H fun x H2 => wE X b σ H2 fun y H3 => rIx X.K x y H3 Q) (hs : PlainIx b := by exact fun _ _ => rfl) : wE X (.Subscript a b pos) σ H Q := ⟨_, pe_ix ix_seq wE.pe wE.pe hs, h⟩
/-- an item of a datum, by values -/
theorem rIx_of {K : PySem.W.Frag} {x : V} {i : Int} {Q : VK} (r : Rp K M H x da) (h : ixD da (.int i) = some d) (q : ∀ v, Rp K M H v d → Q v H) : rIx K x (.int i) H Q := by
  cases r with
  | lst m hs rs =>
    obtain ⟨v, hv, rv⟩ := atI_rp rs h
    exact .inl ⟨_, _, i, v, rfl, rfl, .inl hs, hv, q v rv⟩
  | tup m hs rs =>
    obtain ⟨v, hv, rv⟩ := atI_rp rs h
    exact .inr (.inl ⟨_, _, i, v, rfl, rfl, .inl hs, hv, q v rv⟩)
  | str z =>
    simp only [ixD] at h
    split at h
    · rename_i hz
      cases e : atI z.cps.toList i with
      | none =>
        rw [e] at h
        cases h
      | some c =>
        rw [e] at h
        cases h
        exact .inr (.inr ⟨z, i, c, rfl, rfl, hz, e, q _ (.str _)⟩)
    · cases h
  | _ => cases h
end
section
variable {X : Cx} {M : Addr → Prop} {σ : St} {H H' : Hp} {c e o ix : Expr} {d : PyData} {pos : Pos} {st : Stmt} {sts A B : List Stmt} {D : Ends}
theorem cs_set {i : Nat} {x : Str} {p : Pos} (hN : X.N.Nodup) (hi : X.N[i]? = some x) (hx : Loc X.env.scope x) (h : wE X e σ H fun v H2 => D.nx (σ.set i (some v)) H2)
    (hs : swapsWith e (some (.Name x p)) pos.line X.env = pure false := by rfl) (hf : X.fn x = true ∨ X.env.scope.names.lookup x = some .local := by first | exact .inl rfl | exact .inr rfl | assumption) : wS X (.Assign [.Name x p] e pos) D σ H := ⟨_, ps_set hN hi hx wE.pe hs hf, h⟩
theorem cs_ret (h : wE X e σ H D.rt) : wS X (.Return (some e) pos) D σ H := ⟨_, ps_ret wE.pe, h⟩
theorem cs_expr (h : wE X e σ H fun _ H2 => D.nx σ H2) (hs : swapsWith e none pos.line X.env = pure false := by rfl) : wS X (.Expr e pos) D σ H := ⟨_, ps_expr wE.pe hs, h⟩
/-- o[ix] = e -/
theorem cs_sub {p : Pos} (h : wE X e σ H fun v H1 => wE X o σ H1 fun x H2 => wE X ix σ H2 fun y H3 => rSetL x y v H3 fun H4 => D.nx σ H4)
    (ha : ∀ v, assign (.Subscript o ix p) X.env v = (do
      let ov ← holding [v] (eval o X.env)
      let iv ← holding [v, ov] (eval ix X.env)
      standAt p
      holding [v, ov, iv] (setItem ov iv v)
      release [v, ov, iv] []) := by intro _; rfl)
    (hs : swapsWithSole [.Subscript o ix p] e pos.line X.env = pure false := by rfl) (hw : swappedStores [.Subscript o ix p] e X.env = pure none := by rfl)
    (h1 : (assignEach [.Subscript o ix p] X.env).map (·.2) = [assign (.Subscript o ix p) X.env] := by rfl) : wS X (.Assign [.Subscript o ix p] e pos) D σ H :=
  ⟨_, ps_asg wE.pe (pg_sub wE.pe wE.pe set_list ha) hs hw h1, h⟩
end
end GV

namespace GV
open PySem PySem.Spec PyProof.Rows L2
/-! ### own errors -/
/-- what the __init__ of an error keeps: its arguments, by these names -/
def spInit (C : Addr) (fl : List Str) : Sp := fun vs H Q _ => ∃ (a : Addr) (xs : List V), vs = .ref a :: xs ∧ xs.length = fl.length ∧ H a = some (exo a C none) ∧
  ∀ H' d, (∀ b o, H b = some o → b ≠ a → H' b = some o) → H d = none → d ≠ a → H' a = some (exo a C (some d)) → H' d = some (exd d (fl.zip xs).reverse) → Q .non H'
structure ErrC (P : Program) (w : World) (K : PySem.W.Frag) (mg : Str → Option Value) (base : Heap) (x : Str) (C : Addr) (fl : List Str) : Prop where
  gC : mg x = some (.ref C)
  oex : OexC K C
  xf : XfC K C
  no : ∀ f ∈ fl, PySem.W.findIn K (.ref C) f = some none
  init : ∃ (fI : Addr) (fd : FuncData) (ps : List Str), PySem.W.findIn K (.ref C) "__init__" = some (some (.ref fI)) ∧ PySem.W.typeIn K (.ref fI) = some (.type "function") ∧ FnOk P w K mg base CX0 1 fI fd ps (spInit C fl) ∧ Binds K fd ps []
/-- what a raised one leaves: a new dict that holds the arguments -/
def Raised (C : Addr) (fs : List (Str × V)) (H : Hp) (E : XK) : Prop := ∀ d H', H d = none → Evl.Ex H H' → H' d = some (.xd fs) → E (.ref C) (some d) H'
section
variable {X : Cx} {σ : St} {H : Hp} {D : Ends} {e : Expr} {es : List Expr}
theorem s_raise {W : WX} {x : Str} {C : Addr} {fl : List Str} {p pos pos2 : Pos} (hc : X.calm = true) (er : ErrC X.prog X.w X.K X.mg X.base x C fl) (hr : Room 2 X.A) (tk : Takes X W) (hg : Gl X x)
    (h : wA X (e :: es) σ H fun vs H1 => vs.length = fl.length ∧ vs.length ≤ 1000 ∧ Raised C (fl.zip vs).reverse H1 fun cls d H' => W cls d σ H')
    (hdb : (x == ("__debug__" : Str)) = false := by decide) (he : starEach (e :: es) X.env = (false, eval e X.env) :: starEach es X.env := by rfl) (hpl : (backTo pos (starEach es X.env)).any (·.1) = false := by rfl) :
    wS X (.Raise (some (.Call (.Name x p) (e :: es) [] pos)) none pos2) D σ H := by
  obtain ⟨fI, fd, ps, iC, tI, F1, hb⟩ := er.init
  obtain ⟨t, pa, q⟩ := h
  -- the arguments' own reading, with what is wanted behind it
  refine ⟨_, ps_raise hc tk (pmk_oex (k := 1) (dvs := []) (ds := []) er.oex iC tI F1 hr hb .nil pass0 hg er.gC (ta := fun σ H Q => ∃ Q0, t σ H Q0 ∧ ∀ vs H1, Q0 vs H1 → Q vs H1) ⟨fun pos pins s σ H Q I ⟨Q0, h0, imp⟩ => wpAny_mono (pa.run pos pins s σ H Q0 I h0) (fun us s1 ⟨vs, H1, I1, r1, q1⟩ => ⟨vs, H1, I1, r1, imp vs H1 q1⟩) fun _ _ z => z⟩ hdb he hpl), _, q, fun vs H1 ⟨hl, h1000, hR⟩ => ?_⟩
  refine ⟨h1000, fun a na => ⟨a, vs, by rw [List.append_nil], hl, upd_same, fun H' d k nd da ea ed => ⟨rfl, d, _, ea, ed, ?_, ?_⟩⟩⟩
  · rwa [upd_ne da] at nd
  · rw [upd_ne da] at nd
    refine hR d _ nd (fun b o hb' => ?_) upd_same
    rw [upd_ne (ne_of_none hb' nd), del_ne (ne_of_none hb' na)]
    exact k b o (by rw [upd_ne (ne_of_none hb' na)]; exact hb') (ne_of_none hb' na)
end
end GV

namespace GV
open PySem PySem.Spec PyProof.Rows L2
/-! ### try with clauses that may keep the exception by a name -/
abbrev HdT := Addr → Value → Option Addr → TS
/-- where a clause with a name goes on: the name is gone -/
def Ends.less (D : Ends) (i : Nat) : Ends := { nx := fun σ' H' => D.nx (σ'.set i none) H', rt := D.rt, bk := fun σ' H' => D.bk (σ'.set i none) H', ct := fun σ' H' => D.ct (σ'.set i none) H' }
/-- which clause takes an exception, and what it must do then -/
def wHs (K : PySem.W.Frag) (Wout : WX) (D : Ends) : List (Value × Option Nat × HdT) → WX
  | [] => Wout
  | (c, o, ts) :: r => fun cls d σ H => ∃ b, PySem.W.exmOne K cls c = some b ∧
      (b = true → ∀ a, H a = none → match o with
        | none => ts a cls d D σ H
        | some i => i < σ.length → ts a cls d (Ends.less D i) (σ.set i (some (.ref a))) H) ∧
      (b = false → wHs K Wout D r cls d σ H)
inductive Hds (X : Cx) : List ExceptHandler → List (Value × Option Nat × HdT) → Prop
  | nil : Hds X [] []
  | one {x : Str} {c : Value} {ts : HdT} {b₀ : Stmt} {suite : List Stmt} {np p : Pos} {hs l} : Names X x c →
      (∀ a oe cls d pn, Zc cls d oe → (∃ vs, oe.data = .fields vs) → PSs (X.suite a ((a, oe) :: pn)) (b₀ :: suite) (ts a cls d)) → Hds X hs l →
      Hds X (.ExceptHandler (some (.Name x np)) none (b₀ :: suite) p :: hs) ((c, none, ts) :: l)
  | as_ {x n : Str} {i : Nat} {c : Value} {ts : HdT} {b₀ : Stmt} {suite : List Stmt} {np p : Pos} {hs l} : Names X x c → X.N[i]? = some n → X.env.kindOf n = some .local →
      (∀ a oe cls d pn, Zc cls d oe → (∃ vs, oe.data = .fields vs) → PSs (X.suite a ((a, oe) :: pn)) (b₀ :: suite) (ts a cls d)) → Hds X hs l →
      Hds X (.ExceptHandler (some (.Name x np)) (some n) (b₀ :: suite) p :: hs) ((c, some i, ts) :: l)
theorem ps_tryAs {X : Cx} {body : List Stmt} {h₀ : ExceptHandler} {hds : List ExceptHandler} {l : List (Value × Option Nat × HdT)} {pos : Pos} {tb : WX → TS} {Wout : WX} (hs : X.stack = X.env :: X.outer) (hf : X.env.frame = some X.env.locals) (hN : X.N.Nodup) (tk : Takes X Wout)
    (hb : ∀ (W : WX) (pn : List (Addr × Obj)) (xe : Value → Shared → Prop), Takes (X.tr pn xe) W → PassesOwn (model X.prog X.w) X.A X.env xe → PSs (X.tr pn xe) body (tb W)) (hh : Hds X (h₀ :: hds) l) :
    PS X (.Try body (h₀ :: hds) [] [] pos) fun D σ H => tb (wHs X.K Wout D l) D σ H := by
  constructor
  intro pins s σ H D I h
  have ok := I.ok
  have hfr : X.A.frames = some (X.env :: X.outer) := by
    rw [ok.frames, hs]
  refine wpAny_Try_except (wpAny_mono ((hb (wHs X.K Wout D l) (X.pn ++ pins) _ ?_ PassesOwn.looking).run [] s σ H D (I.toTry _) h) ?_ fun e s1 he => he)
  · rintro u s' ⟨a, B, sI, pins', σ', H', cls, d, rfl, J', nb, up, sky, na, os, ag, w⟩
    have J := J'.ofTry ok
    have sky' : Sky B (X.env :: X.outer) a (Zc cls d) X.env.locals s'.heap := by
      rw [← hs]
      exact sky
    refine Sky.land Zc.steady hfr hf sky' fun h3 fl3 up3 => ?_
    have J3 := J.landed (s' := { heap := h3, gens := s'.gens, drawn := s'.drawn, toks := s'.toks, os := s'.os }) nb fl3.1 (up.trans up3) os ag
    obtain ⟨oe3, vs3, he3, hz3, hd3⟩ := fl3.there
    have nfr : ¬ a ∈ List.filterMap (fun x => x.frame) (X.env :: X.outer) := fun hm => by
      obtain ⟨_, o', e', hnf⟩ := fl3.2.2.1.mem hm
      have e2 : some oe3 = some o' := he3.symm.trans e'
      cases e2
      exact hnf _ hd3
    have nL : a ≠ X.env.locals := fun z => nfr (List.mem_filterMap.mpr ⟨X.env, List.mem_cons_self, by rw [hf, z]⟩)
    have nF : ¬ a ∈ X.fs := fun hm => by
      obtain ⟨e, he, q⟩ := List.mem_filterMap.mp hm
      exact nfr (List.mem_filterMap.mpr ⟨e, List.mem_cons_of_mem _ he, q⟩)
    have S3 := J3.suite he3 hd3 na nL nF
    have go : ∀ {hs' l'}, Hds X hs' l' → wHs X.K Wout D l' cls d σ' H' → wpAny (model X.prog X.w) X.A (handleBy (.ref a) X.env hs') (SP X pins D) X.xe { heap := h3, gens := s'.gens, drawn := s'.drawn, toks := s'.toks, os := s'.os } := by
      intro hs' l' hk
      have LT : ∀ (c : Value) (b : Bool), PySem.W.exmOne X.K cls c = some b → PySem.W.Looks (model X.prog X.w) h3 (excMatches (.ref a) c) b := fun c b hb1 => PySem.W.exm_one J3.kIn (fun A Q E s k q => wpAny_typeOf_ref (k a oe3 he3) (by rw [hz3.1]; exact q)) hb1
      have test : ∀ {x : Str} {c : Value} {np : Pos} {Q : Value → Shared → Prop} {E : Value → Shared → Prop}, Names X x c → Q c { heap := h3, gens := s'.gens, drawn := s'.drawn, toks := s'.toks, os := s'.os } → wpAny (model X.prog X.w) (X.A.mark (some (.ref a))) (eval (.Name x np) X.env) Q E { heap := h3, gens := s'.gens, drawn := s'.drawn, toks := s'.toks, os := s'.os } := by
        intro x c np Q E hc q
        obtain ⟨hg, hdbg, hm | ⟨hm, hv, hnn⟩⟩ := hc
        · exact ld_glob S3 hg hm q hdbg
        · exact ld_blt S3 hg hm hv q hnn hdbg
      induction hk with
      | nil =>
        intro w
        refine wpAny_handleBy_nil ?_
        obtain ⟨k1, k2, k3, oe, vs, T, oT, ts', he, hz, hd, h1, hr⟩ := id fl3
        refine wpAny_bind (wpAny_field he hd h1 ?_)
        rw [if_neg (by simp)]
        refine wpAny_bind ?_
        rw [hf]
        exact HandSPX.setFlight_upZ fl3 fun h4 hh4 up4 => wpAny_throw (tk (.ref a) _ ⟨a, B, sI, pins, σ', H', cls, d, rfl, J, nb, (up.trans up3).trans up4, .inr (.inr (by rw [hs]; exact hh4)), na, os, ag, w⟩)
      | one hc hsu r ih =>
        rintro ⟨b, hb1, hyes, hno⟩
        refine wpAny_handleBy_cons (codeAny_handlers_test (test hc (PySem.W.Looks.here (LT _ _ hb1) ?_))) (fun q => by cases q)
        cases b with
        | false => exact ih (hno rfl)
        | true =>
          refine codeAny_handlers_suite (HandSPX.lands_againZ fl3 fun h4 fl4 up4 => ?_)
          have J4 := J.landed (s' := { heap := h4, gens := s'.gens, drawn := s'.drawn, toks := s'.toks, os := s'.os }) nb fl4.1 ((up.trans up3).trans up4) os ag
          obtain ⟨oe4, vs4, he4, hz4, hd4⟩ := fl4.there
          have S4 := J4.suite he4 hd4 na nL nF
          refine wpAny_mono ((hsu a oe4 cls d (X.pn ++ pins) hz4 ⟨vs4, hd4⟩).run [] _ σ' H' D S4 (hyes rfl a na)) (fun f s6 hsp => ?_) fun _ _ z => z.elim
          show SP X pins D f s6
          cases f with
          | ret u =>
            obtain ⟨v6, σ6, H6, S6, r6, q6⟩ := hsp
            exact ⟨v6, σ6, H6, S6.unsuite ok, r6, q6⟩
          | _ =>
            obtain ⟨σ6, H6, S6, q6⟩ := hsp
            exact ⟨σ6, H6, S6.unsuite ok, q6⟩
      | as_ hc hi hln hsu r ih =>
        rintro ⟨b, hb1, hyes, hno⟩
        refine wpAny_handleBy_cons (codeAny_handlers_test (test hc (PySem.W.Looks.here (LT _ _ hb1) ?_))) (fun q => by cases q)
        cases b with
        | false => exact ih (hno rfl)
        | true =>
          refine codeAny_handlers_suite_as (HandSPX.lands_againZ fl3 fun h4 fl4 up4 => ?_)
          have J4 := J.landed (s' := { heap := h4, gens := s'.gens, drawn := s'.drawn, toks := s'.toks, os := s'.os }) nb fl4.1 ((up.trans up3).trans up4) os ag
          obtain ⟨oe4, vs4, he4, hz4, hd4⟩ := fl4.there
          have S4 := J4.suite he4 hd4 na nL nF
          refine store_ok (X := X.suite a ((a, oe4) :: (X.pn ++ pins))) (v := .ref a) S4 hN hi (.inl hln) rfl (fun s5 S5 => ?_) (.inr hln)
          refine wpAny_mono ((hsu a oe4 cls d (X.pn ++ pins) hz4 ⟨vs4, hd4⟩).run [] s5 _ H' _ S5 (hyes rfl a na (by rw [J.len]; exact (List.getElem?_eq_some_iff.mp hi).1))) (fun f s6 hsp => ?_) fun _ _ z => z.elim
          cases f with
          | ret u =>
            obtain ⟨v6, σ6, H6, S6, r6, q6⟩ := hsp
            exact gone_ok (S6.unsuite ok) hN hi hln fun s7 J7 => ⟨v6, _, H6, J7, r6, q6⟩
          | _ =>
            obtain ⟨σ6, H6, S6, q6⟩ := hsp
            exact gone_ok (S6.unsuite ok) hN hi hln fun s7 J7 => ⟨_, H6, J7, q6⟩
    exact go hh w
  · intro f s1 hsp
    cases f with
    | ret u =>
      obtain ⟨v, σ', H', J', r, q⟩ := hsp
      exact ⟨v, σ', H', J'.ofTry ok, r, q⟩
    | next =>
      obtain ⟨σ', H', J', q⟩ := hsp
      exact wpAny_execs_nil ⟨σ', H', J'.ofTry ok, q⟩
    | _ =>
      obtain ⟨σ', H', J', q⟩ := hsp
      exact ⟨σ', H', J'.ofTry ok, q⟩
end GV

namespace GV
open PySem PySem.Spec PyProof.Rows L2
/-! ### an own error without a word -/
theorem pmk_own0 {X : Cx} {pos : Pos} {C : Addr} {bmB : List Value} {B newId initId : String} {x : Str} {p : Pos} (F : ExcBaseFacts B newId initId bmB) (q : PySem.W.excIn X.K C bmB newId = true) (gC : X.mg x = some (.ref C)) (kC : PySem.W.keepIn X.K (.ref C) = true) (r : Raises X (.ref C)) (hg : Gl X x)
    (hdb : (x == ("__debug__" : Str)) = false := by decide) : PMk X (.Call (.Name x p) [] [] pos) fun σ H Q => Q (.ref C) none H := by
  intro pins s σ H Q I h
  refine wpAny_Call_Name_kw ?_
  refine ld_glob I hg gC ?_ hdb
  refine PySem.W.callWith_K0 (env := X.env) (first := []) I.kIn kC ?_
  obtain ⟨bm, N, nm, qn, bs, hdct, sn, sub, ab, col, dd, k0, k1, k2, k3, k5, mN, hC, hN, hni, T⟩ := exc_obj I.kIn q
  exact wpAny_call_exc_subT F T hC hN hni (fun h' e hm => mk_of I hm r h (HOk.gone I.hok hm.new)) (Nat.zero_le _)
/-- an error class whose objects are made without words -/
structure Err0 (K : PySem.W.Frag) (mg : Str → Option Value) (x : Str) (C : Addr) : Prop where
  gC : mg x = some (.ref C)
  ex : PySem.W.excIn K C [.type "ValueError", .type "Exception", .type "BaseException", .type "object"] "ValueError.__new__" = true
  kC : PySem.W.keepIn K (.ref C) = true
  exC : PySem.W.subIn K (.ref C) (.type "BaseException") = some true
  tyC : PySem.W.typeIn K (.ref C) = some (.type "type")
theorem s_raise0 {X : Cx} {σ : St} {H : Hp} {D : Ends} {W : WX} {x : Str} {C : Addr} {p pos pos2 : Pos} (hc : X.calm = true) (er : Err0 X.K X.mg x C) (tk : Takes X W) (hg : Gl X x) (h : W (.ref C) none σ H) (hdb : (x == ("__debug__" : Str)) = false := by decide) :
    wS X (.Raise (some (.Call (.Name x p) [] [] pos)) none pos2) D σ H := ⟨_, ps_raise hc tk (pmk_own0 F.excBase_ValueError er.ex er.gC er.kC (raises_own er.exC er.tyC) hg hdb), h⟩
end GV

namespace GV
open PySem PySem.Spec PyProof.Rows L2
/-! ### objects: fields, methods, properties -/
/-- e names what stands at a -/
def AtN (X : Cx) (σ : St) (e : Expr) (a : Addr) : Prop := ∀ H1 (Q : VK), Q (.ref a) H1 → wE X e σ H1 Q
section
variable {X : Cx} {M : Addr → Prop} {σ : St} {H H' : Hp} {a b c e o : Expr} {da db d : PyData} {pos : Pos} {es : List Expr} {ds : List PyData} {D : Ends}
theorem AtN.name {i : Nat} {x : Str} {p : Addr} (hN : X.N[i]? = some x) (hv : Vis X.env.scope x) (hs : σ[i]? = some (some (.ref p)))
    (hd : (x == ("__debug__" : Str)) = false := by decide) (hcd : (x == ("__classdict__" : Str)) = false := by decide) : AtN X σ (.Name x pos) p := fun H1 Q q => ce_name hN hv hs q hd hcd
theorem pd_fld {f : Str} {p C dx : Addr} {fs : List (Str × V)} {v : V} (hn : AtN X σ e p) (m : ¬ M p) (hp : H p = some (.ins C dx fs)) (c : Cls X.K C) (n : NoAttr X.K C f) (hf : fs.lookup f = some v) (r : Rp X.K M H v d)
    (hb : attributeBase e f X.env (eval e X.env) = eval e X.env := by rfl) : PD X M (.Attribute e f pos) σ H d := .mk fun H1 e1 al Q q =>
  ⟨_, pe_fld wE.pe hb, hn _ _ ⟨p, C, dx, fs, v, rfl, e1 _ _ hp m (fun _ z => by cases z), c, n, hf, q v H1 (Evl.Ex.refl H1) (r.mono (fun _ z => z) e1)⟩⟩
theorem AtN.fld {f : Str} {p s C dx : Addr} {fs : List (Str × V)} (hn : AtN X σ e p) (c : Cls X.K C) (n : NoAttr X.K C f) (hf : fs.lookup f = some (.ref s)) {Q : VK} (hp : H p = some (.ins C dx fs)) (q : Q (.ref s) H)
    (hb : attributeBase e f X.env (eval e X.env) = eval e X.env := by rfl) : wE X (.Attribute e f pos) σ H Q := ⟨_, pe_fld wE.pe hb, hn _ _ ⟨p, C, dx, fs, _, rfl, hp, c, n, hf, q⟩⟩
/-- o.append(e) -/
theorem ce_append {apos cpos : Pos} {Q : VK} (h : wE X o σ H fun x H1 => ∃ l xs, x = .ref l ∧ H1 l = some (.lst xs) ∧ wE X e σ H1 fun y H2 => ∃ ys, H2 l = some (.lst ys) ∧ ys.length < 100000 ∧ Q .non (upd H2 l (.lst (ys ++ [y]))))
    (h1 : attributeBase o ("append" : Str) X.env (eval o X.env) = eval o X.env := by rfl)
    (h2 : ((((backTo cpos (starEach (e :: []) X.env)).all fun x => !x.1) && (backToKw cpos (keywordEach [] X.env)).all fun x => x.1.isSome) && decide (((e :: []).length + ([] : List Keyword).length + if ([] : List Keyword).isEmpty = true then 0 else 1) < 30)) = true := by rfl)
    (h3 : (apos.endLine == cpos.line) = true := by rfl) (h4 : starEach (e :: []) X.env = (false, eval e X.env) :: starEach [] X.env := by rfl) (h5 : (backTo cpos (starEach [] X.env)).any (·.1) = false := by rfl) :
    wE X (.Call (.Attribute o "append" apos) [e] [] cpos) σ H Q := by
  refine ⟨_, pe_bm PySem.F.plainAttrs_list PySem.F.slot_list_append PySem.F.type_list_append mt_append wE.pe wA.pa h1 h2 h3 h4 h5, ?_⟩
  obtain ⟨t, p, q⟩ := h
  refine ⟨fun σ H Q => ∃ Q0, t σ H Q0 ∧ ∀ x H1, Q0 x H1 → Q x H1, ⟨fun pins s σ H Q I ⟨Q0, h0, imp⟩ => wpAny_mono (p.run pins s σ H Q0 I h0) (fun us s1 ⟨v, H1, I1, r1, q1⟩ => ⟨v, H1, I1, r1, imp v H1 q1⟩) fun _ _ z => z⟩, _, q, ?_⟩
  rintro x H1 ⟨l, xs, rfl, hl, h2⟩
  refine ⟨.inl ⟨rfl, _, SqL.of hl⟩, ?_⟩
  obtain ⟨t2, p2, q2⟩ := h2
  refine ⟨_, pa_cons (te := fun σ H Q => ∃ Q0, t2 σ H Q0 ∧ ∀ x H1, Q0 x H1 → Q x H1) ⟨fun pins s σ H Q I ⟨Q0, h0, imp⟩ => wpAny_mono (p2.run pins s σ H Q0 I h0) (fun us s1 ⟨v, H1, I1, r1, q1⟩ => ⟨v, H1, I1, r1, imp v H1 q1⟩) fun _ _ z => z⟩ pa_nil h4, _, q2, ?_⟩
  rintro y H2 ⟨ys, hy, hlen, hq⟩
  exact ⟨l, ys, y, rfl, rfl, hy, Nat.lt_of_lt_of_le hlen (by rw [sizeLine_eq]; decide), hq⟩
/-- o.pop() -/
theorem ce_pop {apos cpos : Pos} {Q : VK} {l : Addr} {xs : List V} {y : V} (h : wE X o σ H fun x H1 => x = .ref l ∧ H1 l = some (.lst (xs ++ [y])) ∧ Q y (upd H1 l (.lst xs)))
    (h1 : attributeBase o ("pop" : Str) X.env (eval o X.env) = eval o X.env := by rfl) (h3 : (apos.endLine == cpos.line) = true := by rfl) : wE X (.Call (.Attribute o "pop" apos) [] [] cpos) σ H Q := by
  refine ⟨_, pe_bm0 PySem.F.plainAttrs_list PySem.F.slot_list_pop PySem.F.type_list_pop mt_pop wE.pe h1 h3, ?_⟩
  obtain ⟨t, p, q⟩ := h
  refine ⟨fun σ H Q => ∃ Q0, t σ H Q0 ∧ ∀ x H1, Q0 x H1 → Q x H1, ⟨fun pins s σ H Q I ⟨Q0, h0, imp⟩ => wpAny_mono (p.run pins s σ H Q0 I h0) (fun us s1 ⟨v, H1, I1, r1, q1⟩ => ⟨v, H1, I1, r1, imp v H1 q1⟩) fun _ _ z => z⟩, _, q, ?_⟩
  rintro x H1 ⟨rfl, hl, hq⟩
  refine ⟨.inl ⟨rfl, _, SqL.of hl⟩, l, _, y, rfl, rfl, hl, ?_, ?_⟩
  · simp
  · rw [List.dropLast_concat]
    exact hq
/-- o.reverse() -/
theorem ce_reverse {apos cpos : Pos} {Q : VK} {l : Addr} {xs : List V} (h : wE X o σ H fun x H1 => x = .ref l ∧ H1 l = some (.lst xs) ∧ Q .non (upd H1 l (.lst xs.reverse)))
    (h1 : attributeBase o ("reverse" : Str) X.env (eval o X.env) = eval o X.env := by rfl) (h3 : (apos.endLine == cpos.line) = true := by rfl) : wE X (.Call (.Attribute o "reverse" apos) [] [] cpos) σ H Q := by
  refine ⟨_, pe_bm0 PySem.F.plainAttrs_list PySem.F.slot_list_reverse PySem.F.type_list_reverse mt_reverse wE.pe h1 h3, ?_⟩
  obtain ⟨t, p, q⟩ := h
  refine ⟨fun σ H Q => ∃ Q0, t σ H Q0 ∧ ∀ x H1, Q0 x H1 → Q x H1, ⟨fun pins s σ H Q I ⟨Q0, h0, imp⟩ => wpAny_mono (p.run pins s σ H Q0 I h0) (fun us s1 ⟨v, H1, I1, r1, q1⟩ => ⟨v, H1, I1, r1, imp v H1 q1⟩) fun _ _ z => z⟩, _, q, ?_⟩
  rintro x H1 ⟨rfl, hl, hq⟩
  exact ⟨.inl ⟨rfl, _, SqL.of hl⟩, l, _, rfl, rfl, hl, hq⟩
end
/-! ### which data hold no list, so that no change reaches them -/
mutual
def flat : PyData → Bool
  | .list _ => false
  | .dict _ => false
  | .tuple ds => flats ds
  | _ => true
def flats : List PyData → Bool
  | [] => true
  | d :: ds => flat d && flats ds
end
section
variable {K : PySem.W.Frag} {M M' : Addr → Prop} {H H' : Hp}
def Lists (M : Addr → Prop) (H : Hp) : Prop := ∀ a, M a → ∃ xs, H a = some (.lst xs)
mutual
theorem Rp.off {v : V} {d : PyData} : (r : Rp K M' H v d) → flat d = true → Lists M H → Rp K M H v d
  | .non, _, _ => .non
  | .bl b, _, _ => .bl b
  | .int i, _, _ => .int i
  | .str x, _, _ => .str x
  | .lst m h r, hf, hm => absurd hf (by simp [flat])
  | .tup m h r, hf, hm => .tup (fun z => by
      obtain ⟨xs, hx⟩ := hm _ z
      rcases h with h | ⟨o, h⟩ <;> rw [h] at hx <;> cases hx) h (RpAll.off r (by simpa [flat] using hf) hm)
theorem RpAll.off {vs : List V} {ds : List PyData} : (r : RpAll K M' H vs ds) → flats ds = true → Lists M H → RpAll K M H vs ds
  | .nil, _, _ => .nil
  | .cons r rs, hf, hm => .cons (Rp.off r (by simp [flats] at hf; exact hf.1) hm) (RpAll.off rs (by simp [flats] at hf; exact hf.2) hm)
end
/-- .. so what is flat stays whatever becomes of lists -/
def Keep (H H' : Hp) : Prop := ∀ a o, H a = some o → (∀ xs, o ≠ .lst xs) → NT o → H' a = some o
end
end GV

namespace GV
open PySem PySem.Spec PyProof.Rows L2
/-! ### weaker questions -/
theorem PE.weak {X : Cx} {e : Expr} {t : TE} (p : PE X e t) : PE X e fun σ H Q => ∃ Q0 : VK, t σ H Q0 ∧ ∀ v H1, Q0 v H1 → Q v H1 :=
  ⟨fun pins s σ H Q I ⟨Q0, h0, imp⟩ => wpAny_mono (p.run pins s σ H Q0 I h0) (fun us s1 ⟨v, H1, I1, r1, q1⟩ => ⟨v, H1, I1, r1, imp v H1 q1⟩) fun _ _ z => z⟩
theorem wE.weak {X : Cx} {e : Expr} {σ : St} {H : Hp} {Q0 Q : VK} (h : wE X e σ H Q0) (imp : ∀ v H1, Q0 v H1 → Q v H1) : wE X e σ H Q := let ⟨t, p, q⟩ := h; ⟨_, PE.weak p, Q0, q, imp⟩
/-! ### what changes only at S -/
def ExS (S : Addr → Prop) (H H' : Hp) : Prop := ∀ a o, ¬ S a → H a = some o → H' a = some o
theorem ExS.of {S : Addr → Prop} {H H' : Hp} (e : Evl.Ex H H') : ExS S H H' := fun a o _ h => e a o h
theorem ExS.trans {S : Addr → Prop} {H H1 H2 : Hp} (e : ExS S H H1) (f : ExS S H1 H2) : ExS S H H2 := fun a o n h => f a o n (e a o n h)
theorem ExS.upd {S : Addr → Prop} {H : Hp} {b : Addr} {o : HO} (s : S b) : ExS S H (upd H b o) := fun a u n h => by
  rw [upd_ne fun e => n (by rw [e]; exact s)]
  exact h
theorem ExS.mono {S S' : Addr → Prop} {H H' : Hp} (e : ExS S H H') (h : ∀ a, S a → S' a) : ExS S' H H' := fun a o n k => e a o (fun z => n (h a z)) k
theorem ExS.exM {S : Addr → Prop} {H H' : Hp} (e : ExS S H H') : ExM S H H' := fun a o h n _ => e a o n h
theorem ExM.mono {S S' : Addr → Prop} {H H' : Hp} (e : ExM S H H') (h : ∀ a, S a → S' a) : ExM S' H H' := fun a o k n t => e a o k (fun z => n (h a z)) t
theorem ExM.lst {S : Addr → Prop} {H H' : Hp} {a : Addr} {xs : List V} (e : ExM S H H') (n : ¬ S a) (h : H a = some (.lst xs)) : H' a = some (.lst xs) := e a _ h n fun _ z => by cases z
/-- the tables stay -/
theorem Tabs.exS {S : Addr → Prop} {H H' : Hp} {T : List (Addr × Str)} (t : LamX.Tabs T H) (e : ExS S H H') (l : ∀ a, S a → ∃ xs, H a = some (.lst xs)) : LamX.Tabs T H' := fun p hp => by
  obtain ⟨ps, h1, h2, h3⟩ := t p hp
  refine ⟨ps, e _ _ (fun s => ?_) h1, h2, fun pos cv h => ?_⟩
  · obtain ⟨xs, hx⟩ := l _ s
    rw [hx] at h1
    cases h1
  · obtain ⟨c, rfl, hc⟩ := h3 pos cv h
    refine ⟨c, rfl, e _ _ (fun s => ?_) hc⟩
    obtain ⟨xs, hx⟩ := l _ s
    rw [hx] at hc
    cases hc
section
variable {X : Cx} {M : Addr → Prop} {σ : St} {H H' : Hp} {a b c e o : Expr} {da db d : PyData} {pos : Pos} {es : List Expr} {ds : List PyData} {D : Ends}
theorem ce_str {x : Str} {j} {Q : VK} (q : Q (.str x) H) : wE X (.Constant (.str x) j pos) σ H Q := ⟨_, pe_str, q⟩
theorem ce_tup {x1} {Q : VK} (h : wA X es σ H fun vs H1 => vs.length ≤ 1000 ∧ ∀ p, H1 p = none → Q (.ref p) (upd H1 p (.tup vs))) : wE X (.Tuple es x1 pos) σ H Q := by
  obtain ⟨t, p, q⟩ := h
  refine ⟨_, pe_tup (t := fun σ H Q => ∃ Q0, t σ H Q0 ∧ ∀ vs H1, Q0 vs H1 → Q vs H1) ⟨fun pos pins s σ H Q I ⟨Q0, h0, imp⟩ => wpAny_mono (p.run pos pins s σ H Q0 I h0) (fun us s1 ⟨vs, H1, I1, r1, q1⟩ => ⟨vs, H1, I1, r1, imp vs H1 q1⟩) fun _ _ z => z⟩, _, q, ?_⟩
  rintro vs H1 ⟨hl, hq⟩
  exact ⟨Evl.sz_of (by omega), hq⟩
/-- a method's call -/
theorem ce_meth {CX : CXT} {E : XK} {C f p dx : Addr} {fd : FuncData} {ps : List Str} {sp : Sp} {m : Str} {apos : Pos} {pl : Sem Bool} {j k : Nat} {fs : List (Str × V)} {Q : VK} (hn : AtN X σ o p) (c : Cls X.K C) (hm : Meth X.K C m f) (F : FnOk X.prog X.w X.K X.mg X.base CX k f fd ps sp) (hr : Room j X.A) (hkj : k ≤ j) (hb : Binds X.K fd ps []) (hx : Passes CX X E)
    (hp : H p = some (.ins C dx fs)) (hf : fs.lookup m = none) (h : wA X (e :: es) σ H fun vs H2 => sp (.ref p :: vs) H2 Q E)
    (he : starEach (e :: es) X.env = (false, eval e X.env) :: starEach es X.env := by rfl) (hpl : (backTo pos (starEach es X.env)).any (·.1) = false := by rfl)
    (hev : eval (.Call (.Attribute o m apos) (e :: es) [] pos) X.env = (do
      let ov ← eval o X.env
      standAt apos.atName
      let (f, first) ← holding [ov] (getMethod ov m pl)
      callWith pos f first (backTo pos (starEach (e :: es) X.env)) (backToKw pos (keywordEach [] X.env))) := by rfl) : wE X (.Call (.Attribute o m apos) (e :: es) [] pos) σ H Q := by
  refine ⟨_, pe_meth wE.pe c hm F (hr.mono hkj) hb .nil hx wA.pa he hpl hev, hn _ _ ⟨p, dx, fs, rfl, hp, hf, ?_⟩⟩
  obtain ⟨t, h1, h2⟩ := h
  refine ⟨t, h1, ?_⟩
  have e1 : (fun vs H2 => sp (V.ref p :: (vs ++ [])) H2 Q E) = fun vs H2 => sp (V.ref p :: vs) H2 Q E := by
    funext vs H1
    rw [List.append_nil]
  rw [e1]
  exact h2
theorem ce_meth0 {CX : CXT} {E : XK} {C f p dx : Addr} {fd : FuncData} {ps : List Str} {sp : Sp} {m : Str} {apos : Pos} {pl : Sem Bool} {j k : Nat} {fs : List (Str × V)} {Q : VK} (hn : AtN X σ o p) (c : Cls X.K C) (hm : Meth X.K C m f) (F : FnOk X.prog X.w X.K X.mg X.base CX k f fd ps sp) (hr : Room j X.A) (hkj : k ≤ j) (hb : Binds X.K fd ps []) (hx : Passes CX X E)
    (hp : H p = some (.ins C dx fs)) (hf : fs.lookup m = none) (h : sp [.ref p] H Q E)
    (hev : eval (.Call (.Attribute o m apos) [] [] pos) X.env = (do
      let ov ← eval o X.env
      standAt apos.atName
      let (f, first) ← holding [ov] (getMethod ov m pl)
      callWith pos f first (backTo pos (starEach [] X.env)) (backToKw pos (keywordEach [] X.env))) := by rfl) : wE X (.Call (.Attribute o m apos) [] [] pos) σ H Q :=
  ⟨_, pe_meth0 wE.pe c hm F (hr.mono hkj) hb .nil hx hev, hn _ _ ⟨p, dx, fs, rfl, hp, hf, h⟩⟩
/-- a property's value -/
theorem ce_prop {CX : CXT} {E : XK} {C p g b dx : Addr} {f : Str} {fd : FuncData} {ps : List Str} {sp : Sp} {j k : Nat} {fs : List (Str × V)} {Q : VK} (hn : AtN X σ o b) (c : Cls X.K C) (hp : PropOf X.K C f p g) (F : FnOk X.prog X.w X.K X.mg X.base CX k g fd ps sp) (hr : Room j X.A) (hkj : k + 1 ≤ j) (hb : Binds X.K fd ps []) (hx : Passes CX X.nox E)
    (hi : H b = some (.ins C dx fs)) (h : sp [.ref b] H Q E) (hab : attributeBase o f X.env (eval o X.env) = eval o X.env := by rfl) : wE X (.Attribute o f pos) σ H Q :=
  ⟨_, pe_prop wE.pe c hp F (hr.mono hkj) hb .nil hx hab, hn _ _ ⟨b, dx, fs, rfl, hi, h⟩⟩
/-! ### try -/
abbrev tsW (X : Cx) (suite : List Stmt) : HdT := fun a cls d D σ H => ∀ oe pn, Zc cls d oe → (∃ vs, oe.data = .fields vs) → wB (X.suite a ((a, oe) :: pn)) suite D σ H
theorem psW {X : Cx} {suite : List Stmt} {a : Addr} {oe : Obj} {cls : Value} {d : Option Addr} {pn : List (Addr × Obj)} (hz : Zc cls d oe) (hd : ∃ vs, oe.data = .fields vs) : PSs (X.suite a ((a, oe) :: pn)) suite (tsW X suite a cls d) := ⟨fun pins s σ H D I h => wB.ps.run pins s σ H D I (h oe pn hz hd)⟩
theorem s_try {body : List Stmt} {h₀ : ExceptHandler} {hds : List ExceptHandler} {l : List (Value × Option Nat × HdT)} {Wout : WX} (hs : X.stack = X.env :: X.outer) (hf : X.env.frame = some X.env.locals) (hN : X.N.Nodup) (tk : Takes X Wout) (hh : Hds X (h₀ :: hds) l)
    (h : ∀ pn xe, Takes (X.tr pn xe) (wHs X.K Wout D l) → wB (X.tr pn xe) body D σ H) : wS X (.Try body (h₀ :: hds) [] [] pos) D σ H :=
  ⟨_, ps_tryAs (tb := fun W D σ H => ∀ pn xe, Takes (X.tr pn xe) W → wB (X.tr pn xe) body D σ H) hs hf hN tk (fun W pn xe tkW _ => ⟨fun pins s σ H D I h => wB.ps.run pins s σ H D I (h pn xe tkW)⟩) hh, h⟩
/-- e.f, e the exception that the clause holds -/
theorem ce_xf {X : Cx} {a C : Addr} {oe : Obj} {cls : Value} {d : Option Addr} {pn : List (Addr × Obj)} {f : Str} {Q : VK} (xf : XfC X.K C) (n : PySem.W.findIn X.K (.ref C) f = some none) (hz : Zc cls d oe) (hd : ∃ vs, oe.data = .fields vs)
    (h : wE (X.suite a ((a, oe) :: pn)) e σ H fun x H1 => x = .ref a ∧ cls = .ref C ∧ ∃ dd fs v, d = some dd ∧ H1 dd = some (.xd fs) ∧ fs.lookup f = some v ∧ Q v H1)
    (hab : attributeBase e f X.env (eval e X.env) = eval e X.env := by rfl) : wE (X.suite a ((a, oe) :: pn)) (.Attribute e f pos) σ H Q := ⟨_, pe_xf xf n hz hd wE.pe hab, h⟩
end
end GV

namespace GV
open PySem PySem.Spec PyProof.Rows L2
/-! ### the script: a list of whole numbers that nothing changes, wherever it stands -/
def ScAt (K : PySem.W.Frag) (M : Addr → Prop) (H : Hp) (a : Addr) (ns : List Int) : Prop := (¬ M a ∧ Rd H a (.lst (ns.map V.int))) ∨ ∀ H', SqL K H' a (ns.map V.int)
section
variable {K : PySem.W.Frag} {M M' : Addr → Prop} {H H' : Hp} {a : Addr} {ns : List Int}
theorem ScAt.of (h : SqL K H a (ns.map V.int)) (n : ¬ M a) : ScAt K M H a ns := h.elim (fun h => .inl ⟨n, h⟩) fun h => .inr fun _ => .inr h
theorem ScAt.sq (h : ScAt K M H a ns) : SqL K H a (ns.map V.int) := h.elim (fun h => .inl h.2) fun h => h H
theorem ScAt.mono (h : ScAt K M H a ns) (hm : ∀ a, M' a → M a) (e : ExM M H H') : ScAt K M' H' a ns := h.elim (fun ⟨n, h⟩ => .inl ⟨fun z => n (hm _ z), Rd.exM h n e⟩) .inr
end
section
variable {X : Cx} {M : Addr → Prop} {σ : St} {H : Hp} {a : Addr} {e b : Expr} {ns : List Int} {pos : Pos}
theorem pd_scIx {i : Nat} {j : Nat} {x : Str} {p : Pos} {z : Int} (h : ScAt X.K M H a ns) (hb : PD X M b σ H (.int (i : Nat))) (hz : ns[i]? = some z) (hN : X.N[j]? = some x := by rfl) (hv : Vis X.env.scope x := by first | exact .inl rfl | exact .inr (.inl rfl)) (hs : σ[j]? = some (some (.ref a)) := by rfl)
    (hd : (x == ("__debug__" : Str)) = false := by decide) (hcd : (x == ("__classdict__" : Str)) = false := by decide) (hpl : PlainIx b := by exact fun _ _ => rfl) : PD X M (.Subscript (.Name x p) b pos) σ H (.int z) := .mk fun H1 e1 al Q q =>
  ⟨_, pe_ix ix_seq wE.pe wE.pe hpl, ce_name hN hv hs (hb.run H1 e1 al _ fun y H2 x2 ry => by
    cases ry
    have hq := ((h.mono (fun _ z => z) e1).mono (fun _ z => z) (.of x2)).sq
    exact .inl ⟨_, _, (i : Nat), .int z, rfl, rfl, hq, atI_nat (by rw [List.getElem?_map, hz]; rfl), q _ H2 x2 (.int z)⟩) hd hcd⟩
theorem pd_scLen {j : Nat} {x : Str} {p p2 : Pos} (h : ScAt X.K M H a ns) (hg : Gl X "len") (hm : X.mg "len" = none) (hN : X.N[j]? = some x := by rfl) (hv : Vis X.env.scope x := by first | exact .inl rfl | exact .inr (.inl rfl)) (hs : σ[j]? = some (some (.ref a)) := by rfl)
    (hd : (x == ("__debug__" : Str)) = false := by decide) (hcd : (x == ("__classdict__" : Str)) = false := by decide) (hst : starEach (.Name x p :: []) X.env = (false, eval (.Name x p) X.env) :: starEach [] X.env := by rfl) (hpl : (backTo pos (starEach [] X.env)).any (·.1) = false := by rfl) :
    PD X M (.Call (.Name "len" p2) [.Name x p] [] pos) σ H (.int ns.length) := .mk fun H1 e1 al Q q =>
  ⟨_, pe_callB call_len_seq hg hm PySem.boot_len wA.pa (by decide) (by decide) hst hpl, ca_cons (ce_name hN hv hs (ca_nil ⟨a, ns.map V.int, rfl, .inl ((h.mono (fun _ z => z) e1).sq), by
    rw [List.length_map]
    exact q _ H1 (Evl.Ex.refl H1) (.int _)⟩) hd hcd) hst⟩
theorem fd_scSlice {lo hi : Option Expr} {l u : Option Int} {j : Nat} {x : Str} {p p2 : Pos} (h : ScAt X.K M H a ns) (hl : OD X M lo σ H l) (hu : OD X M hi σ H u) (hN : X.N[j]? = some x := by rfl) (hv : Vis X.env.scope x := by first | exact .inl rfl | exact .inr (.inl rfl)) (hs : σ[j]? = some (some (.ref a)) := by rfl)
    (hd : (x == ("__debug__" : Str)) = false := by decide) (hcd : (x == ("__classdict__" : Str)) = false := by decide) : FD X M (.Subscript (.Name x p) (.Slice lo hi none p2) pos) σ H (cutD (ns.map PyData.int) l u) := by
  obtain ⟨tl, pl, rl⟩ := hl.ex
  obtain ⟨tu, pu, ru⟩ := hu.ex
  refine .mk fun H1 e1 al Q q => ⟨_, pe_slice sl_list wE.pe pl pu, ce_name hN hv hs ?_ hd hcd⟩
  refine rl H1 e1 al _ fun H3 x3 => ru H3 (e1.trans (.of x3)) (al.mono x3) _ fun H4 x4 => ?_
  have hq := ((h.mono (fun _ z => z) e1).mono (fun _ z => z) (.of (x3.trans x4))).sq
  exact ⟨_, _, rfl, hq, fun p hp => q p _ _ (Evl.fresh_back (x3.trans x4) hp) ((x3.trans x4).trans (Evl.Ex.new hp)) upd_same (((RpAll.ints ns).cut l u))⟩
end
end GV

-- out of B3
namespace GV
open PySem PySem.Spec PyProof.Rows L2
theorem _root_.L2.Room.u2 {k : Nat} {A : Around} (r : Room k A) : A.units + 2 < cLine := Nat.lt_of_le_of_lt (Nat.add_le_add_left (by decide : 2 ≤ 64) _) r.units
theorem cutD_take (xs : List PyData) (i : Nat) : cutD xs none (some (i : Int)) = xs.take i := by
  unfold cutD
  rw [HT.sIx_none, HT.sIx_nat, List.drop_zero, Nat.sub_zero]
  by_cases h : i ≤ xs.length
  · rw [Nat.min_eq_left h]
  · rw [Nat.min_eq_right (by omega), List.take_of_length_le (Nat.le_refl _), List.take_of_length_le (by omega)]
theorem cutD_drop (xs : List PyData) (i : Nat) : cutD xs (some (i : Int)) none = xs.drop i := by
  unfold cutD
  rw [HT.sIx_none, HT.sIx_nat]
  by_cases h : i ≤ xs.length
  · rw [Nat.min_eq_left h, List.take_of_length_le]
    rw [List.length_drop]
    exact Nat.le_refl _
  · rw [Nat.min_eq_right (by omega), Nat.sub_self, List.take_zero, List.drop_of_length_le (by omega)]
theorem take_snoc {α : Type} {l : List α} {i : Nat} {x : α} (h : l[i]? = some x) : l.take (i + 1) = l.take i ++ [x] := by
  rw [List.take_add_one, h]
  rfl
end GV
-- out of B4
namespace GV
open PySem PySem.Spec PyProof.Rows L2
theorem ixD_list {ds : List PyData} {i : Nat} {d : PyData} (h : ds[i]? = some d) : ixD (.list ds) (.int (i : Nat)) = some d := atI_nat h
theorem ixD_ints {ns : List Int} {i : Nat} {z : Int} (h : ns[i]? = some z) : ixD (.list (ns.map PyData.int)) (.int (i : Nat)) = some (.int z) := ixD_list (by rw [List.getElem?_map, h]; rfl)
section
variable {X : Cx} {M : Addr → Prop} {σ : St} {H H' : Hp} {a e : Expr} {d : PyData} {pos : Pos}
/-- int(e), e an int -/
theorem pd_intI {p : Pos} {i : Int} (nb : NoB X.mg) (hg : Gl X "int") (h : PD X M e σ H (.int i)) (hs : starEach (e :: []) X.env = (false, eval e X.env) :: starEach [] X.env := by rfl) (hpl : (backTo pos (starEach [] X.env)).any (·.1) = false := by rfl) :
    PD X M (.Call (.Name "int" p) [e] [] pos) σ H (.int i) := pd_callTy call_int1 hg nb.int PyProof.Rows.boot_int (ad_cons h ad_nil hs) rn_int (by decide) (by decide) hs hpl
theorem pd_intB {p : Pos} {k : Bool} (nb : NoB X.mg) (hg : Gl X "int") (h : PD X M e σ H (.bool k)) (hs : starEach (e :: []) X.env = (false, eval e X.env) :: starEach [] X.env := by rfl) (hpl : (backTo pos (starEach [] X.env)).any (·.1) = false := by rfl) :
    PD X M (.Call (.Name "int" p) [e] [] pos) σ H (.int (if k then 1 else 0)) := pd_callTy call_int1 hg nb.int PyProof.Rows.boot_int (ad_cons h ad_nil hs) rn_intB (by decide) (by decide) hs hpl
theorem pd_len {p : Pos} {n : Nat} (nb : NoB X.mg) (hg : Gl X "len") (h : PD X M e σ H d) (hn : lenD d = some n) (hs : starEach (e :: []) X.env = (false, eval e X.env) :: starEach [] X.env := by rfl) (hpl : (backTo pos (starEach [] X.env)).any (·.1) = false := by rfl) :
    PD X M (.Call (.Name "len" p) [e] [] pos) σ H (.int n) := pd_callB call_len hg nb.len PySem.boot_len (ad_cons h ad_nil hs) (rn_len hn) (by decide) (by decide) hs hpl
theorem pd_abs {p : Pos} {i : Int} (nb : NoB X.mg) (hg : Gl X "abs") (h : PD X M e σ H (.int i)) (hs : starEach (e :: []) X.env = (false, eval e X.env) :: starEach [] X.env := by rfl) (hpl : (backTo pos (starEach [] X.env)).any (·.1) = false := by rfl) :
    PD X M (.Call (.Name "abs" p) [e] [] pos) σ H (.int (if i < 0 then -i else i)) := pd_callB call_abs hg nb.abs PyProof.Rows.boot_abs (ad_cons h ad_nil hs) rn_abs (by decide) (by decide) hs hpl
theorem pd_sum {p : Pos} {ns : List Int} (hc : X.calm = true) (nb : NoB X.mg) (hg : Gl X "sum") (h : PD X M e σ H (.list (ns.map PyData.int))) (hs : starEach (e :: []) X.env = (false, eval e X.env) :: starEach [] X.env := by rfl) (hpl : (backTo pos (starEach [] X.env)).any (·.1) = false := by rfl) :
    PD X M (.Call (.Name "sum" p) [e] [] pos) σ H (.int ns.sum) := pd_callB (cr_sum hc) hg nb.sum PyProof.Rows.boot_sum (ad_cons h ad_nil hs) rn_sum (by decide) (by decide) hs hpl
end
end GV
-- out of B5
namespace GV
open PySem PySem.Spec PyProof.Rows L2
section
variable {X : Cx} {M : Addr → Prop} {σ : St} {H H' : Hp} {a b c e o : Expr} {da db d : PyData} {pos : Pos} {es : List Expr} {ds : List PyData} {D : Ends}
/-- o.f = e, o an exception being made -/
theorem cs_ost {f : Str} {p' : Pos} (h : wE X e σ H fun y H1 => wE X o σ H1 fun x H2 => ∃ a C, x = .ref a ∧ OexC X.K C ∧ PySem.W.findIn X.K (.ref C) f = some none ∧
      ((H2 a = some (exo a C none) ∧ ∀ dx, H2 dx = none → dx ≠ a → D.nx σ (upd (upd H2 dx (exd dx [(f, y)])) a (exo a C (some dx)))) ∨
        ∃ dx fs, H2 a = some (exo a C (some dx)) ∧ H2 dx = some (exd dx fs) ∧ fs.length ≤ 900 ∧ D.nx σ (upd H2 dx (exd dx ((f, y) :: fs)))))
    (hs : swapsWith e (some (.Attribute o f p')) pos.line X.env = pure false := by rfl) : wS X (.Assign [.Attribute o f p'] e pos) D σ H := ⟨_, ps_ost wE.pe wE.pe hs, h⟩
/-- o.f, a plain attribute of an object -/
theorem ce_fld {f : Str} {Q : VK} (h : wE X e σ H fun x H1 => ∃ a C dx fs v, x = .ref a ∧ H1 a = some (.ins C dx fs) ∧ Cls X.K C ∧ NoAttr X.K C f ∧ fs.lookup f = some v ∧ Q v H1) (hb : attributeBase e f X.env (eval e X.env) = eval e X.env := by rfl) : wE X (.Attribute e f pos) σ H Q := ⟨_, pe_fld wE.pe hb, h⟩
/-- o.f = e -/
theorem cs_fld {f : Str} {p' : Pos} (h : wE X e σ H fun y H1 => wE X o σ H1 fun x H2 => ∃ a C dx fs, x = .ref a ∧ H2 a = some (.ins C dx fs) ∧ Cls X.K C ∧ NoAttr X.K C f ∧ fs.length < 1000 ∧ D.nx σ (upd H2 a (.ins C dx (putF f y fs))))
    (hs : swapsWith e (some (.Attribute o f p')) pos.line X.env = pure false := by rfl) : wS X (.Assign [.Attribute o f p'] e pos) D σ H := ⟨_, ps_fld wE.pe wE.pe hs, h⟩
/-- a call that may raise -/
theorem ce_callX {sp : Sp} {W : WX} {Q : VK} {j k : Nat} {x : Str} {p : Pos} (cl : Cl X.prog X.w X.K X.mg X.base (L2.CX X.prog X.w) k x sp) (hr : Room j X.A) (hkj : k ≤ j) (hg : Gl X x) (tk : Takes X W) (h : wA X (e :: es) σ H fun vs H2 => sp vs H2 Q (fun cls d H' => W cls d σ H'))
    (hdb : (x == ("__debug__" : Str)) = false := by decide) (he : starEach (e :: es) X.env = (false, eval e X.env) :: starEach es X.env := by rfl) (hpl : (backTo pos (starEach es X.env)).any (·.1) = false := by rfl) : wE X (.Call (.Name x p) (e :: es) [] pos) σ H Q := by
  obtain ⟨f, fd, ps, F, hm, hk, hb⟩ := cl.ex
  exact ⟨_, pe_callS F (hr.mono hkj) hg hm hk hb (fun σ => passAt tk σ) wA.pa hdb he hpl, h⟩
theorem cs_if {A B : List Stmt} (h : wT X c σ H fun k H2 => if k = true then wB X A D σ H2 else wB X B D σ H2) : wS X (.If c A B pos) D σ H := ⟨_, ps_if wT.pt wB.ps wB.ps, h⟩
theorem ct_td {k : Bool} {Q : Bool → Hp → Prop} (al : Alive M H) (h : TD X M e σ H k) (q : ∀ H2, Evl.Ex H H2 → Q k H2) : wT X e σ H Q := h.run H (ExM.refl H) al Q q
end
end GV
-- out of B7
namespace GV
open PySem PySem.Spec PyProof.Rows L2
section
variable {X : Cx} {M : Addr → Prop} {σ : St} {H : Hp} {e : Expr} {pos : Pos}
/-- for x in range(n) -/
theorem s_forR {n slot : Nat} {x : Str} {p p1 p2 : Pos} {body : List Stmt} {D : Ends} (hp : PassesOwn (model X.prog X.w) X.A X.env X.xe) (hc : X.calm = true) (hN : X.N.Nodup) (hx : X.N[slot]? = some x) (hl : Loc X.env.scope x) (hg : Gl X "range") (hm : X.mg "range" = none) (h : PD X M e σ H (.int (n : Nat))) (hn : n ≤ 1000000) (al : Alive M H) (J : Hp → Nat → St → Hp → Prop)
    (h0 : ∀ H1, Evl.Ex H H1 → J H1 0 σ H1) (hk : ∀ H1 i σ' H', Evl.Ex H H1 → J H1 i σ' H' → ExM M H1 H' ∧ Alive M H')
    (ht : ∀ H1 i σ' H' H2, Evl.Ex H H1 → i < n → J H1 i σ' H' → Evl.Ex H' H2 → wB X body { D with nx := J H1 (i + 1), ct := J H1 (i + 1), bk := D.nx } (σ'.set slot (some (.int (i : Nat)))) H2)
    (hd : ∀ H1 σ' H', Evl.Ex H H1 → J H1 n σ' H' → D.nx σ' H') (hs : starEach [e] X.env = [(false, eval e X.env)] := by rfl) (hs' : starEach (e :: []) X.env = (false, eval e X.env) :: starEach [] X.env := by rfl)
    (hf : ∀ x, foldedSetIterable (.Call (.Name "range" p) [e] [] p1) X.env x = pure x := by intro _; rfl) (hfn : X.fn x = true ∨ X.env.scope.names.lookup x = some .local := by first | exact .inl rfl | exact .inr rfl | assumption) : wS X (.For (.Name x p2) (.Call (.Name "range" p) [e] [] p1) body [] pos) D σ H := by
  refine s_for (t := .one slot) hp hc (src_range1 hg hm h (by omega) (by omega) hs hs') (pg_name hN hx hl hfn) al J h0 hk (fun _ _ => trivial) ?_ ?_ hf
  · rintro H1 i d σ' H' H2 σ2 x1 hd j x2 ⟨v, rv, rfl⟩
    obtain ⟨k, hk', rfl⟩ := List.mem_iff_getElem?.mp (List.mem_of_getElem? hd) |> fun _ => (by
      rw [List.getElem?_map] at hd
      obtain ⟨k, h1, h2⟩ := Option.map_eq_some_iff.mp hd
      exact ⟨k, h1, h2.symm⟩ : ∃ k, (List.range (Int.toNat (n : Nat)))[i]? = some k ∧ d = PyData.int (0 + (k : Nat)))
    rw [List.getElem?_range (by
      have := (List.getElem?_eq_some_iff.mp hk').1
      simpa using this)] at hk'
    have hin : i < n := by
      have := (List.getElem?_eq_some_iff.mp hd).1
      simpa using this
    cases hk'
    cases rv
    rw [Int.zero_add]
    exact ht H1 i σ' H' H2 x1 hin j x2
  · intro H1 σ' H' x1 j
    refine hd H1 σ' H' x1 ?_
    have e1 : ((List.range (Int.toNat (n : Nat))).map fun i => PyData.int (0 + (i : Nat))).length = n := by simp
    rw [← e1]
    exact j
end
end GV
-- out of B8
namespace GV
open PySem PySem.Spec PyProof.Rows L2
/-! ### which data == may look at -/
theorem shaped_of {d : PyData} (h1 : d.canLay0 = true) (h2 : d.depth ≤ 64) : SeqAt.shaped d = true := by
  simp [SeqAt.shaped, h1, h2]
/-- flat parts, at most one deep -/
def one1 : PyData → Prop
  | .int _ => True
  | .tuple [.int _, .int _] => True
  | _ => False
theorem lay1 {d : PyData} (h : one1 d) : d.canLay0 = true ∧ d.depth ≤ 1 := by
  unfold one1 at h
  split at h
  · exact ⟨rfl, by show 0 ≤ 1; omega⟩
  · exact ⟨rfl, Nat.le_refl 1⟩
  · cases h
theorem lays1 {ds : List PyData} (h : ∀ d ∈ ds, one1 d) : (PyData.list ds).canLay0 = true ∧ (PyData.list ds).depth ≤ 2 := by
  have key : ∀ ds : List PyData, (∀ d ∈ ds, one1 d) → PyData.canLayAll0 ds = true ∧ PyData.depthAll ds ≤ 1 := by
    intro ds
    induction ds with
    | nil => exact fun _ => ⟨rfl, Nat.zero_le _⟩
    | cons d r ih =>
      intro h
      obtain ⟨a, b⟩ := lay1 (h d (List.mem_cons_self))
      obtain ⟨a2, b2⟩ := ih fun x hx => h x (List.mem_cons_of_mem _ hx)
      refine ⟨?_, ?_⟩
      · show (d.canLay0 && PyData.canLayAll0 r) = true
        rw [a, a2]
        rfl
      · show max d.depth (PyData.depthAll r) ≤ 1
        omega
  obtain ⟨a, b⟩ := key ds h
  refine ⟨a, ?_⟩
  show PyData.depthAll ds + 1 ≤ 2
  omega
theorem shaped1 {ds : List PyData} (h : ∀ d ∈ ds, one1 d) : SeqAt.shaped (.list ds) = true := by
  obtain ⟨a, b⟩ := lays1 h
  exact shaped_of a (by omega)
theorem shapedI (ns : List Int) : SeqAt.shaped (.list (ns.map PyData.int)) = true := shaped1 fun d hd => by
  obtain ⟨k, _, rfl⟩ := List.mem_map.mp hd
  trivial
theorem atI_last {α : Type} (l : List α) (x : α) : atI (l ++ [x]) (-1) = some x := by
  unfold atI ixN
  rw [if_neg (by omega), List.length_append, List.length_singleton, if_pos (by omega)]
  show (l ++ [x])[((-1 : Int) + ((l.length + 1 : Nat) : Int)).toNat]? = some x
  rw [show ((-1 : Int) + ((l.length + 1 : Nat) : Int)).toNat = l.length by omega]
  simp
section
variable {X : Cx} {M : Addr → Prop} {σ : St} {H : Hp} {o e : Expr} {pos : Pos}
/-- o.index(e), a whole number that is there -/
theorem pd_index {apos cpos : Pos} {ns : List Int} {k : Int} {j : Nat} (ho : PD X M o σ H (.list (ns.map PyData.int))) (he : PD X M e σ H (.int k)) (hj : ns[j]? = some k) (hf : ∀ m z, m < j → ns[m]? = some z → z ≠ k)
    (h1 : attributeBase o ("index" : Str) X.env (eval o X.env) = eval o X.env := by rfl)
    (h2 : ((((backTo cpos (starEach (e :: []) X.env)).all fun x => !x.1) && (backToKw cpos (keywordEach [] X.env)).all fun x => x.1.isSome) && decide (((e :: []).length + ([] : List Keyword).length + if ([] : List Keyword).isEmpty = true then 0 else 1) < 30)) = true := by rfl)
    (h3 : (apos.endLine == cpos.line) = true := by rfl) (h4 : starEach (e :: []) X.env = (false, eval e X.env) :: starEach [] X.env := by rfl) (h5 : (backTo cpos (starEach [] X.env)).any (·.1) = false := by rfl) :
    PD X M (.Call (.Attribute o "index" apos) [e] [] cpos) σ H (.int (j : Nat)) := .mk fun H1 e1 al Q q => by
  refine ⟨_, pe_bm PySem.F.plainAttrs_list PySem.F.slot_list_index PySem.F.type_list_index mt_index wE.pe (pa_cons wE.pe pa_nil h4) h1 h2 h3 h4 h5, ?_⟩
  refine ho.run H1 e1 al _ fun x H2 x2 r => ?_
  cases r with
  | lst m hs rs =>
    refine ⟨.inl ⟨rfl, _, .inl hs⟩, he.run H2 (e1.trans (.of x2)) (al.mono x2) _ fun y H3 x3 ry => ?_⟩
    cases ry
    have hs3 := GV.Rd.exM hs m (.of x3)
    have ev := rs.of_ints
    subst ev
    refine ⟨_, _, _, j, .int k, rfl, rfl, .inl hs3, rfl, ?_, ?_, ?_, ?_, q _ H3 (x2.trans x3) (.int _)⟩
    · rw [List.all_eq_true]
      intro v hv
      obtain ⟨z, _, rfl⟩ := List.mem_map.mp hv
      rfl
    · rw [List.getElem?_map, hj]
      rfl
    · simp [eqV]
    · intro m z hm hz
      rw [List.getElem?_map] at hz
      obtain ⟨u, hu, rfl⟩ := Option.map_eq_some_iff.mp hz
      simpa [eqV] using hf m u hm hu
end
end GV
-- out of B13
namespace GV
open PySem PySem.Spec PyProof.Rows L2
section
variable {X : Cx} {M : Addr → Prop} {σ : St} {H H' : Hp} {a b c e o : Expr} {da db d : PyData} {pos : Pos} {es : List Expr} {ds : List PyData} {D : Ends}
theorem ce_and {rest : List Expr} {Q : VK} (h : wE X a σ H fun x H2 => ∃ k, x = .bl k ∧ (k = true → wE X (.BoolOp .And (b :: rest) pos) σ H2 Q) ∧ (k = false → Q (.bl false) H2)) : wE X (.BoolOp .And (a :: b :: rest) pos) σ H Q := by
  refine ⟨_, pe_and wE.pe wE.pe, wE.weak h ?_⟩
  rintro x H2 ⟨k, rfl, h1, h2⟩
  refine ⟨k, rfl, ?_⟩
  cases k with
  | true => exact h1 rfl
  | false => exact h2 rfl
theorem ce_one {op} {Q : VK} (h : wE X a σ H Q) : wE X (.BoolOp op [a] pos) σ H Q := ⟨_, pe_one wE.pe, h⟩
theorem ce_eq {Q : VK} (hu : X.A.units + 64 < cLine) (h : wE X a σ H fun x H2 => wE X b σ H2 fun y H3 => ∃ da db, Dp X.K H3 x da ∧ Dp X.K H3 y db ∧ SeqAt.shaped da = true ∧ SeqAt.shaped db = true ∧ Q (.bl (PyData.eqv da db)) H3) : wE X (.Compare a [.Eq] [b] pos) σ H Q :=
  ⟨_, pe_cmpR (op_eqD hu) wE.pe wE.pe (nomark _), h⟩
end
end GV
-- out of B15
namespace GV
open PySem PySem.Spec PyProof.Rows L2
section
variable {X : Cx} {M : Addr → Prop} {σ : St} {H H' : Hp} {a b c e o : Expr} {da db d : PyData} {pos : Pos} {es : List Expr} {ds : List PyData} {D : Ends}
theorem ce_lst {Q : VK} (h : wA X es σ H fun vs H1 => vs.length ≤ 1000 ∧ ∀ p, H1 p = none → Q (.ref p) (upd H1 p (.lst vs))) : wE X (.List es pos) σ H Q := by
  obtain ⟨t, p, q⟩ := h
  refine ⟨_, pe_lst (t := fun σ H Q => ∃ Q0, t σ H Q0 ∧ ∀ vs H1, Q0 vs H1 → Q vs H1) ⟨fun pos pins s σ H Q I ⟨Q0, h0, imp⟩ => wpAny_mono (p.run pos pins s σ H Q0 I h0) (fun us s1 ⟨vs, H1, I1, r1, q1⟩ => ⟨vs, H1, I1, r1, imp vs H1 q1⟩) fun _ _ z => z⟩, _, q, ?_⟩
  rintro vs H1 ⟨hl, hq⟩
  exact ⟨Evl.sz_of (by omega), hq⟩
theorem ct_val {Q : Bool → Hp → Prop} (h : wE X e σ H fun x H2 => ∃ k, x = .bl k ∧ Q k H2) (he : ∀ whole, isTrue e X.env whole = (do let v ← whole; standAt e.pos; holding [v] (truthy v)) := by intro _; rfl) : wT X e σ H Q := ⟨_, pt_val wE.pe he, h⟩
theorem ct_eq {Q : Bool → Hp → Prop} (hu : X.A.units + 64 < cLine) (h : wE X a σ H fun x H2 => wE X b σ H2 fun y H3 => ∃ da db, Dp X.K H3 x da ∧ Dp X.K H3 y db ∧ SeqAt.shaped da = true ∧ SeqAt.shaped db = true ∧ Q (PyData.eqv da db) H3) : wT X (.Compare a [.Eq] [b] pos) σ H Q :=
  ⟨_, pt_cmpR (op_eqD hu) wE.pe wE.pe (nomark _), wE.weak h fun x H2 h2 => wE.weak h2 fun y H3 ⟨da, db, h1, h2, h3, h4, q⟩ => ⟨da, db, h1, h2, h3, h4, _, rfl, q⟩⟩
theorem ct_not {Q : Bool → Hp → Prop} (h : wT X a σ H fun k H2 => Q (!k) H2) : wT X (.UnaryOp .Not a pos) σ H Q := ⟨_, pt_not wT.pt, h⟩
theorem ce_isN {j p2} {Q : VK} (h : wE X a σ H fun x H2 => Q (.bl (decide (x = .non))) H2) : wE X (.Compare a [.Is] [.Constant .none j p2] pos) σ H Q :=
  ⟨_, pe_cmpR op_isN wE.pe pe_non (nomark _), wE.weak h fun x H2 q => ⟨rfl, q⟩⟩
end
end GV
-- out of B18
namespace GV
open PySem PySem.Spec PyProof.Rows L2
section
variable {X : Cx} {σ : St} {H : Hp} {a b : Expr} {pos : Pos}
theorem ct_lt {Q : Bool → Hp → Prop} (h : wE X a σ H fun x H2 => wE X b σ H2 fun y H3 => ∃ i j, x = .int i ∧ y = .int j ∧ Q (decide (i < j)) H3) : wT X (.Compare a [.Lt] [b] pos) σ H Q :=
  ⟨_, pt_cmpR op_lt wE.pe wE.pe (nomark _), wE.weak h fun x H2 h2 => wE.weak h2 fun y H3 ⟨i, j, h1, h2, q⟩ => ⟨i, j, h1, h2, _, rfl, q⟩⟩
end
end GV
-- out of B19
namespace GV
open PySem PySem.Spec PyProof.Rows L2
section
variable {X : Cx} {σ : St} {H : Hp} {a b e o : Expr} {pos : Pos}
theorem PT.weak {X : Cx} {e : Expr} {t : TT} (p : PT X e t) : PT X e fun σ H Q => ∃ Q0 : Bool → Hp → Prop, t σ H Q0 ∧ ∀ v H1, Q0 v H1 → Q v H1 :=
  ⟨fun pins s σ H Q I ⟨Q0, h0, imp⟩ => wpAny_mono (p.run pins s σ H Q0 I h0) (fun us s1 ⟨H1, I1, q1⟩ => ⟨H1, I1, imp _ H1 q1⟩) fun _ _ z => z⟩
theorem wT.weak {Q0 Q : Bool → Hp → Prop} (h : wT X e σ H Q0) (imp : ∀ v H1, Q0 v H1 → Q v H1) : wT X e σ H Q := let ⟨t, p, q⟩ := h; ⟨_, PT.weak p, Q0, q, imp⟩
theorem cw_and1 {Q : Bool → Hp → Prop} (h : wT X a σ H Q) : wW X (.BoolOp .And [a] pos) σ H Q := ⟨_, pw_and1 wT.pt, h⟩
theorem cw_and {rest : List Expr} {Q : Bool → Hp → Prop} (h : wT X a σ H fun k H2 => (k = true → wW X (.BoolOp .And (b :: rest) pos) σ H2 Q) ∧ (k = false → Q false H2)) : wW X (.BoolOp .And (a :: b :: rest) pos) σ H Q :=
  ⟨_, pw_and wT.pt wW.pw, wT.weak h fun k H2 ⟨h1, h2⟩ => by
    cases k with
    | true => exact h1 rfl
    | false => exact h2 rfl⟩
theorem ct_w {Q : Bool → Hp → Prop} (h : wW X e σ H Q) : wT X e σ H Q := let ⟨t, p, q⟩ := h; ⟨t, p.pt, q⟩
theorem ct_gt {Q : Bool → Hp → Prop} (h : wE X a σ H fun x H2 => wE X b σ H2 fun y H3 => ∃ i j, x = .int i ∧ y = .int j ∧ Q (decide (j < i)) H3) : wT X (.Compare a [.Gt] [b] pos) σ H Q :=
  ⟨_, pt_cmpR op_gt wE.pe wE.pe (nomark _), wE.weak h fun x H2 h2 => wE.weak h2 fun y H3 ⟨i, j, h1, h2, q⟩ => ⟨i, j, h1, h2, _, rfl, q⟩⟩
theorem ce_propE {CX : CXT} {E : XK} {C p g : Addr} {f : Str} {fd : FuncData} {ps : List Str} {sp : Sp} {j k : Nat} {Q : VK} (c : Cls X.K C) (hp : PropOf X.K C f p g) (F : FnOk X.prog X.w X.K X.mg X.base CX k g fd ps sp) (hr : Room j X.A) (hkj : k + 1 ≤ j) (hb : Binds X.K fd ps []) (hx : Passes CX X.nox E)
    (h : wE X o σ H fun x H1 => ∃ a dx fs, x = .ref a ∧ H1 a = some (.ins C dx fs) ∧ sp [.ref a] H1 Q E) (hab : attributeBase o f X.env (eval o X.env) = eval o X.env := by rfl) : wE X (.Attribute o f pos) σ H Q :=
  ⟨_, pe_prop wE.pe c hp F (hr.mono hkj) hb .nil hx hab, wE.weak h fun x H1 ⟨a, dx, fs, h1, h2, h3⟩ => ⟨a, dx, fs, h1, h2, h3⟩⟩
/-- C(), an object made -/
theorem ce_make0 {CX : CXT} {E : XK} {f C : Addr} {fd : FuncData} {ps : List Str} {sp : Sp} {j k : Nat} {x : Str} {p : Pos} {Q : VK} (m : Mk X.K C f) (F : FnOk X.prog X.w X.K X.mg X.base CX k f fd ps sp) (hr : Room j X.A) (hkj : k + 1 ≤ j) (hg : Gl X x) (gC : X.mg x = some (.ref C)) (hb : Binds X.K fd ps []) (hx : Passes CX X E)
    (h : ∀ a dx, H a = none → H dx = none → dx ≠ a → sp [.ref a] (upd (upd H dx (.own a)) a (.ins C dx [])) (fun v H2 => v = .non ∧ Q (.ref a) H2) E) (hdb : (x == ("__debug__" : Str)) = false := by decide) : wE X (.Call (.Name x p) [] [] pos) σ H Q :=
  ⟨_, pe_make0 m F (hr.mono hkj) hg gC hb .nil hx hdb, fun a dx h1 h2 h3 => h a dx h1 h2 h3⟩
end
end GV

namespace GV
open PySem PySem.Spec PyProof.Rows L2
section
variable {X : Cx} {σ : St} {H : Hp} {e : Expr} {pos : Pos}
/-- for x in range(n), n a value on the way; nothing need be known of what stays -/
theorem s_forRW {slot : Nat} {x : Str} {p p1 p2 : Pos} {body : List Stmt} {D : Ends} (hp : PassesOwn (model X.prog X.w) X.A X.env X.xe) (hc : X.calm = true) (hN : X.N.Nodup) (hx : X.N[slot]? = some x) (hl : Loc X.env.scope x) (hg : Gl X "range") (hm : X.mg "range" = none)
    (h : wE X e σ H fun v H1 => ∃ (n : Nat) (J : Nat → St → Hp → Prop), v = .int (n : Nat) ∧ n ≤ 1000000 ∧ J 0 σ H1 ∧
      (∀ i σ' H', i < n → J i σ' H' → wB X body { D with nx := J (i + 1), ct := J (i + 1), bk := D.nx } (σ'.set slot (some (.int (i : Nat)))) H') ∧ ∀ σ' H', J n σ' H' → D.nx σ' H')
    (hs : starEach [e] X.env = [(false, eval e X.env)] := by rfl) (hs' : starEach (e :: []) X.env = (false, eval e X.env) :: starEach [] X.env := by rfl)
    (hf : ∀ x, foldedSetIterable (.Call (.Name "range" p) [e] [] p1) X.env x = pure x := by intro _; rfl) (hfn : X.fn x = true ∨ X.env.scope.names.lookup x = some .local := by first | exact .inl rfl | exact .inr rfl | assumption) : wS X (.For (.Name x p2) (.Call (.Name "range" p) [e] [] p1) body [] pos) D σ H := by
  refine ⟨_, ps_for hp hc (pi_range1 hg hm wA.pa hs) (pg_name hN hx hl hfn) wB.ps hf, ca_cons (wE.weak h ?_) hs'⟩
  rintro v H1 ⟨n, J, rfl, hn, h0, ht, hd⟩
  refine ca_nil ⟨(n : Nat), rfl, by omega, by omega, ?_⟩
  have en : ((n : Nat) : Int).toNat = n := by omega
  rw [en]
  refine ⟨fun i m σ' H' => m = n - i ∧ i ≤ n ∧ J i σ' H', ⟨n, rfl, Nat.zero_le _, h0⟩, ?_⟩
  rintro i m σ' H' ⟨rfl, hi', j⟩
  have wk := wk_range (K := X.K) (M := M0) (H := H') 0 n
  have ln : ((List.range n).map fun i => PyData.int (0 + (i : Nat))).length = n := by simp
  by_cases hlt : i < n
  · refine .inr ⟨wk.go M0 i H' (fun _ z => z.elim) (ExM.refl _) (by rw [ln]; exact hlt), J (i + 1), fun σ2 H2 j2 => ⟨n - (i + 1), by omega, rfl, hlt, j2⟩, fun x H2 y => ?_⟩
    obtain ⟨rfl, rfl⟩ := y
    rw [Int.zero_add]
    exact ht i σ' _ hlt j
  · have e2 : i = n := by omega
    subst e2
    have := wk.stop M0 H' (fun _ z => z.elim) (ExM.refl _)
    rw [ln] at this
    exact .inl ⟨this, hd σ' H' j⟩
/-- an item of a list of whatever -/
theorem rIx_lst {K : PySem.W.Frag} {l : Addr} {xs : List V} {i : Int} {v : V} {Q : VK} (h : H l = some (.lst xs)) (hv : atI xs i = some v) (q : Q v H) : rIx K (.ref l) (.int i) H Q := .inl ⟨_, _, i, v, rfl, rfl, .inl (.inl h), hv, q⟩
end
end GV

namespace GV
open PySem PySem.Spec PyProof.Rows L2
section
variable {X : Cx} {σ : St} {H : Hp} {e elt : Expr} {pos : Pos}
/-- [elt for x in range(e)], where elt may change things -/
theorem ce_lcR {slot : Nat} {x : Str} {p p1 p2 : Pos} {scope : Scope} {own : List (Str × Nat)} {Q : VK} (hc : X.calm = true) (hN : X.N.Nodup) (hg : Gl X "range") (hm : X.mg "range" = none) (ok : BlkOk X.N X.env.scope scope own)
    (hx : ∀ s H C cl fp, PG (Cx.lc X s H scope C cl fp) (.Name x p2) (gName slot)) (hw : ∀ v, wipe ((wipe σ (own.map (·.2))).set slot (some v)) (own.map (·.2)) = wipe σ (own.map (·.2)))
    (h : wE X e σ H fun v H1 => ∃ n : Nat, v = .int (n : Nat) ∧ n ≤ 1000000 ∧ ∀ D, H1 D = none → ∃ J : Nat → Hp → Prop, J 0 (upd H1 D (.lst [])) ∧
      (∀ i H', i < n → J i H' → ∀ s0 H0 C cl fp, wE (Cx.lc X s0 H0 scope C cl fp) elt ((wipe σ (own.map (·.2))).set slot (some (.int (i : Nat)))) H' fun y H4 => ∃ acc, H4 D = some (.lst acc) ∧ acc.length < 100000 ∧ J (i + 1) (upd H4 D (.lst (acc ++ [y])))) ∧ ∀ H', J n H' → Q (.ref D) H')
    (hs : starEach [e] X.env = [(false, eval e X.env)] := by rfl) (hs' : starEach (e :: []) X.env = (false, eval e X.env) :: starEach [] X.env := by rfl)
    (hf : ∀ x, foldedSetIterable (.Call (.Name "range" p) [e] [] p1) X.env x = pure x := by intro _; rfl) : wE X (.ListComp elt [⟨.Name x p2, .Call (.Name "range" p) [e] [] p1, [], 0⟩] scope pos) σ H Q := by
  refine ⟨_, pe_lc (tt := fun σ H Q => Q true H) (te := fun σ H Q => ∀ s0 H0 C cl fp, wE (Cx.lc X s0 H0 scope C cl fp) elt σ H Q) hc hN (pi_range1 hg hm wA.pa hs) ok hx (fun _ _ _ _ _ => ⟨fun pins s σ H Q I h => pts_nil.run pins s σ H Q I h⟩)
    (fun s0 H0 C cl fp => ⟨fun pins s σ H Q I h => wE.pe.run pins s σ H Q I (h s0 H0 C cl fp)⟩) hf, ca_cons (wE.weak h ?_) hs'⟩
  rintro v H1 ⟨n, rfl, hn, run⟩
  refine ca_nil ⟨(n : Nat), rfl, by omega, by omega, ?_⟩
  rw [show ((n : Nat) : Int).toNat = n by omega]
  intro D hD
  obtain ⟨J, h0, ht, hd⟩ := run D hD
  refine ⟨fun i m H' => m = n - i ∧ i ≤ n ∧ J i H', ⟨n, rfl, Nat.zero_le _, h0⟩, ?_⟩
  rintro i m H' ⟨rfl, hi', j⟩
  have wk := wk_range (K := X.K) (M := M0) (H := H') 0 n
  have ln : ((List.range n).map fun i => PyData.int (0 + (i : Nat))).length = n := by simp
  by_cases hlt : i < n
  · refine .inr ⟨wk.go M0 i H' (fun _ z => z.elim) (ExM.refl _) (by rw [ln]; exact hlt), J (i + 1), fun H2 j2 => ⟨n - (i + 1), by omega, rfl, hlt, j2⟩, fun x H2 y => ?_⟩
    obtain ⟨rfl, rfl⟩ := y
    rw [Int.zero_add]
    refine ⟨hw _, ?_⟩
    show if true = true then _ else _
    rw [if_pos rfl]
    intro s0 H0 C cl fp
    refine wE.weak (ht i _ hlt j s0 H0 C cl fp) ?_
    rintro y H4 ⟨acc, h1, h2, h3⟩
    exact ⟨acc, h1, Nat.lt_of_lt_of_le h2 (by rw [sizeLine_eq]; decide), h3⟩
  · have e2 : i = n := by omega
    subst e2
    have := wk.stop M0 H' (fun _ z => z.elim) (ExM.refl _)
    rw [ln] at this
    exact .inl ⟨this, hd H' j⟩
end
end GV
namespace GV
open PySem PySem.Spec PyProof.Rows L2
section
variable {X : Cx} {M : Addr → Prop} {σ : St} {H : Hp} {a : Expr} {d : PyData} {pos : Pos}
theorem kitAny2 {K : PySem.W.Frag} {t S T : String} {j k : Bool} (h1 : kitB t S = some j) (h2 : kitB t T = some k) : PySem.W.kitAny K (.type t) [.type S, .type T] = some (j || k) := by
  have e1 := kit_ty (K := K) h1
  have e2 := kit_ty (K := K) h2
  show (match PySem.W.kitOne K (.type t) (.type S) with
    | some true => some true
    | some false => PySem.W.kitAny K (.type t) [.type T]
    | none => none) = _
  rw [e1]
  cases j with
  | true => rfl
  | false =>
    show (match PySem.W.kitOne K (.type t) (.type T) with
      | some true => some true
      | some false => PySem.W.kitAny K (.type t) []
      | none => none) = _
    rw [e2]
    cases k <;> rfl
/-- isinstance(a, (S, T)) -/
theorem pd_isi2 {S T : String} {x y : Str} {p p1 p2 p3 : Pos} {n : Nat} {j k : Bool} (hg : Gl X "isinstance") (hm : X.mg "isinstance" = none) (hgS : Gl X x) (hmS : X.mg x = none) (hvS : bootBuiltins x = some (.type S)) (hgT : Gl X y) (hmT : X.mg y = none) (hvT : bootBuiltins y = some (.type T)) (ha : PD X M a σ H d) (hj : kitB (tyD d) S = some j) (hk : kitB (tyD d) T = some k)
    (nx : x ≠ "__name__" := by decide) (dx : (x == ("__debug__" : Str)) = false := by decide) (ny : y ≠ "__name__" := by decide) (dy : (y == ("__debug__" : Str)) = false := by decide)
    (h1 : starEach (a :: [.Tuple [.Name x p1, .Name y p2] n p3]) X.env = (false, eval a X.env) :: starEach [.Tuple [.Name x p1, .Name y p2] n p3] X.env := by rfl) (h2 : starEach (.Tuple [.Name x p1, .Name y p2] n p3 :: []) X.env = (false, eval (.Tuple [.Name x p1, .Name y p2] n p3) X.env) :: starEach [] X.env := by rfl)
    (h3 : starEach (.Name x p1 :: [.Name y p2]) X.env = (false, eval (.Name x p1) X.env) :: starEach [.Name y p2] X.env := by rfl) (h4 : starEach (.Name y p2 :: []) X.env = (false, eval (.Name y p2) X.env) :: starEach [] X.env := by rfl)
    (hpl : (backTo pos (starEach [.Tuple [.Name x p1, .Name y p2] n p3] X.env)).any (·.1) = false := by rfl) :
    PD X M (.Call (.Name "isinstance" p) [a, .Tuple [.Name x p1, .Name y p2] n p3] [] pos) σ H (.bool (j || k)) := .mk fun H1 e1 al Q q =>
  ⟨_, pe_callB call_isiT hg hm PyProof.Rows.boot_isinstance (pa_cons wE.pe (pa_cons (pe_tup (pa_cons (pe_bltn (v := .ty S) hgS hmS hvS rfl nx dx) (pa_cons (pe_bltn (v := .ty T) hgT hmT hvT rfl ny dy) pa_nil h4) h3)) pa_nil h2) h1) (by decide) (by decide) h1 hpl, ha.run H1 e1 al _ fun v H2 x2 r =>
    ⟨Evl.sz_of (by show 2 ≤ 100000; decide), fun t ht => ⟨v, t, [.ty S, .ty T], .type (tyD d), [.type S, .type T], j || k, rfl, upd_same, .cons (.ty S) (.cons (.ty T) .nil), (r.mono (fun _ z => z) (.of (Evl.Ex.new ht))).tyX, kitAny2 hj hk, q _ _ (x2.trans (Evl.Ex.new ht)) (.bl _)⟩⟩⟩
end
end GV

namespace GV
open PySem PySem.Spec PyProof.Rows L2
section
variable {X : Cx} {M : Addr → Prop} {σ : St} {H : Hp} {a b e : Expr} {d : PyData} {ds : List PyData} {pos : Pos}
theorem cut_all {xs : List PyData} {lo hi : Option Int} (h : HT.sIx xs.length 0 lo = 0 ∧ HT.sIx xs.length xs.length hi = xs.length) : cutD xs lo hi = xs := by
  unfold cutD
  rw [h.1, h.2, List.drop_zero, Nat.sub_zero, List.take_length]
/-- a slice of a tuple -/
theorem pd_sliceT {lo hi : Option Expr} {l u : Option Int} {p2 : Pos} (h : PD X M e σ H (.tuple ds)) (hl : OD X M lo σ H l) (hu : OD X M hi σ H u) : PD X M (.Subscript e (.Slice lo hi none p2) pos) σ H (.tuple (cutD ds l u)) := by
  obtain ⟨tl, pl, rl⟩ := hl.ex
  obtain ⟨tu, pu, ru⟩ := hu.ex
  refine .mk fun H1 e1 al Q q => ⟨_, pe_slice sl_tupA wE.pe pl pu, h.run H1 e1 al _ fun x H2 x2 r => ?_⟩
  refine rl H2 (e1.trans (.of x2)) (al.mono x2) _ fun H3 x3 => ru H3 ((e1.trans (.of x2)).trans (.of x3)) ((al.mono x2).mono x3) _ fun H4 x4 => ?_
  have r4 := r.mono (fun _ z => z) (.of (x3.trans x4))
  have x24 := x2.trans (x3.trans x4)
  cases r4 with
  | tup m hs rs =>
    refine ⟨_, _, rfl, .inl hs, fun hall => ?_, fun _ p hp => ?_⟩
    · rw [rs.length] at hall
      refine q _ H4 x24 ?_
      rw [cut_all hall]
      exact .tup m hs rs
    · exact q _ _ (x24.trans (Evl.Ex.new hp)) (.newT (X := X) (al.mono x24) hp (rs.cut l u))
/-- min(e, default=f) of a tuple of whole numbers -/
def rMinDfT (K : PySem.W.Frag) : List V → List V → Hp → VK → Prop := fun xs zs H Q => ∃ (a : Addr) (ns : List Int) (z : V), xs = [.ref a] ∧ zs = [z] ∧ SqT K H a (ns.map V.int) ∧ (ns = [] → Q z H) ∧ (∀ n r, ns = n :: r → Q (.int (r.foldl min n)) H)
theorem cr_minDfT (hc : X.calm = true) (hu : X.A.units + 2 < cLine) : CallRK X (.builtin "min") ["default"] (rMinDfT X.K) := by
  intro pins s σ H xs zs us ws Q I rx rz h
  obtain ⟨a, ns, z, rfl, rfl, hs, q0, q1⟩ := h
  obtain ⟨w, rfl, rw'⟩ := vals1 rz
  rw [Vals.ref1 rx]
  obtain ⟨its, rv, pl, _⟩ := I.tuple hs
  obtain ⟨as, hr⟩ := Dp.readsAll I _ _ its (dpAll_ints ns) rv
  refine PySem.W.min_tuple_default (I.ok.hd hc) pl hr (ints_alike ns) (by rw [ints_depth]; omega) (fun e h' tk k => ?_) (fun y ys i v h' tk bs e hv hrd k => ?_)
  · refine ⟨z, H, I.kept k, rw', q0 ?_⟩
    cases ns with
    | nil => rfl
    | cons n r => cases e
  · cases ns with
    | nil => cases e
    | cons n r =>
      cases e
      rw [PySem.W.minD_ints] at hrd
      cases hrd with
      | int i t => exact ⟨.int _, H, I.kept k, ⟨t, rfl⟩, q1 n r rfl⟩
theorem pd_minDfT {p kp : Pos} {ns : List Int} (hc : X.calm = true) (hu : X.A.units + 2 < cLine) (hg : Gl X "min") (hm : X.mg "min" = none) (ha : PD X M a σ H (.tuple (ns.map PyData.int))) (hb : PD X M b σ H d)
    (h1 : starEach (a :: []) X.env = (false, eval a X.env) :: starEach [] X.env := by rfl)
    (he : backTo pos (starEach (a :: []) X.env) = (false, eval a X.env) :: backTo pos (starEach [] X.env) := by rfl) (hpl : (backTo pos (starEach (a :: []) X.env)).any (·.1) = false := by rfl)
    (hall : (backToKw pos (keywordEach [⟨some "default", b, kp⟩] X.env)).all (·.1.isSome) = true := by rfl) (hnone : (backToKw pos (keywordEach [⟨some "default", b, kp⟩] X.env)).any (·.1.isNone) = false := by rfl)
    (hks : (backToKw pos (keywordEach [⟨some "default", b, kp⟩] X.env)).filterMap (·.1) = (["default"] : List Str) := by rfl) :
    PD X M (.Call (.Name "min" p) [a] [⟨some "default", b, kp⟩] pos) σ H (minOr d ns) := .mk fun H1 e1 al Q q =>
  ⟨_, pe_callBK (cr_minDfT hc hu) hg hm PyProof.Rows.boot_min (pa_cons wE.pe pa_nil h1) (pk_cons wE.pe pk_nil) (by decide) (by decide) he hpl hall hnone hks, ha.run H1 e1 al _ fun v H2 x2 r => hb.run H2 (e1.trans (.of x2)) (al.mono x2) _ fun w H3 x3 rw' => by
    have r3 := r.mono (fun _ z => z) (.of x3)
    cases r3 with
    | tup m hs rs =>
      refine ⟨_, ns, w, rfl, rfl, .inl (by rw [← rs.of_ints]; exact hs), fun e => q _ H3 (x2.trans x3) ?_, fun n r e => q _ H3 (x2.trans x3) ?_⟩
      · rw [e]
        exact rw'
      · rw [e]
        exact .int _⟩
end
end GV

namespace GV
open PySem PySem.Spec PyProof.Rows L2
open Sem (wp)
open AutoSeq1 (wpAny_loadPart')
/-! ### enumerate(a tuple) -/
theorem meets_enumT (l : Addr) (items : Array Value) : Meets (Builtin.«enumerate.__new__» ⟨[.type "enumerate", .ref l], []⟩) (fun _ R s => s.heap.IsTuple l items ∧
      R (.ok (.ret (.ref (s.heap.push { cls := .type "tuple_iterator", data := .fields #[.ref l, .int 0 0] }).objs.size)))
        { s with heap := (s.heap.push { cls := .type "tuple_iterator", data := .fields #[.ref l, .int 0 0] }).push { cls := .type "enumerate", data := .fields #[.none, .bool false, .ref s.heap.objs.size, rawInt 0, .none, .none] } }) :=
  .of_wp fun prog w A R s h => by
    obtain ⟨hp, g, d, tk, os⟩ := s; obtain ⟨hl, h⟩ := h
    have hsub := sub_enumerate
    have q1 : ∀ {A' : Around} {E : Value → Shared → Prop} {Q : Value → Shared → Prop}, Q (.ref hp.objs.size) ⟨hp.push { cls := .type "tuple_iterator", data := .fields #[.ref l, .int 0 0] }, g, d, tk, os⟩ → wpAny (model prog w) A' (pyIter (.ref l)) Q E ⟨hp, g, d, tk, os⟩ :=
      fun q => wpAny_pyIter_tuple hl q
    wp_walk using q1
    refine wpAny_stack_any fun st => wpAny_pure ?_
    split
    · rename_i c _ _ _ _ _
      cases (c == Value.type "enumerate")
      · wp_walk using q1
        exact ⟨_, rfl, h⟩
      · wp_walk using q1
        exact ⟨_, rfl, h⟩
    · wp_walk using q1
      exact ⟨_, rfl, h⟩
theorem call_enumT {prog : Program} {w : World} {A : Around} {E : Value → Shared → Prop} {s : Shared} {l : Addr} {items : Array Value} {Q : Value → Shared → Prop} (hL : s.heap.IsTuple l items)
    (h : ∀ h', IsEnum h' (s.heap.objs.size + 1) s.heap.objs.size 0 .none → h'.IsTupleIter s.heap.objs.size l 0 → h'.objs.size = s.heap.objs.size + 2 →
      (∀ b o, s.heap.get? b = some o → h'.get? b = some o) → Q (.ref (s.heap.objs.size + 1)) { s with heap := h' }) :
    wpAny (model prog w) A (call (.type "enumerate") [.ref l]) Q E s := by
  refine callType_new F.called_enumerate (by decide) (F.typeCall_enumerate_1 _) (F.newCall_enumerate_1 _) (fun obj => F.args_object_init_2 obj _) F.entry_enumerate_new (meets_enumT l items) ⟨hL, ?_⟩
  have hz : (s.heap.push { cls := .type "tuple_iterator", data := .fields #[.ref l, .int 0 0] }).objs.size = s.heap.objs.size + 1 := Heap.size_push ..
  show _ ∧ _
  rw [hz]
  have he : IsEnum ((s.heap.push { cls := .type "tuple_iterator", data := .fields #[.ref l, .int 0 0] }).push { cls := .type "enumerate", data := .fields #[.none, .bool false, .ref s.heap.objs.size, rawInt 0, .none, .none] }) (s.heap.objs.size + 1) s.heap.objs.size 0 .none := by
    have := Heap.get?_push_size (s.heap.push { cls := .type "tuple_iterator", data := .fields #[.ref l, .int 0 0] }) (o := { cls := .type "enumerate", data := .fields #[.none, .bool false, .ref s.heap.objs.size, rawInt 0, .none, .none] }) rfl
    rw [hz] at this; exact this
  exact ⟨⟨_, he, rfl⟩, h _ he ⟨_, Heap.get?_push_of_some _ (Heap.get?_push_size _ rfl), rfl, rfl⟩ (by rw [Heap.size_push, hz]) fun b o x => Heap.get?_push_of_some _ (Heap.get?_push_of_some _ x)⟩
def IteT (K : PySem.W.Frag) (a : Addr) : It :=
  ⟨fun i H => ∃ (xs : List V) (x : V), SqT K H a xs ∧ xs[i]? = some x, fun i H v H' => ∃ T x, v = .ref T ∧ H T = none ∧ H' = upd H T (.tup [.int (i : Nat), x]) ∧ ∀ xs, SqT K H a xs → xs[i]? = some x, fun i H => ∃ xs : List V, SqT K H a xs ∧ xs.length ≤ i⟩
theorem turn_enumT {P : Program} {w : World} {K : PySem.W.Frag} {elts : List Expr} {kk : Nat} {tpos : Pos} (a e it : Addr) :
    Turn P w K (.Tuple elts kk tpos) (IteT K a) [e, it] e (fun i h => (∃ old, IsEnum h e it ((i : Nat) : Int) old) ∧ h.IsTupleIter it a i ∧ e ≠ it ∧ a ≠ e ∧ a ≠ it) where
  mem := by simp
  obj := fun i h st b hb => by
    obtain ⟨⟨old, he⟩, ⟨o, ho, hc, hd⟩, _⟩ := st
    have e' : b = e ∨ b = it := by simpa using hb
    rcases e' with z | z
    · rw [z]; exact ⟨_, he, fun v q => nomatch q⟩
    · rw [z]; exact ⟨o, ho, fun v q => by rw [hd] at q; cases q⟩
  keep := fun i h h' st k => let ⟨⟨old, he⟩, hi, hne⟩ := st; ⟨⟨old, k e (by simp) _ he⟩, hi.at fun o q => k it (by simp) o q, hne⟩
  item := by
    intro X hP hw hK hc i pins s σ H E I hf st hg
    subst hP hw hK
    obtain ⟨⟨old, he⟩, hit, hne, hae, hai⟩ := st
    obtain ⟨xs, x, hq, hx⟩ := hg
    obtain ⟨its, rv, p, hz⟩ := I.tuple hq
    obtain ⟨u, hu, ru⟩ := rv.get hx
    have hel : e < s.heap.objs.size := Heap.lt_size he
    have hil : it < s.heap.objs.size := by obtain ⟨_, q, _⟩ := hit; exact Heap.lt_size q
    have hlt : i < its.toArray.size := by
      rw [List.size_toArray]
      exact (List.getElem?_eq_some_iff.mp hu).1
    refine wpAny_pyNext_enum_itemC (Draws.tuple (A := X.A.in1) (show X.A.in1.handled = none from I.ok.hd hc) it a hai its.toArray) he ⟨hit, p⟩ hlt hne (by simp [hne, Ne.symm hae]) fun x' h' tk hP ho hit' hT hsz hk => ?_
    obtain rfl : u = x' := by
      have e1 : its[i]? = some x' := by simpa using hP
      rw [hu] at e1
      exact Option.some.inj e1
    obtain ⟨hit', _⟩ := hit'
    refine ⟨_, rfl, wpAny_letOwnedTupleGo_enum (s := { s with heap := h', toks := tk + 1 }) ho fun h'' he' sb => ?_⟩
    have hT2 : h''.get? s.heap.objs.size = some { cls := .type "tuple", data := .seq #[.int i tk, u] } := (sb.2 _ (Nat.ne_of_gt hel)).trans hT
    have new : ObjOk X.prog X.w (upd H s.heap.objs.size (.tup [.int (i : Nat), x])) h'' s.heap.objs.size (.tup [.int (i : Nat), x]) :=
      ⟨by show 2 ≤ sizeLine; decide, [.int i tk, u], .cons ⟨_, rfl⟩ (.cons ru .nil), ⟨_, hT2, rfl, _, rfl⟩⟩
    have I1 : Inv X pins σ (upd H s.heap.objs.size (.tup [.int (i : Nat), x])) { s with heap := h'', toks := tk + 1 } :=
      I.turnedNew (ch := [e, it]) (fun b ob hb q => (sb.2 b (fun z => hb (by simp [z]))).trans (hk b ob (fun z => hb (by simp [z])) (fun z => hb (by simp [z])) q)) hf (Nat.le_refl _) new
    refine ⟨.ref s.heap.objs.size, _, I1, rfl, ⟨_, x, rfl, I.hok.fresh (Nat.le_refl _), rfl, fun ys hy => by rw [I.tuple_inj hy hq]; exact hx⟩, ⟨⟨u, ?_⟩, hit'.at fun o q => (sb.2 it (Ne.symm hne)).trans q, hne, hae, hai⟩, fun b hb => ?_⟩
    · have e1 : ((i + 1 : Nat) : Int) = (i : Int) + 1 := by omega
      rw [e1]; exact he'
    · have hb' : b < s.heap.objs.size := by
        have e' : b = e ∨ b = it := by simpa using hb
        rcases e' with z | z
        · rw [z]; exact hel
        · rw [z]; exact hil
      rw [upd_ne (Nat.ne_of_lt hb')]
      exact (hf b hb).1
  done := by
    intro X hP hw hK hc i pins s σ H E I hf st hg
    subst hP hw hK
    obtain ⟨⟨old, he⟩, hit, hne, hae, hai⟩ := st
    obtain ⟨xs, hq, hx⟩ := hg
    obtain ⟨its, rv, p, hz⟩ := I.tuple hq
    obtain ⟨f0, f1, f2, f3, f4, f5⟩ := hf it (by simp)
    have hl := rv.length
    obtain ⟨hp, g, d, tk, os⟩ := s
    have hT : (⟨hp, g, d, tk, os⟩ : Shared).TypeIs (.ref e) "enumerate" := ⟨_, he, rfl⟩
    unfold pyNext
    refine wpAny_bind (wpAny_attempt (wpAny_callSpecial?_slot (name := Str.ofString "__next__") hT F.slot_enumerate_next
      (wpAny_call_entry F.slot_enumerate_next hT F.entry_enumerate_next ?_ (F.args_enumerate_next_1 _))))
    show wpAny _ _ (field (.ref e) 2 >>= _) _ _ _
    refine wpAny_bind (wpAny_field he rfl (x := .ref it) rfl ?_)
    refine wpAny_bind (wpAny_nextOf_tuple_end (I.ok.hd hc) hit p (by simp; omega) fun h' x he' hx' => ?_)
    obtain ⟨o, ho, hc'⟩ := hx'
    refine wpAny_bind (wpAny_isInstance (T := "StopIteration") (b := true) ⟨o, ho, hc'⟩ isSubtype_stop ?_)
    exact wpAny_pure ⟨rfl, I.turned (t' := tk) (fun b o hb q => he' b o hb q) f0 f1 f3 f4 f5⟩
  self := fun A i s Q E st h => let ⟨⟨_, he⟩, _⟩ := st; wpAny_pyIter_enum he h
def iEnumT (K : PySem.W.Frag) (ta : TA) : TI := fun σ H R => ta σ H fun vs H1 => ∃ a xs, vs = [.ref a] ∧ SqT K H1 a xs ∧ R (IteT K a) H1
theorem pi_enumT {X : Cx} {e : Expr} {ta : TA} {p pos tpos : Pos} {elts : List Expr} {kk : Nat} (hg : Gl X "enumerate") (hm : X.mg "enumerate" = none) (ha : PA X [e] ta) (hs : starEach [e] X.env = [(false, eval e X.env)] := by rfl) :
    PI X (.Tuple elts kk tpos) (.Call (.Name "enumerate" p) [e] [] pos) (iEnumT X.K ta) := by
  refine ⟨fun pins s σ H R I h => ?_⟩
  refine Call_ (ld_blt I hg hm boot_enumerate (PyProof.Rows.callWith_type1 (thn (ha.run pos pins s σ H _ I h) fun us s1 ⟨vs, H1, I1, r1, q1⟩ => ?_) hs rfl))
  obtain ⟨a, xs, ex, hq, q⟩ := q1
  subst ex
  cases r1 with
  | cons r rr =>
    cases rr
    cases r
    obtain ⟨its, rv, p', hz⟩ := I1.tuple hq
    refine call_enumT p' fun h' he hit hsz hk => wpAny_pyIter_enum he ?_
    have I2 : Inv X pins σ H1 { s1 with heap := h' } := I1.kept (t' := s1.toks) hk
    have hal : a < s1.heap.objs.size := by obtain ⟨_, q, _⟩ := p'; exact Heap.lt_size q
    refine ⟨s1.heap.objs.size + 1, [s1.heap.objs.size + 1, s1.heap.objs.size], _, _, H1, rfl, I2, turn_enumT a (s1.heap.objs.size + 1) s1.heap.objs.size, ⟨⟨.none, he⟩, hit, Nat.succ_ne_self _, Nat.ne_of_lt (Nat.lt_succ_of_lt hal), Nat.ne_of_lt hal⟩, fun b hb => ?_, q⟩
    have e' : b = s1.heap.objs.size + 1 ∨ b = s1.heap.objs.size := by simpa using hb
    have hle : s1.heap.objs.size ≤ b := by
      rcases e' with z | z
      · rw [z]; exact Nat.le_add_right _ _
      · rw [z]; exact Nat.le_refl _
    exact I1.fpOk hle (I1.hok.fresh hle)
section
variable {X : Cx} {K : PySem.W.Frag} {M : Addr → Prop} {σ : St} {H : Hp} {e : Expr} {ds : List PyData} {pos : Pos}
theorem wk_enumT {a : Addr} {xs : List V} (m : ¬ M a) (h : Rd H a (.tup xs)) (r : RpAll K M H xs ds) : Wk K M (IteT K a) H (enumD ds) := by
  have nm : ∀ M' : Addr → Prop, (∀ a, M' a → M a ∨ H a = none) → ¬ M' a := fun M' hm z => (hm a z).elim m (Rd.there h)
  have at_ : ∀ (M' : Addr → Prop) (H' : Hp), (∀ a, M' a → M a ∨ H a = none) → ExM M' H H' → Rd H' a (.tup xs) := fun M' H' hm e => Rd.exT (M := M') h (nm M' hm) e
  refine ⟨fun M' i H' hm e hi => ?_, fun M' H' hm e => ?_, fun M' i H' x H'' hm e al y => ?_⟩
  · have hx : i < xs.length := by rw [r.length, ← enumD_length]; exact hi
    exact ⟨xs, xs[i], .inl (at_ M' H' hm e), List.getElem?_eq_getElem hx⟩
  · exact ⟨xs, .inl (at_ M' H' hm e), by rw [r.length, enumD_length]; exact Nat.le_refl _⟩
  · obtain ⟨T, z, rfl, hT, rfl, y⟩ := y
    refine ⟨Evl.Ex.new hT, fun d hd => ?_⟩
    obtain ⟨e', he, rfl⟩ := enumD_get hd
    obtain ⟨v, hv, rv⟩ := r.get he
    have q := y xs (.inl (at_ M' _ hm e))
    rw [hv] at q
    cases q
    exact .tup (al.fresh hT) (.inl upd_same) (.cons (.int _) (.cons (((rv.wide hm).mono (fun _ z => z) e).mono (fun _ z => z) (.of (Evl.Ex.new hT))) .nil))
theorem src_enumT {p tpos : Pos} {elts : List Expr} {kk : Nat} (hg : Gl X "enumerate") (hm : X.mg "enumerate" = none) (h : PD X M e σ H (.tuple ds)) (hs : starEach [e] X.env = [(false, eval e X.env)] := by rfl)
    (hs' : starEach (e :: []) X.env = (false, eval e X.env) :: starEach [] X.env := by rfl) : Src X M (.Tuple elts kk tpos) (.Call (.Name "enumerate" p) [e] [] pos) σ H (enumD ds) :=
  ⟨_, pi_enumT hg hm wA.pa hs, fun H1 e1 al R q => (ad_cons h ad_nil hs').run H1 e1 al _ fun vs H2 x2 rs => by
    obtain ⟨v, rfl, r⟩ := rpa1 rs
    cases r with
    | tup m hr rr => exact ⟨_, _, rfl, .inl hr, q _ H2 x2 (wk_enumT m hr rr)⟩⟩
end
end GV

namespace GV
open PySem PySem.Spec PyProof.Rows L2
section
variable {X : Cx} {M : Addr → Prop} {σ : St} {H H' : Hp} {a b c e o i : Expr} {da db d : PyData} {pos : Pos} {es : List Expr} {ds : List PyData} {D : Ends}
/-- o.insert(i, e) -/
theorem ce_insert {apos cpos : Pos} {Q : VK} (h : wE X o σ H fun x H1 => ∃ l, x = .ref l ∧ (∃ ys, H1 l = some (.lst ys)) ∧ wE X i σ H1 fun n H2 => wE X e σ H2 fun y H3 => ∃ ys k, H3 l = some (.lst ys) ∧ n = .int (k : Nat) ∧ k ≤ 100000 ∧ ys.length < 100000 ∧ Q .non (upd H3 l (.lst (ys.take k ++ [y] ++ ys.drop k))))
    (h1 : attributeBase o ("insert" : Str) X.env (eval o X.env) = eval o X.env := by rfl)
    (h2 : ((((backTo cpos (starEach [i, e] X.env)).all fun x => !x.1) && (backToKw cpos (keywordEach [] X.env)).all fun x => x.1.isSome) && decide (([i, e].length + ([] : List Keyword).length + if ([] : List Keyword).isEmpty = true then 0 else 1) < 30)) = true := by rfl)
    (h3 : (apos.endLine == cpos.line) = true := by rfl) (h4 : starEach (i :: [e]) X.env = (false, eval i X.env) :: starEach [e] X.env := by rfl) (h6 : starEach (e :: []) X.env = (false, eval e X.env) :: starEach [] X.env := by rfl) (h5 : (backTo cpos (starEach [e] X.env)).any (·.1) = false := by rfl) :
    wE X (.Call (.Attribute o "insert" apos) [i, e] [] cpos) σ H Q := by
  refine ⟨_, pe_bm PySem.F.plainAttrs_list PySem.F.slot_list_insert PySem.F.type_list_insert mt_insert (wE.pe) (pa_cons wE.pe (pa_cons wE.pe pa_nil h6) h4) h1 h2 h3 h4 h5, ?_⟩
  refine wE.weak h ?_
  rintro x H1 ⟨l, rfl, ⟨ys0, hl⟩, hh⟩
  refine ⟨.inl ⟨rfl, _, SqL.of hl⟩, ?_⟩
  refine wE.weak hh ?_
  intro n H2 hh2
  refine wE.weak hh2 ?_
  rintro y H3 ⟨ys, k, hy, rfl, hk, hlen, q⟩
  refine ⟨l, ys, (k : Nat), y, rfl, rfl, hy, Nat.lt_of_lt_of_le hlen (by rw [sizeLine_eq]; decide), by omega, by omega, ?_⟩
  rw [show ((k : Nat) : Int).toNat = k by omega]
  exact q
/-- [..] * k -/
theorem ce_rep {Q : VK} (h : wE X a σ H fun x H2 => wE X b σ H2 fun y H3 => ∃ l xs k, x = .ref l ∧ y = .int (k : Nat) ∧ H3 l = some (.lst xs) ∧ xs.length * k ≤ 100000 ∧ k ≤ 100000 ∧ ∀ p, H3 p = none → Q (.ref p) (upd H3 p (.lst (List.replicate k xs).flatten))) : wE X (.BinOp a .Mult b pos) σ H Q := by
  refine ce_bin op_rep (wE.weak h fun x H2 h2 => wE.weak h2 ?_)
  rintro y H3 ⟨l, xs, k, rfl, rfl, hl, h1, h2, q⟩
  refine ⟨l, (k : Nat), xs, rfl, rfl, hl, by omega, by omega, ?_, ?_⟩
  · rw [show ((k : Nat) : Int).toNat = k by omega]
    exact Evl.sz_of h1
  · rw [show ((k : Nat) : Int).toNat = k by omega]
    exact q
theorem replicate_flat {α : Type} (k : Nat) (x : α) : (List.replicate k [x]).flatten = List.replicate k x := by
  induction k with
  | zero => rfl
  | succ k ih => rw [List.replicate_succ, List.flatten_cons, ih]; rfl
/-- list(range(n)) -/
theorem fd_listRange {p p2 p3 : Pos} {n : Int} (hc : X.calm = true) (hg : Gl X "list") (hm : X.mg "list" = none) (hg2 : Gl X "range") (hm2 : X.mg "range" = none) (h : PD X M e σ H (.int n)) (h0 : 0 ≤ n) (h1 : n ≤ 100000)
    (na : starEach [e] X.env = (false, eval e X.env) :: starEach [] X.env := by rfl) (nb : starEach [.Call (.Name "range" p2) [e] [] p3] X.env = (false, eval (.Call (.Name "range" p2) [e] [] p3) X.env) :: starEach [] X.env := by rfl) :
    FD X M (.Call (.Name "list" p) [.Call (.Name "range" p2) [e] [] p3] [] pos) σ H (((List.range n.toNat).map Int.ofNat).map PyData.int) := .mk fun H1 e1 al Q q =>
  ⟨_, pe_listRg hc hg hm (prg_1 hg2 hm2 wE.pe na) nb, h.run H1 e1 al _ fun v H2 x2 r => by
    cases r
    refine ⟨n, rfl, RgOk.of_le (by omega) (by omega) (by omega) h0, fun l hl => q l _ _ (Evl.fresh_back x2 hl) (x2.trans (Evl.Ex.new hl)) upd_same ?_⟩
    have e2 : rgV 0 n = ((List.range n.toNat).map Int.ofNat).map V.int := by
      unfold rgV
      rw [List.map_map, Int.sub_zero]
      exact List.map_congr_left fun i _ => by
        show V.int (0 + (i : Nat)) = V.int (i : Nat)
        rw [Int.zero_add]
    rw [e2]
    exact RpAll.ints _⟩
/-! ### dicts, as far as they are looked at -/
theorem ce_dict0 {Q : VK} (h : ∀ p, H p = none → Q (.ref p) (upd H p (.dK []))) : wE X (.Dict [] [] pos) σ H Q := ⟨_, pe_dnewK, h⟩
/-- {1: 2} -/
theorem ce_dict1 {i j : Int} {t t2} {p1 p2 : Pos} {Q : VK} (h : ∀ p, H p = none → Q (.ref p) (upd H p (.dK [(.inl i, .int j)]))) : wE X (.Dict [some (.Constant (.int i) t p1)] [.Constant (.int j) t2 p2] pos) σ H Q := by
  refine ⟨_, pe_disp (pps_cons pe_int pe_int pps_nil) rfl rfl (by simp) (by show 1 ≤ 15; decide), fun p hp => ?_⟩
  refine ⟨upd_same, [(.inl i, .int j)], rfl, by show 1 ≤ 15; decide, ?_⟩
  have e : upd (upd H p (.dK [])) p (.dK (mergeK [] [(Sum.inl i, V.int j)])) = upd H p (.dK [(.inl i, .int j)]) := by
    funext x
    by_cases hx : x = p
    · subst hx
      rw [upd_same, upd_same]
      rfl
    · rw [upd_ne hx, upd_ne hx, upd_ne hx]
  rw [e]
  exact h p hp
/-- isinstance(a, (S, T)) of a dict -/
theorem pd_isi2D {S T : String} {x y : Str} {p p1 p2 p3 : Pos} {n : Nat} {j k : Bool} {A : Addr} {kvs : List (Key × V)} (hg : Gl X "isinstance") (hm : X.mg "isinstance" = none) (hgS : Gl X x) (hmS : X.mg x = none) (hvS : bootBuiltins x = some (.type S)) (hgT : Gl X y) (hmT : X.mg y = none) (hvT : bootBuiltins y = some (.type T)) (ha : ∀ H1 (Q : VK), Q (.ref A) H1 → wE X a σ H1 Q) (hA : H A = some (.dK kvs)) (nM : ¬ M A) (hj : kitB "dict" S = some j) (hk : kitB "dict" T = some k)
    (nx : x ≠ "__name__" := by decide) (dx : (x == ("__debug__" : Str)) = false := by decide) (ny : y ≠ "__name__" := by decide) (dy : (y == ("__debug__" : Str)) = false := by decide)
    (h1 : starEach (a :: [.Tuple [.Name x p1, .Name y p2] n p3]) X.env = (false, eval a X.env) :: starEach [.Tuple [.Name x p1, .Name y p2] n p3] X.env := by rfl) (h2 : starEach (.Tuple [.Name x p1, .Name y p2] n p3 :: []) X.env = (false, eval (.Tuple [.Name x p1, .Name y p2] n p3) X.env) :: starEach [] X.env := by rfl)
    (h3 : starEach (.Name x p1 :: [.Name y p2]) X.env = (false, eval (.Name x p1) X.env) :: starEach [.Name y p2] X.env := by rfl) (h4 : starEach (.Name y p2 :: []) X.env = (false, eval (.Name y p2) X.env) :: starEach [] X.env := by rfl)
    (hpl : (backTo pos (starEach [.Tuple [.Name x p1, .Name y p2] n p3] X.env)).any (·.1) = false := by rfl) :
    PD X M (.Call (.Name "isinstance" p) [a, .Tuple [.Name x p1, .Name y p2] n p3] [] pos) σ H (.bool (j || k)) := .mk fun H1 e1 al Q q =>
  ⟨_, pe_callB call_isiT hg hm PyProof.Rows.boot_isinstance (pa_cons wE.pe (pa_cons (pe_tup (pa_cons (pe_bltn (v := .ty S) hgS hmS hvS rfl nx dx) (pa_cons (pe_bltn (v := .ty T) hgT hmT hvT rfl ny dy) pa_nil h4) h3)) pa_nil h2) h1) (by decide) (by decide) h1 hpl, ha _ _
    ⟨Evl.sz_of (by show 2 ≤ 100000; decide), fun t ht => ⟨.ref A, t, [.ty S, .ty T], .type "dict", [.type S, .type T], j || k, rfl, upd_same, .cons (.ty S) (.cons (.ty T) .nil), .base (.dK (Evl.Ex.new ht _ _ (e1 _ _ hA nM fun _ z => by cases z))), kitAny2 hj hk, q _ _ (Evl.Ex.new ht) (.bl _)⟩⟩⟩
/-! ### == of tuples that hold the same things -/
def sameB : V → Bool
  | .ref _ => true
  | v => flatB v
def rEqSame (K : PySem.W.Frag) : R2 := fun x y H Q => ∃ a b xs, x = .ref a ∧ y = .ref b ∧ SqT K H a xs ∧ SqT K H b xs ∧ (∀ v ∈ xs, sameB v = true) ∧ Q (.bl true) H
theorem op_eqSame (hu : X.A.units < cLine) : OpR X (compareOp .Eq) (rEqSame X.K) := by
  intro pins s σ H x y v u Q I rx ry h
  obtain ⟨a, b, xs, rfl, rfl, ha, hb, hs, q⟩ := h
  cases (show v = Value.ref a from rx)
  cases (show u = Value.ref b from ry)
  obtain ⟨us, r1, p1, _⟩ := I.tuple ha
  obtain ⟨ws, r2, p2, _⟩ := I.tuple hb
  have l1 := r1.length
  have l2 := r2.length
  refine SeqAt.RcAt.tuples (e := fun _ => true) p1 p2 hu (fun j h1 h2 => ?_) X.prog X.w X.xe _ ?_
  · have hj : j < xs.length := by
      rw [l1]
      simpa using h1
    have hx : xs[j]? = some xs[j] := List.getElem?_eq_getElem hj
    obtain ⟨v1, e1, rv1⟩ := r1.get hx
    obtain ⟨v2, e2, rv2⟩ := r2.get hx
    have f1 : us.toArray[j] = v1 := by
      have : us[j]? = some us[j] := List.getElem?_eq_getElem (by simpa using h1)
      rw [this] at e1
      simpa using e1
    have f2 : ws.toArray[j] = v2 := by
      have : ws[j]? = some ws[j] := List.getElem?_eq_getElem (by simpa using h2)
      rw [this] at e2
      simpa using e2
    rw [f1, f2]
    have hv := hs _ (List.getElem_mem hj)
    generalize xs[j] = z at rv1 rv2 hv
    cases z with
    | ref r =>
      cases (show v1 = Value.ref r from rv1)
      cases (show v2 = Value.ref r from rv2)
      exact SeqAt.EqAt.same _
    | _ => exact eqAt_same rv1 rv2 hv
  · refine ⟨.bl true, H, I, ?_, q⟩
    have e1 : us.toArray.size = ws.toArray.size := by
      rw [List.size_toArray, List.size_toArray, ← l1, ← l2]
    rw [e1, show ((List.range (min ws.toArray.size ws.toArray.size)).all fun _ => true) = true from List.all_eq_true.mpr fun _ _ => rfl]
    simp [L2.RelV]
theorem ce_eqSame {Q : VK} (hu : X.A.units + 64 < cLine) (h : wE X a σ H fun x H2 => wE X b σ H2 fun y H3 => rEqSame X.K x y H3 Q) : wE X (.Compare a [.Eq] [b] pos) σ H Q := ⟨_, pe_cmpR (op_eqSame (by omega)) wE.pe wE.pe (nomark _), h⟩
/-! ### max of a tuple -/
theorem fold_max (r : List Int) (n : Int) : (n ≤ r.foldl max n ∧ ∀ a ∈ r, a ≤ r.foldl max n) ∧ (r.foldl max n = n ∨ r.foldl max n ∈ r) := by
  induction r generalizing n with
  | nil => exact ⟨⟨Int.le_refl _, fun a h => by cases h⟩, .inl rfl⟩
  | cons y r ih =>
    obtain ⟨⟨h1, h2⟩, h3⟩ := ih (max n y)
    refine ⟨⟨Int.le_trans (Int.le_max_left _ _) h1, fun a ha => ?_⟩, ?_⟩
    · rcases List.mem_cons.mp ha with e | ha
      · subst e
        exact Int.le_trans (Int.le_max_right _ _) h1
      · exact h2 a ha
    · show (r.foldl max (max n y) = n ∨ r.foldl max (max n y) ∈ y :: r)
      rcases h3 with e | h3
      · by_cases hny : y ≤ n
        · left
          rw [e, Int.max_eq_left hny]
        · right
          rw [e, Int.max_eq_right (by omega)]
          exact List.mem_cons_self
      · exact .inr (List.mem_cons_of_mem _ h3)
def rMaxT (K : PySem.W.Frag) : List V → Hp → VK → Prop := fun vs H Q => ∃ (a : Addr) (n : Int) (r : List Int), vs = [.ref a] ∧ SqT K H a ((n :: r).map V.int) ∧ Q (.int (r.foldl max n)) H
theorem cr_maxT (hc : X.calm = true) (hu : X.A.units + 2 < cLine) : CallR X (.builtin "max") (rMaxT X.K) := by
  intro pins s σ H xs us Q I r h
  obtain ⟨a, n, ns, rfl, hs, q⟩ := h
  rw [Vals.ref1 r]
  obtain ⟨its, rv, pl, _⟩ := I.tuple hs
  obtain ⟨as, hr⟩ := Dp.readsAll I _ _ its (dpAll_ints (n :: ns)) rv
  refine PySem.W.max_tuple_data (I.ok.hd hc) pl hr (ints_alike (n :: ns)) ?_ fun i v h' tk bs hv hrd k => ?_
  · have e := ints_depth (n :: ns)
    have e2 : PyData.depthAll (PyData.int n :: ns.map PyData.int) = 0 := e
    rw [e2]
    omega
  · rw [PySem.W.maxD_ints] at hrd
    cases hrd with
    | int i t => exact ⟨.int _, H, I.kept k, ⟨t, rfl⟩, q⟩
theorem rn_maxT {ns : List Int} {m : Int} (hm : m ∈ ns) (hx : ∀ y ∈ ns, y ≤ m) : RDn X M (rMaxT X.K) [.tuple (ns.map PyData.int)] (.int m) := fun vs H1 r _ Q q => by
  obtain ⟨v, rfl, r1⟩ := rpa1 r
  cases r1 with
  | tup m' hs rs =>
    cases ns with
    | nil => cases hm
    | cons n l =>
      refine ⟨_, n, l, rfl, .inl (by rw [← rs.of_ints]; exact hs), q _ H1 (Evl.Ex.refl H1) ?_⟩
      obtain ⟨⟨h1, h2⟩, h3⟩ := fold_max l n
      have e : l.foldl max n = m := by
        apply Int.le_antisymm
        · rcases h3 with e | h3
          · rw [e]
            exact hx n List.mem_cons_self
          · exact hx _ (List.mem_cons_of_mem _ h3)
        · rcases List.mem_cons.mp hm with e | hm
          · rw [e]
            exact h1
          · exact h2 m hm
      rw [e]
      exact .int _
/-! ### sorted(set(a tuple of whole numbers)) -/
theorem fd_sortedSetT {p p2 q2 : Pos} {ns out : List Int} (hc : X.calm = true) (hg : Gl X "sorted") (hm : X.mg "sorted" = none) (hg2 : Gl X "set") (hm2 : X.mg "set" = none) (ha : PD X M a σ H (.tuple (ns.map PyData.int)))
    (hl : ns.length < 64) (ho : out.Pairwise (· < ·)) (hmem : ∀ k, k ∈ out ↔ k ∈ ns)
    (na : starEach [a] X.env = (false, eval a X.env) :: starEach [] X.env := by rfl) : FD X M (.Call (.Name "sorted" p) [.Call (.Name "set" p2) [a] [] q2] [] pos) σ H (out.map PyData.int) := .mk fun H1 e1 al Q q => by
  refine ⟨fun σ H Q => wE X a σ H fun x H1 => ∃ l, x = V.ref l ∧ SqT X.K H1 l (ns.map V.int) ∧ ∀ p, H1 p = none → Q (.ref p) (upd H1 p (.lst (out.map V.int))), ⟨fun pins s σ H Q I h => ?_⟩, ?_⟩
  · refine Call_ (ld_blt I hg hm PyProof.Rows.boot_sorted ?_)
    refine PyProof.Rows.callWith_builtin1 (PyProof.Rows.args_cons ?_ rfl) rfl rfl
    refine Call_ (ld_blt I hg2 hm2 PyProof.Rows.boot_set (PyProof.Rows.callWith_type1 (PyProof.Rows.args_cons (thn (wE.pe.run pins s σ H _ I h) fun v s1 ⟨x, H1, I1, r1, l, e2, hq, q1⟩ => PyProof.Rows.args_nil ?_) na) na rfl))
    subst e2
    cases r1
    obtain ⟨its, r, pl, hz⟩ := I1.tuple hq
    refine call_set_tupI ns (I1.ok.hd hc) pl (by simpa using r.ints) (by unfold scanBound; omega) fun g tk c R hcl k => PyProof.Rows.args_nil ?_
    have I2 : Inv X pins σ H1 { s1 with heap := g, toks := tk } := I1.kept k
    refine sorted_set R (I1.ok.hd hc) (by omega) fun s' p o c' ns' k2 g2 o2 hp hgp hi hs hm' hlen => ?_
    have en : ns' = out := up_ext hs ho fun z => by
      rw [hm' z, hmem z]
      exact decide_eq_true_iff
    subst en
    have hn : H1 p = none := I2.hok.fresh hp
    have ln : (ns'.map V.int).length ≤ sizeLine := by
      rw [List.length_map]
      refine Evl.sz_of (Nat.le_trans ?_ (show 64 ≤ 100000 by decide))
      omega
    have J : Inv X pins σ (upd H1 p (.lst (ns'.map V.int))) { ({ s1 with heap := g, toks := tk } : Shared) with heap := s'.heap, gens := s'.gens, drawn := s'.drawn, toks := s'.toks } := I2.call (ch := []) (Un.laid k2 hp hn) (I2.hok.laid k2 hp ⟨ln, o.toList, c', vals_of_ints hi, hgp⟩) (by rw [g2]; exact I2.bare) (fun _ z => nomatch z)
    obtain ⟨hp', g', d', t', os'⟩ := s'
    obtain rfl : os' = s1.os := o2
    exact ⟨.ref p, _, J, rfl, q1 p hn⟩
  · refine ha.run H1 e1 al _ fun v H2 x2 r => ?_
    cases r with
    | tup m hr rs => exact ⟨_, rfl, .inl (by rw [← rs.of_ints]; exact hr), fun p hp => q p _ _ (Evl.fresh_back x2 hp) (x2.trans (Evl.Ex.new hp)) upd_same (RpAll.ints out)⟩
end
end GV

namespace GV
open PySem PySem.Spec PyProof.Rows L2
/-! ### a list or a tuple, whichever -/
def sqD : Bool → List PyData → PyData
  | true, ds => .tuple ds
  | false, ds => .list ds
theorem items_sq (tp : Bool) (ds : List PyData) : itemsD (sqD tp ds) = some ds := by cases tp <;> rfl
theorem len_sq (tp : Bool) (ds : List PyData) : lenD (sqD tp ds) = some ds.length := by cases tp <;> rfl
theorem ix_sq {tp : Bool} {ds : List PyData} {i : Int} {d : PyData} (h : atI ds i = some d) : ixD (sqD tp ds) (.int i) = some d := by cases tp <;> exact h
theorem ix_sqI {tp : Bool} {ns : List Int} {i : Nat} {z : Int} (h : ns[i]? = some z) : ixD (sqD tp (ns.map PyData.int)) (.int (i : Nat)) = some (.int z) := ix_sq (atI_nat (by rw [List.getElem?_map, h]; rfl))
section
variable {X : Cx} {M : Addr → Prop} {σ : St} {H : Hp} {a b c e tg : Expr} {d : PyData} {pos : Pos} {ds : List PyData} {tp : Bool}
theorem src_S (h : PD X M e σ H (sqD tp ds)) : Src X M tg e σ H ds := by
  cases tp with
  | true => exact src_tup h
  | false => exact src_list h
theorem src_enumS {p tpos : Pos} {elts : List Expr} {kk : Nat} (hg : Gl X "enumerate") (hm : X.mg "enumerate" = none) (h : PD X M e σ H (sqD tp ds)) (hs : starEach [e] X.env = [(false, eval e X.env)] := by rfl)
    (hs' : starEach (e :: []) X.env = (false, eval e X.env) :: starEach [] X.env := by rfl) : Src X M (.Tuple elts kk tpos) (.Call (.Name "enumerate" p) [e] [] pos) σ H (enumD ds) := by
  cases tp with
  | true => exact src_enumT hg hm h hs hs'
  | false => exact src_enum hg hm h hs hs'
theorem pd_sliceS {lo hi : Option Expr} {l u : Option Int} {p2 : Pos} (h : PD X M e σ H (sqD tp ds)) (hl : OD X M lo σ H l) (hu : OD X M hi σ H u) : PD X M (.Subscript e (.Slice lo hi none p2) pos) σ H (sqD tp (cutD ds l u)) := by
  cases tp with
  | true => exact pd_sliceT h hl hu
  | false => exact (fd_slice h hl hu).pd
theorem pd_minDfS {p kp : Pos} {ns : List Int} (hc : X.calm = true) (hu : X.A.units + 2 < cLine) (hg : Gl X "min") (hm : X.mg "min" = none) (ha : PD X M a σ H (sqD tp (ns.map PyData.int))) (hb : PD X M b σ H d)
    (h1 : starEach (a :: []) X.env = (false, eval a X.env) :: starEach [] X.env := by rfl)
    (he : backTo pos (starEach (a :: []) X.env) = (false, eval a X.env) :: backTo pos (starEach [] X.env) := by rfl) (hpl : (backTo pos (starEach (a :: []) X.env)).any (·.1) = false := by rfl)
    (hall : (backToKw pos (keywordEach [⟨some "default", b, kp⟩] X.env)).all (·.1.isSome) = true := by rfl) (hnone : (backToKw pos (keywordEach [⟨some "default", b, kp⟩] X.env)).any (·.1.isNone) = false := by rfl)
    (hks : (backToKw pos (keywordEach [⟨some "default", b, kp⟩] X.env)).filterMap (·.1) = (["default"] : List Str) := by rfl) :
    PD X M (.Call (.Name "min" p) [a] [⟨some "default", b, kp⟩] pos) σ H (minOr d ns) := by
  cases tp with
  | true => exact pd_minDfT hc hu hg hm ha hb h1 he hpl hall hnone hks
  | false => exact pd_minDf hc hu hg hm ha hb h1 he hpl hall hnone hks
theorem pd_maxS {p : Pos} {ns : List Int} {m : Int} (hc : X.calm = true) (hu : X.A.units + 2 < cLine) (hg : Gl X "max") (hn : X.mg "max" = none) (ha : PD X M a σ H (sqD tp (ns.map PyData.int))) (hm : m ∈ ns) (hx : ∀ y ∈ ns, y ≤ m)
    (h1 : starEach (a :: []) X.env = (false, eval a X.env) :: starEach [] X.env := by rfl) (hpl : (backTo pos (starEach [] X.env)).any (·.1) = false := by rfl) : PD X M (.Call (.Name "max" p) [a] [] pos) σ H (.int m) := by
  cases tp with
  | true => exact pd_callB (cr_maxT hc hu) hg hn PyProof.Rows.boot_max (ad_cons ha ad_nil h1) (rn_maxT hm hx) (by decide) (by decide) h1 hpl
  | false => exact pd_callB (cr_max hc) hg hn PyProof.Rows.boot_max (ad_cons ha ad_nil h1) (rn_max hm hx) (by decide) (by decide) h1 hpl
theorem pd_min {p : Pos} {ns : List Int} {m : Int} (hc : X.calm = true) (hg : Gl X "min") (hn : X.mg "min" = none) (ha : PD X M a σ H (.list (ns.map PyData.int))) (hm : m ∈ ns) (hx : ∀ y ∈ ns, m ≤ y)
    (h1 : starEach (a :: []) X.env = (false, eval a X.env) :: starEach [] X.env := by rfl) (hpl : (backTo pos (starEach [] X.env)).any (·.1) = false := by rfl) : PD X M (.Call (.Name "min" p) [a] [] pos) σ H (.int m) :=
  pd_callB (cr_min hc) hg hn PyProof.Rows.boot_min (ad_cons ha ad_nil h1) (rn_min hm hx) (by decide) (by decide) h1 hpl
theorem pd_min2 {p : Pos} {i j : Int} (hg : Gl X "min") (hn : X.mg "min" = none) (ha : PD X M a σ H (.int i)) (hb : PD X M b σ H (.int j)) (hc : X.calm = true := by rfl)
    (h1 : starEach (a :: [b]) X.env = (false, eval a X.env) :: starEach [b] X.env := by rfl) (h2 : starEach (b :: []) X.env = (false, eval b X.env) :: starEach [] X.env := by rfl) (hpl : (backTo pos (starEach [b] X.env)).any (·.1) = false := by rfl) : PD X M (.Call (.Name "min" p) [a, b] [] pos) σ H (.int (min i j)) :=
  PD.is (pd_callB (call_min2 hc) hg hn PyProof.Rows.boot_min (ad_cons ha (ad_cons hb ad_nil h2) h1) rn_min2 (by decide) (by decide) h1 hpl) (by
    congr 1
    split
    · exact (Int.min_eq_right (by omega)).symm
    · exact (Int.min_eq_left (by omega)).symm)
theorem pd_max2 {p : Pos} {i j : Int} (hg : Gl X "max") (hn : X.mg "max" = none) (ha : PD X M a σ H (.int i)) (hb : PD X M b σ H (.int j)) (hc : X.calm = true := by rfl)
    (h1 : starEach (a :: [b]) X.env = (false, eval a X.env) :: starEach [b] X.env := by rfl) (h2 : starEach (b :: []) X.env = (false, eval b X.env) :: starEach [] X.env := by rfl) (hpl : (backTo pos (starEach [b] X.env)).any (·.1) = false := by rfl) : PD X M (.Call (.Name "max" p) [a, b] [] pos) σ H (.int (max i j)) :=
  PD.is (pd_callB (call_max2 hc) hg hn PyProof.Rows.boot_max (ad_cons ha (ad_cons hb ad_nil h2) h1) rn_max2 (by decide) (by decide) h1 hpl) (by
    congr 1
    split
    · exact (Int.max_eq_right (by omega)).symm
    · exact (Int.max_eq_left (by omega)).symm)
theorem fd_sortedSetS {p p2 q2 : Pos} {ns out : List Int} (hc : X.calm = true) (hg : Gl X "sorted") (hm : X.mg "sorted" = none) (hg2 : Gl X "set") (hm2 : X.mg "set" = none) (ha : PD X M a σ H (sqD tp (ns.map PyData.int)))
    (hl : ns.length < 64) (ho : out.Pairwise (· < ·)) (hmem : ∀ k, k ∈ out ↔ k ∈ ns)
    (na : starEach [a] X.env = (false, eval a X.env) :: starEach [] X.env := by rfl) : FD X M (.Call (.Name "sorted" p) [.Call (.Name "set" p2) [a] [] q2] [] pos) σ H (out.map PyData.int) := by
  cases tp with
  | true => exact fd_sortedSetT hc hg hm hg2 hm2 ha hl ho hmem na
  | false => exact fd_sortedSet hc hg hm hg2 hm2 ha hl ho hmem na
/-- list(e), tuple(e) -/
theorem fd_listOf {p : Pos} (hg : Gl X "list") (hm : X.mg "list" = none) (ha : PD X M a σ H d) (h : itemsD d = some ds)
    (h1 : starEach (a :: []) X.env = (false, eval a X.env) :: starEach [] X.env := by rfl) (hpl : (backTo pos (starEach [] X.env)).any (·.1) = false := by rfl) : FD X M (.Call (.Name "list" p) [a] [] pos) σ H ds :=
  fd_callTy call_list_of hg hm PyProof.Rows.boot_list (ad_cons ha ad_nil h1) (rf_list h) (by decide) (by decide) h1 hpl
theorem pd_tupleOf {p : Pos} (hg : Gl X "tuple") (hm : X.mg "tuple" = none) (ha : PD X M a σ H d) (h : itemsD d = some ds)
    (h1 : starEach (a :: []) X.env = (false, eval a X.env) :: starEach [] X.env := by rfl) (hpl : (backTo pos (starEach [] X.env)).any (·.1) = false := by rfl) : PD X M (.Call (.Name "tuple" p) [a] [] pos) σ H (.tuple ds) :=
  pd_callTy call_tuple_of hg hm PyProof.Rows.boot_tuple (ad_cons ha ad_nil h1) (rn_tuple h) (by decide) (by decide) h1 hpl
/-- the name in slot i, by its value -/
theorem ce_nm (i : Nat) {x : Str} {v : V} {Q : VK} (q : Q v H) (hN : X.N[i]? = some x := by rfl) (hv : Vis X.env.scope x := by first | exact .inl rfl | exact .inr (.inl rfl) | exact .inr (.inr rfl)) (hs : σ[i]? = some (some v) := by rfl)
    (hd : (x == ("__debug__" : Str)) = false := by decide) (hcd : (x == ("__classdict__" : Str)) = false := by decide) : wE X (.Name x pos) σ H Q := ce_name hN hv hs q hd hcd
end
end GV

/-! A list of lambdas, given to a name: their closures are pinned for the rest of the block. -/
namespace GV
open PySem PySem.Spec PyProof.Rows L2
structure Lm where
  ps : Arguments
  bd : Expr
  sc : Scope
  po : Pos
def Lm.e (l : Lm) : Expr := .Lambda l.ps l.bd l.sc l.po
def lmsOf : List Expr → List Lm
  | .Lambda a b c d :: es => ⟨a, b, c, d⟩ :: lmsOf es
  | _ => []
abbrev cloO (X : Cx) (l : Lm) (pm : Value) (c' : Addr) (ctv : Value) : Obj := PySem.W.kla_obj "<lambda>" (X.env.qual ++ "<lambda>") l.ps l.bd l.sc (cloFrom X.env.cells l.sc.names []) pm c' ctv
abbrev qlam (X : Cx) : Str := X.env.qual ++ "<lambda>"
/-- the closure of l stands at f -/
def CloAt (X : Cx) (pn : List (Addr × Obj)) (H : Hp) (l : Lm) (f : Addr) : Prop := ∃ pm c' ctv, (f, cloO X l pm c' ctv) ∈ pn ∧ H c' = some (LamX.CodeO c' (qlam X))
structure LmOk (X : Cx) (l : Lm) : Prop where
  sc : LamX.LamS X.env.scope l.sc
  df : defaultsOf l.ps X.env = ([], [])
  bi : ∀ (q : Str) (cl : List (Str × Addr)) (pm cv ctv : Value), bindArgs (PySem.W.kla_fn "<lambda>" q l.ps l.bd l.sc cl pm cv ctv) ⟨[], []⟩ = pure []
section
variable {X : Cx} {pins : List (Addr × Obj)} {σ : St} {H : Hp} {s : Shared}
theorem inv_pinF {f : Addr} {l : Lm} {pm ctv : Value} {c' : Addr} (I : Inv X pins σ H s) (hf : s.heap.get? f = some (cloO X l pm c' ctv)) (hn : H f = none) (hfr : f ∉ frs X.stack) : Inv X ((f, cloO X l pm c' ctv) :: pins) σ H s := by
  refine ⟨I.ok, I.os, I.bare, I.base, I.loc, I.cell, I.free, I.freeC, fun p hp => ?_, I.hok, I.len⟩
  rcases List.mem_append.mp hp with h | h
  · exact I.pin p (List.mem_append_left _ h)
  rcases List.mem_cons.mp h with e | h
  · subst e
    refine ⟨hf, hn, fun e => ?_, fun z => hfr ?_, fun v z => ?_⟩
    · obtain ⟨m, hns, _⟩ := I.loc
      obtain ⟨ob, es, ep, ho, r⟩ := hns
      have e : f = X.env.locals := e
      rw [← e, hf] at ho
      cases ho
      simp at r
    · rcases I.ok.stk with e | ⟨e, _⟩
      · rw [e]
        exact z
      · rw [e]
        show f ∈ List.filterMap (fun x : Env => x.frame) (X.env :: X.outer)
        rw [List.filterMap_cons]
        split
        · exact z
        · exact List.mem_cons_of_mem _ z
    · have z : (cloO X l pm c' ctv).data = .cell v := z
      cases z
  · exact I.pin p (List.mem_append_right _ h)
theorem inv_fewer {pn : List (Addr × Obj)} (I : Inv X (pn ++ pins) σ H s) : Inv X pins σ H s :=
  ⟨I.ok, I.os, I.bare, I.base, I.loc, I.cell, I.free, I.freeC, fun p hp => I.pin p ((List.mem_append.mp hp).elim (List.mem_append_left _) fun h => List.mem_append_right _ (List.mem_append_right _ h)), I.hok, I.len⟩
/-- all of them, one after another -/
theorem lams_eval {T : List (Addr × Str)} {c P : Addr} {pos : Pos} (TB : LamX.TabB X.base X.mg c P) (hcode : X.env.code = .ref c) (hm : (P, qlam X) ∈ T) (hu : ∀ p ∈ T, p.1 = P → p.2 = qlam X) :
    ∀ (ls : List Lm) {pins : List (Addr × Obj)} {H : Hp} {s : Shared} {Q : List Value → Shared → Prop}, (∀ l ∈ ls, LmOk X l) → Inv X pins σ H s → LamX.Tabs T H →
      (∀ (fs : List Addr) (pn : List (Addr × Obj)) (H1 : Hp) (s1 : Shared), Inv X (pn ++ pins) σ H1 s1 → LamX.ExtN H H1 → LamX.Tabs T H1 → fs.length = ls.length → (∀ (j : Nat) (l : Lm) (f : Addr), ls[j]? = some l → fs[j]? = some f → CloAt X (pn ++ pins) H1 l f) → Q (fs.map Value.ref) s1) →
      wpAny (model X.prog X.w) X.A (spliced (backTo pos (starEach (ls.map Lm.e) X.env))) Q X.xe s
  | [], pins, H, s, Q, _, I, hT, h => Calls.spliced_nil (h [] [] H s I (LamX.ExtN.refl H) hT rfl fun j l f h => by cases h)
  | l :: ls, pins, H, s, Q, ok, I, hT, h => by
    have okl := ok l (List.mem_cons_self ..)
    show wpAny _ _ (spliced ((false, eval (.Lambda l.ps l.bd l.sc l.po) X.env) :: backTo pos (starEach (ls.map Lm.e) X.env))) _ _ s
    refine Calls.spliced_cons (LamX.lam_make2 I TB hcode hm hu hT okl.df (LamX.LamS.has okl.sc I.ok) fun f c' pm ctv H1 s1 I1 eN T1 hf hfn hfr hco => ?_)
    refine lams_eval TB hcode hm hu ls (fun k hk => ok k (List.mem_cons_of_mem _ hk)) (inv_pinF I1 hf hfn hfr) T1 fun fs pn H2 s2 I2 e2 T2 hl hc => ?_
    have ea : pn ++ (f, cloO X l pm c' ctv) :: pins = (pn ++ [(f, cloO X l pm c' ctv)]) ++ pins := by simp
    rw [ea] at I2 hc
    refine h (f :: fs) (pn ++ [(f, cloO X l pm c' ctv)]) H2 s2 I2 (eN.trans e2) T2 (by simp [hl]) fun j k g hj hg => ?_
    cases j with
    | zero =>
      cases hj
      cases hg
      exact ⟨pm, c', ctv, by simp, e2 _ _ hco LamX.codeO_ne⟩
    | succ j => exact hc j k g hj hg
theorem b_lams {T : List (Addr × Str)} {c P : Addr} {i : Nat} {x : Str} {es : List Expr} {p1 p2 p3 : Pos} {rest : List Stmt} {D : Ends} (TB : LamX.TabB X.base X.mg c P) (hcode : X.env.code = .ref c) (hm : (P, qlam X) ∈ T) (hu : ∀ p ∈ T, p.1 = P → p.2 = qlam X)
    (hN : X.N.Nodup) (hi : X.N[i]? = some x) (hx : Loc X.env.scope x) (ok : ∀ l ∈ lmsOf es, LmOk X l) (hT : LamX.Tabs T H) (hl : (lmsOf es).length ≤ 100)
    (h : ∀ (pn : List (Addr × Obj)) (fs : List Addr) (H1 : Hp) (p : Addr), LamX.ExtN H H1 → LamX.Tabs T H1 → H1 p = none → fs.length = (lmsOf es).length → (∀ (j : Nat) (l : Lm) (f : Addr), (lmsOf es)[j]? = some l → fs[j]? = some f → CloAt X pn H1 l f) →
      wB (X.tr pn X.xe) rest D (σ.set i (some (.ref p))) (upd H1 p (.lst (fs.map V.ref))))
    (he : es = (lmsOf es).map Lm.e := by rfl) (hs : swapsWith (.List es p2) (some (.Name x p1)) p3.line X.env = pure false := by rfl) (hf : X.fn x = true ∨ X.env.scope.names.lookup x = some .local := by first | exact .inl rfl | exact .inr rfl | assumption) :
    wB X (.Assign [.Name x p1] (.List es p2) p3 :: rest) D σ H := by
  refine ⟨fun D σ H => LamX.Tabs T H ∧ ∀ (pn : List (Addr × Obj)) (fs : List Addr) (H1 : Hp) (p : Addr), LamX.ExtN H H1 → LamX.Tabs T H1 → H1 p = none → fs.length = (lmsOf es).length → (∀ (j : Nat) (l : Lm) (f : Addr), (lmsOf es)[j]? = some l → fs[j]? = some f → CloAt X pn H1 l f) →
      wB (X.tr pn X.xe) rest D (σ.set i (some (.ref p))) (upd H1 p (.lst (fs.map V.ref))), ⟨fun pins s σ H D I hq => ?_⟩, hT, h⟩
  obtain ⟨hT, hq⟩ := hq
  refine wpAny_execs_cons (wpAny_Assign_Name (wpAny_List_spliced ?_) hs)
  rw [he]
  refine lams_eval TB hcode hm hu (lmsOf es) ok I hT fun fs pn H1 s1 I1 e1 T1 hlen hc => ⟨?_, ?_⟩
  · rw [List.length_map, hlen]
    exact Nat.le_trans hl (by decide)
  have hp : H1 s1.heap.objs.size = none := I1.hok.fresh (Nat.le_refl _)
  have rv : Vals (fs.map V.ref) (fs.map Value.ref) := by
    clear hlen hc
    induction fs with
    | nil => exact .nil
    | cons f t ih => exact .cons rfl ih
  have I2 : Inv X (pn ++ pins) σ (upd H1 s1.heap.objs.size (.lst (fs.map V.ref))) { s1 with heap := s1.heap.push { cls := .type "list", data := .seq (fs.map Value.ref).toArray } } :=
    I1.laid (t' := s1.toks) (fun b u e => Heap.get?_push_of_some _ e) (Nat.le_refl _) ⟨by rw [List.length_map, hlen]; exact Nat.le_trans hl (by decide), _, 0, rv, Heap.get?_push_size _ rfl⟩
  refine store_ok I2 hN hi hx (v := .ref s1.heap.objs.size) rfl (fun s2 I3 => ?_) hf
  have hr := hq (X.pn ++ (pn ++ pins)) fs H1 s1.heap.objs.size e1 T1 hp hlen fun j l f hj hf => by
    obtain ⟨pm, c', ctv, h1, h2⟩ := hc j l f hj hf
    exact ⟨pm, c', ctv, List.mem_append_right _ h1, h2⟩
  refine thn ((wB.ps (X := X.tr (X.pn ++ (pn ++ pins)) X.xe)).run [] s2 _ _ D (I3.toTry X.xe) hr) fun f s3 q => ?_
  cases f with
  | next =>
    obtain ⟨σ', H', I', q⟩ := q
    exact ⟨σ', H', inv_fewer (I'.ofTry I.ok), q⟩
  | ret v =>
    obtain ⟨v, σ', H', I', q⟩ := q
    exact ⟨v, σ', H', inv_fewer (I'.ofTry I.ok), q⟩
  | brk =>
    obtain ⟨σ', H', I', q⟩ := q
    exact ⟨σ', H', inv_fewer (I'.ofTry I.ok), q⟩
  | cont =>
    obtain ⟨σ', H', I', q⟩ := q
    exact ⟨σ', H', inv_fewer (I'.ofTry I.ok), q⟩
/-- a walk over a list of whatever -/
theorem s_forL {e : Expr} {pos p2 : Pos} {slot : Nat} {x : Str} {body : List Stmt} {D : Ends} (hp : PassesOwn (model X.prog X.w) X.A X.env X.xe) (hc : X.calm = true) (hN : X.N.Nodup) (hx : X.N[slot]? = some x) (hl : Loc X.env.scope x)
    (h : wE X e σ H fun v H1 => ∃ (l : Addr) (xs : List V) (J : Nat → St → Hp → Prop), v = .ref l ∧ J 0 σ H1 ∧ (∀ i σ' H', J i σ' H' → H' l = some (.lst xs)) ∧
      (∀ i σ' H' y, xs[i]? = some y → J i σ' H' → wB X body { D with nx := J (i + 1), ct := J (i + 1), bk := D.nx } (σ'.set slot (some y)) H') ∧ ∀ σ' H', J xs.length σ' H' → D.nx σ' H')
    (hf : ∀ x, foldedSetIterable e X.env x = pure x := by intro _; rfl) (hfn : X.fn x = true ∨ X.env.scope.names.lookup x = some .local := by first | exact .inl rfl | exact .inr rfl | assumption) : wS X (.For (.Name x p2) e body [] pos) D σ H := by
  refine ⟨_, ps_for hp hc (pi_list wE.pe) (pg_name hN hx hl hfn) wB.ps hf, wE.weak h ?_⟩
  rintro v H1 ⟨l, xs, J, rfl, h0, hk, ht, hd⟩
  refine ⟨l, rfl, ⟨xs, .inl (.inl (hk _ _ _ h0))⟩, fun i m σ' H' => m = xs.length - i ∧ i ≤ xs.length ∧ J i σ' H', ⟨xs.length, rfl, Nat.zero_le _, h0⟩, ?_⟩
  rintro i m σ' H' ⟨rfl, hi', j⟩
  have hl := hk _ _ _ j
  by_cases hlt : i < xs.length
  · refine .inr ⟨⟨xs, xs[i], .inl (.inl hl), List.getElem?_eq_getElem hlt⟩, J (i + 1), fun σ2 H2 j2 => ⟨xs.length - (i + 1), by omega, rfl, hlt, j2⟩, fun y H2 q => ?_⟩
    obtain ⟨rfl, q⟩ := q
    exact ht i σ' _ y (q xs (.inl (.inl hl))) j
  · have e2 : i = xs.length := by omega
    subst e2
    exact .inl ⟨⟨xs, .inl (.inl hl), Nat.le_refl _⟩, hd σ' H' j⟩
end
end GV

namespace GV
open PySem PySem.Spec PyProof.Rows L2
section
variable {X : Cx} {M : Addr → Prop} {σ : St} {H H' : Hp} {a b c e tg iter : Expr} {da db d : PyData} {pos : Pos} {es : List Expr} {ds : List PyData} {tp : Bool}
/-! ### comprehensions over a heap with objects that stay -/
theorem lc_coreO {t : Tg} {elt : Expr} {ifs : List Expr} {scope : Scope} {own : List (Str × Nat)} (hc : X.calm = true) (hN : X.N.Nodup) (hi : Src X M tg iter σ H ds) (ok : BlkOk X.N X.env.scope scope own)
    (hg : ∀ s H C cl fp, PG (Cx.lc X s H scope C cl fp) tg (t.g X.K)) (hf : ∀ d ∈ ds, t.Fits d) (hw : ∀ M H d σ', t.Ok X.K M H d (wipe σ (own.map (·.2))) σ' → wipe σ' (own.map (·.2)) = wipe σ (own.map (·.2)))
    (p : PyData → Bool) (f : PyData → PyData) (hl : ds.length ≤ 100000)
    (body : ∀ s0 H0 C cl fp M' H' d σ', (∀ a, M a → M' a) → (∀ v e, Rp X.K M H v e → Rp X.K M' H' v e) → (∀ a o, ¬ M a → NT o → H a = some o → H' a = some o ∧ ¬ M' a) → d ∈ ds → t.Ok X.K M' H' d (wipe σ (own.map (·.2))) σ' →
      TsD (Cx.lc X s0 H0 scope C cl fp) M' ifs σ' H' (p d) ∧ (p d = true → PD (Cx.lc X s0 H0 scope C cl fp) M' elt σ' H' (f d))) :
    ∃ wi, PI X tg iter wi ∧ ∀ H1, ExM M H H1 → Alive M H1 → ∀ Q : VK, (∀ l ws H2, H1 l = none → Evl.Ex H1 H2 → H2 l = some (.lst ws) → RpAll X.K M H2 ws ((ds.filter p).map f) → Q (.ref l) H2) →
      tLc wi (t.g X.K) (fun σ H Q => ∀ s0 H0 C cl fp, wTs (Cx.lc X s0 H0 scope C cl fp) ifs σ H Q) (fun σ H Q => ∀ s0 H0 C cl fp, wE (Cx.lc X s0 H0 scope C cl fp) elt σ H Q) (own.map (·.2)) σ H1 Q := by
  obtain ⟨wi, pi, run⟩ := hi.ex
  refine ⟨wi, pi, fun H1 e1 al Q q => ?_⟩
  refine run H1 e1 al _ fun It Hs xs wk D hD => ?_
  have alS := al.mono xs
  -- D is mutable meanwhile
  let M' : Addr → Prop := fun a => M a ∨ a = D
  have hm : ∀ a, M' a → M a ∨ Hs a = none := fun a z => z.elim .inl fun e => .inr (by rw [e]; exact hD)
  have al2 : ∀ H', Evl.Ex Hs H' → (∃ acc, H' D = some (.lst acc)) → Alive M' H' := fun H' e ⟨acc, h⟩ a z => by
    rcases z with z | z
    · exact (alS.mono e) a z
    · subst z
      exact ⟨_, h⟩
  refine ⟨fun i m H' => m = ds.length - i ∧ i ≤ ds.length ∧ Evl.Ex Hs H' ∧ ∃ acc, H' D = some (.lst acc) ∧ acc.length ≤ i ∧ RpAll X.K M' H' acc (((ds.take i).filter p).map f), ⟨ds.length, rfl, Nat.zero_le _, Evl.Ex.new hD, [], upd_same, Nat.le_refl _, by simpa using RpAll.nil⟩, ?_⟩
  rintro i m H' ⟨rfl, hi', x, acc, hacc, hlen, racc⟩
  have eM : ExM M' Hs H' := .of x
  have al' := al2 H' x ⟨acc, hacc⟩
  by_cases hlt : i < ds.length
  · refine .inr ⟨wk.go M' i H' hm eM hlt, fun H2 => Evl.Ex Hs H2 ∧ ∃ acc, H2 D = some (.lst acc) ∧ acc.length ≤ i + 1 ∧ RpAll X.K M' H2 acc (((ds.take (i + 1)).filter p).map f), fun H2 ⟨a1, a2⟩ => ⟨ds.length - (i + 1), by omega, rfl, hlt, a1, a2⟩, fun v H2 y => ?_⟩
    obtain ⟨x2, r⟩ := wk.yld M' i H' v H2 hm eM al' y
    have hd' : ds[i]? = some ds[i] := List.getElem?_eq_getElem hlt
    have hmem := List.getElem_mem hlt
    have hacc2 : H2 D = some (.lst acc) := x2 _ _ hacc
    have lift : ∀ v e, Rp X.K M H v e → Rp X.K M' H2 v e := fun v e rv => ((rv.mono (fun _ z => z) (e1.trans (.of xs))).wide hm).mono (fun _ z => z) (.of (x.trans x2))
    have al3 := al2 H2 (x.trans x2) ⟨acc, hacc2⟩
    refine Tg.run (hf _ hmem) (r _ hd') fun σ2 okk => ⟨hw _ _ _ _ okk, ?_⟩
    have all := fun s0 H0 C cl fp => body s0 H0 C cl fp M' H2 ds[i] σ2 (fun _ z => .inl z) lift (fun a o nm nt h => ⟨x2 _ _ (x _ _ (xs _ _ (e1 _ _ h nm nt))), fun z => z.elim nm fun e => by have w := xs _ _ (e1 _ _ h nm nt); rw [e, hD] at w; cases w⟩) hmem okk
    -- the test
    have tk : (ds.take (i + 1)).filter p = (ds.take i).filter p ++ (if p ds[i] = true then [ds[i]] else []) := by
      rw [List.take_add_one, hd', List.filter_append]
      simp only [Option.toList_some, List.filter_cons, List.filter_nil]
    have fin : ∀ b, b = p ds[i] → ∀ H3, Evl.Ex H2 H3 → (if b = true then (∀ s0 H0 C cl fp, wE (Cx.lc X s0 H0 scope C cl fp) elt σ2 H3 fun y H4 => ∃ acc, H4 D = some (.lst acc) ∧ acc.length < sizeLine ∧
        (Evl.Ex Hs (upd H4 D (.lst (acc ++ [y]))) ∧ ∃ acc', (upd H4 D (.lst (acc ++ [y]))) D = some (.lst acc') ∧ acc'.length ≤ i + 1 ∧ RpAll X.K M' (upd H4 D (.lst (acc ++ [y]))) acc' (((ds.take (i + 1)).filter p).map f)))
        else (Evl.Ex Hs H3 ∧ ∃ acc, H3 D = some (.lst acc) ∧ acc.length ≤ i + 1 ∧ RpAll X.K M' H3 acc (((ds.take (i + 1)).filter p).map f))) := by
      intro b hb H3 x3
      have hacc3 := x3 _ _ hacc2
      cases b with
      | true =>
        rw [if_pos rfl]
        intro s0 H0 C cl fp
        refine ((all s0 H0 C cl fp).2 hb.symm).run H3 (.of x3) (al3.mono x3) _ fun y H4 x4 ry => ?_
        have x5 : Evl.Ex Hs H4 := ((x.trans x2).trans x3).trans x4
        refine ⟨acc, x4 _ _ hacc3, ?_, Evl.Ex.mut x5 hD, _, upd_same, ?_, ?_⟩
        · exact Nat.lt_of_lt_of_le (Nat.lt_of_le_of_lt hlen hlt) (Evl.sz_of hl)
        · rw [List.length_append, List.length_singleton]
          omega
        · rw [tk, if_pos hb.symm, List.map_append]
          have eD : ExM M' H4 (upd H4 D (.lst (acc ++ [y]))) := fun a o h nm _ => by
            rw [upd_ne (fun e => nm (.inr e))]
            exact h
          exact (racc.mono (fun _ z => z) (.of ((x2.trans x3).trans x4))).append (.cons ry .nil) |>.mono (fun _ z => z) eD
      | false =>
        rw [if_neg Bool.false_ne_true]
        refine ⟨(x.trans x2).trans x3, acc, hacc3, by omega, ?_⟩
        rw [tk, if_neg (by rw [← hb]; exact Bool.false_ne_true), List.append_nil]
        exact racc.mono (fun _ z => z) (.of (x2.trans x3))
    intro s0 H0 C cl fp
    exact (all s0 H0 C cl fp).1.run H2 (ExM.refl H2) al3 _ fun H3 x3 => fin _ rfl H3 x3
  · have e2 : i = ds.length := by omega
    subst e2
    refine .inl ⟨wk.stop M' H' hm eM, q D acc H' (Evl.fresh_back xs hD) (xs.trans x) hacc ?_⟩
    rw [List.take_length] at racc
    exact racc.mono (fun _ z => .inl z) (ExM.refl _)
theorem fd_lcO {t : Tg} {elt : Expr} {ifs : List Expr} {scope : Scope} {own : List (Str × Nat)} (hc : X.calm = true) (hN : X.N.Nodup) (hi : Src X M tg iter σ H ds) (ok : BlkOk X.N X.env.scope scope own)
    (hg : ∀ s H C cl fp, PG (Cx.lc X s H scope C cl fp) tg (t.g X.K)) (hf : ∀ d ∈ ds, t.Fits d) (hw : ∀ M H d σ', t.Ok X.K M H d (wipe σ (own.map (·.2))) σ' → wipe σ' (own.map (·.2)) = wipe σ (own.map (·.2)))
    (p : PyData → Bool) (f : PyData → PyData) (hl : ds.length ≤ 100000)
    (body : ∀ s0 H0 C cl fp M' H' d σ', (∀ a, M a → M' a) → (∀ v e, Rp X.K M H v e → Rp X.K M' H' v e) → (∀ a o, ¬ M a → NT o → H a = some o → H' a = some o ∧ ¬ M' a) → d ∈ ds → t.Ok X.K M' H' d (wipe σ (own.map (·.2))) σ' →
      TsD (Cx.lc X s0 H0 scope C cl fp) M' ifs σ' H' (p d) ∧ (p d = true → PD (Cx.lc X s0 H0 scope C cl fp) M' elt σ' H' (f d)))
    (hs : ∀ x, foldedSetIterable iter X.env x = pure x := by intro _; rfl) : FD X M (.ListComp elt [⟨tg, iter, ifs, 0⟩] scope pos) σ H ((ds.filter p).map f) := by
  obtain ⟨wi, pi, run⟩ := lc_coreO hc hN hi ok hg hf hw p f hl body
  exact .mk fun H1 e1 al Q q => ⟨_, pe_lc hc hN pi ok hg (fun s0 H0 C cl fp => ⟨fun pins s σ H Q I h => wTs.pts.run pins s σ H Q I (h s0 H0 C cl fp)⟩) (fun s0 H0 C cl fp => ⟨fun pins s σ H Q I h => wE.pe.run pins s σ H Q I (h s0 H0 C cl fp)⟩) hs, run H1 e1 al Q q⟩
theorem fd_filterO {tst : Expr} {t : Tg} {elt : Expr} {scope : Scope} {own : List (Str × Nat)} (p : PyData → Bool) (f : PyData → PyData) (hc : X.calm = true) (hN : X.N.Nodup) (hi : Src X M tg iter σ H ds) (ok : BlkOk X.N X.env.scope scope own)
    (hg : ∀ s H C cl fp, PG (Cx.lc X s H scope C cl fp) tg (t.g X.K)) (hf : ∀ d ∈ ds, t.Fits d) (hw : ∀ M H d σ', t.Ok X.K M H d (wipe σ (own.map (·.2))) σ' → wipe σ' (own.map (·.2)) = wipe σ (own.map (·.2))) (hl : ds.length ≤ 100000)
    (body : ∀ s0 H0 C cl fp M' H' d σ', (∀ a, M a → M' a) → (∀ v e, Rp X.K M H v e → Rp X.K M' H' v e) → (∀ a o, ¬ M a → NT o → H a = some o → H' a = some o ∧ ¬ M' a) → d ∈ ds → t.Ok X.K M' H' d (wipe σ (own.map (·.2))) σ' → TD (Cx.lc X s0 H0 scope C cl fp) M' tst σ' H' (p d) ∧ PD (Cx.lc X s0 H0 scope C cl fp) M' elt σ' H' (f d))
    (hs : ∀ x, foldedSetIterable iter X.env x = pure x := by intro _; rfl) : FD X M (.ListComp elt [⟨tg, iter, [tst], 0⟩] scope pos) σ H ((ds.filter p).map f) :=
  fd_lcO hc hN hi ok hg hf hw p f hl (fun s0 H0 C cl fp M' H' d σ' hM lift kp hd hok => let ⟨h1, h2⟩ := body s0 H0 C cl fp M' H' d σ' hM lift kp hd hok; ⟨tsd_one h1, fun _ => h2⟩) hs
/-- the heap behind the collecting of xs: a new list that holds them -/
abbrev heapC (h : Heap) (xs : Array Value) : Heap := (h.push (seqObj "list" #[] 0)).update h.objs.size (Obj.mapSeq (· ++ xs))
/-- collect of a list or a tuple, with the heap that it leaves (wpAny_collect_seq says only that all stays) -/
theorem collect_seqX {P : Program} {w : World} {A : Around} {E : Value → Shared → Prop} {s : Shared} {Q : List Value → Shared → Prop} (it : Addr) {T : String} {o : Obj} {xs : Array Value} {n : Nat} (hT : T = "list" ∨ T = "tuple")
    (ho : s.heap.get? it = some o) (hc : o.cls = .type T) (hd : o.data = .seq xs n) (hsz : xs.size ≤ sizeLine) (q : Q xs.toList { s with heap := heapC s.heap xs }) : wpAny (model P w) A (collect (.ref it)) Q E s := by
  have empty : (s.heap.push (seqObj "list" #[] 0)).get? s.heap.objs.size = some (seqObj "list" #[] 0) := Heap.get?_push_size _ rfl
  have full : ∃ e, (heapC s.heap xs).get? s.heap.objs.size = some (seqObj "list" xs e) := by
    have e := get?_update_seq empty (· ++ xs)
    rw [show (#[] : Array Value) ++ xs = xs by simp] at e
    exact ⟨_, e⟩
  obtain ⟨e, full⟩ := full
  -- what is done with the full list
  have read : ∀ {k : Obj → Sem (List Value)}, (∀ m, k (seqObj "list" xs m) = pure xs.toList) → wpAny (model P w) A (load s.heap.objs.size >>= k) Q E { s with heap := heapC s.heap xs } := fun hk => wpAny_bind (wpAny_load full (by rw [hk]; exact wpAny_pure q))
  have fill := wpAny_extend_seq (prog := P) (w := w) (A := A) (s := { s with heap := s.heap.push (seqObj "list" #[] 0) }) (R := fun r z => r = .ok (.ret (.ref s.heap.objs.size)) ∧ z = { s with heap := heapC s.heap xs }) s.heap.objs.size it (.ref s.heap.objs.size) 0 hT empty (Heap.get?_push_of_some _ ho) hc hd ⟨rfl, rfl⟩ hsz
  unfold collect
  refine wpAny_bind (wpAny_runValue (codeAny_builtin PyProof.Rows.entry_proto_collect' ?_))
  refine wpAny_bind (wpAny_newList (wpAny_pure ⟨Code.quiet_builtin _ (by decide +kernel), codeAny_builtin PyProof.Rows.entry_list_iadd' (wpAny_mono fill (fun r z hz => ?_) fun e z hz => ?_)⟩) (by simp))
  · cases r with
    | done f =>
      obtain ⟨e1, rfl⟩ := hz
      cases e1
      exact read fun m => rfl
    | again c' =>
      refine ⟨hz.1, codeAny_mono hz.2 fun r u hr => ?_⟩
      obtain ⟨rfl, rfl⟩ := hr
      exact read fun m => rfl
  · exact absurd hz.1 (by simp)
/-! ### sorted(a list or a tuple of whole numbers, fewer than 64) -/
def rSortQ (K : PySem.W.Frag) : List V → Hp → VK → Prop := fun vs H Q => ∃ (a : Addr) (ns : List Int), vs = [.ref a] ∧ (SqL K H a (ns.map V.int) ∨ SqT K H a (ns.map V.int)) ∧ ns.length < 64 ∧
  ∀ (ns' : List Int) (p : Addr), ns'.Perm ns → ns'.Pairwise (· ≤ ·) → H p = none → Q (.ref p) (upd H p (.lst (ns'.map V.int)))
theorem cr_sortQ : CallR X (.builtin "sorted") (rSortQ X.K) := by
  intro pins s σ H vs us Q J r h
  obtain ⟨a, ns, rfl, hs, h64, q⟩ := h
  rw [Vals.ref1 r]
  have core : ∀ (T : String) (its : List Value) (o : Obj) (n : Nat), (T = "list" ∨ T = "tuple") → Vals (ns.map V.int) its → s.heap.get? a = some o → o.cls = .type T → o.data = .seq its.toArray n →
      wpAny (model X.prog X.w) X.A (call (.builtin "sorted") [.ref a]) (EP X pins σ Q) X.xe s := by
    intro T its o n hT rv ho hcl hd
    have hI : IntsAre its ns := rv.ints
    have hln : its.length = ns.length := by rw [← rv.length, List.length_map]
    refine Calls.call_function_entry PyProof.Rows.kind_sorted PyProof.Rows.plain_sorted PyProof.Rows.entry_sorted (PyProof.Rows.args_sorted1 (.ref a)) ?_
    unfold Builtin.«sorted»
    have hzz : its.toArray.size ≤ sizeLine := by rw [List.size_toArray, hln, sizeLine_eq]; omega
    refine wpAny_bind (m := checkCount "sorted" 1 1 _) (wpAny_pure (wpAny_bind (collect_seqX a hT ho hcl hd hzz ?_)))
    rw [List.toList_toArray]
    refine wpAny_bind (wpAny_newList ?_ (by rw [← List.size_toArray]; exact hzz))
    generalize hh' : heapC s.heap its.toArray = h'
    have hsz : h'.objs.size = s.heap.objs.size + 1 := by rw [← hh', Heap.size_update, Heap.size_push]
    have kp : ∀ b o, s.heap.get? b = some o → h'.get? b = some o := fun b o e => by
      rw [← hh', Heap.get?_update_ne _ _ _ _ (Nat.ne_of_lt (Heap.lt_size e))]
      exact Heap.get?_push_of_some _ e
    have hoL : (h'.push (seqObj "list" its.toArray 0)).get? h'.objs.size = some (seqObj "list" its.toArray 0) := Heap.get?_push_size _ rfl
    refine wpAny_bind (wpAny_holding (wpAny_call_entry PyProof.Rows.slot_list_sort ⟨_, hoL, rfl⟩ PyProof.Rows.entry_list_sort (list_sort_tree hoL hI (by rw [hln]; exact h64) fun out ns' k1 k2 k3 => ⟨_, rfl, ?_⟩) (PyProof.Rows.args_list_sort _)))
    obtain ⟨c, hc⟩ := sortedHeap_at (vs := its) (out := out) hoL
    have le : s.heap.objs.size ≤ h'.objs.size := by rw [hsz]; exact Nat.le_succ _
    refine wpAny_pure ⟨_, rfl, .ref _, upd H h'.objs.size (.lst (ns'.map V.int)), ?_, rfl, q ns' _ k2 k3 (J.hok.fresh le)⟩
    refine J.laid (t' := s.toks) (fun b u e => ?_) le ⟨?_, out.toList, c, vals_of_ints k1, hc⟩
    · have e := kp b u e
      have hlt := Heap.lt_size e
      show (sortedHeap (h'.push (seqObj "list" its.toArray 0)) h'.objs.size its out).get? b = some u
      rw [sortedHeap_old (Nat.ne_of_lt hlt) (by rw [Heap.size_push]; exact Nat.lt_succ_of_lt hlt)]
      exact Heap.get?_push_of_some _ e
    · rw [List.length_map, k2.length_eq, sizeLine_eq]
      omega
  rcases hs with hs | hs
  · obtain ⟨its, rv, hl, hz⟩ := J.list hs
    obtain ⟨o, ho, hcl, n, hd⟩ := hl.isList
    exact core "list" its o n (.inl rfl) rv ho hcl hd
  · obtain ⟨its, rv, hl, hz⟩ := J.tuple hs
    obtain ⟨o, ho, hcl, n, hd⟩ := hl
    exact core "tuple" its o n (.inr rfl) rv ho hcl hd
end
end GV

namespace GV
open PySem PySem.Spec PyProof.Rows L2
section
variable {X : Cx} {M : Addr → Prop} {σ : St} {H H' : Hp} {a b c e tg iter : Expr} {da db d : PyData} {pos : Pos} {es : List Expr} {ds : List PyData} {tp : Bool} {D : Ends}
theorem two_sorted {x y : Int} {l : List Int} (h : l.Perm [x, y]) (s : l.Pairwise (· ≤ ·)) : l = [min x y, max x y] := by
  have hl := h.length_eq
  match l, hl with
  | [u, v], _ =>
    have hs : u ≤ v := by
      have := List.pairwise_cons.mp s
      exact this.1 v (by simp)
    have h1 : u ∈ [x, y] := h.mem_iff.mp (by simp)
    have h2 : v ∈ [x, y] := h.mem_iff.mp (by simp)
    have h3 : x ∈ [u, v] := h.mem_iff.mpr (by simp)
    have h4 : y ∈ [u, v] := h.mem_iff.mpr (by simp)
    simp only [List.mem_cons, List.not_mem_nil, or_false] at h1 h2 h3 h4
    have e1 : u = min x y := by omega
    have e2 : v = max x y := by omega
    rw [e1, e2]
theorem fd_sort2 {p : Pos} {x y : Int} (hg : Gl X "sorted") (hm : X.mg "sorted" = none) (ha : PD X M a σ H (sqD tp [.int x, .int y])) (hs : starEach (a :: []) X.env = (false, eval a X.env) :: starEach [] X.env := by rfl) (hpl : (backTo pos (starEach [] X.env)).any (·.1) = false := by rfl) :
    FD X M (.Call (.Name "sorted" p) [a] [] pos) σ H [.int (min x y), .int (max x y)] := by
  refine fd_callB cr_sortQ hg hm PyProof.Rows.boot_sorted (ad_cons ha ad_nil hs) (fun vs H1 r al Q q => ?_) (by decide) (by decide) hs hpl
  obtain ⟨v, rfl, r1⟩ := rpa1 r
  have fin : ∀ (ns' : List Int) (p : Addr), ns'.Perm [x, y] → ns'.Pairwise (· ≤ ·) → H1 p = none → Q (.ref p) (upd H1 p (.lst (ns'.map V.int))) := fun ns' p hp hs hn => by
    rw [two_sorted hp hs]
    exact q p _ _ hn (Evl.Ex.new hn) upd_same (.cons (.int _) (.cons (.int _) .nil))
  cases tp with
  | true =>
    cases r1 with
    | tup m hs rs =>
      obtain ⟨v1, v2, rfl, q1, q2⟩ := rpa2 rs
      cases q1
      cases q2
      exact ⟨_, [x, y], rfl, .inr (.inl hs), (by show 2 < 64; decide), fin⟩
  | false =>
    cases r1 with
    | lst m hs rs =>
      obtain ⟨v1, v2, rfl, q1, q2⟩ := rpa2 rs
      cases q1
      cases q2
      exact ⟨_, [x, y], rfl, .inl (.inl hs), (by show 2 < 64; decide), fin⟩
/-- x, y = a list of two -/
theorem s_unp2 {i j kt : Nat} {x y : Str} {px py pt : Pos} (al : Alive M H) (hc : X.calm = true) (h : FD X M e σ H [da, db]) (hx : PG X (.Name x px) (gName i)) (hy : PG X (.Name y py) (gName j))
    (q : ∀ v w H2, Evl.Ex H H2 → Rp X.K M H2 v da → Rp X.K M H2 w db → D.nx ((σ.set i (some v)).set j (some w)) H2)
    (hn : (assignEach [.Name x px, .Name y py] X.env).length = 2 := by rfl) (hst : (assignEach [.Name x px, .Name y py] X.env).findIdx? (·.1) = none := by rfl) (hs : swapsWithSole [.Tuple [.Name x px, .Name y py] kt pt] e pos.line X.env = pure false := by rfl) (hw : swappedStores [.Tuple [.Name x px, .Name y py] kt pt] e X.env = pure none := by rfl)
    (h1 : (assignEach [.Tuple [.Name x px, .Name y py] kt pt] X.env).map (·.2) = [assign (.Tuple [.Name x px, .Name y py] kt pt) X.env] := by rfl) : wS X (.Assign [.Tuple [.Name x px, .Name y py] kt pt] e pos) D σ H :=
  ⟨_, ps_asg wE.pe (pg_unl hc (pgs_cons hx (pgs_cons hy pgs_nil)) hn hst) hs hw h1, h.run H (ExM.refl H) al _ fun p ws H2 hp x2 h2 rs => by
    obtain ⟨v, w, rfl, r1, r2⟩ := rpa2 rs
    exact ⟨p, _, rfl, .inl (.inl h2), rfl, v, _, rfl, w, _, rfl, rfl, q v w H2 x2 r1 r2⟩⟩
theorem pd_catT {es fs : List PyData} (ha : PD X M a σ H (.tuple es)) (hb : PD X M b σ H (.tuple fs)) (hl : es.length + fs.length ≤ 100000) : PD X M (.BinOp a .Add b pos) σ H (.tuple (es ++ fs)) := .mk fun H1 e1 al Q q =>
  ⟨_, pe_op op_catA wE.pe wE.pe, ha.run H1 e1 al _ fun x H2 x2 rx => hb.run H2 (e1.trans (.of x2)) (al.mono x2) _ fun y H3 x3 ry => by
    have rx' := rx.mono (fun _ z => z) (.of x3)
    have al3 := (al.mono x2).mono x3
    cases rx' with
    | tup m1 h1 r1 =>
      cases ry with
      | tup m2 h2 r2 =>
        refine ⟨_, _, _, _, rfl, rfl, .inl h1, .inl h2, by rw [r1.length, r2.length]; exact Evl.sz_of hl, fun e => ?_, fun _ e => ?_, fun _ _ p hp => ?_⟩
        · subst e
          cases r1
          exact q _ _ (x2.trans x3) (.tup m2 h2 r2)
        · subst e
          cases r2
          exact q _ _ (x2.trans x3) (.tup m1 h1 (by rw [List.append_nil]; exact r1))
        · exact q _ _ ((x2.trans x3).trans (Evl.Ex.new hp)) (.tup (al3.fresh hp) (.inl upd_same) ((r1.append r2).mono (fun _ z => z) (.of (Evl.Ex.new hp))))⟩
/-! ### x in a list of whole numbers -/
theorem inV_ints (x : Int) (ns : List Int) : inV (.int x) (ns.map V.int) = decide (x ∈ ns) := by
  unfold inV
  rw [List.any_map, Bool.eq_iff_iff, decide_eq_true_eq, List.any_eq_true]
  constructor
  · rintro ⟨y, hy, e⟩
    have e : (y == x) = true := e
    rw [← beq_iff_eq.mp e]
    exact hy
  · intro h
    exact ⟨x, h, (by show (x == x) = true; simp)⟩
theorem flat_ints (ns : List Int) : (ns.map V.int).all flatV = true := by
  rw [List.all_map, List.all_eq_true]
  exact fun _ _ => rfl
theorem td_in {x : Int} {ns : List Int} (ha : PD X M a σ H (.int x)) (hb : PD X M b σ H (.list (ns.map PyData.int))) (hk : behindInMarks .In b = false := by rfl) : TD X M (.Compare a [.In] [b] pos) σ H (decide (x ∈ ns)) :=
  td_cmpR op_in_seq hk (fun u v H1 ru rv _ Q q => by
    cases ru
    cases rv with
    | lst m hs rs =>
      refine ⟨_, _, rfl, .inl (.inl hs), rfl, by rw [rs.of_ints]; exact flat_ints ns, ?_⟩
      rw [rs.of_ints]
      show Q (.bl (inV (.int x) (ns.map V.int))) H1
      rw [inV_ints]
      exact q _ H1 (Evl.Ex.refl H1) (.bl _)) ha hb
theorem td_nin {x : Int} {ns : List Int} (ha : PD X M a σ H (.int x)) (hb : PD X M b σ H (.list (ns.map PyData.int))) (hk : behindInMarks .NotIn b = false := by rfl) : TD X M (.Compare a [.NotIn] [b] pos) σ H (!decide (x ∈ ns)) :=
  td_cmpR op_notIn_seq hk (fun u v H1 ru rv _ Q q => by
    cases ru
    cases rv with
    | lst m hs rs =>
      refine ⟨_, _, rfl, .inl (.inl hs), rfl, by rw [rs.of_ints]; exact flat_ints ns, ?_⟩
      rw [rs.of_ints]
      show Q (.bl (!inV (.int x) (ns.map V.int))) H1
      rw [inV_ints]
      exact q _ H1 (Evl.Ex.refl H1) (.bl _)) ha hb
/-! ### is True, is False -/
theorem ce_isnB {Q : VK} {k j : Bool} {jj p2} (h : wE X a σ H fun x H2 => x = .bl k ∧ Q (.bl (!decide (k = j))) H2) : wE X (.Compare a [.IsNot] [.Constant (.bool j) jj p2] pos) σ H Q :=
  ⟨_, pe_cmpR op_isnot_bl wE.pe pe_bl (nomark _), wE.weak h fun x H2 ⟨e, q⟩ => (by exact ⟨k, j, e, rfl, q⟩)⟩
theorem ct_isnB {Q : Bool → Hp → Prop} {k j : Bool} {jj p2} (h : wE X a σ H fun x H2 => x = .bl k ∧ Q (!decide (k = j)) H2) : wT X (.Compare a [.IsNot] [.Constant (.bool j) jj p2] pos) σ H Q :=
  ⟨_, pt_cmpR op_isnot_bl wE.pe pe_bl (nomark _), wE.weak h fun x H2 ⟨e, q⟩ => (by exact ⟨k, j, e, rfl, _, rfl, q⟩)⟩
/-! ### len(set(..)) -/
def dd : List Int → List Int
  | [] => []
  | x :: t => if x ∈ t then dd t else x :: dd t
theorem mem_dd {l : List Int} {k : Int} : k ∈ dd l ↔ k ∈ l := by
  induction l with
  | nil => exact Iff.rfl
  | cons x t ih =>
    unfold dd
    split
    · rename_i h
      rw [ih, List.mem_cons]
      exact ⟨.inr, fun z => z.elim (fun e => e ▸ h) id⟩
    · rw [List.mem_cons, List.mem_cons, ih]
theorem nd_dd (l : List Int) : (dd l).Nodup := by
  induction l with
  | nil => exact List.nodup_nil
  | cons x t ih =>
    unfold dd
    split
    · exact ih
    · rename_i h
      exact List.nodup_cons.mpr ⟨fun z => h (mem_dd.mp z), ih⟩
theorem dd_le (l : List Int) : (dd l).length ≤ l.length := by
  induction l with
  | nil => exact Nat.le_refl _
  | cons x t ih =>
    unfold dd
    split
    · exact Nat.le_succ_of_le ih
    · exact Nat.succ_le_succ ih
theorem dd_eq {l : List Int} : (dd l).length = l.length ↔ l.Nodup := by
  induction l with
  | nil => exact ⟨fun _ => List.nodup_nil, fun _ => rfl⟩
  | cons x t ih =>
    unfold dd
    rw [List.nodup_cons]
    split
    · rename_i h
      constructor
      · intro e
        have := dd_le t
        rw [List.length_cons] at e
        omega
      · exact fun z => absurd h z.1
    · rename_i h
      rw [List.length_cons, List.length_cons]
      exact ⟨fun e => ⟨h, ih.mp (by omega)⟩, fun z => by rw [ih.mpr z.2]⟩
theorem pd_lenSet {p p2 q2 : Pos} {ns : List Int} (hc : X.calm = true) (hg : Gl X "len") (hm : X.mg "len" = none) (hg2 : Gl X "set") (hm2 : X.mg "set" = none) (ha : PD X M a σ H (sqD tp (ns.map PyData.int))) (hl : ns.length < 64)
    (na : starEach [a] X.env = (false, eval a X.env) :: starEach [] X.env := by rfl) : PD X M (.Call (.Name "len" p) [.Call (.Name "set" p2) [a] [] q2] [] pos) σ H (.int ((dd ns).length : Nat)) := .mk fun H1 e1 al Q q => by
  refine ⟨fun σ H Q => wE X a σ H fun x H1 => ∃ l, x = V.ref l ∧ (SqL X.K H1 l (ns.map V.int) ∨ SqT X.K H1 l (ns.map V.int)) ∧ Q (.int ((dd ns).length : Nat)) H1, ⟨fun pins s σ H Q J h => ?_⟩, ?_⟩
  · refine Call_ (ld_blt J hg hm PySem.boot_len (PyProof.Rows.callWith_builtin1 (PyProof.Rows.args_cons ?_ rfl) rfl rfl))
    refine Call_ (ld_blt J hg2 hm2 PyProof.Rows.boot_set (PyProof.Rows.callWith_type1 (PyProof.Rows.args_cons (thn (wE.pe.run pins s σ H _ J h) fun v s1 ⟨x, H1, J1, r1, l, e2, hq, q1⟩ => PyProof.Rows.args_nil ?_) na) na rfl))
    subst e2
    cases r1
    have fin : ∀ (g : Heap) (tk c : Nat), SetR X.w g s1.heap.objs.size (fun j => decide (j ∈ ns)) c → c ≤ ns.length → (∀ b o, s1.heap.get? b = some o → g.get? b = some o) →
        wpAny (model X.prog X.w) X.A (spliced (backTo pos (starEach [] X.env))) (fun vs s₂ => wpAny (model X.prog X.w) X.A (call (.builtin "len") (Value.ref s1.heap.objs.size :: vs)) (EP X pins σ Q) X.xe s₂) X.xe { s1 with heap := g, toks := tk } := by
      intro g tk c R hcl k
      refine PyProof.Rows.args_nil ?_
      obtain ⟨o, es, ep, t, ho, hex, hd, _, hnd, hmem, hsz, hf, hn, _⟩ := R
      have J2 : Inv X pins σ H1 { s1 with heap := g, toks := tk } := J1.kept k
      have hc' : c = (dd ns).length := by
        have pm : (es.toList.map keyOf).Perm (dd ns) := (List.perm_ext_iff_of_nodup hnd (nd_dd ns)).mpr fun k => by
          rw [← hmem k, mem_dd]
          exact decide_eq_true_iff
        have := pm.length_eq
        rw [List.length_map, Array.length_toList, hn] at this
        exact this
      refine call_len_set ho hex hd hf (by rw [hn] <;> omega) ⟨.int ((dd ns).length : Nat), H1, J2.tok _, ⟨_, by rw [hn, hc']⟩, q1⟩
    rcases hq with hq | hq
    · obtain ⟨its, r, pl, hz⟩ := J1.list hq
      exact set_ofL ns (J1.ok.hd hc) pl.isList (by simpa using r.ints) (by unfold scanBound; omega) fun g tk c R hcl k => fin g tk c R hcl k
    · obtain ⟨its, r, pl, hz⟩ := J1.tuple hq
      exact call_set_tupI ns (J1.ok.hd hc) pl (by simpa using r.ints) (by unfold scanBound; omega) fun g tk c R hcl k => fin g tk c R hcl k
  · refine ha.run H1 e1 al _ fun v H2 x2 r => ?_
    cases tp with
    | true =>
      cases r with
      | tup m hr rs => exact ⟨_, rfl, .inr (.inl (by rw [← rs.of_ints]; exact hr)), q _ H2 x2 (.int _)⟩
    | false =>
      cases r with
      | lst m hr rs => exact ⟨_, rfl, .inl (.inl (by rw [← rs.of_ints]; exact hr)), q _ H2 x2 (.int _)⟩
end
end GV

/-! isinstance of an exception that has attributes: the library's kitx_exc, carried to the suite of an except clause -/
namespace GV
open PySem PySem.Spec PyProof.Rows L2
theorem call_isEd {X : Cx} {a D dd : Addr} {oe : Obj} {fs : List (Str × V)} {pn : List (Addr × Obj)} (C : ExcC X.K D) (hz : Zc (.ref D) (some dd) oe) (hf : ∃ vs, oe.data = .fields vs) :
    CallR (X.suite a ((a, oe) :: pn)) (.builtin "isinstance") (fun xs H Q => H dd = some (.xd fs) ∧ rIsE X.K D a xs H Q) := by
  intro pins s σ H xs us Q J r h
  obtain ⟨hdd, c, cv, b, rfl, hcv, e, q⟩ := h
  obtain ⟨u1, u2, rfl, rx, rt⟩ : ∃ u1 u2, us = [u1, u2] ∧ L2.RelV (.ref a) u1 ∧ L2.RelV c u2 := by
    rcases r with _ | ⟨rx, _ | ⟨rt, _ | _⟩⟩
    exact ⟨_, _, rfl, rx, rt⟩
  cases rx
  have ec := hcv _ rt
  subst ec
  have ha := (J.pin (a, oe) (List.mem_append.mpr (.inl (List.mem_cons_self ..)))).1
  obtain ⟨mA, hns, _⟩ := (show ObjOk X.prog X.w H s.heap dd (.xd fs) from J.hok dd _ hdd)
  obtain ⟨od, ho, _⟩ := lookIn_ns hns
  obtain ⟨vs, hv⟩ := hf
  have no : PySem.W.notCls oe = true := by
    unfold PySem.W.notCls
    rw [hv] <;> rfl
  have at_ : PySem.W.InstAt s.heap a oe D (some od) := ⟨ha, hz.1, no, by rw [hz.2]; exact ho⟩
  have hcl : (PySem.W.clsIn X.K D).isSome = true := by
    obtain ⟨cd, hc, _⟩ := PySem.W.any_some C.hd
    rw [hc]
    rfl
  exact PySem.W.kia_one (PySem.W.kitx_exc hcl C.hg C.hk C.hs C.ha C.hn C.ht C.hm) J.kIn at_ e (fun z => nomatch z) fun tk => ⟨.bl b, H, J.kept (t' := tk) fun _ _ z => z, rfl, q⟩
end GV

namespace GV
open PySem PySem.Spec PyProof.Rows L2
section
variable {X : Cx} {M : Addr → Prop} {σ : St} {H H' : Hp} {a b c e : Expr} {da db d : PyData} {pos : Pos} {es : List Expr} {ds : List PyData}
/-! ### != of tuples that hold the same things -/
def rNeSame (K : PySem.W.Frag) : R2 := fun x y H Q => ∃ a b xs, x = .ref a ∧ y = .ref b ∧ SqT K H a xs ∧ SqT K H b xs ∧ (∀ v ∈ xs, sameB v = true) ∧ Q (.bl false) H
theorem op_neSame (hu : X.A.units < cLine) : OpR X (compareOp .NotEq) (rNeSame X.K) := by
  intro pins s σ H x y v u Q I rx ry h
  obtain ⟨a, b, xs, rfl, rfl, ha, hb, hs, q⟩ := h
  cases (show v = Value.ref a from rx)
  cases (show u = Value.ref b from ry)
  obtain ⟨us, r1, p1, _⟩ := I.tuple ha
  obtain ⟨ws, r2, p2, _⟩ := I.tuple hb
  have l1 := r1.length
  have l2 := r2.length
  refine SeqAt.RcNeAt.tuples (e := fun _ => true) p1 p2 hu (fun j h1 h2 => ?_) X.prog X.w X.xe _ ?_
  · have hj : j < xs.length := by
      rw [l1]
      simpa using h1
    have hx : xs[j]? = some xs[j] := List.getElem?_eq_getElem hj
    obtain ⟨v1, e1, rv1⟩ := r1.get hx
    obtain ⟨v2, e2, rv2⟩ := r2.get hx
    have f1 : us.toArray[j] = v1 := by
      have : us[j]? = some us[j] := List.getElem?_eq_getElem (by simpa using h1)
      rw [this] at e1
      simpa using e1
    have f2 : ws.toArray[j] = v2 := by
      have : ws[j]? = some ws[j] := List.getElem?_eq_getElem (by simpa using h2)
      rw [this] at e2
      simpa using e2
    rw [f1, f2]
    have hv := hs _ (List.getElem_mem hj)
    generalize xs[j] = z at rv1 rv2 hv
    cases z with
    | ref r =>
      cases (show v1 = Value.ref r from rv1)
      cases (show v2 = Value.ref r from rv2)
      exact SeqAt.EqAt.same _
    | _ => exact eqAt_same rv1 rv2 hv
  · refine ⟨.bl false, H, I, ?_, q⟩
    have e1 : us.toArray.size = ws.toArray.size := by
      rw [List.size_toArray, List.size_toArray, ← l1, ← l2]
    rw [e1, show ((List.range (min ws.toArray.size ws.toArray.size)).all fun _ => true) = true from List.all_eq_true.mpr fun _ _ => rfl]
    simp [L2.RelV]
theorem ct_neSame {Q : Bool → Hp → Prop} (hu : X.A.units + 64 < cLine) (h : wE X a σ H fun x H2 => wE X b σ H2 fun y H3 => rNeSame X.K x y H3 fun v H4 => v = .bl false ∧ Q false H4) : wT X (.Compare a [.NotEq] [b] pos) σ H Q :=
  ⟨_, pt_cmpR (op_neSame (by omega)) wE.pe wE.pe (nomark _), wE.weak h fun x H2 h2 => wE.weak h2 fun y H3 ⟨a, b, xs, e1, e2, s1, s2, hs, _, q⟩ => ⟨a, b, xs, e1, e2, s1, s2, hs, _, rfl, q⟩⟩
theorem ct_ne {Q : Bool → Hp → Prop} (hu : X.A.units + 64 < cLine) (h : wE X a σ H fun x H2 => wE X b σ H2 fun y H3 => ∃ da db, Dp X.K H3 x da ∧ Dp X.K H3 y db ∧ SeqAt.shaped da = true ∧ SeqAt.shaped db = true ∧ Q (!PyData.eqv da db) H3) : wT X (.Compare a [.NotEq] [b] pos) σ H Q :=
  ⟨_, pt_cmpR (op_neD hu) wE.pe wE.pe (nomark _), wE.weak h fun x H2 h2 => wE.weak h2 fun y H3 ⟨da, db, h1, h2, h3, h4, q⟩ => ⟨da, db, h1, h2, h3, h4, _, rfl, q⟩⟩
/-- e == ("..", name), where e gives just that -/
theorem ce_same2 {s : Str} {i n m : Nat} {cn : Str} {vb : V} {p1 p2 p3 : Pos} {Q : VK} (hu : X.A.units + 64 < cLine) (hs : sameB vb = true) (hi : X.N[i]? = some cn) (hv : Vis X.env.scope cn) (hσ : σ[i]? = some (some vb))
    (h : wE X a σ H fun x H2 => ∃ p, x = .ref p ∧ H2 p = some (.tup [.str s, vb]) ∧ ∀ H3, Evl.Ex H2 H3 → Q (.bl true) H3)
    (hd : (cn == ("__debug__" : Str)) = false := by decide) (hcd : (cn == ("__classdict__" : Str)) = false := by decide) (h1 : starEach (.Constant (.str s) n p1 :: [.Name cn p2]) X.env = (false, eval (.Constant (.str s) n p1) X.env) :: starEach [.Name cn p2] X.env := by rfl) (h2 : starEach (.Name cn p2 :: []) X.env = (false, eval (.Name cn p2) X.env) :: starEach [] X.env := by rfl) :
    wE X (.Compare a [.Eq] [.Tuple [.Constant (.str s) n p1, .Name cn p2] m p3] pos) σ H Q := by
  refine ce_eqSame hu (wE.weak h ?_)
  rintro x H2 ⟨p, rfl, hp, q⟩
  refine ce_tup (ca_cons (ce_str (ca_cons (ce_name hi hv hσ (ca_nil ⟨(by show 2 ≤ 1000; decide), fun t ht => ?_⟩) hd hcd) h2)) h1)
  refine ⟨p, t, _, rfl, rfl, .inl (.inl (Evl.Ex.new ht _ _ hp)), .inl (.inl upd_same), fun v hv => ?_, q _ (Evl.Ex.new ht)⟩
  simp only [List.mem_cons, List.not_mem_nil, or_false] at hv
  rcases hv with rfl | rfl
  · rfl
  · exact hs
theorem ct_same2 {s : Str} {i n m : Nat} {cn : Str} {vb : V} {p1 p2 p3 : Pos} {Q : Bool → Hp → Prop} (hu : X.A.units + 64 < cLine) (hs : sameB vb = true) (hi : X.N[i]? = some cn) (hv : Vis X.env.scope cn) (hσ : σ[i]? = some (some vb))
    (h : wE X a σ H fun x H2 => ∃ p, x = .ref p ∧ H2 p = some (.tup [.str s, vb]) ∧ ∀ H3, Evl.Ex H2 H3 → Q false H3)
    (hd : (cn == ("__debug__" : Str)) = false := by decide) (hcd : (cn == ("__classdict__" : Str)) = false := by decide) (h1 : starEach (.Constant (.str s) n p1 :: [.Name cn p2]) X.env = (false, eval (.Constant (.str s) n p1) X.env) :: starEach [.Name cn p2] X.env := by rfl) (h2 : starEach (.Name cn p2 :: []) X.env = (false, eval (.Name cn p2) X.env) :: starEach [] X.env := by rfl) :
    wT X (.Compare a [.NotEq] [.Tuple [.Constant (.str s) n p1, .Name cn p2] m p3] pos) σ H Q := by
  refine ct_neSame hu (wE.weak h ?_)
  rintro x H2 ⟨p, rfl, hp, q⟩
  refine ce_tup (ca_cons (ce_str (ca_cons (ce_name hi hv hσ (ca_nil ⟨(by show 2 ≤ 1000; decide), fun t ht => ?_⟩) hd hcd) h2)) h1)
  refine ⟨p, t, _, rfl, rfl, .inl (.inl (Evl.Ex.new ht _ _ hp)), .inl (.inl upd_same), fun v hv => ?_, rfl, q _ (Evl.Ex.new ht)⟩
  simp only [List.mem_cons, List.not_mem_nil, or_false] at hv
  rcases hv with rfl | rfl
  · rfl
  · exact hs
end
end GV

namespace GV
open PySem PySem.Spec PyProof.Rows L2
section
variable {X : Cx} {σ : St} {H : Hp} {e elt : Expr} {pos : Pos}
theorem s_setLcR {iy : Nat} {yn : Str} {py spos : Pos} {D0 : Ends} {slot : Nat} {x : Str} {p p1 p2 : Pos} {scope : Scope} {own : List (Str × Nat)} (hc : X.calm = true) (hN : X.N.Nodup) (hg : Gl X "range") (hm : X.mg "range" = none) (ok : BlkOk X.N X.env.scope scope own)
    (hx : ∀ s H C cl fp, PG (Cx.lc X s H scope C cl fp) (.Name x p2) (gName slot)) (hw : ∀ v, wipe ((wipe σ (own.map (·.2))).set slot (some v)) (own.map (·.2)) = wipe σ (own.map (·.2)))
    (h : wE X e σ H fun v H1 => ∃ n : Nat, v = .int (n : Nat) ∧ n ≤ 1000000 ∧ ∀ D, H1 D = none → ∃ J : Nat → Hp → Prop, J 0 (upd H1 D (.lst [])) ∧
      (∀ i H', i < n → J i H' → ∀ s0 H0 C cl fp, wE (Cx.lc X s0 H0 scope C cl fp) elt ((wipe σ (own.map (·.2))).set slot (some (.int (i : Nat)))) H' fun y H4 => ∃ acc, H4 D = some (.lst acc) ∧ acc.length < 100000 ∧ J (i + 1) (upd H4 D (.lst (acc ++ [y])))) ∧ ∀ H', J n H' → D0.nx (σ.set iy (some (.ref D))) H')
    (hy : X.N[iy]? = some yn) (hyl : X.env.scope.names.lookup yn = some .local) (hsw : swapsWith (.ListComp elt [⟨.Name x p2, .Call (.Name "range" p) [e] [] p1, [], 0⟩] scope pos) (some (.Name yn py)) spos.line X.env = pure true) (hs : starEach [e] X.env = [(false, eval e X.env)] := by rfl) (hs' : starEach (e :: []) X.env = (false, eval e X.env) :: starEach [] X.env := by rfl)
    (hf : ∀ x, foldedSetIterable (.Call (.Name "range" p) [e] [] p1) X.env x = pure x := by intro _; rfl) : wS X (.Assign [.Name yn py] (.ListComp elt [⟨.Name x p2, .Call (.Name "range" p) [e] [] p1, [], 0⟩] scope pos) spos) D0 σ H := by
  refine ⟨_, ps_setLc (tt := fun σ H Q => Q true H) (te := fun σ H Q => ∀ s0 H0 C cl fp, wE (Cx.lc X s0 H0 scope C cl fp) elt σ H Q) hc hN hy hyl hsw (pi_range1 hg hm wA.pa hs) ok hx (fun _ _ _ _ _ => ⟨fun pins s σ H Q I h => pts_nil.run pins s σ H Q I h⟩)
    (fun s0 H0 C cl fp => ⟨fun pins s σ H Q I h => wE.pe.run pins s σ H Q I (h s0 H0 C cl fp)⟩) hf, ca_cons (wE.weak h ?_) hs'⟩
  rintro v H1 ⟨n, rfl, hn, run⟩
  refine ca_nil ⟨(n : Nat), rfl, by omega, by omega, ?_⟩
  rw [show ((n : Nat) : Int).toNat = n by omega]
  intro D hD
  obtain ⟨J, h0, ht, hd⟩ := run D hD
  refine ⟨fun i m H' => m = n - i ∧ i ≤ n ∧ J i H', ⟨n, rfl, Nat.zero_le _, h0⟩, ?_⟩
  rintro i m H' ⟨rfl, hi', j⟩
  have wk := wk_range (K := X.K) (M := M0) (H := H') 0 n
  have ln : ((List.range n).map fun i => PyData.int (0 + (i : Nat))).length = n := by simp
  by_cases hlt : i < n
  · refine .inr ⟨wk.go M0 i H' (fun _ z => z.elim) (ExM.refl _) (by rw [ln]; exact hlt), J (i + 1), fun H2 j2 => ⟨n - (i + 1), by omega, rfl, hlt, j2⟩, fun x H2 y => ?_⟩
    obtain ⟨rfl, rfl⟩ := y
    rw [Int.zero_add]
    refine ⟨hw _, ?_⟩
    show if true = true then _ else _
    rw [if_pos rfl]
    intro s0 H0 C cl fp
    refine wE.weak (ht i _ hlt j s0 H0 C cl fp) ?_
    rintro y H4 ⟨acc, h1, h2, h3⟩
    exact ⟨acc, h1, Nat.lt_of_lt_of_le h2 (by rw [sizeLine_eq]; decide), h3⟩
  · have e2 : i = n := by omega
    subst e2
    have := wk.stop M0 H' (fun _ z => z.elim) (ExM.refl _)
    rw [ln] at this
    exact .inl ⟨this, hd H' j⟩
end
end GV

namespace DK
open PySem PySem.Spec PyProof.Rows L2 GV
abbrev St := L2.St
def topS (i : Nat) : Stmt := PySem.Challenge.pw_millbrook_k07_tame_places.main.body.getD i (.Pass ⟨0, 0, 0, 0⟩)
abbrev s_wall : Stmt := topS 0
abbrev n_wall : List Str := ["k"]
abbrev p_wall : List Str := ["k"]
theorem sc_wall : FnScope n_wall p_wall (defScope s_wall) := ⟨rfl, rfl, rfl, by decide +kernel, rfl, by decide +kernel, by decide +kernel⟩
abbrev s_InvalidRow_init : Stmt := inClass (topS 3) 0
abbrev n_InvalidRow_init : List Str := ["self", "row"]
abbrev p_InvalidRow_init : List Str := ["self", "row"]
theorem sc_InvalidRow_init : FnScope n_InvalidRow_init p_InvalidRow_init (defScope s_InvalidRow_init) := ⟨rfl, rfl, rfl, by decide +kernel, rfl, by decide +kernel, by decide +kernel⟩
abbrev s_InvalidPlace_init : Stmt := inClass (topS 4) 0
abbrev n_InvalidPlace_init : List Str := ["self", "place"]
abbrev p_InvalidPlace_init : List Str := ["self", "place"]
theorem sc_InvalidPlace_init : FnScope n_InvalidPlace_init p_InvalidPlace_init (defScope s_InvalidPlace_init) := ⟨rfl, rfl, rfl, by decide +kernel, rfl, by decide +kernel, by decide +kernel⟩
abbrev s_InvalidWalk_init : Stmt := inClass (topS 5) 0
abbrev n_InvalidWalk_init : List Str := ["self", "walk"]
abbrev p_InvalidWalk_init : List Str := ["self", "walk"]
theorem sc_InvalidWalk_init : FnScope n_InvalidWalk_init p_InvalidWalk_init (defScope s_InvalidWalk_init) := ⟨rfl, rfl, rfl, by decide +kernel, rfl, by decide +kernel, by decide +kernel⟩
abbrev s_InvalidHouse_init : Stmt := inClass (topS 6) 0
abbrev n_InvalidHouse_init : List Str := ["self", "house"]
abbrev p_InvalidHouse_init : List Str := ["self", "house"]
theorem sc_InvalidHouse_init : FnScope n_InvalidHouse_init p_InvalidHouse_init (defScope s_InvalidHouse_init) := ⟨rfl, rfl, rfl, by decide +kernel, rfl, by decide +kernel, by decide +kernel⟩
abbrev s_Barred_init : Stmt := inClass (topS 7) 0
abbrev n_Barred_init : List Str := ["self", "place", "step"]
abbrev p_Barred_init : List Str := ["self", "place", "step"]
theorem sc_Barred_init : FnScope n_Barred_init p_Barred_init (defScope s_Barred_init) := ⟨rfl, rfl, rfl, by decide +kernel, rfl, by decide +kernel, by decide +kernel⟩
abbrev s_is_integer : Stmt := topS 9
abbrev n_is_integer : List Str := ["value"]
abbrev p_is_integer : List Str := ["value"]
theorem sc_is_integer : FnScope n_is_integer p_is_integer (defScope s_is_integer) := ⟨rfl, rfl, rfl, by decide +kernel, rfl, by decide +kernel, by decide +kernel⟩
abbrev s_is_number : Stmt := topS 10
abbrev n_is_number : List Str := ["value", "low", "high"]
abbrev p_is_number : List Str := ["value", "low", "high"]
theorem sc_is_number : FnScope n_is_number p_is_number (defScope s_is_number) := ⟨rfl, rfl, rfl, by decide +kernel, rfl, by decide +kernel, by decide +kernel⟩
abbrev s_is_weight : Stmt := topS 15
abbrev n_is_weight : List Str := ["value"]
abbrev p_is_weight : List Str := ["value"]
theorem sc_is_weight : FnScope n_is_weight p_is_weight (defScope s_is_weight) := ⟨rfl, rfl, rfl, by decide +kernel, rfl, by decide +kernel, by decide +kernel⟩
abbrev s_is_bag_row : Stmt := topS 16
abbrev n_is_bag_row : List Str := ["value", "item"]
abbrev p_is_bag_row : List Str := ["value"]
theorem sc_is_bag_row : FnScope n_is_bag_row p_is_bag_row (defScope s_is_bag_row) := ⟨rfl, rfl, rfl, by decide +kernel, rfl, by decide +kernel, by decide +kernel⟩
abbrev s_is_row : Stmt := topS 17
abbrev n_is_row : List Str := ["value"]
abbrev p_is_row : List Str := ["value"]
theorem sc_is_row : FnScope n_is_row p_is_row (defScope s_is_row) := ⟨rfl, rfl, rfl, by decide +kernel, rfl, by decide +kernel, by decide +kernel⟩
abbrev s_is_place : Stmt := topS 18
abbrev n_is_place : List Str := ["row", "value"]
abbrev p_is_place : List Str := ["row", "value"]
theorem sc_is_place : FnScope n_is_place p_is_place (defScope s_is_place) := ⟨rfl, rfl, rfl, by decide +kernel, rfl, by decide +kernel, by decide +kernel⟩
abbrev s_check_row : Stmt := topS 19
abbrev n_check_row : List Str := ["row"]
abbrev p_check_row : List Str := ["row"]
theorem sc_check_row : FnScope n_check_row p_check_row (defScope s_check_row) := ⟨rfl, rfl, rfl, by decide +kernel, rfl, by decide +kernel, by decide +kernel⟩
abbrev s_check_place : Stmt := topS 20
abbrev n_check_place : List Str := ["row", "place"]
abbrev p_check_place : List Str := ["row", "place"]
theorem sc_check_place : FnScope n_check_place p_check_place (defScope s_check_place) := ⟨rfl, rfl, rfl, by decide +kernel, rfl, by decide +kernel, by decide +kernel⟩
abbrev s_check_walk : Stmt := topS 21
abbrev n_check_walk : List Str := ["row", "walk", "place"]
abbrev p_check_walk : List Str := ["row", "walk"]
theorem sc_check_walk : FnScope n_check_walk p_check_walk (defScope s_check_walk) := ⟨rfl, rfl, rfl, by decide +kernel, rfl, by decide +kernel, by decide +kernel⟩
abbrev s_swapped : Stmt := topS 22
abbrev n_swapped : List Str := ["row", "place"]
abbrev p_swapped : List Str := ["row", "place"]
theorem sc_swapped : FnScope n_swapped p_swapped (defScope s_swapped) := ⟨rfl, rfl, rfl, by decide +kernel, rfl, by decide +kernel, by decide +kernel⟩
abbrev s_check_bag_row : Stmt := topS 24
abbrev n_check_bag_row : List Str := ["row"]
abbrev p_check_bag_row : List Str := ["row"]
theorem sc_check_bag_row : FnScope n_check_bag_row p_check_bag_row (defScope s_check_bag_row) := ⟨rfl, rfl, rfl, by decide +kernel, rfl, by decide +kernel, by decide +kernel⟩
abbrev s_tames : Stmt := topS 25
abbrev n_tames : List Str := ["row", "place", "lighter", "heavier", "weight"]
abbrev p_tames : List Str := ["row", "place"]
theorem sc_tames : FnScope n_tames p_tames (defScope s_tames) := ⟨rfl, rfl, rfl, by decide +kernel, rfl, by decide +kernel, by decide +kernel⟩
abbrev s_is_tame : Stmt := topS 26
abbrev n_is_tame : List Str := ["row", "place"]
abbrev p_is_tame : List Str := ["row", "place"]
theorem sc_is_tame : FnScope n_is_tame p_is_tame (defScope s_is_tame) := ⟨rfl, rfl, rfl, by decide +kernel, rfl, by decide +kernel, by decide +kernel⟩
abbrev s_tame_places : Stmt := topS 27
abbrev n_tame_places : List Str := ["row", "place"]
abbrev p_tame_places : List Str := ["row"]
theorem sc_tame_places : FnScope n_tame_places p_tame_places (defScope s_tame_places) := ⟨rfl, rfl, rfl, by decide +kernel, rfl, by decide +kernel, by decide +kernel⟩
abbrev s_tame_change : Stmt := topS 28
abbrev n_tame_change : List Str := ["row", "place"]
abbrev p_tame_change : List Str := ["row", "place"]
theorem sc_tame_change : FnScope n_tame_change p_tame_change (defScope s_tame_change) := ⟨rfl, rfl, rfl, by decide +kernel, rfl, by decide +kernel, by decide +kernel⟩
abbrev s_tame_after : Stmt := topS 29
abbrev n_tame_after : List Str := ["row", "walk", "present", "step", "place"]
abbrev p_tame_after : List Str := ["row", "walk"]
theorem sc_tame_after : FnScope n_tame_after p_tame_after (defScope s_tame_after) := ⟨rfl, rfl, rfl, by decide +kernel, rfl, by decide +kernel, by decide +kernel⟩
abbrev s_text_of_number : Stmt := topS 32
abbrev n_text_of_number : List Str := ["number", "sides"]
abbrev p_text_of_number : List Str := ["number"]
theorem sc_text_of_number : FnScope n_text_of_number p_text_of_number (defScope s_text_of_number) := ⟨rfl, rfl, rfl, by decide +kernel, rfl, by decide +kernel, by decide +kernel⟩
abbrev s_number_of_text : Stmt := topS 33
abbrev n_number_of_text : List Str := ["text", "before", "dash", "behind"]
abbrev p_number_of_text : List Str := ["text"]
theorem sc_number_of_text : FnScope n_number_of_text p_number_of_text (defScope s_number_of_text) := ⟨rfl, rfl, rfl, by decide +kernel, rfl, by decide +kernel, by decide +kernel⟩
abbrev s_check_house : Stmt := topS 34
abbrev n_check_house : List Str := ["house"]
abbrev p_check_house : List Str := ["house"]
theorem sc_check_house : FnScope n_check_house p_check_house (defScope s_check_house) := ⟨rfl, rfl, rfl, by decide +kernel, rfl, by decide +kernel, by decide +kernel⟩
abbrev s_House_init : Stmt := inClass (topS 35) 1
abbrev n_House_init : List Str := ["self", "text", "number"]
abbrev p_House_init : List Str := ["self", "text"]
theorem sc_House_init : FnScope n_House_init p_House_init (defScope s_House_init) := ⟨rfl, rfl, rfl, by decide +kernel, rfl, by decide +kernel, by decide +kernel⟩
abbrev s_House_by_number : Stmt := inClass (topS 35) 2
abbrev n_House_by_number : List Str := ["cls", "number"]
abbrev p_House_by_number : List Str := ["cls", "number"]
theorem sc_House_by_number : FnScope n_House_by_number p_House_by_number (defScope s_House_by_number) := ⟨rfl, rfl, rfl, by decide +kernel, rfl, by decide +kernel, by decide +kernel⟩
abbrev s_House_every : Stmt := inClass (topS 35) 3
abbrev n_House_every : List Str := []
abbrev p_House_every : List Str := []
theorem sc_House_every : FnScope n_House_every p_House_every (defScope s_House_every) := ⟨rfl, rfl, rfl, by decide +kernel, rfl, by decide +kernel, by decide +kernel⟩
abbrev s_House_named : Stmt := inClass (topS 35) 4
abbrev n_House_named : List Str := ["self", "index", "kind"]
abbrev p_House_named : List Str := ["self"]
theorem sc_House_named : FnScope n_House_named p_House_named (defScope s_House_named) := ⟨rfl, rfl, rfl, by decide +kernel, rfl, by decide +kernel, by decide +kernel⟩
abbrev s_House_names_index : Stmt := inClass (topS 35) 5
abbrev n_House_names_index : List Str := ["self", "index"]
abbrev p_House_names_index : List Str := ["self", "index"]
theorem sc_House_names_index : FnScope n_House_names_index p_House_names_index (defScope s_House_names_index) := ⟨rfl, rfl, rfl, by decide +kernel, rfl, by decide +kernel, by decide +kernel⟩
abbrev s_House_mirrored : Stmt := inClass (topS 35) 6
abbrev n_House_mirrored : List Str := ["self"]
abbrev p_House_mirrored : List Str := ["self"]
theorem sc_House_mirrored : FnScope n_House_mirrored p_House_mirrored (defScope s_House_mirrored) := ⟨rfl, rfl, rfl, by decide +kernel, rfl, by decide +kernel, by decide +kernel⟩
abbrev s_House_flipped : Stmt := inClass (topS 35) 7
abbrev n_House_flipped : List Str := ["self"]
abbrev p_House_flipped : List Str := ["self"]
theorem sc_House_flipped : FnScope n_House_flipped p_House_flipped (defScope s_House_flipped) := ⟨rfl, rfl, rfl, by decide +kernel, rfl, by decide +kernel, by decide +kernel⟩
abbrev s_House_is_finer : Stmt := inClass (topS 35) 8
abbrev n_House_is_finer : List Str := ["self", "other"]
abbrev p_House_is_finer : List Str := ["self", "other"]
theorem sc_House_is_finer : FnScope n_House_is_finer p_House_is_finer (defScope s_House_is_finer) := ⟨rfl, rfl, rfl, by decide +kernel, rfl, by decide +kernel, by decide +kernel⟩
abbrev s_House_contains : Stmt := inClass (topS 35) 9
abbrev n_House_contains : List Str := ["self", "kind"]
abbrev p_House_contains : List Str := ["self", "kind"]
theorem sc_House_contains : FnScope n_House_contains p_House_contains (defScope s_House_contains) := ⟨rfl, rfl, rfl, by decide +kernel, rfl, by decide +kernel, by decide +kernel⟩
abbrev s_House_len : Stmt := inClass (topS 35) 10
abbrev n_House_len : List Str := ["self"]
abbrev p_House_len : List Str := ["self"]
theorem sc_House_len : FnScope n_House_len p_House_len (defScope s_House_len) := ⟨rfl, rfl, rfl, by decide +kernel, rfl, by decide +kernel, by decide +kernel⟩
abbrev s_House_eq : Stmt := inClass (topS 35) 11
abbrev n_House_eq : List Str := ["self", "other"]
abbrev p_House_eq : List Str := ["self", "other"]
theorem sc_House_eq : FnScope n_House_eq p_House_eq (defScope s_House_eq) := ⟨rfl, rfl, rfl, by decide +kernel, rfl, by decide +kernel, by decide +kernel⟩
abbrev s_House_str : Stmt := inClass (topS 35) 12
abbrev n_House_str : List Str := ["self"]
abbrev p_House_str : List Str := ["self"]
theorem sc_House_str : FnScope n_House_str p_House_str (defScope s_House_str) := ⟨rfl, rfl, rfl, by decide +kernel, rfl, by decide +kernel, by decide +kernel⟩
abbrev s_House_repr : Stmt := inClass (topS 35) 13
abbrev n_House_repr : List Str := ["self"]
abbrev p_House_repr : List Str := ["self"]
theorem sc_House_repr : FnScope n_House_repr p_House_repr (defScope s_House_repr) := ⟨rfl, rfl, rfl, by decide +kernel, rfl, by decide +kernel, by decide +kernel⟩
abbrev s_House_or : Stmt := inClass (topS 35) 14
abbrev n_House_or : List Str := ["self", "other"]
abbrev p_House_or : List Str := ["self", "other"]
theorem sc_House_or : FnScope n_House_or p_House_or (defScope s_House_or) := ⟨rfl, rfl, rfl, by decide +kernel, rfl, by decide +kernel, by decide +kernel⟩
abbrev s_House_and : Stmt := inClass (topS 35) 15
abbrev n_House_and : List Str := ["self", "other"]
abbrev p_House_and : List Str := ["self", "other"]
theorem sc_House_and : FnScope n_House_and p_House_and (defScope s_House_and) := ⟨rfl, rfl, rfl, by decide +kernel, rfl, by decide +kernel, by decide +kernel⟩
abbrev s_third_kinds : Stmt := topS 37
abbrev n_third_kinds : List Str := ["row", "place", "lighter", "heavier", "letters", "behind", "stone", "index"]
abbrev p_third_kinds : List Str := ["row", "place"]
theorem sc_third_kinds : FnScope n_third_kinds p_third_kinds (defScope s_third_kinds) := ⟨rfl, rfl, rfl, by decide +kernel, rfl, by decide +kernel, by decide +kernel⟩
abbrev s_helper_indexes : Stmt := topS 38
abbrev n_helper_indexes : List Str := ["row", "place", "house", "index", "kind"]
abbrev p_helper_indexes : List Str := ["row", "place", "house"]
theorem sc_helper_indexes : FnScope n_helper_indexes p_helper_indexes (defScope s_helper_indexes) := ⟨rfl, rfl, rfl, by decide +kernel, rfl, by decide +kernel, by decide +kernel⟩
abbrev s_frees : Stmt := topS 39
abbrev n_frees : List Str := ["row", "place", "house"]
abbrev p_frees : List Str := ["row", "place", "house"]
theorem sc_frees : FnScope n_frees p_frees (defScope s_frees) := ⟨rfl, rfl, rfl, by decide +kernel, rfl, by decide +kernel, by decide +kernel⟩
abbrev s_free_places : Stmt := topS 40
abbrev n_free_places : List Str := ["row", "house", "place"]
abbrev p_free_places : List Str := ["row", "house"]
theorem sc_free_places : FnScope n_free_places p_free_places (defScope s_free_places) := ⟨rfl, rfl, rfl, by decide +kernel, rfl, by decide +kernel, by decide +kernel⟩
abbrev s_law_pot : Stmt := topS 42
abbrev n_law_pot : List Str := ["script", "at", "cell", "rest"]
abbrev p_law_pot : List Str := ["script", "at"]
theorem sc_law_pot : FnScope n_law_pot p_law_pot (defScope s_law_pot) := ⟨rfl, rfl, rfl, by decide +kernel, rfl, by decide +kernel, by decide +kernel⟩
abbrev s_law_draw : Stmt := topS 43
abbrev n_law_draw : List Str := ["pot", "size", "digit", "low", "mid", "high"]
abbrev p_law_draw : List Str := ["pot", "size"]
theorem sc_law_draw : FnScope n_law_draw p_law_draw (defScope s_law_draw) := ⟨rfl, rfl, rfl, by decide +kernel, rfl, by decide +kernel, by decide +kernel⟩
abbrev s_law_weights : Stmt := topS 44
abbrev n_law_weights : List Str := ["pot", "size", "way", "gap", "weight", "weights", "k"]
abbrev p_law_weights : List Str := ["pot", "size"]
theorem sc_law_weights : FnScope n_law_weights p_law_weights (defScope s_law_weights) := ⟨rfl, rfl, rfl, by decide +kernel, rfl, by decide +kernel, by decide +kernel⟩
abbrev s_law_bag : Stmt := topS 45
abbrev n_law_bag : List Str := ["pot", "most", "size", "weights", "k"]
abbrev p_law_bag : List Str := ["pot", "most"]
theorem sc_law_bag : FnScope n_law_bag p_law_bag (defScope s_law_bag) := ⟨rfl, rfl, rfl, by decide +kernel, rfl, by decide +kernel, by decide +kernel⟩
abbrev s_law_given : Stmt := topS 46
abbrev n_law_given : List Str := ["pot", "row"]
abbrev p_law_given : List Str := ["pot", "row"]
theorem sc_law_given : FnScope n_law_given p_law_given (defScope s_law_given) := ⟨rfl, rfl, rfl, by decide +kernel, rfl, by decide +kernel, by decide +kernel⟩
abbrev s_law_bad_row : Stmt := topS 47
abbrev n_law_bad_row : List Str := ["pot", "row", "over", "odd", "spoilt", "long", "menu"]
abbrev p_law_bad_row : List Str := ["pot", "row"]
theorem sc_law_bad_row : FnScope n_law_bad_row p_law_bad_row (defScope s_law_bad_row) := ⟨rfl, rfl, rfl, by decide +kernel, rfl, by decide +kernel, by decide +kernel⟩
abbrev s_law_is_number : Stmt := topS 48
abbrev n_law_is_number : List Str := ["value", "due"]
abbrev p_law_is_number : List Str := ["value", "due"]
theorem sc_law_is_number : FnScope n_law_is_number p_law_is_number (defScope s_law_is_number) := ⟨rfl, rfl, rfl, by decide +kernel, rfl, by decide +kernel, by decide +kernel⟩
abbrev s_law_is_list : Stmt := topS 49
abbrev n_law_is_list : List Str := ["value", "due", "k"]
abbrev p_law_is_list : List Str := ["value", "due"]
theorem sc_law_is_list : FnScope n_law_is_list p_law_is_list (defScope s_law_is_list) := ⟨rfl, rfl, rfl, by decide +kernel, rfl, by decide +kernel, by decide +kernel⟩
abbrev s_law_is_row : Stmt := topS 50
abbrev n_law_is_row : List Str := ["value", "due"]
abbrev p_law_is_row : List Str := ["value", "due"]
theorem sc_law_is_row : FnScope n_law_is_row p_law_is_row (defScope s_law_is_row) := ⟨rfl, rfl, rfl, by decide +kernel, rfl, by decide +kernel, by decide +kernel⟩
abbrev s_law_tame : Stmt := topS 51
abbrev n_law_tame : List Str := ["row", "place", "low", "high", "k"]
abbrev p_law_tame : List Str := ["row", "place"]
theorem sc_law_tame : FnScope n_law_tame p_law_tame (defScope s_law_tame) := ⟨rfl, rfl, rfl, by decide +kernel, rfl, by decide +kernel, by decide +kernel⟩
abbrev s_law_tame_list : Stmt := topS 52
abbrev n_law_tame_list : List Str := ["row", "place"]
abbrev p_law_tame_list : List Str := ["row"]
theorem sc_law_tame_list : FnScope n_law_tame_list p_law_tame_list (defScope s_law_tame_list) := ⟨rfl, rfl, rfl, by decide +kernel, rfl, by decide +kernel, by decide +kernel⟩
abbrev s_law_exchanged : Stmt := topS 53
abbrev n_law_exchanged : List Str := ["row", "place", "now"]
abbrev p_law_exchanged : List Str := ["row", "place"]
theorem sc_law_exchanged : FnScope n_law_exchanged p_law_exchanged (defScope s_law_exchanged) := ⟨rfl, rfl, rfl, by decide +kernel, rfl, by decide +kernel, by decide +kernel⟩
abbrev s_law_told : Stmt := topS 54
abbrev n_law_told : List Str := ["call", "e"]
abbrev p_law_told : List Str := ["call"]
theorem sc_law_told : FnScope n_law_told p_law_told (defScope s_law_told) := ⟨rfl, rfl, rfl, by decide +kernel, rfl, by decide +kernel, by decide +kernel⟩
abbrev s_law_barred_by_base : Stmt := topS 55
abbrev n_law_barred_by_base : List Str := ["passed", "place", "e"]
abbrev p_law_barred_by_base : List Str := ["passed", "place"]
theorem sc_law_barred_by_base : FnScope n_law_barred_by_base p_law_barred_by_base (defScope s_law_barred_by_base) := ⟨rfl, rfl, rfl, by decide +kernel, rfl, by decide +kernel, by decide +kernel⟩
abbrev s_law_places_kept : Stmt := topS 56
abbrev n_law_places_kept : List Str := ["row", "passed", "tame", "place", "told"]
abbrev p_law_places_kept : List Str := ["row", "passed"]
theorem sc_law_places_kept : FnScope n_law_places_kept p_law_places_kept (defScope s_law_places_kept) := ⟨rfl, rfl, rfl, by decide +kernel, rfl, by decide +kernel, by decide +kernel⟩
abbrev s_law_walk_kept : Stmt := topS 57
abbrev n_law_walk_kept : List Str := ["pot", "row", "passed", "now", "walk", "odd", "cut", "k", "tame", "barred", "place", "handed", "spot", "step"]
abbrev p_law_walk_kept : List Str := ["pot", "row", "passed"]
theorem sc_law_walk_kept : FnScope n_law_walk_kept p_law_walk_kept (defScope s_law_walk_kept) := ⟨rfl, rfl, rfl, by decide +kernel, rfl, by decide +kernel, by decide +kernel⟩
abbrev s_law_long_walk_kept : Stmt := topS 58
abbrev n_law_long_walk_kept : List Str := ["row", "passed", "tame", "barred", "walk", "longer", "spot"]
abbrev p_law_long_walk_kept : List Str := ["row", "passed"]
theorem sc_law_long_walk_kept : FnScope n_law_long_walk_kept p_law_long_walk_kept (defScope s_law_long_walk_kept) := ⟨rfl, rfl, rfl, by decide +kernel, rfl, by decide +kernel, by decide +kernel⟩
abbrev s_law_refusals_kept : Stmt := topS 59
abbrev n_law_refusals_kept : List Str := ["pot", "row", "passed", "bad", "far", "menu", "place", "steps", "walk", "calls", "call", "k"]
abbrev p_law_refusals_kept : List Str := ["pot", "row", "passed"]
theorem sc_law_refusals_kept : FnScope n_law_refusals_kept p_law_refusals_kept (defScope s_law_refusals_kept) := ⟨rfl, rfl, rfl, by decide +kernel, rfl, by decide +kernel, by decide +kernel⟩
abbrev s_law_world : Stmt := topS 60
abbrev n_law_world : List Str := ["pot", "row", "passed", "same"]
abbrev p_law_world : List Str := ["pot"]
theorem sc_law_world : FnScope n_law_world p_law_world (defScope s_law_world) := ⟨rfl, rfl, rfl, by decide +kernel, rfl, by decide +kernel, by decide +kernel⟩
abbrev s_law : Stmt := topS 61
abbrev n_law : List Str := ["script", "at"]
abbrev p_law : List Str := ["script"]
theorem sc_law : FnScope n_law p_law (defScope s_law) := ⟨rfl, rfl, rfl, by decide +kernel, rfl, by decide +kernel, by decide +kernel⟩
end DK

namespace DK
open PySem PySem.Spec PyProof.Rows L2 GV
section
variable {P : Program} {w : World} {K : PySem.W.Frag} {mg : Str → Option Value} {base : Heap}

/-! ### whole numbers -/
def isIntD : PyData → Bool
  | .int _ => true
  | _ => false
def isBoolD : PyData → Bool
  | .bool _ => true
  | _ => false
theorem kit_int (d : PyData) : kitB (tyD d) "int" = some (isIntD d || isBoolD d) := by
  cases d with
  | none => exact (by decide +kernel : kitB "NoneType" "int" = some false)
  | bool _ => exact (by decide +kernel : kitB "bool" "int" = some true)
  | int _ => exact (by decide +kernel : kitB "int" "int" = some true)
  | str _ => exact (by decide +kernel : kitB "str" "int" = some false)
  | list _ => exact (by decide +kernel : kitB "list" "int" = some false)
  | tuple _ => exact (by decide +kernel : kitB "tuple" "int" = some false)
  | dict _ => exact (by decide +kernel : kitB "dict" "int" = some false)
theorem kit_bool (d : PyData) : kitB (tyD d) "bool" = some (isBoolD d) := by
  cases d with
  | none => exact (by decide +kernel : kitB "NoneType" "bool" = some false)
  | bool _ => exact (by decide +kernel : kitB "bool" "bool" = some true)
  | int _ => exact (by decide +kernel : kitB "int" "bool" = some false)
  | str _ => exact (by decide +kernel : kitB "str" "bool" = some false)
  | list _ => exact (by decide +kernel : kitB "list" "bool" = some false)
  | tuple _ => exact (by decide +kernel : kitB "tuple" "bool" = some false)
  | dict _ => exact (by decide +kernel : kitB "dict" "bool" = some false)
def R_is_integer (ds : List PyData) (d : PyData) : Prop := ∃ a, ds = [a] ∧ d = .bool (isIntD a)
theorem cl_is_integer {f : Addr} {fd : FuncData} (F : At K mg "is_integer" s_is_integer f fd) (nb : NoB mg) : Cl P w K mg base CX0 1 "is_integer" (PureR K R_is_integer) := by
  refine cl_pure F sc_is_integer (F.fn.binds fun _ _ _ _ _ _ us hl => match us, hl with | [_], _ => rfl) (fun ds d h => ?_) (fun X cdv A outer s H Q E M vs ds d hX hr al r h q => ?_)
  · obtain ⟨a, rfl, _⟩ := h
    rfl
  · obtain ⟨a, rfl, rfl⟩ := h
    obtain ⟨v, rfl, r1⟩ := rpa1 r
    subst hX
    refine b_cons (s_ret al (PD.is (pd_and (pd_isi rfl nb.isinstance rfl nb.int PyProof.Rows.boot_int (nm 0 r1) (kit_int a)) fun _ => pd_one (pd_not (pd_isi rfl nb.isinstance rfl nb.bool PyProof.Rows.boot_bool (nm 0 r1) (kit_bool a)))) ?_) q)
    cases a <;> rfl
def isNumD (a : PyData) (lo hi : Int) : Bool := match a with
  | .int i => decide (lo ≤ i) && decide (i ≤ hi)
  | _ => false
def R_is_number (ds : List PyData) (d : PyData) : Prop := ∃ a lo hi, ds = [a, .int lo, .int hi] ∧ d = .bool (isNumD a lo hi)
theorem rpa3 {K : PySem.W.Frag} {M : Addr → Prop} {H : Hp} {vs : List V} {a b c : PyData} (r : RpAll K M H vs [a, b, c]) : ∃ u v w, vs = [u, v, w] ∧ Rp K M H u a ∧ Rp K M H v b ∧ Rp K M H w c := by
  obtain ⟨⟩ | ⟨r1, r⟩ := r
  obtain ⟨v, w, rfl, r2, r3⟩ := rpa2 r
  exact ⟨_, _, _, rfl, r1, r2, r3⟩
theorem cl_is_number {f : Addr} {fd : FuncData} (F : At K mg "is_number" s_is_number f fd) (c1 : Cl P w K mg base CX0 1 "is_integer" (PureR K R_is_integer)) : Cl P w K mg base CX0 2 "is_number" (PureR K R_is_number) := by
  refine cl_pure F sc_is_number (F.fn.binds fun _ _ _ _ _ _ us hl => match us, hl with | [_, _, _], _ => rfl) (fun ds d h => ?_) (fun X cdv A outer s H Q E M vs ds d hX hr al r h q => ?_)
  · obtain ⟨a, lo, hi, rfl, _⟩ := h
    rfl
  · obtain ⟨a, lo, hi, rfl, rfl⟩ := h
    obtain ⟨u, v, x, rfl, r1, r2, r3⟩ := rpa3 r
    subst hX
    refine b_cons (s_ret al (PD.is (pd_and (k2 := isNumD a lo hi) (pd_callC c1 hr (by decide) rfl (ad_cons (nm 0 r1) ad_nil) ⟨a, rfl, rfl⟩) fun ha => pd_one ?_) ?_) q)
    · cases a with
      | int i => exact pd_leLe (nm 1 r2) (nm 0 r1) (nm 2 r3)
      | _ => cases ha
    · cases a <;> rfl
def mostW : Int := 1000000000000
def isWeightD (a : PyData) : Bool := isNumD a (-mostW) mostW
def R_is_weight (ds : List PyData) (d : PyData) : Prop := ∃ a, ds = [a] ∧ d = .bool (isWeightD a)
theorem cl_is_weight {f : Addr} {fd : FuncData} {t : Tok} (F : At K mg "is_weight" s_is_weight f fd) (c1 : Cl P w K mg base CX0 2 "is_number" (PureR K R_is_number)) (gW : mg "MOST_WEIGHT" = some (.int mostW t)) : Cl P w K mg base CX0 3 "is_weight" (PureR K R_is_weight) := by
  refine cl_pure F sc_is_weight (F.fn.binds fun _ _ _ _ _ _ us hl => match us, hl with | [_], _ => rfl) (fun ds d h => ?_) (fun X cdv A outer s H Q E M vs ds d hX hr al r h q => ?_)
  · obtain ⟨a, rfl, _⟩ := h
    rfl
  · obtain ⟨a, rfl, rfl⟩ := h
    obtain ⟨v, rfl, r1⟩ := rpa1 r
    subst hX
    exact b_cons (s_ret al (pd_callC c1 hr (by decide) rfl (ad_cons (nm 0 r1) (ad_cons (pd_neg (pd_globI rfl gW)) (ad_cons (pd_globI rfl gW) ad_nil))) ⟨a, _, _, rfl, rfl⟩) q)
/-! ### couples -/
abbrev pairD (p : Int × Int) : PyData := .tuple [.int p.1, .int p.2]
end
end DK

namespace DK
open PySem PySem.Spec PyProof.Rows L2 GV
section
variable {P : Program} {w : World} {K : PySem.W.Frag} {mg : Str → Option Value} {base : Heap}
abbrev potL (r c k : Int) : HO := .lst [.int r, .int c, .int k]
def spPot (K : PySem.W.Frag) : Sp := fun vs H Q _ => ∃ (M : Addr → Prop) (a : Addr) (ns : List Int) (i : Nat), vs = [.ref a, .int i] ∧ Alive M H ∧ ScAt K M H a ns ∧ ∀ p r c H', H p = none → Evl.Ex H H' → H' p = some (potL r c 0) → Q (.ref p) H'
theorem cl_law_pot {f : Addr} {fd : FuncData} (F : At K mg "_law_pot" s_law_pot f fd) (nb : NoB mg) : Cl P w K mg base CX0 1 "_law_pot" (spPot K) := by
  refine ⟨f, fd, _, F.fn.ok sc_law_pot (fun vs H Q E h => ?_) (fun cdv A outer s H vs Q E hr h => ⟨_, wB.ps, ?_⟩), F.gl, F.fn.kp, F.fn.binds fun _ _ _ _ _ _ us hl => match us, hl with | [_, _], _ => rfl⟩
  · obtain ⟨M, a, ns, i, rfl, _⟩ := h
    rfl
  · obtain ⟨M, a, ns, i, rfl, al, r1, q⟩ := h
    have last : ∀ (c z : Int) H2, Evl.Ex H H2 → wB (cxOf CX0 P w K mg base n_law_pot "_law_pot" (defScope s_law_pot) f cdv A outer s H E).nox ((defBody s_law_pot).drop 4) { nx := fun _ H' => Q .non H', rt := Q } [some (.ref a), some (.int i), some (.int c), some (.int z)] H2 := by
      intro c z H2 x2
      refine b_cons (cs_ret (ce_fd (al.mono x2) (fd_lst (ad_cons (nm 3 (.int z)) (ad_cons (pd_mod (pd_intI nb rfl (nm 2 (.int c))) pd_int (by decide)) (ad_cons pd_int ad_nil))) (by simp)) fun p ws H3 hp x3 h3 rw3 => ?_))
      obtain ⟨u, v, x, rfl, a1, a2, a3⟩ := rpa3 rw3
      cases a1
      cases a2
      cases a3
      exact q p _ _ H3 (Evl.fresh_back x2 hp) (x2.trans x3) h3
    have mid : ∀ (c : Int) H2, Evl.Ex H H2 → wB (cxOf CX0 P w K mg base n_law_pot "_law_pot" (defScope s_law_pot) f cdv A outer s H E).nox ((defBody s_law_pot).drop 2) { nx := fun _ H' => Q .non H', rt := Q } [some (.ref a), some (.int i), some (.int c), none] H2 := by
      intro c H2 x2
      refine b_cons (s_set (i := 3) (al.mono x2) sc_law_pot.nd rfl (.inl rfl) pd_int fun v H3 x3 r3 => ?_)
      cases r3
      refine b_cons (s_if ((al.mono x2).mono x3) (td_ge (nm 2 (.int c)) (pd_pow pd_int pd_int ⟨by decide, by decide, by decide⟩)) (fun _ H4 x4 => ?_) (fun _ H4 x4 => b_nil (last c 0 H4 ((x2.trans x3).trans x4))))
      exact b_cons (s_set (i := 3) (((al.mono x2).mono x3).mono x4) sc_law_pot.nd rfl (.inl rfl) (nm 2 (.int c)) fun v H5 x5 r5 => by
        cases r5
        exact b_nil (last c c H5 (((x2.trans x3).trans x4).trans x5)))
    refine b_cons (s_set (i := 2) al sc_law_pot.nd rfl (.inl rfl) (pd_add (pd_add (pd_mul pd_int (nm 1 (.int (i : Int))) (.inl (by decide))) pd_int) (pd_mod (pd_sum rfl nb rfl (PD.is (FD.pd (fd_scSlice (j := 0) r1 od_none (od_some pd_int))) ((congrArg PyData.list (cutD_take _ 1)).trans (by rw [List.map_take])))) pd_int (by decide))) fun v H1 x1 rv => ?_)
    cases rv
    have r1' := r1.mono (fun _ z => z) (ExM.of x1)
    refine b_cons (s_if (al.mono x1) (td_lt (nm 1 (.int (i : Int))) (pd_scLen (j := 0) r1' rfl nb.len)) (fun hk H2 x2 => ?_) (fun _ H2 x2 => b_nil (mid _ H2 (x1.trans x2))))
    have hi : i < ns.length := by
      have := of_decide_eq_true hk
      omega
    refine b_cons (s_set (i := 2) ((al.mono x1).mono x2) sc_law_pot.nd rfl (.inl rfl) (pd_abs nb rfl (pd_scIx (j := 0) (r1'.mono (fun _ z => z) (ExM.of x2)) (nm 1 (.int (i : Int))) (List.getElem?_eq_getElem hi))) fun v H3 x3 r3 => ?_)
    cases r3
    exact b_nil (mid _ H3 ((x1.trans x2).trans x3))
def ExB (b : Addr) (H H' : Hp) : Prop := ∀ a o, a ≠ b → H a = some o → H' a = some o
theorem ExB.of {b : Addr} {H H' : Hp} (e : Evl.Ex H H') : ExB b H H' := fun a o _ h => e a o h
theorem ExB.trans {b : Addr} {H H1 H2 : Hp} (e : ExB b H H1) (f : ExB b H1 H2) : ExB b H H2 := fun a o n h => f a o n (e a o n h)
theorem ExB.upd {b : Addr} {H : Hp} {o : HO} : ExB b H (upd H b o) := fun a u n h => by
  rw [upd_ne n]
  exact h
def spDraw : Sp := fun vs H Q _ => ∃ (b : Addr) (n r c k : Int), vs = [.ref b, .int n] ∧ H b = some (potL r c k) ∧ 0 < n ∧ n.natAbs < 2 ^ 8000 ∧ ∀ z r' k' H', 0 ≤ z → z < n → ExB b H H' → H' b = some (potL r' c k') → Q (.int z) H'
theorem emod_lt' (a : Int) {m : Int} (h : 0 < m) : 0 ≤ a % m ∧ a % m < m := ⟨Int.emod_nonneg _ (by omega), Int.emod_lt_of_pos _ h⟩
theorem small_mul {i : Int} (h0 : 0 ≤ i) (h1 : i < 2147483648) : CMul i i := .inl ⟨by omega, by omega⟩
theorem cl_law_draw {f : Addr} {fd : FuncData} (F : At K mg "_law_draw" s_law_draw f fd) (nb : NoB mg) : Cl P w K mg base CX0 1 "_law_draw" spDraw := by
  refine ⟨f, fd, _, F.fn.ok sc_law_draw (fun vs H Q E h => ?_) (fun cdv A outer s H vs Q E hr h => ⟨_, wB.ps, ?_⟩), F.gl, F.fn.kp, F.fn.binds fun _ _ _ _ _ _ us hl => match us, hl with | [_, _], _ => rfl⟩
  · obtain ⟨b, n, r, c, k, rfl, _⟩ := h
    rfl
  · obtain ⟨b, n, r, c, k, rfl, hb, h0, hn, q⟩ := h
    have pot : ∀ {H' : Hp} {r c k : Int}, H' b = some (potL r c k) → Rp K M0 H' (.ref b) (.list [.int r, .int c, .int k]) := fun e => .lst (fun z => z) (.inl e) (.cons (.int _) (.cons (.int _) (.cons (.int _) .nil)))
    refine b_cons (cs_sub (ce_pd alive0 (pd_add (pd_ix (nm 0 (pot hb)) pd_int rfl) pd_int) fun v H1 x1 rv => ce_name (i := 0) rfl (.inl rfl) rfl (ce_pd alive0 pd_int fun y H2 x2 ry => ?_)))
    cases rv
    cases ry
    have hb2 : H2 b = some (potL r c k) := x2 _ _ (x1 _ _ hb)
    refine ⟨b, _, 2, 2, rfl, rfl, hb2, rfl, ?_⟩
    generalize hH3 : upd H2 b (.lst (List.set [V.int r, V.int c, V.int k] 2 (V.int (k + 1)))) = H3
    have hb3 : H3 b = some (potL r c (k + 1)) := by
      rw [← hH3, upd_same]
      rfl
    have e3 : ExB b H H3 := by
      rw [← hH3]
      exact ((ExB.of x1).trans (.of x2)).trans .upd
    -- if pot[0] > 0
    refine b_cons (s_if alive0 (td_gt (pd_ix (nm 0 (pot hb3)) pd_int rfl) pd_int) (fun _ H4 x4 => ?_) (fun _ H4 x4 => ?_))
    · have hb4 := x4 _ _ hb3
      refine b_cons (s_set (i := 2) alive0 sc_law_draw.nd rfl (.inl rfl) (pd_mod (pd_intI nb rfl (pd_ix (nm 0 (pot hb4)) pd_int rfl)) (nm 1 (.int n)) h0) fun v H5 x5 r5 => ?_)
      cases r5
      have hb5 := x5 _ _ hb4
      refine b_cons (cs_sub (ce_pd alive0 (pd_div (pd_ix (nm 0 (pot hb5)) pd_int rfl) (nm 1 (.int n)) (wide_div h0 hn (by decide) (by decide))) fun v H6 x6 r6 => ce_name (i := 0) rfl (.inl rfl) rfl (ce_pd alive0 pd_int fun y H7 x7 r7 => ?_)))
      cases r6
      cases r7
      refine ⟨b, _, 0, 0, rfl, rfl, x7 _ _ (x6 _ _ hb5), rfl, ?_⟩
      refine b_cons (cs_ret (ce_name (i := 2) rfl (.inl rfl) rfl ?_))
      obtain ⟨z0, z1⟩ := emod_lt' r h0
      exact q _ _ (k + 1) _ z0 z1 ((((e3.trans (.of x4)).trans (.of x5)).trans (.of (x6.trans x7))).trans .upd) upd_same
    · have hb4 := x4 _ _ hb3
      refine b_nil (b_cons (s_set (i := 3) alive0 sc_law_draw.nd rfl (.inl rfl) (pd_mod (pd_intI nb rfl (pd_add (pd_mul (pd_ix (nm 0 (pot hb4)) pd_int rfl) pd_int (.inr (by decide))) (pd_mul (pd_ix (nm 0 (pot hb4)) pd_int rfl) pd_int (.inr (by decide))))) pd_int (by decide)) fun v H5 x5 r5 => ?_))
      cases r5
      have hb5 := x5 _ _ hb4
      generalize hlow : (c * 48271 + (k + 1) * 69621) % 2147483629 = low
      obtain ⟨l0, l1⟩ : 0 ≤ low ∧ low < 2147483629 := hlow ▸ emod_lt' _ (by decide)
      refine b_cons (s_set (i := 4) alive0 sc_law_draw.nd rfl (.inl rfl) (pd_mod (pd_intI nb rfl (pd_add (pd_mul (nm 3 (.int low)) (nm 3 (.int low)) (small_mul l0 (by omega))) (pd_div (pd_ix (nm 0 (pot hb5)) pd_int rfl) pd_int (wide_div (b := 40) (by decide) (by decide) (by decide) (by decide))))) pd_int (by decide)) fun v H6 x6 r6 => ?_)
      cases r6
      generalize hmid : (low * low + c / 2147483629) % 1000000007 = mid
      obtain ⟨m0, m1⟩ : 0 ≤ mid ∧ mid < 1000000007 := hmid ▸ emod_lt' _ (by decide)
      refine b_cons (s_set (i := 5) alive0 sc_law_draw.nd rfl (.inl rfl) (pd_mod (pd_intI nb rfl (pd_add (pd_mul (nm 4 (.int mid)) (nm 4 (.int mid)) (small_mul m0 (by omega))) (nm 3 (.int low)))) pd_int (by decide)) fun v H7 x7 r7 => ?_)
      cases r7
      generalize (mid * mid + low) % 998244353 = high
      refine b_cons (s_ret alive0 (pd_mod (pd_intI nb rfl (pd_add (pd_mul (nm 4 (.int mid)) pd_int (.inr (by decide))) (nm 5 (.int high)))) (nm 1 (.int n)) h0) fun v H8 x8 r8 => ?_)
      cases r8
      obtain ⟨z0, z1⟩ := emod_lt' (mid * 998244353 + high) h0
      exact q _ _ _ H8 z0 z1 (e3.trans (.of ((((x4.trans x5).trans x6).trans x7).trans x8))) (x8 _ _ (x7 _ _ (x6 _ _ (x5 _ _ hb4))))
end
end DK

namespace DK
open PySem PySem.Spec PyProof.Rows L2 GV
section
variable {P : Program} {w : World} {K : PySem.W.Frag} {mg : Str → Option Value} {base : Heap}
abbrev intsD (ns : List Int) : PyData := .list (ns.map PyData.int)
abbrev tintsD (ns : List Int) : PyData := .tuple (ns.map PyData.int)
def R_num (ds : List PyData) (d : PyData) : Prop := ∃ k, ds = [.int k, .int k] ∧ d = .bool true
theorem cl_law_is_number {f : Addr} {fd : FuncData} (F : At K mg "_law_is_number" s_law_is_number f fd) (nb : NoB mg) : Cl P w K mg base CX0 1 "_law_is_number" (PureR K R_num) := by
  refine cl_pure F sc_law_is_number (F.fn.binds fun _ _ _ _ _ _ us hl => match us, hl with | [_, _], _ => rfl) (fun ds d h => ?_) (fun X cdv A outer s H Q E M vs ds d hX hr al r h q => ?_)
  · obtain ⟨a, rfl, _⟩ := h
    rfl
  · obtain ⟨a, rfl, rfl⟩ := h
    obtain ⟨u, v, rfl, r1, r2⟩ := rpa2 r
    subst hX
    refine b_cons (s_ret al (PD.is (pd_and (pd_isi rfl nb.isinstance rfl nb.int PyProof.Rows.boot_int (nm 0 r1) (kit_int _)) fun _ => pd_and (pd_not (pd_isi rfl nb.isinstance rfl nb.bool PyProof.Rows.boot_bool (nm 0 r1) (kit_bool _))) fun _ => pd_one (pd_eq hr.units (nm 0 r1) (nm 1 r2) rfl rfl)) ?_) q)
    simp [isIntD, isBoolD, PyData.eqv]
theorem kit_list (d : PyData) : kitB (tyD d) "list" = some (match d with | .list _ => true | _ => false) := by
  cases d with
  | none => exact (by decide +kernel : kitB "NoneType" "list" = some false)
  | bool _ => exact (by decide +kernel : kitB "bool" "list" = some false)
  | int _ => exact (by decide +kernel : kitB "int" "list" = some false)
  | str _ => exact (by decide +kernel : kitB "str" "list" = some false)
  | list _ => exact (by decide +kernel : kitB "list" "list" = some true)
  | tuple _ => exact (by decide +kernel : kitB "tuple" "list" = some false)
  | dict _ => exact (by decide +kernel : kitB "dict" "list" = some false)
theorem kit_tup (ds : List PyData) : kitB (tyD (.tuple ds)) "tuple" = some true := (by decide +kernel : kitB "tuple" "tuple" = some true)
def R_list (ds : List PyData) (d : PyData) : Prop := ∃ ns : List Int, ns.length ≤ 1000 ∧ ds = [intsD ns, intsD ns] ∧ d = .bool true
theorem get_i {ns : List Int} {i : Nat} (h : i < ns.length) : ∃ z, ns[i]? = some z := ⟨_, List.getElem?_eq_getElem h⟩
theorem cl_law_is_list {f : Addr} {fd : FuncData} (F : At K mg "_law_is_list" s_law_is_list f fd) (c1 : Cl P w K mg base CX0 1 "_law_is_number" (PureR K R_num)) (nb : NoB mg) : Cl P w K mg base CX0 2 "_law_is_list" (PureR K R_list) := by
  refine cl_pure F sc_law_is_list (F.fn.binds fun _ _ _ _ _ _ us hl => match us, hl with | [_, _], _ => rfl) (fun ds d h => ?_) (fun X cdv A outer s H Q E M vs ds d hX hr al r h q => ?_)
  · obtain ⟨ns, _, rfl, _⟩ := h
    rfl
  · obtain ⟨ns, hlen, rfl, rfl⟩ := h
    obtain ⟨u, v, rfl, r1, r2⟩ := rpa2 r
    subst hX
    refine b_cons (s_if (k := false) al ?_ (fun k => by cases k) (fun _ H2 x2 => ?_))
    · refine TD.is (WD.td (wd_or (td_not (td_val (pd_isi rfl nb.isinstance rfl nb.list PyProof.Rows.boot_list (nm 0 r1) (kit_list _)))) fun _ => wd_or1 (td_ne hr.units (pd_len nb rfl (nm 0 r1) rfl) (pd_len nb rfl (nm 1 r2) rfl) rfl rfl))) ?_
      simp [PyData.eqv]
    · have r1' := r1.mono (fun _ z => z) (ExM.of x2)
      have r2' := r2.mono (fun _ z => z) (ExM.of x2)
      have al2 := al.mono x2
      refine b_nil (b_cons (s_forR (n := ns.length) (slot := 2) PassesOwn.never rfl sc_law_is_list.nd rfl (.inl rfl) rfl nb.range (PD.is (pd_len nb rfl (nm 1 r2') (n := ns.length) ?_) rfl) (by omega) al2 (fun Hs i σ' H' => (∃ x, σ' = [some u, some v, x]) ∧ Evl.Ex Hs H') ?_ ?_ ?_ ?_))
      · simp [lenD]
      · exact fun H1 x1 => ⟨⟨_, rfl⟩, Evl.Ex.refl _⟩
      · rintro H1 i σ' H' x1 ⟨_, ex⟩
        exact ⟨.of ex, (al2.mono x1).mono ex⟩
      · rintro H1 i σ' H' H3 x1 hi ⟨⟨x, rfl⟩, ex⟩ x3
        obtain ⟨z, hz⟩ := get_i hi
        have xx := (x1.trans ex).trans x3
        have r1'' := r1'.mono (fun _ z => z) (ExM.of xx)
        have r2'' := r2'.mono (fun _ z => z) (ExM.of xx)
        refine b_cons (s_if (k := false) (al2.mono xx) (td_not (k := true) (td_val (pd_callC c1 hr (by decide) rfl (ad_cons (pd_ix (nm 0 r1'') (nm 2 (.int (i : Nat))) (ixD_ints hz)) (ad_cons (pd_ix (nm 1 r2'') (nm 2 (.int (i : Nat))) (ixD_ints hz)) ad_nil)) ⟨z, rfl, rfl⟩))) (fun k => by cases k) (fun _ H4 x4 => ?_))
        exact b_nil (b_nil ⟨⟨_, rfl⟩, (ex.trans x3).trans x4⟩)
      · rintro H1 σ' H' x1 ⟨⟨x, rfl⟩, ex⟩
        exact b_cons (s_ret (al2.mono (x1.trans ex)) pd_bl fun v H3 x3 rv => q v H3 (((x2.trans x1).trans ex).trans x3) rv)
def R_row (ds : List PyData) (d : PyData) : Prop := ∃ ns : List Int, ns.length ≤ 1000 ∧ ds = [tintsD ns, intsD ns] ∧ d = .bool true
theorem cl_law_is_row {f : Addr} {fd : FuncData} (F : At K mg "_law_is_row" s_law_is_row f fd) (c1 : Cl P w K mg base CX0 2 "_law_is_list" (PureR K R_list)) (nb : NoB mg) : Cl P w K mg base CX0 3 "_law_is_row" (PureR K R_row) := by
  refine cl_pure F sc_law_is_row (F.fn.binds fun _ _ _ _ _ _ us hl => match us, hl with | [_, _], _ => rfl) (fun ds d h => ?_) (fun X cdv A outer s H Q E M vs ds d hX hr al r h q => ?_)
  · obtain ⟨ns, _, rfl, _⟩ := h
    rfl
  · obtain ⟨ns, hlen, rfl, rfl⟩ := h
    obtain ⟨u, v, rfl, r1, r2⟩ := rpa2 r
    subst hX
    exact b_cons (s_ret al (pd_and (pd_isi rfl nb.isinstance rfl nb.tuple PyProof.Rows.boot_tuple (nm 0 r1) (kit_tup _)) fun _ => pd_one (pd_callC c1 hr (by decide) rfl (ad_cons (FD.pd (fd_callTy call_list_of rfl nb.list PyProof.Rows.boot_list (ad_cons (nm 0 r1) ad_nil) (rf_list rfl))) (ad_cons (nm 1 r2) ad_nil)) ⟨ns, hlen, rfl, rfl⟩)) q)
end
end DK

namespace DK
open PySem PySem.Spec PyProof.Rows L2 GV
section
variable {P : Program} {w : World} {K : PySem.W.Frag} {mg : Str → Option Value} {base : Heap}
def isSeqD : PyData → Bool
  | .list _ => true
  | .tuple _ => true
  | _ => false
def partsD : PyData → List PyData
  | .list ds => ds
  | .tuple ds => ds
  | _ => []
def isListD : PyData → Bool
  | .list _ => true
  | _ => false
def isTupD : PyData → Bool
  | .tuple _ => true
  | _ => false
theorem kit_l (d : PyData) : kitB (tyD d) "list" = some (isListD d) := by
  cases d with
  | none => exact (by decide +kernel : kitB "NoneType" "list" = some false)
  | bool _ => exact (by decide +kernel : kitB "bool" "list" = some false)
  | int _ => exact (by decide +kernel : kitB "int" "list" = some false)
  | str _ => exact (by decide +kernel : kitB "str" "list" = some false)
  | list _ => exact (by decide +kernel : kitB "list" "list" = some true)
  | tuple _ => exact (by decide +kernel : kitB "tuple" "list" = some false)
  | dict _ => exact (by decide +kernel : kitB "dict" "list" = some false)
theorem kit_t (d : PyData) : kitB (tyD d) "tuple" = some (isTupD d) := by
  cases d with
  | none => exact (by decide +kernel : kitB "NoneType" "tuple" = some false)
  | bool _ => exact (by decide +kernel : kitB "bool" "tuple" = some false)
  | int _ => exact (by decide +kernel : kitB "int" "tuple" = some false)
  | str _ => exact (by decide +kernel : kitB "str" "tuple" = some false)
  | list _ => exact (by decide +kernel : kitB "list" "tuple" = some false)
  | tuple _ => exact (by decide +kernel : kitB "tuple" "tuple" = some true)
  | dict _ => exact (by decide +kernel : kitB "dict" "tuple" = some false)
def bagB (d : PyData) : Bool := isSeqD d && decide ((partsD d).length ≤ 40) && (partsD d).all isWeightD
def R_bag (ds : List PyData) (d : PyData) : Prop := ∃ a, ds = [a] ∧ (partsD a).length ≤ 1000 ∧ d = .bool (bagB a)
theorem cl_is_bag_row {f : Addr} {fd : FuncData} {t : Tok} (F : At K mg "is_bag_row" s_is_bag_row f fd) (nb : NoB mg) (c1 : Cl P w K mg base CX0 3 "is_weight" (PureR K R_is_weight)) (gS : mg "MOST_STONES" = some (.int 40 t)) : Cl P w K mg base CX0 4 "is_bag_row" (PureR K R_bag) := by
  refine cl_pure F sc_is_bag_row (F.fn.binds fun _ _ _ _ _ _ us hl => match us, hl with | [_], _ => rfl) (fun ds d h => ?_) (fun X cdv A outer s H Q E M vs ds d hX hr al r h q => ?_)
  · obtain ⟨a, rfl, _⟩ := h
    rfl
  · obtain ⟨a, rfl, hlen, rfl⟩ := h
    obtain ⟨v, rfl, r1⟩ := rpa1 r
    subst hX
    -- the parts are walked
    have last : ∀ H2, Evl.Ex H H2 → isSeqD a = true → (∀ {X : Cx} {σ' : L2.St} {tg e}, PD X M e σ' H2 a → Src X M tg e σ' H2 (partsD a)) → (partsD a).length ≤ 40 → wB (cxOf CX0 P w K mg base n_is_bag_row "is_bag_row" (defScope s_is_bag_row) f cdv A outer s H E).nox ((defBody s_is_bag_row).drop 1) { nx := fun _ H' => Q .non H', rt := Q } (L2.start n_is_bag_row [v]) H2 := by
      intro H2 x2 hq src hl
      have r2 := r1.mono (fun _ z => z) (ExM.of x2)
      refine b_cons (s_ret (al.mono x2) (PD.is (pd_callB (cr_all rfl) rfl nb.all PyProof.Rows.boot_all (ad_cons (PD.is (d' := .list (((partsD a).map isWeightD).map PyData.bool)) (FD.pd
        (fd_map (t := .one 1) (own := [("item", 1)]) (fun d => .bool (isWeightD d)) rfl sc_is_bag_row.nd (src (nm 0 r2)) (blkOk_by (N := n_is_bag_row) (sc := defScope s_is_bag_row) (by decide +kernel)) (fun _ _ _ _ _ => pg_name (i := 1) sc_is_bag_row.nd rfl (.inl rfl)) (fun _ _ => trivial) ?_ ?_ ?_)) ?_) ad_nil) rn_all) ?_) fun v H3 x3 rv => q v H3 (x2.trans x3) rv)
      · rintro M H d σ' ⟨v, _, rfl⟩
        rfl
      · omega
      · rintro s0 H0 C cl fp M' H' d σ' hM lift hd ⟨v, rv, rfl⟩
        exact pd_callC c1 hr (by decide) rfl (ad_cons (nm 1 rv) ad_nil) ⟨d, rfl, rfl⟩
      · rw [List.map_map]
        rfl
      · unfold bagB
        rw [hq, decide_eq_true hl, Bool.true_and, Bool.true_and, List.all_map]
        rfl
    have lenA : ∀ {n}, isSeqD a = true → n = (partsD a).length → lenD a = some n := fun hq hn => by
      cases a <;> first | (cases hq; done) | (subst hn; rfl)
    refine b_cons (s_if (k := !(isListD a || isTupD a) || decide ((40 : Int) < ((partsD a).length : Nat))) al (WD.td (wd_or (td_not (td_val (pd_isi2 rfl nb.isinstance rfl nb.list PyProof.Rows.boot_list rfl nb.tuple PyProof.Rows.boot_tuple (nm 0 r1) (kit_l a) (kit_t a)))) fun hq => wd_or1 (td_gt (pd_len nb rfl (nm 0 r1) (lenA ?_ rfl)) (pd_globI rfl gS)))) (fun k H2 x2 => ?_) (fun k H2 x2 => ?_))
    · cases a <;> first | rfl | (cases hq; done)
    · have hb : bagB a = false := by
        unfold bagB
        cases a <;> first | rfl | skip
        all_goals
          simp only [isListD, isTupD, Bool.or_true, Bool.true_or, Bool.not_true, Bool.false_or, decide_eq_true_eq] at k
          rw [decide_eq_false (by omega), Bool.and_false, Bool.false_and]
      exact b_cons (s_ret (al.mono x2) (PD.is pd_bl (by rw [hb])) fun v H3 x3 rv => q v H3 (x2.trans x3) rv)
    · have hs : isSeqD a = true ∧ (partsD a).length ≤ 40 := by
        cases a <;> simp [isListD, isTupD] at k <;> exact ⟨rfl, by omega⟩
      refine b_nil (last H2 x2 hs.1 (fun h => ?_) hs.2)
      cases a with
      | list ds => exact src_list h
      | tuple ds => exact src_tup h
      | _ => cases hs.1
end
end DK

namespace DK
open PySem PySem.Spec PyProof.Rows L2 GV
section
variable {P : Program} {w : World} {K : PySem.W.Frag} {mg : Str → Option Value} {base : Heap}
theorem ok_initR {f C : Addr} {fd : FuncData} (F : Fun K "__init__" "InvalidRow.__init__" s_InvalidRow_init f fd) (o : OexC K C) (n : PySem.W.findIn K (.ref C) "row" = some none) : FnOk P w K mg base CX0 1 f fd ["self", "row"] (spInit C ["row"]) := by
  refine F.ok sc_InvalidRow_init (fun vs H Q E h => ?_) (fun cdv A outer s H vs Q E hr h => ⟨_, wB.ps, ?_⟩)
  · obtain ⟨a, xs, rfl, hl, _⟩ := h
    exact congrArg (· + 1) hl
  · obtain ⟨a, xs, rfl, hl, ha, q⟩ := h
    match xs, hl with
    | [v], _ =>
      refine b_cons (cs_ost (ce_name (i := 1) rfl (.inl rfl) rfl (ce_name (i := 0) rfl (.inl rfl) rfl ⟨a, C, rfl, o, n, .inl ⟨ha, fun dx hdx ne => b_nil (q _ dx (fun b o hb nb => ?_) hdx ne upd_same ?_)⟩⟩)))
      · rw [upd_ne nb, upd_ne (ne_of_none hb hdx)]
        exact hb
      · rw [upd_ne ne, upd_same]
        rfl
end
end DK

namespace DK
open PySem PySem.Spec PyProof.Rows L2 GV
def Arg (K : PySem.W.Frag) (M : Addr → Prop) (H : Hp) (v : V) (b : Bool) : Prop := (∃ d, Rp K M H v d ∧ (partsD d).length ≤ 1000 ∧ bagB d = b) ∨ (b = false ∧ ∃ a kvs, v = .ref a ∧ ¬ M a ∧ H a = some (.dK kvs))
theorem Arg.mono {K : PySem.W.Frag} {M M' : Addr → Prop} {H H' : Hp} {v : V} {b : Bool} (h : Arg K M H v b) (hm : ∀ a, M' a → M a) (e : ExM M H H') : Arg K M' H' v b :=
  h.imp (fun ⟨d, r, q⟩ => ⟨d, r.mono hm e, q⟩) fun ⟨hb, a, kvs, h1, h2, h3⟩ => ⟨hb, a, kvs, h1, fun z => h2 (hm _ z), e _ _ h3 h2 fun _ z => by cases z⟩
section
variable {P : Program} {w : World} {K : PySem.W.Frag} {mg : Str → Option Value} {base : Heap}
def spBagD : Sp := fun vs H Q _ => ∃ (a : Addr) (kvs : List (Key × V)), vs = [.ref a] ∧ H a = some (.dK kvs) ∧ ∀ H', Evl.Ex H H' → Q (.bl false) H'
theorem cl_is_bag_rowD {f : Addr} {fd : FuncData} (F : At K mg "is_bag_row" s_is_bag_row f fd) (nb : NoB mg) : Cl P w K mg base CX0 1 "is_bag_row" spBagD := by
  refine ⟨f, fd, _, F.fn.ok sc_is_bag_row (fun vs H Q E h => ?_) (fun cdv A outer s H vs Q E hr h => ⟨_, wB.ps, ?_⟩), F.gl, F.fn.kp, F.fn.binds fun _ _ _ _ _ _ us hl => match us, hl with | [_], _ => rfl⟩
  · obtain ⟨a, kvs, rfl, _⟩ := h
    rfl
  · obtain ⟨a, kvs, rfl, hA, q⟩ := h
    refine b_cons (s_if (M := M0) (k := true) alive0 (WD.td (wd_or (k1 := true) (k2 := true) (td_not (k := false) (td_val (PD.is (pd_isi2D rfl nb.isinstance rfl nb.list PyProof.Rows.boot_list rfl nb.tuple PyProof.Rows.boot_tuple (fun H1 Q hq => ce_name (i := 0) rfl (.inl rfl) rfl hq) hA (fun z => z) (by decide +kernel : kitB "dict" "list" = some false) (by decide +kernel : kitB "dict" "tuple" = some false)) rfl))) fun z => by cases z)) (fun _ H2 x2 => ?_) (fun z => by cases z))
    exact b_cons (s_ret (M := M0) alive0 pd_bl fun v H3 x3 rv => by
      cases rv
      exact q H3 (x2.trans x3))
theorem ce_bag {X : Cx} {M : Addr → Prop} {σ : St} {H : Hp} {e : Expr} {v : V} {b : Bool} {p pos : Pos} {Q : VK} {j : Nat} (al : Alive M H) (c1 : Cl X.prog X.w X.K X.mg X.base CX0 4 "is_bag_row" (PureR X.K R_bag)) (c2 : Cl X.prog X.w X.K X.mg X.base CX0 1 "is_bag_row" spBagD) (hr : Room j X.A) (hj : 4 ≤ j) (hg : Gl X "is_bag_row")
    (he : ∀ H1 (Q : VK), Q v H1 → wE X e σ H1 Q) (h : Arg X.K M H v b) (q : ∀ H', Evl.Ex H H' → Q (.bl b) H')
    (hs : starEach (e :: []) X.env = (false, eval e X.env) :: starEach [] X.env := by rfl) (hpl : (backTo pos (starEach [] X.env)).any (·.1) = false := by rfl) : wE X (.Call (.Name "is_bag_row" p) [e] [] pos) σ H Q := by
  rcases h with ⟨d, r, hl, hb⟩ | ⟨rfl, a, kvs, rfl, _, hA⟩
  · refine ce_call c1 hr hj hg (ca_cons (he _ _ (ca_nil ⟨M, [d], .bool (bagB d), al, .cons r .nil, ⟨d, rfl, hl, rfl⟩, fun v' H' x rv => ?_⟩)) hs) (by decide) hs hpl
    cases rv
    rw [hb]
    exact q H' x
  · exact ce_call c2 hr (by omega) hg (ca_cons (he _ _ (ca_nil ⟨a, kvs, rfl, hA, q⟩)) hs) (by decide) hs hpl
def spChk (K : PySem.W.Frag) (CR : Addr) (good : (Addr → Prop) → V → Hp → VK → Prop) : Sp := fun vs H Q E => ∃ (M : Addr → Prop) (v : V) (b : Bool), vs = [v] ∧ Alive M H ∧ Arg K M H v b ∧ (b = true → good M v H Q) ∧ (b = false → ∀ H1, Evl.Ex H H1 → Raised CR [("row", v)] H1 E)
theorem cl_chk {f CR : Addr} {fd : FuncData} (F : At K mg "check_bag_row" s_check_bag_row f fd) (c1 : Cl P w K mg base CX0 4 "is_bag_row" (PureR K R_bag)) (c2 : Cl P w K mg base CX0 1 "is_bag_row" spBagD) (er : ErrC P w K mg base "InvalidRow" CR ["row"]) : Cl P w K mg base (L2.CX P w) 5 "check_bag_row" (spChk K CR fun _ _ H Q => ∀ H', Evl.Ex H H' → Q .non H') := by
  refine ⟨f, fd, _, F.fn.okX sc_check_bag_row (fun vs H Q E h => ?_) (fun cdv A outer s H vs Q E hr h => ⟨_, wB.ps, ?_⟩), F.gl, F.fn.kp, F.fn.binds fun _ _ _ _ _ _ us hl => match us, hl with | [_], _ => rfl⟩
  · obtain ⟨M, v, d, rfl, _⟩ := h
    rfl
  · obtain ⟨M, v, b, rfl, al, r, h1, h2⟩ := h
    refine b_cons (cs_if (ct_not (ct_val (ce_bag al c1 c2 hr (by decide) rfl (fun H1 Q hq => ce_name (i := 0) rfl (.inl rfl) rfl hq) r fun H2 x2 => ⟨b, rfl, ?_⟩))))
    cases b with
    | false => exact b_cons (s_raise rfl er (hr.mono (by decide)) (takes_of rfl rfl rfl rfl) rfl (ca_cons (ce_name (i := 0) rfl (.inl rfl) rfl (ca_nil ⟨rfl, (by show 1 ≤ 1000; decide), h2 rfl _ x2⟩))))
    | true => exact b_nil (b_nil (h1 rfl _ x2))
theorem tkF {X : Cx} : Takes X (fun _ _ _ _ => False) := fun u s' ⟨_, _, _, _, _, _, _, _, _, _, _, _, _, _, _, _, z⟩ => z.elim
def BagV (K : PySem.W.Frag) (M : Addr → Prop) (H : Hp) (v : V) (tp : Bool) (ns : List Int) : Prop := Rp K M H v (sqD tp (ns.map PyData.int)) ∧ ns.length ≤ 40 ∧ ∀ z ∈ ns, isWeightD (.int z) = true
theorem BagV.arg {M : Addr → Prop} {H : Hp} {v : V} {tp : Bool} {ns : List Int} (h : BagV K M H v tp ns) : Arg K M H v true := by
  obtain ⟨r, hl, hw⟩ := h
  refine .inl ⟨_, r, ?_, ?_⟩
  · cases tp <;> (show (ns.map PyData.int).length ≤ 1000; rw [List.length_map]; omega)
  · have e : (ns.map PyData.int).all isWeightD = true := List.all_eq_true.mpr fun d hd => by
      obtain ⟨z, hz, rfl⟩ := List.mem_map.mp hd
      exact hw z hz
    have e2 : decide ((ns.map PyData.int).length ≤ 40) = true := decide_eq_true (by rw [List.length_map]; exact hl)
    cases tp <;> (show (true && decide ((ns.map PyData.int).length ≤ 40) && (ns.map PyData.int).all isWeightD) = true; rw [e, e2]; rfl)
theorem BagV.mono {M M' : Addr → Prop} {H H' : Hp} {v : V} {tp : Bool} {ns : List Int} (h : BagV K M H v tp ns) (hm : ∀ a, M' a → M a) (e : ExM M H H') : BagV K M' H' v tp ns := ⟨h.1.mono hm e, h.2⟩
end
end DK

namespace DK
open PySem PySem.Spec PyProof.Rows L2 GV
abbrev S2 (s r : Addr) : Addr → Prop := fun a => a = s ∨ a = r
section
variable {P : Program} {w : World} {K : PySem.W.Frag} {mg : Str → Option Value} {base : Heap}
def okW (z : Int) : Prop := -1000000000000 ≤ z ∧ z ≤ 1000000000000
theorem okW.is {z : Int} (h : okW z) : isWeightD (.int z) = true := by
  show (decide (-mostW ≤ z) && decide (z ≤ mostW)) = true
  rw [decide_eq_true (by unfold mostW; exact h.1), decide_eq_true (by unfold mostW; exact h.2)]
  rfl
/-! ### the world's weights -/
def gaps : List Int := [1, 9, 40000000000, 3]
def starts (u n : Int) : List Int := [0, u - 30, -1000000000000 - 1, 1000000000000 - 3 * n]
theorem ways {i : Nat} {u n g s : Int} (hg : gaps[i]? = some g) (hs : (starts u n)[i]? = some s) (hu : 0 ≤ u ∧ u < 41) (hn : 0 ≤ n ∧ n ≤ 41) : 0 < g ∧ g ≤ 40000000000 ∧ -1000000000000 - 1 ≤ s ∧ s + n * g ≤ 1000000000000 := by
  match i, hg, hs with
  | 0, hg, hs =>
    cases hg
    cases hs
    omega
  | 1, hg, hs =>
    cases hg
    cases hs
    omega
  | 2, hg, hs =>
    cases hg
    cases hs
    omega
  | 3, hg, hs =>
    cases hg
    cases hs
    omega
  | i + 4, hg, hs => cases hg
def spWeights : Sp := fun vs H Q _ => ∃ (a : Addr) (n : Nat) (r c k : Int), vs = [.ref a, .int (n : Nat)] ∧ H a = some (potL r c k) ∧ 1 ≤ n ∧ n ≤ 41 ∧
  ∀ p ns r' k' H', H p = none → ExB a H H' → H' a = some (potL r' c k') → H' p = some (.lst (ns.map V.int)) → ns ≠ [] → ns.length ≤ 1000 → (∀ z ∈ ns, okW z) → Q (.ref p) H'
theorem cl_law_weights {f : Addr} {fd : FuncData} (F : At K mg "_law_weights" s_law_weights f fd) (nb : NoB mg) (cd : Cl P w K mg base CX0 1 "_law_draw" spDraw) : Cl P w K mg base CX0 2 "_law_weights" spWeights := by
  refine ⟨f, fd, _, F.fn.ok sc_law_weights (fun vs H Q E h => ?_) (fun cdv A outer sh H vs Q E hr h => ⟨_, wB.ps, ?_⟩), F.gl, F.fn.kp, F.fn.binds fun _ _ _ _ _ _ us hl => match us, hl with | [_, _], _ => rfl⟩
  · obtain ⟨a, n, r, c, k, rfl, _⟩ := h
    rfl
  · obtain ⟨a, n, r, c, k, rfl, ha, n1, n41, q⟩ := h
    refine b_cons (cs_set (i := 2) sc_law_weights.nd rfl (.inl rfl) (ce_call cd hr (by decide) rfl (ca_cons (ce_name (i := 0) rfl (.inl rfl) rfl (ca_cons (ce_pd alive0 pd_int fun v H1 x1 r1 => ca_nil ⟨a, _, r, c, k, by cases r1; rfl, x1 _ _ ha, by decide, by decide +kernel, fun way r2 k2 H2 w0 w1 e2 ha2 => ?_⟩))))))
    obtain ⟨g, hg⟩ : ∃ g, gaps[way.toNat]? = some g := ⟨_, List.getElem?_eq_getElem (by show way.toNat < 4; omega)⟩
    have hgi := ixD_ints hg
    rw [show ((way.toNat : Nat) : Int) = way by omega] at hgi
    -- gap
    refine b_cons (s_set (i := 3) (d := .int g) alive0 sc_law_weights.nd rfl (.inl rfl) (pd_ix (da := intsD gaps) (FD.pd (fd_lst (ad_cons pd_int (ad_cons pd_int (ad_cons (pd_mul pd_int (pd_pow pd_int pd_int ⟨by decide, by decide, by decide⟩) (.inl ⟨by decide, by decide⟩)) (ad_cons pd_int ad_nil)))) (by show 4 ≤ 100000; decide))) (nm 2 (.int way)) hgi) fun v3 H3 x3 r3 => ?_)
    cases r3
    have ha3 := x3 _ _ ha2
    -- weight
    refine b_cons (cs_set (i := 4) sc_law_weights.nd rfl (.inl rfl) (ce_ix (ce_lst (ca_cons (ce_pd alive0 pd_int fun v4 H4 x4 r4 => ca_cons (ce_sub (ce_call cd hr (by decide) rfl (ca_cons (ce_name (i := 0) rfl (.inl rfl) rfl (ca_cons (ce_pd alive0 pd_int fun v5 H5 x5 r5 => ca_nil ⟨a, _, r2, c, k2, by cases r5; rfl, x5 _ _ (x4 _ _ ha3), by decide, by decide +kernel, fun u r6 k6 H6 u0 u1 e6 ha6 => ?_⟩)))))))))))
    refine ce_pd alive0 pd_int fun v7 H7 x7 r7 => ?_
    cases r7
    refine ⟨u, 30, rfl, rfl, ?_⟩
    refine ca_cons (ce_pd alive0 (pd_sub (pd_neg (pd_pow pd_int pd_int ⟨by decide, by decide, by decide⟩)) pd_int) fun v8 H8 x8 r8 => ca_cons (ce_pd alive0 (pd_sub (pd_pow pd_int pd_int ⟨by decide, by decide, by decide⟩) (pd_mul pd_int (nm 1 (.int (n : Int))) (.inl ⟨by decide, by omega⟩))) fun v9 H9 x9 r9 => ca_nil ⟨(by show 4 ≤ 1000; decide), fun p10 hp10 => ?_⟩))
    cases r4
    cases r8
    cases r9
    have ha9 : H9 a = some (potL r6 c k6) := x9 _ _ (x8 _ _ (x7 _ _ ha6))
    obtain ⟨s0, hs⟩ : ∃ s0, (starts u n)[way.toNat]? = some s0 := ⟨_, List.getElem?_eq_getElem (by show way.toNat < 4; omega)⟩
    have hsi := ixD_ints hs
    rw [show ((way.toNat : Nat) : Int) = way by omega] at hsi
    obtain ⟨g0, g1, s1, s2⟩ := ways hg hs ⟨u0, u1⟩ ⟨by omega, by omega⟩
    refine ce_name (i := 2) rfl (.inl rfl) rfl (rIx_of (M := M0) (da := intsD (starts u n)) (d := .int s0) (.lst (fun z => z) (.inl upd_same) (.ints (starts u n))) hsi fun v10 r10 => ?_)
    cases r10
    generalize hH10 : upd H9 p10 _ = H10
    have x10 : Evl.Ex H9 H10 := hH10 ▸ Evl.Ex.new hp10
    have ha10 := x10 _ _ ha9
    have e10 : ExB a H H10 := (((((((ExB.of x1).trans e2).trans (.of x3)).trans (.of x4)).trans (.of x5)).trans e6).trans (.of ((x7.trans x8).trans (x9.trans x10))))
    -- weights = []
    refine b_cons (cs_set (i := 5) sc_law_weights.nd rfl (.inl rfl) (ce_fd alive0 (fd_lst ad_nil (by simp)) fun p ws H11 hp x11 h11 rw11 => ?_))
    obtain ⟨⟩ := rw11
    have ha11 := x11 _ _ ha10
    have nap : a ≠ p := fun e => by
      rw [← e, ha10] at hp
      cases hp
    have al11 : Alive (S2 a p) H11 := fun x h => h.elim (fun e => ⟨_, e ▸ ha11⟩) fun e => ⟨_, e ▸ h11⟩
    refine b_cons (s_forR (n := n) (slot := 6) PassesOwn.never rfl sc_law_weights.nd rfl (.inl rfl) rfl nb.range (nm 1 (.int (n : Int))) (by omega) al11
      (fun Hs i σ' H' => ∃ (ns : List Int) (wc r' k' : Int) (xk : Option V), σ' = [some (.ref a), some (.int n), some (.int way), some (.int g), some (.int wc), some (.ref p), xk] ∧ ExS (S2 a p) Hs H' ∧ H' a = some (potL r' c k') ∧ H' p = some (.lst (ns.map V.int)) ∧ ns.length = i ∧ s0 + i ≤ wc ∧ wc ≤ s0 + i * g ∧ ∀ z ∈ ns, s0 + 1 ≤ z ∧ z ≤ s0 + i * g) ?_ ?_ ?_ ?_)
    · exact fun Hs xs => ⟨[], s0, r6, k6, none, rfl, fun a o _ h => h, xs _ _ ha11, xs _ _ h11, rfl, by omega, by omega, fun z h => absurd h List.not_mem_nil⟩
    · rintro Hs i σ' H' xs ⟨ns, wc, r', k', xk, rfl, e, h1, h2, _⟩
      exact ⟨e.exM, fun x h => h.elim (fun e => ⟨_, e ▸ h1⟩) fun e => ⟨_, e ▸ h2⟩⟩
    · rintro Hs i σ' H' H12 xs hi ⟨ns, wc, r', k', xk, rfl, e, h1, h2, hlen, b1, b2, hall⟩ x12
      refine b_cons (cs_set (i := 4) sc_law_weights.nd rfl (.inl rfl) (ce_add (ce_pd alive0 (pd_add (nm 4 (.int wc)) pd_int) fun v13 H13 x13 r13 => ce_call cd hr (by decide) rfl (ca_cons (ce_name (i := 0) rfl (.inl rfl) rfl (ca_cons (ce_name (i := 3) rfl (.inl rfl) rfl (ca_nil ⟨a, g, r', c, k', rfl, x13 _ _ (x12 _ _ h1), g0, ?_, fun z r14 k14 H14 z0 z1 e14 ha14 => ?_⟩))))))))
      · exact Nat.lt_of_le_of_lt (m := 40000000000) (by omega) (by decide +kernel)
      cases r13
      refine ⟨_, _, rfl, rfl, ?_⟩
      have hp14 : H14 p = some (.lst (ns.map V.int)) := e14 _ _ (Ne.symm nap) (x13 _ _ (x12 _ _ h2))
      refine b_cons (cs_expr (ce_append (ce_name (i := 5) rfl (.inl rfl) rfl ⟨p, _, rfl, hp14, ce_name (i := 4) rfl (.inl rfl) rfl ⟨_, hp14, by rw [List.length_map]; omega, b_nil ?_⟩⟩)))
      have eg : ((i + 1 : Nat) : Int) * g = (i : Int) * g + g := by
        rw [Int.natCast_add, Int.add_mul]
        show _ + (1 : Int) * g = _
        rw [Int.one_mul]
      refine ⟨ns ++ [wc + 1 + z], wc + 1 + z, r14, k14, _, rfl, ?_, ?_, ?_, ?_, ?_, ?_, fun y hy => ?_⟩
      · exact ((e.trans (.of (x12.trans x13))).trans (ExS.mono (S := fun x => x = a) (fun x o n h => e14 x o n h) fun x e => .inl e)).trans (.upd (.inr rfl))
      · rw [upd_ne nap]
        exact ha14
      · rw [upd_same, List.map_append]
        rfl
      · rw [List.length_append, hlen]
        rfl
      · omega
      · rw [eg]
        omega
      · rw [eg]
        rcases List.mem_append.mp hy with hy | hy
        · have := hall y hy
          omega
        · rw [List.mem_singleton.mp hy]
          omega
    · rintro Hs σ' H' xs ⟨ns, wc, r', k', xk, rfl, e, h1, h2, hlen, b1, b2, hall⟩
      refine b_cons (cs_ret (ce_name (i := 5) rfl (.inl rfl) rfl (q p ns r' k' H' ?_ ?_ h1 h2 (fun e => ?_) (by omega) fun z hz => ?_)))
      · cases hh : H p with
        | none => rfl
        | some o =>
          rw [e10 _ _ (Ne.symm nap) hh] at hp
          cases hp
      · intro x o n h
        refine e x o (fun z => z.elim n fun e => ?_) (xs _ _ (x11 _ _ (e10 x o n h)))
        rw [e] at h
        rw [e10 _ _ (Ne.symm nap) h] at hp
        cases hp
      · rw [e] at hlen
        simp at hlen
        omega
      · have := hall z hz
        exact ⟨by omega, by omega⟩
end
end DK

namespace DK
open PySem PySem.Spec PyProof.Rows L2 GV
abbrev Ma (a : Addr) : Addr → Prop := fun x => x = a
theorem ExB.exM {a : Addr} {H H' : Hp} (e : ExB a H H') : ExM (Ma a) H H' := fun x o h n _ => e x o n h
theorem ExB.trE {a : Addr} {H H1 H2 : Hp} (e : ExB a H H1) (x : Evl.Ex H1 H2) : ExB a H H2 := e.trans (.of x)
theorem al_pot {a : Addr} {H : Hp} {r c k : Int} (h : H a = some (potL r c k)) : Alive (Ma a) H := fun x e => ⟨_, e ▸ h⟩
theorem fresh_backB {a p : Addr} {H H' : Hp} {o : HO} (e : ExB a H H') (ha : H a = some o) (ha' : ∃ o', H' a = some o') (hp : H' p = none) : H p = none := by
  cases hh : H p with
  | none => rfl
  | some u =>
    by_cases h : p = a
    · subst h
      obtain ⟨o', h'⟩ := ha'
      rw [hp] at h'
      cases h'
    · rw [e p u h hh] at hp
      cases hp
theorem exB_of_S2 {a p : Addr} {H H1 H' : Hp} (e : ExS (S2 a p) H1 H') (x : ExB a H H1) (hp : H p = none) : ExB a H H' := fun y o n h => e y o (fun z => z.elim n fun e' => by
  rw [e', hp] at h
  cases h) (x y o n h)
section
variable {P : Program} {w : World} {K : PySem.W.Frag} {mg : Str → Option Value} {base : Heap}
theorem ce_draw {X : Cx} {σ : St} {H : Hp} {a : Addr} {r c k : Int} {e1 e2 : Expr} {p pos : Pos} {Q : VK} {j : Nat} {n : Int} (cd : Cl X.prog X.w X.K X.mg X.base CX0 1 "_law_draw" spDraw) (hr : Room j X.A) (hj : 1 ≤ j) (hg : Gl X "_law_draw")
    (he : ∀ H1 (Q : VK), Q (.ref a) H1 → wE X e1 σ H1 Q) (hn : PD X (Ma a) e2 σ H (.int n)) (ha : H a = some (potL r c k)) (h0 : 0 < n) (h1 : n.natAbs < 2 ^ 8000)
    (q : ∀ z r' k' H', 0 ≤ z → z < n → ExB a H H' → H' a = some (potL r' c k') → Q (.int z) H')
    (hs : starEach (e1 :: [e2]) X.env = (false, eval e1 X.env) :: starEach [e2] X.env := by rfl) (hs2 : starEach (e2 :: []) X.env = (false, eval e2 X.env) :: starEach [] X.env := by rfl) (hpl : (backTo pos (starEach [e2] X.env)).any (·.1) = false := by rfl) : wE X (.Call (.Name "_law_draw" p) [e1, e2] [] pos) σ H Q := by
  refine ce_call cd hr hj hg (ca_cons (he _ _ (ca_cons (ce_pd (al_pot ha) hn fun v H2 x2 r2 => ?_) hs2)) hs) (by decide) hs hpl
  cases r2
  exact ca_nil ⟨a, n, r, c, k, rfl, x2 _ _ ha, h0, h1, fun z r' k' H' z0 z1 e h => q z r' k' H' z0 z1 ((ExB.of x2).trans e) h⟩
theorem n8000 {n : Int} (h0 : 0 ≤ n) (h : n ≤ 1000000) : n.natAbs < 2 ^ 8000 := Nat.lt_of_le_of_lt (m := 1000000) (by omega) (by decide +kernel)
/-! ### a bag row -/
def spBagRow : Sp := fun vs H Q _ => ∃ (a : Addr) (most r c k : Int), vs = [.ref a, .int most] ∧ H a = some (potL r c k) ∧ 0 ≤ most ∧ most ≤ 40 ∧
  ∀ p (ns : List Int) r' k' H', H p = none → ExB a H H' → H' a = some (potL r' c k') → H' p = some (.lst (ns.map V.int)) → ns.length ≤ 40 → (∀ z ∈ ns, okW z) → Q (.ref p) H'
theorem cl_law_bag {f : Addr} {fd : FuncData} (F : At K mg "_law_bag" s_law_bag f fd) (nb : NoB mg) (cd : Cl P w K mg base CX0 1 "_law_draw" spDraw) (cw : Cl P w K mg base CX0 2 "_law_weights" spWeights) : Cl P w K mg base CX0 3 "_law_bag" spBagRow := by
  refine ⟨f, fd, _, F.fn.ok sc_law_bag (fun vs H Q E h => ?_) (fun cdv A outer sh H vs Q E hr h => ⟨_, wB.ps, ?_⟩), F.gl, F.fn.kp, F.fn.binds fun _ _ _ _ _ _ us hl => match us, hl with | [_, _], _ => rfl⟩
  · obtain ⟨a, n, r, c, k, rfl, _⟩ := h
    rfl
  · obtain ⟨a, most, r, c, k, rfl, ha, m0, m40, q⟩ := h
    refine b_cons (cs_set (i := 2) sc_law_bag.nd rfl (.inl rfl) (ce_draw cd hr (by decide) rfl (fun H1 Q hq => ce_nm 0 hq) (pd_add (nm 1 (.int most)) pd_int) ha (by omega) (n8000 (by omega) (by omega)) fun size r1 k1 H1 s0 s1 e1 ha1 => ?_))
    obtain ⟨n, rfl⟩ : ∃ n : Nat, size = (n : Int) := ⟨size.toNat, by omega⟩
    have hn : n ≤ 40 := by omega
    -- what both ways make
    have fin : ∀ (D : Addr) (H2 : Hp) r2 k2, ExB a H H2 → H2 a = some (potL r2 c k2) → H2 D = none → ∀ H', (∃ (ns : List Int) (r' k' : Int), ExS (S2 a D) (upd H2 D (.lst [])) H' ∧ H' a = some (potL r' c k') ∧ H' D = some (.lst (ns.map V.int)) ∧ ns.length = n ∧ ∀ z ∈ ns, okW z) → Q (.ref D) H' := by
      rintro D H2 r2 k2 e2 ha2 hD H' ⟨ns, r', k', e, h1, h2, hl, hw⟩
      refine q D ns r' k' H' (fresh_backB e2 ha ⟨_, ha2⟩ hD) ?_ h1 h2 (by omega) hw
      exact exB_of_S2 e (e2.trE (Evl.Ex.new hD)) (fresh_backB e2 ha ⟨_, ha2⟩ hD)
    -- a turn of both
    have turn : ∀ (D : Addr) (H2 : Hp) (i : Nat) (r' k' : Int) (ns : List Int) (H' H4 : Hp) (z r4 k4 : Int), ExS (S2 a D) (upd H2 D (.lst [])) H' → H' D = some (.lst (ns.map V.int)) → ns.length = i → i < n → (∀ z ∈ ns, okW z) → ExB a H' H4 → H4 a = some (potL r4 c k4) → a ≠ D → okW z →
        ∃ acc, H4 D = some (.lst acc) ∧ acc.length < 100000 ∧ ∃ (ns2 : List Int) (r5 k5 : Int), ExS (S2 a D) (upd H2 D (.lst [])) (upd H4 D (.lst (acc ++ [.int z]))) ∧ (upd H4 D (.lst (acc ++ [.int z]))) a = some (potL r5 c k5) ∧ (upd H4 D (.lst (acc ++ [.int z]))) D = some (.lst (ns2.map V.int)) ∧ ns2.length = i + 1 ∧ ∀ z ∈ ns2, okW z := by
      intro D H2 i r' k' ns H' H4 z r4 k4 e h2 hl hi hw e4 ha4 nad hz
      refine ⟨ns.map V.int, e4 _ _ (Ne.symm nad) h2, by rw [List.length_map]; omega, ns ++ [z], r4, k4, ?_, ?_, ?_, ?_, ?_⟩
      · exact (e.trans (ExS.mono (S := fun x => x = a) (fun x o n h => e4 x o n h) fun x e => .inl e)).trans (.upd (.inr rfl))
      · rw [upd_ne nad]
        exact ha4
      · rw [upd_same, List.map_append]
        rfl
      · rw [List.length_append, hl]
        rfl
      · intro y hy
        rcases List.mem_append.mp hy with hy | hy
        · exact hw y hy
        · rw [List.mem_singleton.mp hy]
          exact hz
    refine b_cons (cs_if (ct_eq hr.units (ce_draw cd hr (by decide) rfl (fun H1 Q hq => ce_nm 0 hq) pd_int ha1 (by decide) (by decide +kernel) fun z r2 k2 H2 z0 z1 e2 ha2 => ?_)))
    refine ce_pd alive0 pd_int fun y H3 x3 r3 => ⟨.int z, _, .int z, r3.dp, rfl, rfl, ?_⟩
    have ha3 := x3 _ _ ha2
    have e13 : ExB a H H3 := (e1.trans e2).trE x3
    split
    · refine b_cons (cs_ret (ce_lcR (slot := 4) (own := [("k", 4)]) rfl sc_law_bag.nd rfl nb.range (blkOk_by (N := n_law_bag) (sc := defScope s_law_bag) (by decide +kernel)) (fun _ _ _ _ _ => pg_name (i := 4) sc_law_bag.nd rfl (.inl rfl)) (fun v => rfl) (ce_nm 2 ⟨n, rfl, by omega, fun D hD => ?_⟩)))
      have nad : a ≠ D := fun e => by
        rw [← e, ha3] at hD
        cases hD
      refine ⟨fun i H' => ∃ (ns : List Int) (r' k' : Int), ExS (S2 a D) (upd H3 D (.lst [])) H' ∧ H' a = some (potL r' c k') ∧ H' D = some (.lst (ns.map V.int)) ∧ ns.length = i ∧ ∀ z ∈ ns, okW z, ⟨[], r2, k2, fun x o _ h => h, by rw [upd_ne nad]; exact ha3, upd_same, rfl, fun z h => absurd h List.not_mem_nil⟩, ?_, fin D H3 r2 k2 e13 ha3 hD⟩
      rintro i H' hi ⟨ns, r', k', e, h1, h2, hl, hw⟩ s0 H0 C cl fp
      refine ce_sub (ce_draw cd hr (by decide) rfl (fun H1 Q hq => ce_nm 0 hq) (pd_add (pd_mul pd_int (pd_pow pd_int pd_int ⟨by decide, by decide, by decide⟩) (.inl ⟨by decide, by decide⟩)) pd_int) h1 (by decide) (by decide +kernel) fun z4 r4 k4 H4 z40 z41 e4 ha4 => ce_pd alive0 (pd_pow pd_int pd_int ⟨by decide, by decide, by decide⟩) fun y H5 x5 r5 => ?_)
      cases r5
      refine ⟨_, _, rfl, rfl, turn D H3 i r' k' ns H' H5 (z4 - 10 ^ Int.toNat 12) r4 k4 e h2 hl hi hw (e4.trE x5) (x5 _ _ ha4) nad ?_⟩
      have : z4 < 2 * 1000000000000 + 1 := z41
      exact ⟨by show -1000000000000 ≤ z4 - 1000000000000; omega, by show z4 - 1000000000000 ≤ 1000000000000; omega⟩
    · refine b_nil (b_cons (cs_set (i := 3) sc_law_bag.nd rfl (by first | exact .inl rfl | exact .inr rfl) (ce_call cw hr (by decide) rfl (ca_cons (ce_nm 0 (ca_cons (ce_add (ce_pd alive0 pd_int fun y5 H5 x5 r5 => ce_draw cd hr (by decide) rfl (fun H1 Q hq => ce_nm 0 hq) (pd_add (nm 2 (.int (n : Int))) pd_int) (x5 _ _ ha3) (by omega) (n8000 (by omega) (by omega)) fun z6 r6 k6 H6 z60 z61 e6 ha6 => ?_))))))))
      cases r5
      refine ⟨1, z6, rfl, rfl, ca_nil ⟨a, (1 + z6).toNat, r6, c, k6, by rw [show (((1 + z6).toNat : Nat) : Int) = 1 + z6 by omega], ha6, by omega, by omega, fun p ws r7 k7 H7 hp e7 ha7 hp7 hne hlen hok => ?_⟩⟩
      have e17 : ExB a H H7 := ((e13.trE x5).trans e6).trans e7
      refine b_cons (cs_ret (ce_lcR (slot := 4) (own := [("k", 4)]) rfl sc_law_bag.nd rfl nb.range (blkOk_by (N := n_law_bag) (sc := defScope s_law_bag) (by decide +kernel)) (fun _ _ _ _ _ => pg_name (i := 4) sc_law_bag.nd rfl (.inl rfl)) (fun v => rfl) (ce_nm 2 ⟨n, rfl, by omega, fun D hD => ?_⟩)))
      have nad : a ≠ D := fun e => by
        rw [← e, ha7] at hD
        cases hD
      have npD : p ≠ D := fun e => by
        rw [← e, hp7] at hD
        cases hD
      have nap : p ≠ a := fun e => by
        rw [e, ha6] at hp
        cases hp
      refine ⟨fun i H' => ∃ (ns : List Int) (r' k' : Int), ExS (S2 a D) (upd H7 D (.lst [])) H' ∧ H' a = some (potL r' c k') ∧ H' D = some (.lst (ns.map V.int)) ∧ ns.length = i ∧ ∀ z ∈ ns, okW z, ⟨[], r7, k7, fun x o _ h => h, by rw [upd_ne nad]; exact ha7, upd_same, rfl, fun z h => absurd h List.not_mem_nil⟩, ?_, fin D H7 r7 k7 e17 ha7 hD⟩
      rintro i H' hi ⟨ns, r', k', e, h1, h2, hl, hw⟩ s0 H0 C cl fp
      have hpH : H' p = some (.lst (ws.map V.int)) := e _ _ (fun z => z.elim nap npD) (by rw [upd_ne npD]; exact hp7)
      have rl : Rp K (Ma a) H' (.ref p) (intsD ws) := .lst nap (.inl hpH) (.ints ws)
      have pos : 0 < ws.length := List.length_pos_iff.mpr hne
      refine ce_ix (ce_nm 3 (ce_draw cd hr (by decide) rfl (fun H1 Q hq => ce_nm 0 hq) (pd_len nb rfl (nm 3 rl) (n := ws.length) (by simp [lenD])) h1 (by omega) (n8000 (by omega) (by omega)) fun z8 r8 k8 H8 z80 z81 e8 ha8 => ?_))
      obtain ⟨u, hu⟩ : ∃ u, ws[z8.toNat]? = some u := ⟨_, List.getElem?_eq_getElem (by omega)⟩
      refine rIx_of (M := M0) (da := intsD ws) (d := .int u) (.lst (fun z => z) (.inl (e8 _ _ nap hpH)) (.ints ws)) ?_ fun v9 r9 => ?_
      · have := ixD_ints hu
        rwa [show ((z8.toNat : Nat) : Int) = z8 by omega] at this
      · cases r9
        exact turn D H7 i r' k' ns H' H8 u r8 k8 e h2 hl hi hw e8 ha8 nad (hok u (List.mem_of_getElem? hu))
end
end DK

namespace DK
open PySem PySem.Spec PyProof.Rows L2 GV
theorem ins_mem {α : Type} (l : List α) (k : Nat) (x y : α) : y ∈ l.take k ++ [x] ++ l.drop k ↔ y = x ∨ y ∈ l := by
  rw [List.mem_append, List.mem_append, List.mem_singleton]
  constructor
  · rintro ((h | h) | h)
    · exact .inr (List.mem_of_mem_take h)
    · exact .inl h
    · exact .inr (List.mem_of_mem_drop h)
  · rintro (h | h)
    · exact .inl (.inr h)
    · rw [← List.take_append_drop k l] at h
      exact (List.mem_append.mp h).elim (fun h => .inl (.inl h)) .inr
theorem ins_len {α : Type} (l : List α) (k : Nat) (x : α) : (l.take k ++ [x] ++ l.drop k).length = l.length + 1 := by
  rw [List.length_append, List.length_append, List.length_take, List.length_drop, List.length_singleton]
  omega
section
variable {P : Program} {w : World} {K : PySem.W.Frag} {mg : Str → Option Value} {base : Heap}
/-! ### another order -/
/-! ### as a list or a tuple -/
def spGiven (K : PySem.W.Frag) : Sp := fun vs H Q _ => ∃ (a l : Addr) (ns : List Int) (r c k : Int), vs = [.ref a, .ref l] ∧ H a = some (potL r c k) ∧ a ≠ l ∧ H l = some (.lst (ns.map V.int)) ∧ ns.length ≤ 1000 ∧
  ∀ tp v r' k' H', ExB a H H' → H' a = some (potL r' c k') → Rp K (Ma a) H' v (sqD tp (ns.map PyData.int)) → Q v H'
theorem cl_law_given {f : Addr} {fd : FuncData} (F : At K mg "_law_given" s_law_given f fd) (nb : NoB mg) (cd : Cl P w K mg base CX0 1 "_law_draw" spDraw) : Cl P w K mg base CX0 3 "_law_given" (spGiven K) := by
  refine ⟨f, fd, _, F.fn.ok sc_law_given (fun vs H Q E h => ?_) (fun cdv A outer sh H vs Q E hr h => ⟨_, wB.ps, ?_⟩), F.gl, F.fn.kp, F.fn.binds fun _ _ _ _ _ _ us hl => match us, hl with | [_, _], _ => rfl⟩
  · obtain ⟨a, l, ns, r, c, k, rfl, _⟩ := h
    rfl
  · obtain ⟨a, l, ns, r, c, k, rfl, ha, nal, hl, hlen, q⟩ := h
    refine b_cons (cs_if (ct_eq hr.units (ce_draw cd hr (by decide) rfl (fun H1 Q hq => ce_nm 0 hq) pd_int ha (by decide) (by decide +kernel) fun z r2 k2 H2 z0 z1 e2 ha2 => ?_)))
    refine ce_pd alive0 pd_int fun y H3 x3 r3 => ⟨.int z, _, .int z, r3.dp, rfl, rfl, ?_⟩
    have ha3 := x3 _ _ ha2
    have e3 := e2.trE x3
    have rl : Rp K (Ma a) H3 (.ref l) (intsD ns) := .lst (fun e => nal e.symm) (.inl (e3 _ _ (Ne.symm nal) hl)) (.ints ns)
    split
    · exact b_cons (s_ret (al_pot ha3) (pd_tupleOf rfl nb.tuple (nm 1 rl) rfl) fun v H4 x4 rv => q true v r2 k2 H4 (e3.trE x4) (x4 _ _ ha3) rv)
    · exact b_nil (b_cons (s_ret (al_pot ha3) (FD.pd (fd_listOf rfl nb.list (nm 1 rl) rfl)) fun v H4 x4 rv => q false v r2 k2 H4 (e3.trE x4) (x4 _ _ ha3) rv))
/-! ### what is no bag row -/
theorem nw_big {z : Int} (h : 1000000000000 < z ∨ z < -1000000000000) : isWeightD (.int z) = false := by
  show (decide (-mostW ≤ z) && decide (z ≤ mostW)) = false
  unfold mostW
  rw [Bool.and_eq_false_iff, decide_eq_false_iff_not, decide_eq_false_iff_not]
  omega
theorem bag_no {tp : Bool} {ds : List PyData} {d : PyData} (h : d ∈ ds) (hd : isWeightD d = false) : bagB (sqD tp ds) = false := by
  have e : ds.all isWeightD = false := by
    cases hh : ds.all isWeightD with
    | false => rfl
    | true => exact absurd (List.all_eq_true.mp hh d h) (by rw [hd]; exact Bool.false_ne_true)
  cases tp <;> (show (true && decide (ds.length ≤ 40) && ds.all isWeightD) = false; rw [e, Bool.and_false])
theorem bag_long {tp : Bool} {ds : List PyData} (h : 40 < ds.length) : bagB (sqD tp ds) = false := by
  have e : decide (ds.length ≤ 40) = false := decide_eq_false (by omega)
  cases tp <;> (show (true && decide (ds.length ≤ 40) && ds.all isWeightD) = false; rw [e]; rfl)
theorem parts_sq (tp : Bool) (ds : List PyData) : partsD (sqD tp ds) = ds := by cases tp <;> rfl
def spBad (K : PySem.W.Frag) : Sp := fun vs H Q _ => ∃ (a l : Addr) (ns : List Int) (r c k : Int), vs = [.ref a, .ref l] ∧ H a = some (potL r c k) ∧ a ≠ l ∧ H l = some (.lst (ns.map V.int)) ∧ ns.length ≤ 40 ∧
  ∀ v r' k' H', ExB a H H' → H' a = some (potL r' c k') → Arg K (Ma a) H' v false → Q v H'
theorem cl_law_bad_row {f : Addr} {fd : FuncData} (F : At K mg "_law_bad_row" s_law_bad_row f fd) (nb : NoB mg) (cd : Cl P w K mg base CX0 1 "_law_draw" spDraw) : Cl P w K mg base CX0 3 "_law_bad_row" (spBad K) := by
  refine ⟨f, fd, _, F.fn.ok sc_law_bad_row (fun vs H Q E h => ?_) (fun cdv A outer sh H vs Q E hr h => ⟨_, wB.ps, ?_⟩), F.gl, F.fn.kp, F.fn.binds fun _ _ _ _ _ _ us hl => match us, hl with | [_, _], _ => rfl⟩
  · obtain ⟨a, l, ns, r, c, k, rfl, _⟩ := h
    rfl
  · obtain ⟨a, l, ns, r, c, k, rfl, ha, nal, hl, hlen, q⟩ := h
    -- over
    refine b_cons (cs_set (i := 2) sc_law_bad_row.nd rfl (.inl rfl) (ce_add (ce_pd (al_pot ha) (pd_add (pd_pow pd_int pd_int ⟨by decide, by decide, by decide⟩) pd_int) fun v1 H1 x1 r1 => ce_draw cd hr (by decide) rfl (fun H1 Q hq => ce_nm 0 hq) (pd_pow pd_int pd_int ⟨by decide, by decide, by decide⟩) (x1 _ _ ha) (by decide) (by decide +kernel) fun z2 r2 k2 H2 z20 z21 e2 ha2 => ?_)))
    cases r1
    refine ⟨_, _, rfl, rfl, ?_⟩
    generalize hov : (10 ^ Int.toNat 12 + 1 + z2 : Int) = ov
    have ov1 : 1000000000000 < ov := by
      rw [← hov]
      show 1000000000000 < (1000000000000 + 1 + z2 : Int)
      omega
    have e12 : ExB a H H2 := (ExB.of x1).trans e2
    -- odd
    generalize hod : ([.none, .bool true, .bool false, .str "1", .list [.int 1], .tuple [], .int ov, .int (-ov)] : List PyData) = odds
    have hodl : odds.length = 8 := by rw [← hod]; rfl
    have hodn : ∀ d ∈ odds, isWeightD d = false := by
      rw [← hod]
      intro d hd
      simp only [List.mem_cons, List.not_mem_nil, or_false] at hd
      rcases hd with rfl | rfl | rfl | rfl | rfl | rfl | rfl | rfl
      · rfl
      · rfl
      · rfl
      · rfl
      · rfl
      · rfl
      · exact nw_big (.inl ov1)
      · exact nw_big (.inr (by omega))
    refine b_cons (cs_set (i := 3) sc_law_bad_row.nd rfl (.inl rfl) (ce_ix (ce_pd (d := .list odds) (al_pot ha2) (PD.is (FD.pd (fd_lst (ad_cons pd_non (ad_cons pd_bl (ad_cons pd_bl (ad_cons pd_str (ad_cons (FD.pd (fd_lst (ad_cons pd_int ad_nil) (by simp))) (ad_cons (pd_tup ad_nil (by simp)) (ad_cons (nm 2 (.int ov)) (ad_cons (pd_neg (nm 2 (.int ov))) ad_nil)))))))) (by simp))) (by rw [← hod])) fun v3 H3 x3 r3 => ce_draw cd hr (by decide) rfl (fun H1 Q hq => ce_nm 0 hq) pd_int (x3 _ _ ha2) (by decide) (by decide +kernel) fun z4 r4 k4 H4 z40 z41 e4 ha4 => ?_)))
    obtain ⟨dod, hdod⟩ : ∃ d, odds[z4.toNat]? = some d := ⟨_, List.getElem?_eq_getElem (by omega)⟩
    have hdn := hodn dod (List.mem_of_getElem? hdod)
    refine rIx_of (M := Ma a) (da := .list odds) (d := dod) (r3.mono (fun _ z => z) (ExB.exM e4)) (by rw [show z4 = ((z4.toNat : Nat) : Int) by omega]; exact ixD_list hdod) fun vo ro => ?_
    have e14 : ExB a H H4 := (e12.trE x3).trans e4
    have rl4 : Rp K (Ma a) H4 (.ref l) (intsD ns) := .lst (fun e => nal e.symm) (.inl (e14 _ _ (Ne.symm nal) hl)) (.ints ns)
    -- spoilt
    refine b_cons (cs_set (i := 4) sc_law_bad_row.nd rfl (.inl rfl) (ce_fd (al_pot ha4) (fd_listOf rfl nb.list (nm 1 rl4) rfl) fun p ws H5 hp x5 h5 rw5 => ?_))
    have ew := rw5.of_ints
    subst ew
    have ha5 := x5 _ _ ha4
    have nap : a ≠ p := fun e => by
      rw [← e, ha4] at hp
      cases hp
    refine b_cons (cs_expr (ce_insert (ce_nm 4 ⟨p, rfl, ⟨_, h5⟩, ce_draw cd hr (by decide) rfl (fun H1 Q hq => ce_nm 0 hq) (pd_add (pd_len nb rfl (nm 1 (rl4.mono (fun _ z => z) (ExM.of x5))) (n := ns.length) (by simp [lenD])) pd_int) ha5 (by omega) (n8000 (by omega) (by omega)) fun z6 r6 k6 H6 z60 z61 e6 ha6 => ce_nm 3 ⟨ns.map V.int, z6.toNat, e6 _ _ (Ne.symm nap) h5, by rw [show ((z6.toNat : Nat) : Int) = z6 by omega], by omega, by rw [List.length_map]; omega, ?_⟩⟩)))
    generalize hH7 : upd H6 p (.lst ((ns.map V.int).take z6.toNat ++ [vo] ++ (ns.map V.int).drop z6.toNat)) = H7
    have h7 : H7 p = some (.lst ((ns.map V.int).take z6.toNat ++ [vo] ++ (ns.map V.int).drop z6.toNat)) := by rw [← hH7, upd_same]
    have ha7 : H7 a = some (potL r6 c k6) := by
      rw [← hH7, upd_ne nap]
      exact ha6
    have e47 : ExM (fun x => x = a ∨ x = p) H4 H7 := fun x o h n _ => by
      have n1 : x ≠ a := fun e => n (.inl e)
      have n2 : x ≠ p := fun e => n (.inr e)
      rw [← hH7, upd_ne n2]
      exact e6 _ _ n1 (x5 _ _ h)
    have wid : ∀ {v d}, Rp K (Ma a) H4 v d → Rp K (Ma a) H7 v d := fun r => (r.wide (M' := fun x => x = a ∨ x = p) (fun x h => h.elim .inl fun e => .inr (by rw [e]; exact hp))).mono (fun x h => .inl h) e47
    have e17 : ExB a H H7 := fun x o n h => by
      by_cases n2 : x = p
      · rw [n2] at h
        have : H4 p = some o := e14 _ _ (Ne.symm nap) h
        rw [hp] at this
        cases this
      · rw [← hH7, upd_ne n2]
        exact e6 _ _ n (x5 _ _ (e14 _ _ n h))
    generalize hsd : (ns.map PyData.int).take z6.toNat ++ [dod] ++ (ns.map PyData.int).drop z6.toNat = sd at *
    have hsl : sd.length = ns.length + 1 := by rw [← hsd, ins_len, List.length_map]
    have hsm : dod ∈ sd := by
      rw [← hsd, ins_mem]
      exact .inl rfl
    have rs7 : Rp K (Ma a) H7 (.ref p) (sqD false sd) := .lst (Ne.symm nap) (.inl h7) (by
      rw [← hsd, ← List.map_take, ← List.map_drop, ← List.map_take, ← List.map_drop]
      exact ((RpAll.ints _).append (.cons (wid ro) .nil)).append (RpAll.ints _))
    have rl7 : Rp K (Ma a) H7 (.ref l) (intsD ns) := .lst (fun e => nal e.symm) (.inl (e17 _ _ (Ne.symm nal) hl)) (.ints ns)
    -- long
    refine b_cons (cs_set (i := 5) sc_law_bad_row.nd rfl (.inl rfl) (ce_fd (al_pot ha7) (fd_cat (nm 1 rl7) (FD.pd (fd_listRange rfl rfl nb.list rfl nb.range (pd_sub pd_int (pd_len nb rfl (nm 1 rl7) (n := ns.length) (by simp [lenD]))) (by omega) (by omega))) (by simp; omega)) fun pl wl H8 hpl x8 h8 rl8 => ?_))
    generalize hld : (ns.map PyData.int) ++ ((List.range ((41 : Int) - (ns.length : Nat)).toNat).map Int.ofNat).map PyData.int = ld at *
    have hll : ld.length = 41 := by
      rw [← hld]
      simp
      omega
    have ha8 := x8 _ _ ha7
    have npl : pl ≠ a := fun e => by
      rw [e, ha7] at hpl
      cases hpl
    have rL8 : Rp K (Ma a) H8 (.ref pl) (sqD false ld) := .lst npl (.inl h8) rl8
    have rs8 := rs7.mono (fun _ z => z) (ExM.of x8)
    have sB : ∀ tp, bagB (sqD tp sd) = false := fun tp => bag_no hsm hdn
    have lB : ∀ tp, bagB (sqD tp ld) = false := fun tp => bag_long (by omega)
    have ar : ∀ {tp ds v H}, Rp K (Ma a) H v (sqD tp ds) → ds.length ≤ 1000 → bagB (sqD tp ds) = false → Arg K (Ma a) H v false := fun {tp ds v H} r hl hb => .inl ⟨_, r, by rw [parts_sq]; exact hl, hb⟩
    have sc : ∀ {d v H}, Rp K (Ma a) H v d → (partsD d).length = 0 → bagB d = false → Arg K (Ma a) H v false := fun r hl hb => .inl ⟨_, r, by omega, hb⟩
    -- menu
    refine b_cons (cs_set (i := 6) sc_law_bad_row.nd rfl (.inl rfl) (ce_lst (ca_cons (ce_nm 4 (ca_cons (ce_pd (al_pot ha8) (pd_tupleOf rfl nb.tuple (nm 4 rs8) (items_sq false sd)) fun v9 H9 x9 r9 => ca_cons (ce_nm 5 (ca_cons (ce_pd (al_pot (x9 _ _ ha8)) (pd_tupleOf rfl nb.tuple (nm 5 (rL8.mono (fun _ z => z) (ExM.of x9))) (items_sq false ld)) fun v10 H10 x10 r10 => ?_)))))))))
    have ha10 := x10 _ _ (x9 _ _ ha8)
    refine ca_cons (ce_rep (ce_fd (al_pot ha10) (fd_lst (ad_cons (pd_int (i := 3)) ad_nil) (by simp)) fun p11 ws11 H11 hp11 x11 h11 rw11 => ce_pd (al_pot (x11 _ _ ha10)) pd_int fun v12 H12 x12 r12 => ?_))
    obtain ⟨w0, rfl, r0⟩ := rpa1 rw11
    cases r0
    cases r12
    refine ⟨p11, _, 41, rfl, rfl, x12 _ _ h11, by simp, by omega, fun p13 hp13 => ?_⟩
    rw [replicate_flat]
    generalize hH13 : upd H12 p13 (.lst (List.replicate 41 (V.int 3))) = H13
    have x13 : Evl.Ex H12 H13 := hH13 ▸ Evl.Ex.new hp13
    have ha12 := x12 _ _ (x11 _ _ ha10)
    have np13 : p13 ≠ a := fun e => by
      rw [e, ha12] at hp13
      cases hp13
    have r13 : Rp K (Ma a) H13 (.ref p13) (sqD false ((List.replicate 41 (3 : Int)).map PyData.int)) := .lst np13 (.inl (by rw [← hH13, upd_same, List.map_replicate])) (.ints _)
    have ha13 := x13 _ _ ha12
    refine ca_cons (ce_pd (al_pot ha13) pd_non fun v14 H14 x14 r14 => ca_cons (ce_pd (al_pot (x14 _ _ ha13)) (pd_int (i := 7)) fun v15 H15 x15 r15 => ca_cons (ce_pd (al_pot (x15 _ _ (x14 _ _ ha13))) (pd_bl (k := true)) fun v16 H16 x16 r16 => ca_cons (ce_pd (al_pot (x16 _ _ (x15 _ _ (x14 _ _ ha13)))) pd_str fun v17 H17 x17 r17 => ca_cons (ce_pd (al_pot (x17 _ _ (x16 _ _ (x15 _ _ (x14 _ _ ha13))))) pd_str fun v18 H18 x18 r18 => ?_)))))
    have ha18 := x18 _ _ (x17 _ _ (x16 _ _ (x15 _ _ (x14 _ _ ha13))))
    refine ca_cons (ce_dict0 fun p19 hp19 => ca_cons (ce_dict1 fun p20 hp20 => ca_nil ⟨(by show 12 ≤ 1000; decide), fun pm hpm => ?_⟩))
    generalize hH19 : upd H18 p19 (.dK []) = H19 at hp20 hpm ⊢
    have x19 : Evl.Ex H18 H19 := hH19 ▸ Evl.Ex.new hp19
    generalize hH20 : upd H19 p20 _ = H20 at hpm ⊢
    have x20 : Evl.Ex H19 H20 := hH20 ▸ Evl.Ex.new hp20
    generalize hH21 : upd H20 pm _ = H21
    have x21 : Evl.Ex H20 H21 := hH21 ▸ Evl.Ex.new hpm
    have ha19 := x19 _ _ ha18
    have ha21 := x21 _ _ (x20 _ _ ha19)
    have hm21 : H21 pm = some (.lst [.ref p, v9, .ref pl, v10, .ref p13, v14, v15, v16, v17, v18, .ref p19, .ref p20]) := by rw [← hH21, upd_same]
    have xA : Evl.Ex H18 H21 := (x19.trans x20).trans x21
    have xB : Evl.Ex H13 H21 := ((((x14.trans x15).trans x16).trans x17).trans x18).trans xA
    have xC : Evl.Ex H10 H21 := ((x11.trans x12).trans x13).trans xB
    have n19 : p19 ≠ a := fun e => by
      rw [e, ha18] at hp19
      cases hp19
    have n20 : p20 ≠ a := fun e => by
      rw [e, ha19] at hp20
      cases hp20
    have all : ∀ v ∈ ([.ref p, v9, .ref pl, v10, .ref p13, v14, v15, v16, v17, v18, .ref p19, .ref p20] : List V), Arg K (Ma a) H21 v false := by
      intro v hv
      simp only [List.mem_cons, List.not_mem_nil, or_false] at hv
      rcases hv with rfl | rfl | rfl | rfl | rfl | rfl | rfl | rfl | rfl | rfl | rfl | rfl
      · exact ar (tp := false) (rs8.mono (fun _ z => z) (ExM.of ((x9.trans x10).trans xC))) (by omega) (sB _)
      · exact ar (tp := true) (r9.mono (fun _ z => z) (ExM.of (x10.trans xC))) (by omega) (sB _)
      · exact ar (tp := false) (rL8.mono (fun _ z => z) (ExM.of ((x9.trans x10).trans xC))) (by omega) (lB _)
      · exact ar (tp := true) (r10.mono (fun _ z => z) (ExM.of xC)) (by omega) (lB _)
      · exact ar (tp := false) (r13.mono (fun _ z => z) (ExM.of xB)) (by simp) (bag_long (by simp))
      · exact sc (r14.mono (fun _ z => z) (ExM.of ((((x15.trans x16).trans x17).trans x18).trans xA))) rfl rfl
      · exact sc (r15.mono (fun _ z => z) (ExM.of (((x16.trans x17).trans x18).trans xA))) rfl rfl
      · exact sc (r16.mono (fun _ z => z) (ExM.of ((x17.trans x18).trans xA))) rfl rfl
      · exact sc (r17.mono (fun _ z => z) (ExM.of (x18.trans xA))) rfl rfl
      · exact sc (r18.mono (fun _ z => z) (ExM.of xA)) rfl rfl
      · exact .inr ⟨rfl, p19, [], rfl, n19, x21 _ _ (x20 _ _ (by rw [← hH19, upd_same]))⟩
      · exact .inr ⟨rfl, p20, _, rfl, n20, x21 _ _ (by rw [← hH20, upd_same])⟩
    have nm21 : pm ≠ a := fun e => by
      rw [e, x20 _ _ ha19] at hpm
      cases hpm
    refine b_cons (cs_ret (ce_ix (ce_nm 6 (ce_draw cd hr (by decide) rfl (fun H1 Q hq => ce_nm 0 hq) pd_int ha21 (by decide) (by decide +kernel) fun z22 r22 k22 H22 z220 z221 e22 ha22 => ?_))))
    obtain ⟨vv, hvv⟩ : ∃ v, ([.ref p, v9, .ref pl, v10, .ref p13, v14, v15, v16, v17, v18, .ref p19, .ref p20] : List V)[z22.toNat]? = some v := ⟨_, List.getElem?_eq_getElem (by show z22.toNat < 12; omega)⟩
    refine rIx_lst (e22 _ _ nm21 hm21) (v := vv) ?_ ?_
    · rw [show z22 = ((z22.toNat : Nat) : Int) by omega]
      exact atI_nat hvv
    · exact q vv r22 k22 H22 (((e17.trE x8).trE ((x9.trans x10).trans xC)).trans e22) ha22 ((all vv (List.mem_of_getElem? hvv)).mono (fun _ z => z) (ExB.exM e22))
end
end DK

namespace DK
open PySem PySem.Spec PyProof.Rows L2 GV
def exch (ns : List Int) (p : Nat) : List Int := (ns.set p (ns.getD (p + 1) 0)).set (p + 1) (ns.getD p 0)
theorem exch_eq {ns : List Int} {p : Nat} (h : p + 1 < ns.length) : ∃ x y A B, ns[p]? = some x ∧ ns[p + 1]? = some y ∧ A = ns.take p ∧ B = ns.drop (p + 2) ∧ ns = A ++ x :: y :: B ∧ exch ns p = A ++ y :: x :: B := by
  induction ns generalizing p with
  | nil => simp at h
  | cons z t ih =>
    cases p with
    | zero =>
      cases t with
      | nil => simp at h
      | cons y t => exact ⟨z, y, [], t, rfl, rfl, rfl, rfl, rfl, rfl⟩
    | succ p =>
      obtain ⟨x, y, A, B, h1, h2, h3, h4, h5, h6⟩ := ih (p := p) (by simpa using h)
      refine ⟨x, y, z :: A, B, h1, h2, by rw [h3]; rfl, h4, congrArg (z :: ·) h5, ?_⟩
      show z :: exch t p = _
      rw [h6]
      rfl
theorem exch_len (ns : List Int) (p : Nat) : (exch ns p).length = ns.length := by
  simp [exch]
theorem exch_mem {ns : List Int} {p : Nat} (h : p + 1 < ns.length) (k : Int) : k ∈ exch ns p ↔ k ∈ ns := by
  obtain ⟨x, y, A, B, _, _, _, _, h5, h6⟩ := exch_eq h
  rw [h6]
  conv => rhs; rw [h5]
  simp only [List.mem_append, List.mem_cons]
  exact ⟨fun h => h.imp id fun h => h.elim (fun e => .inr (.inl e)) fun h => h.elim .inl fun h => .inr (.inr h), fun h => h.imp id fun h => h.elim (fun e => .inr (.inl e)) fun h => h.elim .inl fun h => .inr (.inr h)⟩
/-- tame, as the law tells it -/
def tamB (ns : List Int) (p : Nat) : Bool := (ns.getD p 0 != ns.getD (p + 1) 0) && (List.range ns.length).any fun k => (decide (k < p) && decide (ns.getD k 0 ≤ min (ns.getD p 0) (ns.getD (p + 1) 0))) || (decide (p + 1 < k) && decide (max (ns.getD p 0) (ns.getD (p + 1) 0) ≤ ns.getD k 0))
theorem cutD_dropI (ns : List Int) (i : Nat) : cutD (ns.map PyData.int) (some (i : Int)) none = (ns.drop i).map PyData.int := by rw [cutD_drop, List.map_drop]
theorem wideP {M : Addr → Prop} {p : Addr} {H : Hp} (hp : H p = none) : ∀ a, (M a ∨ a = p) → M a ∨ H a = none := fun a h => h.imp id fun e => by rw [e]; exact hp
theorem exM_of_exB {M : Addr → Prop} {p : Addr} {H H' : Hp} (e : ExB p H H') : ExM (fun a => M a ∨ a = p) H H' := fun a o h m _ => e a o (fun z => m (.inr z)) h
theorem getD_of {ns : List Int} {i : Nat} {z : Int} (h : ns[i]? = some z) : ns.getD i 0 = z := by
  rw [List.getD_eq_getElem?_getD, h]
  rfl
def tCond (ns : List Int) (p k : Nat) : Bool := (decide (k < p) && decide (ns.getD k 0 ≤ min (ns.getD p 0) (ns.getD (p + 1) 0))) || (decide (p + 1 < k) && decide (max (ns.getD p 0) (ns.getD (p + 1) 0) ≤ ns.getD k 0))
theorem tamB_eq (ns : List Int) (p : Nat) : tamB ns p = ((ns.getD p 0 != ns.getD (p + 1) 0) && (List.range ns.length).any (tCond ns p)) := rfl
section
variable {P : Program} {w : World} {K : PySem.W.Frag} {mg : Str → Option Value} {base : Heap}
def R_tame (ds : List PyData) (d : PyData) : Prop := ∃ (ns : List Int) (p : Nat), p + 1 < ns.length ∧ ns.length ≤ 1000 ∧ ds = [intsD ns, .int (p : Nat)] ∧ d = .bool (tamB ns p)
theorem cl_law_tame {f : Addr} {fd : FuncData} (F : At K mg "_law_tame" s_law_tame f fd) (nb : NoB mg) : Cl P w K mg base CX0 1 "_law_tame" (PureR K R_tame) := by
  refine cl_pure F sc_law_tame (F.fn.binds fun _ _ _ _ _ _ us hl => match us, hl with | [_, _], _ => rfl) (fun ds d h => ?_) (fun X cdv A outer s H Q E M vs ds d hX hr al r h q => ?_)
  · obtain ⟨ns, p, _, _, rfl, _⟩ := h
    rfl
  · obtain ⟨ns, p, hp, hl, rfl, rfl⟩ := h
    obtain ⟨u, v, rfl, r1, r2⟩ := rpa2 r
    subst hX
    obtain ⟨x, hx⟩ := get_i (ns := ns) (i := p) (by omega)
    obtain ⟨y, hy⟩ := get_i (ns := ns) (i := p + 1) hp
    have ex := getD_of hx
    have ey := getD_of hy
    have i1 : ((p : Nat) : Int) + 1 = ((p + 1 : Nat) : Int) := by omega
    refine b_cons (s_set (i := 2) (d := .int (min x y)) al sc_law_tame.nd rfl (.inl rfl) (pd_min2 rfl nb.min (pd_ix (nm 0 r1) (nm 1 r2) (ixD_ints hx)) (pd_ix (nm 0 r1) (PD.is (pd_add (nm 1 r2) pd_int) (congrArg PyData.int i1)) (ixD_ints hy))) fun v2 H2 x2 rv2 => ?_)
    cases rv2
    have r1a := r1.mono (fun _ z => z) (ExM.of x2)
    have r2a := r2.mono (fun _ z => z) (ExM.of x2)
    refine b_cons (s_set (i := 3) (d := .int (max x y)) (al.mono x2) sc_law_tame.nd rfl (.inl rfl) (pd_max2 rfl nb.max (pd_ix (nm 0 r1a) (nm 1 r2a) (ixD_ints hx)) (pd_ix (nm 0 r1a) (PD.is (pd_add (nm 1 r2a) pd_int) (congrArg PyData.int i1)) (ixD_ints hy))) fun v3 H3 x3 rv3 => ?_)
    cases rv3
    have al3 := (al.mono x2).mono x3
    have r1b := r1a.mono (fun _ z => z) (ExM.of x3)
    have r2b := r2a.mono (fun _ z => z) (ExM.of x3)
    refine b_cons (s_if (k := decide (x = y)) al3 (TD.is (td_eq hr.units (nm 2 (.int (min x y))) (nm 3 (.int (max x y))) rfl rfl) ?_) (fun hk H4 x4 => ?_) (fun hk H4 x4 => ?_))
    · rw [Bool.eq_iff_iff, decide_eq_true_eq]
      simp [PyData.eqv]
      omega
    · have := of_decide_eq_true hk
      refine b_cons (s_ret (al3.mono x4) (PD.is pd_bl ?_) fun v H5 x5 rv => q v H5 (((x2.trans x3).trans x4).trans x5) rv)
      rw [tamB_eq, ex, ey, this]
      simp
    · have hxy : x ≠ y := of_decide_eq_false hk
      have al4 := al3.mono x4
      have r1c := r1b.mono (fun _ z => z) (ExM.of x4)
      have r2c := r2b.mono (fun _ z => z) (ExM.of x4)
      have x04 := (x2.trans x3).trans x4
      have yes : ∀ k, k < ns.length → tCond ns p k = true → tamB ns p = true := fun k hk hc => by
        rw [tamB_eq, Bool.and_eq_true]
        exact ⟨by rw [ex, ey]; simpa using hxy, List.any_eq_true.mpr ⟨k, List.mem_range.mpr hk, hc⟩⟩
      refine b_nil (b_cons (s_forR (n := ns.length) (slot := 4) PassesOwn.never rfl sc_law_tame.nd rfl (.inl rfl) rfl nb.range (pd_len nb rfl (nm 0 r1c) (by simp [lenD])) (by omega) al4 (fun Hs i σ' H' => (∃ xk, σ' = [some u, some v, some (.int (min x y)), some (.int (max x y)), xk]) ∧ Evl.Ex Hs H' ∧ ∀ k, k < i → tCond ns p k = false) ?_ ?_ ?_ ?_))
      · exact fun H1 x1 => ⟨⟨_, rfl⟩, Evl.Ex.refl _, fun k h => absurd h (Nat.not_lt_zero _)⟩
      · rintro H1 i σ' H' x1 ⟨_, ex, _⟩
        exact ⟨.of ex, (al4.mono x1).mono ex⟩
      · rintro H1 i σ' H' H5 x1 hi ⟨⟨xk, rfl⟩, exx, hno⟩ x5
        obtain ⟨z, hz⟩ := get_i hi
        have ez := getD_of hz
        have xx := (x1.trans exx).trans x5
        have al5 := al4.mono xx
        have r1d := r1c.mono (fun _ z => z) (ExM.of xx)
        have r2d := r2c.mono (fun _ z => z) (ExM.of xx)
        refine b_cons (s_if (k := decide (((i : Nat) : Int) < (p : Nat)) && decide (z ≤ min x y)) al5 (WD.td (wd_and (td_lt (nm 4 (.int (i : Nat))) (nm 1 r2d)) fun _ => wd_and1 (td_le (pd_ix (nm 0 r1d) (nm 4 (.int (i : Nat))) (ixD_ints hz)) (nm 2 (.int (min x y)))))) (fun hk H6 x6 => ?_) (fun hk H6 x6 => ?_))
        · refine b_cons (s_ret (al5.mono x6) (PD.is pd_bl ?_) fun v H7 x7 rv => q v H7 (((x04.trans xx).trans x6).trans x7) rv)
          rw [Bool.and_eq_true, decide_eq_true_eq, decide_eq_true_eq] at hk
          rw [yes i hi]
          unfold tCond
          rw [ex, ey, ez, decide_eq_true hk.2, decide_eq_true (by omega : i < p)]
          rfl
        · refine b_nil (b_cons (s_if (k := decide (((p : Nat) : Int) + 1 < (i : Nat)) && decide (max x y ≤ z)) (al5.mono x6) (WD.td (wd_and (td_gt (nm 4 (.int (i : Nat))) (pd_add (nm 1 (r2d.mono (fun _ z => z) (ExM.of x6))) pd_int)) fun _ => wd_and1 (td_ge (pd_ix (nm 0 (r1d.mono (fun _ z => z) (ExM.of x6))) (nm 4 (.int (i : Nat))) (ixD_ints hz)) (nm 3 (.int (max x y)))))) (fun hk2 H7 x7 => ?_) (fun hk2 H7 x7 => ?_)))
          · refine b_cons (s_ret ((al5.mono x6).mono x7) (PD.is pd_bl ?_) fun v H8 x8 rv => q v H8 ((((x04.trans xx).trans x6).trans x7).trans x8) rv)
            rw [Bool.and_eq_true, decide_eq_true_eq, decide_eq_true_eq] at hk2
            rw [yes i hi]
            unfold tCond
            rw [ex, ey, ez, decide_eq_true hk2.2, decide_eq_true (by omega : p + 1 < i), Bool.or_comm]
            rfl
          · refine b_nil (b_nil ⟨⟨_, rfl⟩, ((exx.trans x5).trans x6).trans x7, fun k hk3 => ?_⟩)
            by_cases e : k = i
            · subst e
              unfold tCond
              rw [ex, ey, ez, Bool.or_eq_false_iff]
              refine ⟨?_, ?_⟩
              · rw [← hk]
                congr 1
                rw [Bool.eq_iff_iff, decide_eq_true_eq, decide_eq_true_eq]
                omega
              · rw [← hk2]
                congr 1
                rw [Bool.eq_iff_iff, decide_eq_true_eq, decide_eq_true_eq]
                omega
            · exact hno k (by omega)
      · rintro H1 σ' H' x1 ⟨⟨xk, rfl⟩, exx, hno⟩
        refine b_cons (s_ret (al4.mono (x1.trans exx)) (PD.is pd_bl ?_) fun v H5 x5 rv => q v H5 ((x04.trans (x1.trans exx)).trans x5) rv)
        rw [tamB_eq, show (List.range ns.length).any (tCond ns p) = false from List.any_eq_false.mpr fun k hk => by rw [hno k (List.mem_range.mp hk)]; exact Bool.false_ne_true, Bool.and_false]
/-! ### all tame places -/
def tameL (ns : List Int) : List Nat := (List.range (ns.length - 1)).filter (tamB ns)
def natD (l : List Nat) : List PyData := l.map fun i => .int (i : Nat)
def R_tameL (ds es : List PyData) : Prop := ∃ ns : List Int, ns.length ≤ 1000 ∧ ds = [intsD ns] ∧ es = natD (tameL ns)
theorem cl_law_tame_list {f : Addr} {fd : FuncData} (F : At K mg "_law_tame_list" s_law_tame_list f fd) (nb : NoB mg) (ct : Cl P w K mg base CX0 1 "_law_tame" (PureR K R_tame)) : Cl P w K mg base CX0 2 "_law_tame_list" (FreshR K R_tameL) := by
  refine ⟨f, fd, _, F.fn.ok sc_law_tame_list (fun vs H Q E h => ?_) (fun cdv A outer sh H vs Q E hr h => ⟨_, wB.ps, ?_⟩), F.gl, F.fn.kp, F.fn.binds fun _ _ _ _ _ _ us hl => match us, hl with | [_], _ => rfl⟩
  · obtain ⟨M, ds, es, al, r, ⟨ns, _, rfl, _⟩, _⟩ := h
    rw [r.length]
    rfl
  · obtain ⟨M, ds, es, al, r, ⟨ns, hl, rfl, rfl⟩, q⟩ := h
    obtain ⟨v, rfl, r1⟩ := rpa1 r
    refine b_cons (cs_ret (ce_fd al (fd_filter (t := .one 1) (own := [("place", 1)]) (fun d => match d with | .int i => tamB ns i.toNat | _ => false) id rfl sc_law_tame_list.nd (src_range1 rfl nb.range (pd_sub (pd_len nb rfl (nm 0 r1) (n := ns.length) (by simp [lenD])) pd_int) (by omega) (by omega)) (blkOk_by (N := n_law_tame_list) (sc := defScope s_law_tame_list) (by decide +kernel)) (fun _ _ _ _ _ => pg_name (i := 1) sc_law_tame_list.nd rfl (.inl rfl)) (fun _ _ => trivial) ?_ ?_ ?_) fun p ws H2 hp x2 h2 r2 => q p ws H2 hp x2 h2 ?_))
    · rintro M H d σ' ⟨v, _, rfl⟩
      rfl
    · rw [List.length_map, List.length_range]
      omega
    · rintro s0 H0 C cl fp M' H' d σ' hM lift hd ⟨v', rv, rfl⟩
      obtain ⟨i, hi, rfl⟩ := List.mem_map.mp hd
      have hi := List.mem_range.mp hi
      rw [Int.zero_add] at rv ⊢
      exact ⟨td_val (pd_callC ct hr (by decide) rfl (ad_cons (nm 0 (lift _ _ r1)) (ad_cons (nm 1 rv) ad_nil)) ⟨ns, i, by omega, hl, rfl, rfl⟩), nm 1 rv⟩
    · have e : (((List.range ((ns.length : Int) - 1).toNat).map fun i => PyData.int (0 + (i : Nat))).filter fun d => match d with | .int i => tamB ns i.toNat | _ => false).map id = natD (tameL ns) := by
        rw [List.map_id, List.filter_map]
        unfold natD tameL
        rw [show ((ns.length : Int) - 1).toNat = ns.length - 1 by omega]
        have e1 : ((fun d => match d with | .int i => tamB ns i.toNat | _ => false) ∘ fun i : Nat => PyData.int (0 + (i : Nat))) = tamB ns := by
          funext i
          show tamB ns (0 + (i : Int)).toNat = _
          rw [show (0 + (i : Int)).toNat = i by omega]
        rw [e1]
        exact List.map_congr_left fun i _ => by rw [Int.zero_add]
      rw [e] at r2
      exact r2
/-! ### two neighbours exchanged -/
def R_exch (ds es : List PyData) : Prop := ∃ (ns : List Int) (p : Nat), p + 1 < ns.length ∧ ns.length ≤ 1000 ∧ ds = [intsD ns, .int (p : Nat)] ∧ es = (exch ns p).map PyData.int
theorem cl_law_exchanged {f : Addr} {fd : FuncData} (F : At K mg "_law_exchanged" s_law_exchanged f fd) (nb : NoB mg) : Cl P w K mg base CX0 1 "_law_exchanged" (FreshR K R_exch) := by
  refine ⟨f, fd, _, F.fn.ok sc_law_exchanged (fun vs H Q E h => ?_) (fun cdv A outer sh H vs Q E hr h => ⟨_, wB.ps, ?_⟩), F.gl, F.fn.kp, F.fn.binds fun _ _ _ _ _ _ us hl => match us, hl with | [_, _], _ => rfl⟩
  · obtain ⟨M, ds, es, al, r, ⟨ns, p, _, _, rfl, _⟩, _⟩ := h
    rw [r.length]
    rfl
  · obtain ⟨M, ds, es, al, r, ⟨ns, p, hp, hl, rfl, rfl⟩, q⟩ := h
    obtain ⟨u, v, rfl, r1, r2⟩ := rpa2 r
    cases r2
    obtain ⟨x, hx⟩ := get_i (ns := ns) (i := p) (by omega)
    obtain ⟨y, hy⟩ := get_i (ns := ns) (i := p + 1) hp
    have i1 : ((p : Nat) : Int) + 1 = ((p + 1 : Nat) : Int) := by omega
    refine b_cons (cs_set (i := 2) sc_law_exchanged.nd rfl (.inl rfl) (ce_fd al (fd_listOf rfl nb.list (nm 0 r1) rfl) fun l ws H1 hl1 x1 h1 rw1 => ?_))
    have ew := rw1.of_ints
    subst ew
    let M' : Addr → Prop := fun a => M a ∨ a = l
    have al1 : Alive M' H1 := fun a h => h.elim (al.mono x1 a) fun e => ⟨_, e ▸ h1⟩
    have r1' : Rp K M' H1 u (intsD ns) := (r1.wide (wideP hl1)).mono (fun _ z => z) (.of x1)
    refine b_cons (cs_sub (ce_pd al1 (pd_ix (nm 0 r1') (PD.is (pd_add (nm 1 (.int (p : Nat))) pd_int) (congrArg PyData.int i1)) (ixD_ints hy)) fun v3 H3 x3 r3 => ce_nm 2 (ce_nm 1 ⟨l, _, (p : Nat), p, rfl, rfl, x3 _ _ h1, ?_, ?_⟩)))
    · rw [List.length_map]
      exact Evl.ixN_nat (by omega)
    cases r3
    generalize hH4 : upd H3 l _ = H4
    have h4 : H4 l = some (.lst ((ns.map V.int).set p (.int y))) := by rw [← hH4, upd_same]
    have e34 : ExM M' H3 H4 := fun a o h n _ => by
      rw [← hH4, upd_ne fun e => n (.inr e)]
      exact h
    have r1'' : Rp K M' H4 u (intsD ns) := (r1'.mono (fun _ z => z) (ExM.of x3)).mono (fun _ z => z) e34
    have al4 : Alive M' H4 := fun a h => by
      by_cases e : a = l
      · exact ⟨_, e ▸ h4⟩
      · obtain ⟨o, ho⟩ := al1 a h
        exact ⟨o, by rw [← hH4, upd_ne e]; exact x3 _ _ ho⟩
    refine b_cons (cs_sub (ce_pd al4 (pd_ix (nm 0 r1'') (nm 1 (.int (p : Nat))) (ixD_ints hx)) fun v5 H5 x5 r5 => ce_nm 2 (ce_pd (al4.mono x5) (PD.is (pd_add (nm 1 (.int (p : Nat))) pd_int) (congrArg PyData.int i1)) fun v6 H6 x6 r6 => ?_)))
    cases r5
    cases r6
    refine ⟨l, _, ((p + 1 : Nat) : Int), p + 1, rfl, rfl, x6 _ _ (x5 _ _ h4), ?_, ?_⟩
    · rw [List.length_set, List.length_map]
      exact Evl.ixN_nat (by omega)
    · refine b_cons (cs_ret (ce_nm 2 (q l _ _ hl1 (fun a o h => ?_) upd_same ?_)))
      · have n : a ≠ l := fun e => by
          rw [e, hl1] at h
          cases h
        rw [upd_ne n]
        refine x6 _ _ (x5 _ _ ?_)
        rw [← hH4, upd_ne n]
        exact x3 _ _ (x1 _ _ h)
      · have e : ((ns.map V.int).set p (.int y)).set (p + 1) (.int x) = (exch ns p).map V.int := by
          unfold exch
          rw [getD_of hx, getD_of hy, List.map_set, List.map_set]
        rw [e]
        exact RpAll.ints _
end
end DK

namespace DK
open PySem PySem.Spec PyProof.Rows L2 GV
/-! ### what _law_told makes of a call -/
structure Exm4 (K : PySem.W.Frag) (CR CP CW CB : Addr) : Prop where
  rr : PySem.W.exmOne K (.ref CR) (.ref CR) = some true
  pr : PySem.W.exmOne K (.ref CP) (.ref CR) = some false
  pp : PySem.W.exmOne K (.ref CP) (.ref CP) = some true
  wr : PySem.W.exmOne K (.ref CW) (.ref CR) = some false
  wp : PySem.W.exmOne K (.ref CW) (.ref CP) = some false
  ww : PySem.W.exmOne K (.ref CW) (.ref CW) = some true
  br : PySem.W.exmOne K (.ref CB) (.ref CR) = some false
  bp : PySem.W.exmOne K (.ref CB) (.ref CP) = some false
  bw : PySem.W.exmOne K (.ref CB) (.ref CW) = some false
  bb : PySem.W.exmOne K (.ref CB) (.ref CB) = some true
structure Told (K : PySem.W.Frag) (mg : Str → Option Value) (CR CP CW CB : Addr) : Prop where
  gR : mg "InvalidRow" = some (.ref CR)
  gP : mg "InvalidPlace" = some (.ref CP)
  gW : mg "InvalidWalk" = some (.ref CW)
  gB : mg "Barred" = some (.ref CB)
  ex : Exm4 K CR CP CW CB
  xR : XfC K CR
  xP : XfC K CP
  xW : XfC K CW
  xB : XfC K CB
  nR : PySem.W.findIn K (.ref CR) "row" = some none
  nP : PySem.W.findIn K (.ref CP) "place" = some none
  nW : PySem.W.findIn K (.ref CW) "walk" = some none
  nB : PySem.W.findIn K (.ref CB) "place" = some none
  nS : PySem.W.findIn K (.ref CB) "step" = some none
def NewT (H : Hp) (vs : List V) (Q : VK) : Prop := ∀ p H2, H p = none → Evl.Ex H H2 → H2 p = some (.tup vs) → Q (.ref p) H2
def ToldV (Q : VK) : VK := fun v H1 => NewT H1 [.str "value", v] Q
/-- an error of the class C with these fields -/
def OneX (C : Addr) (f : Str) (cls : Value) (d : Option Addr) (H : Hp) (v : V) : Prop := cls = .ref C ∧ ∃ dd fs, d = some dd ∧ H dd = some (.xd fs) ∧ fs.lookup f = some v
def ToldX (CR CP CW CB : Addr) (Q : VK) : XK := fun cls d H1 =>
  (∃ v, OneX CR "row" cls d H1 v ∧ NewT H1 [.str "InvalidRow", v] Q) ∨ (∃ v, OneX CP "place" cls d H1 v ∧ NewT H1 [.str "InvalidPlace", v] Q) ∨
  (∃ v, OneX CW "walk" cls d H1 v ∧ NewT H1 [.str "InvalidWalk", v] Q) ∨ (∃ v u, OneX CB "place" cls d H1 v ∧ OneX CB "step" cls d H1 u ∧ NewT H1 [.str "Barred", v, u] Q)
def TTt (CR CP CW CB : Addr) : (XK → Hp → VK → Prop) → Hp → VK → Prop := fun tl H Q => tl (ToldX CR CP CW CB Q) H (ToldV Q)
theorem slot1 {σ : L2.St} {a : Addr} (h : 1 < σ.length) : (σ.set 1 (some (V.ref a)))[1]? = some (some (V.ref a)) := by
  rw [List.getElem?_set_self h]
theorem told_gives {X : Cx} {g CR CP CW CB : Addr} {cdg : Value} {q : Str} (T : Told X.K X.mg CR CP CW CB) : LamX.GivesTo X n_law_told "_law_told" (defScope s_law_told) g cdg (defBody s_law_told) "call" q (TTt CR CP CW CB) := by
  intro f c' s H Q tl hcall hco htt
  refine ⟨_, wB.ps, ?_⟩
  refine b_cons (s_try (Wout := fun _ _ _ _ => False) rfl rfl sc_law_told.nd (fun u s' ⟨_, _, _, _, _, _, _, _, _, _, _, _, _, _, _, _, z⟩ => z.elim)
    (.as_ (i := 1) ⟨rfl, by decide, .inl T.gR⟩ rfl rfl (fun a oe cls d pn hz hd => psW hz hd) (.as_ (i := 1) ⟨rfl, by decide, .inl T.gP⟩ rfl rfl (fun a oe cls d pn hz hd => psW hz hd) (.as_ (i := 1) ⟨rfl, by decide, .inl T.gW⟩ rfl rfl (fun a oe cls d pn hz hd => psW hz hd) (.as_ (i := 1) ⟨rfl, by decide, .inl T.gB⟩ rfl rfl (fun a oe cls d pn hz hd => psW hz hd) .nil))))
    fun pn xe tk => ?_)
  refine b_cons (cs_ret (ce_tup (ca_cons (ce_str (ca_cons ⟨_, PE.weak (hcall _ pn xe (ToldX CR CP CW CB Q) _ _ tk fun cls d σ' H' h => ?_), ToldV Q, ⟨rfl, hco, htt⟩, fun v2 H2 hq => ca_nil ⟨(by show 2 ≤ 1000; decide), fun p hp => hq p _ hp (Evl.Ex.new hp) upd_same⟩⟩)))))
  rcases h with ⟨v, ⟨rfl, dd, fs, rfl, hdd, hf⟩, hq⟩ | ⟨v, ⟨rfl, dd, fs, rfl, hdd, hf⟩, hq⟩ | ⟨v, ⟨rfl, dd, fs, rfl, hdd, hf⟩, hq⟩ | ⟨v, u, ⟨rfl, dd, fs, rfl, hdd, hf⟩, ⟨_, dd2, fs2, e2, hdd2, hf2⟩, hq⟩
  · refine ⟨true, T.ex.rr, fun _ a ha hlt => ?_, fun z => by cases z⟩
    intro oe pn hz hd
    exact b_cons (cs_ret (ce_tup (ca_cons (ce_str (ca_cons (ce_xf T.xR T.nR hz hd (ce_name (i := 1) rfl (.inl rfl) (slot1 hlt) ⟨rfl, rfl, dd, fs, v, rfl, hdd, hf, ca_nil ⟨(by show 2 ≤ 1000; decide), fun p hp => hq p _ hp (Evl.Ex.new hp) upd_same⟩⟩)))))))
  · refine ⟨false, T.ex.pr, (fun z => by cases z), fun _ => ⟨true, T.ex.pp, fun _ a ha hlt => ?_, fun z => by cases z⟩⟩
    intro oe pn hz hd
    exact b_cons (cs_ret (ce_tup (ca_cons (ce_str (ca_cons (ce_xf T.xP T.nP hz hd (ce_name (i := 1) rfl (.inl rfl) (slot1 hlt) ⟨rfl, rfl, dd, fs, v, rfl, hdd, hf, ca_nil ⟨(by show 2 ≤ 1000; decide), fun p hp => hq p _ hp (Evl.Ex.new hp) upd_same⟩⟩)))))))
  · refine ⟨false, T.ex.wr, (fun z => by cases z), fun _ => ⟨false, T.ex.wp, (fun z => by cases z), fun _ => ⟨true, T.ex.ww, fun _ a ha hlt => ?_, fun z => by cases z⟩⟩⟩
    intro oe pn hz hd
    exact b_cons (cs_ret (ce_tup (ca_cons (ce_str (ca_cons (ce_xf T.xW T.nW hz hd (ce_name (i := 1) rfl (.inl rfl) (slot1 hlt) ⟨rfl, rfl, dd, fs, v, rfl, hdd, hf, ca_nil ⟨(by show 2 ≤ 1000; decide), fun p hp => hq p _ hp (Evl.Ex.new hp) upd_same⟩⟩)))))))
  · cases e2
    rw [hdd] at hdd2
    cases hdd2
    refine ⟨false, T.ex.br, (fun z => by cases z), fun _ => ⟨false, T.ex.bp, (fun z => by cases z), fun _ => ⟨false, T.ex.bw, (fun z => by cases z), fun _ => ⟨true, T.ex.bb, fun _ a ha hlt => ?_, fun z => by cases z⟩⟩⟩⟩
    intro oe pn hz hd
    exact b_cons (cs_ret (ce_tup (ca_cons (ce_str (ca_cons (ce_xf T.xB T.nB hz hd (ce_name (i := 1) rfl (.inl rfl) (slot1 hlt) ⟨rfl, rfl, dd, fs, v, rfl, hdd, hf, ca_cons (ce_xf T.xB T.nS hz hd (ce_name (i := 1) rfl (.inl rfl) (slot1 hlt) ⟨rfl, rfl, dd, fs, u, rfl, hdd, hf2, ca_nil ⟨(by show 3 ≤ 1000; decide), fun p hp => hq p _ hp (Evl.Ex.new hp) upd_same⟩⟩))⟩)))))))
structure FunC (K : PySem.W.Frag) (mg : Str → Option Value) (x : Str) (st : Stmt) (f : Addr) (fd : FuncData) (cdv : Value) : Prop where
  ex : ∃ oc od kV doc pm an ct osl, fd = PySem.W.fnOf x x (defArgs st) (defBody st) (defScope st) .none kV doc pm an cdv ct ∧ K.lookup f = some ⟨oc, od, .func fd, osl⟩ ∧ PySem.W.codeIn K cdv x = true
  kp : PySem.W.keepIn K (.ref f) = true
  gl : mg x = some (.ref f)
theorem FunC.fn {K : PySem.W.Frag} {mg : Str → Option Value} {x : Str} {st : Stmt} {f : Addr} {fd : FuncData} {cdv : Value} (F : FunC K mg x st f fd cdv) : Fun K x x st f fd := by
  obtain ⟨oc, od, kV, doc, pm, an, ct, osl, h1, h2, h3⟩ := F.ex
  exact ⟨⟨oc, od, kV, doc, pm, an, cdv, ct, osl, h1, h2, h3⟩, F.kp⟩
section
variable {P : Program} {w : World} {K : PySem.W.Frag} {mg : Str → Option Value} {base : Heap}
theorem FunC.ok {x : Str} {st : Stmt} {f : Addr} {fd : FuncData} {cdv : Value} {N ps : List Str} {k : Nat} {sp : Sp} (F : FunC K mg x st f fd cdv) (S : FnScope N ps (defScope st)) (len : ∀ vs H Q E, sp vs H Q E → vs.length = ps.length)
    (body : ∀ (A : Around) (outer : List Env) (s : Shared) (H : Hp) (vs : List V) (Q : VK) (E : XK), Room k (A.deeper (PyProof.Rows.envOfC x (defScope st) s.heap.objs.size f cdv)) → sp vs H Q E →
      wB (cxOf CX0 P w K mg base N x (defScope st) f cdv A outer s H E).nox (defBody st) { nx := fun _ H' => Q .non H', rt := Q } (L2.start N vs) H) : FnOk P w K mg base CX0 (k + 1) f fd ps sp := by
  obtain ⟨oc, od, kV, doc, pm, an, ct, osl, rfl, lk, hcd⟩ := F.ex
  exact fn_of lk hcd S len fun A outer s H vs Q E hr hsp => ⟨_, PSs.nox wB.ps, body A outer s H vs Q E hr hsp⟩
def LamB (mg : Str → Option Value) (base : Heap) (T : List (Addr × Str)) (cdv : Value) (q : Str) : Prop := ∃ c Pt, cdv = .ref c ∧ LamX.TabB base mg c Pt ∧ (Pt, q) ∈ T ∧ ∀ p ∈ T, p.1 = Pt → p.2 = q
theorem ce_told {X : Cx} {σ : St} {H : Hp} {CR CP CW CB g : Addr} {fd : FuncData} {T : List (Addr × Str)} {k : Nat} {params : Arguments} {body : Expr} {scope : Scope} {p lpos pos : Pos} {Q : VK} (F : At X.K X.mg "_law_told" s_law_told g fd) (To : Told X.K X.mg CR CP CW CB) (lb : LamB X.mg X.base T X.env.code (X.env.qual ++ "<lambda>"))
    (hr : Room (k + 2) X.A) (hg : Gl X "_law_told") (L : LamX.LamS X.env.scope scope) (hdef : defaultsOf params X.env = ([], [])) (hbind : ∀ (q : Str) (cl : List (Str × Addr)) (pm cv ctv : Value), bindArgs (PySem.W.kla_fn "<lambda>" q params body scope cl pm cv ctv) ⟨[], []⟩ = pure [])
    (hT : LamX.Tabs T H) (h : ∀ H1, LamX.ExtN H H1 → LamX.Tabs T H1 → ∀ A outer s H0 f c', Room k (A.deeper (LamX.lamEnv X scope s.heap.objs.size f c')) → wE (LamX.lamCx X A outer s H0 (ToldX CR CP CW CB Q) scope f c') body σ H1 (ToldV Q)) :
    wE X (.Call (.Name "_law_told" p) [.Lambda params body scope lpos] [] pos) σ H Q := by
  obtain ⟨oc, od, kV, doc, pm, an, cdv, ct, osl, e, lk, hcd⟩ := F.fn.ex
  obtain ⟨c, Pt, hc, tb, hm, hu⟩ := lb
  have hb := F.fn.binds (ps := p_law_told) fun _ _ _ _ _ _ us hl => match us, hl with | [_], _ => rfl
  rw [e] at lk hb
  exact ⟨_, LamX.pe_lamcall (t := fun E σ H Q => ∀ (A : Around) (outer : List Env) (s : Shared) (H0 : Hp) (f c' : Addr), Room k (A.deeper (LamX.lamEnv X scope s.heap.objs.size f c')) → wE (LamX.lamCx X A outer s H0 E scope f c') body σ H Q) hg F.gl F.fn.kp lk hcd hb sc_law_told rfl (.inl rfl) (told_gives To) tb hc hm hu hr L hdef hbind
    (fun A outer s H0 E f c' hr' => ⟨fun pins sh σ H Q I h => wE.pe.run pins sh σ H Q I (h A outer s H0 f c' hr')⟩), hT, h⟩
/-- .. of a closure that stands in the name of slot j -/
theorem ce_toldV {X : Cx} {σ : St} {H : Hp} {CR CP CW CB g f : Addr} {fd : FuncData} {k j : Nat} {l : Lm} {cn : Str} {p p2 pos : Pos} {Q : VK} (F : At X.K X.mg "_law_told" s_law_told g fd) (To : Told X.K X.mg CR CP CW CB)
    (hr : Room (k + 2) X.A) (hg : Gl X "_law_told") (hN : X.N[j]? = some cn) (hv : Vis X.env.scope cn) (hσ : σ[j]? = some (some (.ref f))) (cl : CloAt X X.pn H l f) (okl : LmOk X l)
    (h : ∀ A outer s H0 f c', Room k (A.deeper (LamX.lamEnv X l.sc s.heap.objs.size f c')) → wE (LamX.lamCx X A outer s H0 (ToldX CR CP CW CB Q) l.sc f c') l.bd σ H (ToldV Q))
    (hd : (cn == ("__debug__" : Str)) = false := by decide) (hcd2 : (cn == ("__classdict__" : Str)) = false := by decide) :
    wE X (.Call (.Name "_law_told" p) [.Name cn p2] [] pos) σ H Q := by
  obtain ⟨oc, od, kV, doc, pm, an, cdv, ct, osl, e, lk, hcd⟩ := F.fn.ex
  have hb := F.fn.binds (ps := p_law_told) fun _ _ _ _ _ _ us hl => match us, hl with | [_], _ => rfl
  rw [e] at lk hb
  refine ⟨fun σ H Q => ∃ f, σ[j]? = some (some (.ref f)) ∧ CloAt X X.pn H l f ∧ ∀ A outer s H0 f c', Room k (A.deeper (LamX.lamEnv X l.sc s.heap.objs.size f c')) → wE (LamX.lamCx X A outer s H0 (ToldX CR CP CW CB Q) l.sc f c') l.bd σ H (ToldV Q), ⟨fun pins s σ H Q J hq => ?_⟩, f, hσ, cl, h⟩
  obtain ⟨f, hσ, ⟨pm', c', ctv, hpn, hco⟩, hq⟩ := hq
  refine wpAny_Call_Name_kw (ld_glob J hg F.gl (PySem.W.callWith_K (h₀ := X.base) J.ok.mod.kin F.fn.kp ?_ (by rfl) (by rfl)) (by decide))
  show wpAny _ _ (spliced ((false, eval (.Name cn p2) X.env) :: backTo pos (starEach [] X.env))) _ _ s
  refine Calls.spliced_cons (thn ((pe_var (pos := p2) hN hv hd hcd2).run pins s σ H (fun v H1 => v = .ref f ∧ H1 = H) J ⟨.ref f, hσ, rfl, rfl⟩) fun u s1 ⟨v, H1, J1, r1, e1, e2⟩ => ?_)
  subst e1
  subst e2
  obtain rfl : u = Value.ref f := r1
  obtain ⟨hf, hfn, _, hfs, _⟩ := J1.pin _ (List.mem_append_left _ hpn)
  have hfr : f ∉ frs X.stack := fun z => (List.mem_cons.mp (J1.stkSub _ z)).elim (J1.pin _ (List.mem_append_left _ hpn)).2.2.1 hfs
  have rc : codeAny (model X.prog X.w) X.A (.call (.ref g) ⟨[.ref f], []⟩) (L2.CR C8.CX0 X.stack X.prog X.w H1 s1 Q C8.E0) s1 := by
    refine LamX.run_ofS (N := n_law_told) (ps := p_law_told) (us := [.ref f]) (vs := [.ref f]) lk hcd sc_law_told hr J1.env0 (hb s1 [.ref f] J1.kIn rfl) (.cons rfl .nil) rfl fun hr' => ?_
    obtain ⟨t', ht', hq'⟩ := told_gives (X := X) (q := X.env.qual ++ "<lambda>") To f c' s1 H1 Q (fun E H' Q' => ∀ (A : Around) (outer : List Env) (s : Shared) (H0 : Hp) (f c' : Addr), Room k (A.deeper (LamX.lamEnv X l.sc s.heap.objs.size f c')) → wE (LamX.lamCx X A outer s H0 E l.sc f c') l.bd σ H' Q')
      (fun W pn xe E q1 q2 tk hW => LamX.pe_act (i := 0) (tb := fun σ H' Q' => ∀ (A : Around) (outer : List Env) (s : Shared) (H0 : Hp) (f c' : Addr), Room k (A.deeper (LamX.lamEnv X l.sc s.heap.objs.size f c')) → wE (LamX.lamCx X A outer s H0 E l.sc f c') l.bd σ H' Q') J1 okl.sc hf hfn hfr (okl.bi _ _ _ _ _) tk hW hr' (fun A outer s H0 hr2 => ⟨fun pins sh σ H Q I h => wE.pe.run pins sh σ H Q I (h A outer s H0 f c' hr2)⟩) rfl (.inl rfl)) hco hq
    exact ⟨t', ht'.nox, hq'⟩
  refine Calls.spliced_nil ⟨J1.kIn, wpAny_call (codeAny_mono rc fun r s2 hr2 => ?_)⟩
  cases r with
  | error e => exact (show False from hr2).elim
  | ok fl =>
    cases fl with
    | ret u => exact J1.after hr2
    | next => exact False.elim hr2
    | brk => exact False.elim hr2
    | cont => exact False.elim hr2
end
end DK

namespace DK
open PySem PySem.Spec PyProof.Rows L2 GV
theorem tam_any {ns : List Int} {p : Nat} {x y : Int} (hx : ns[p]? = some x) (hy : ns[p + 1]? = some y) : tamB ns p = (decide (x ≠ y) && ((ns.take p).any (fun k => decide (k ≤ min x y)) || (ns.drop (p + 2)).any (fun k => decide (max x y ≤ k)))) := by
  have hp := (List.getElem?_eq_some_iff.mp hy).1
  rw [tamB_eq, getD_of hx, getD_of hy]
  congr 1
  · rw [Bool.eq_iff_iff]
    simp
  · rw [Bool.eq_iff_iff, Bool.or_eq_true, List.any_eq_true, List.any_eq_true, List.any_eq_true]
    unfold tCond
    rw [getD_of hx, getD_of hy]
    constructor
    · rintro ⟨k, hk, h⟩
      have hk := List.mem_range.mp hk
      obtain ⟨z, hz⟩ := get_i hk
      rw [getD_of hz, Bool.or_eq_true, Bool.and_eq_true, Bool.and_eq_true, decide_eq_true_eq, decide_eq_true_eq, decide_eq_true_eq, decide_eq_true_eq] at h
      rcases h with ⟨h1, h2⟩ | ⟨h1, h2⟩
      · exact .inl ⟨z, List.mem_of_getElem? (i := k) (by rw [List.getElem?_take, if_pos h1]; exact hz), decide_eq_true h2⟩
      · exact .inr ⟨z, List.mem_of_getElem? (i := k - (p + 2)) (by rw [List.getElem?_drop, show p + 2 + (k - (p + 2)) = k by omega]; exact hz), decide_eq_true h2⟩
    · rintro (⟨z, hz, h⟩ | ⟨z, hz, h⟩)
      · obtain ⟨k, hk⟩ := List.mem_iff_getElem?.mp hz
        have hk2 := (List.getElem?_eq_some_iff.mp hk).1
        rw [List.length_take] at hk2
        rw [List.getElem?_take, if_pos (by omega)] at hk
        refine ⟨k, List.mem_range.mpr (by omega), ?_⟩
        rw [getD_of hk, h, decide_eq_true (by omega : k < p)]
        rfl
      · obtain ⟨k, hk⟩ := List.mem_iff_getElem?.mp hz
        rw [List.getElem?_drop] at hk
        have hk2 := (List.getElem?_eq_some_iff.mp hk).1
        refine ⟨p + 2 + k, List.mem_range.mpr hk2, ?_⟩
        rw [getD_of hk, h, decide_eq_true (by omega : p + 1 < p + 2 + k), Bool.or_comm]
        rfl
theorem cut_pair {ns : List Int} {p : Nat} {x y : Int} (hx : ns[p]? = some x) (hy : ns[p + 1]? = some y) : cutD (ns.map PyData.int) (some (p : Int)) (some ((p : Int) + 2)) = [.int x, .int y] := by
  have hp := (List.getElem?_eq_some_iff.mp hy).1
  obtain ⟨hx', ex⟩ := List.getElem?_eq_some_iff.mp hx
  obtain ⟨_, ey⟩ := List.getElem?_eq_some_iff.mp hy
  unfold GV.cutD
  rw [show (p : Int) + 2 = ((p + 2 : Nat) : Int) by omega, HT.sIx_nat, HT.sIx_nat, List.length_map, Nat.min_eq_left (by omega : p ≤ ns.length), Nat.min_eq_left (by omega : p + 2 ≤ ns.length), show p + 2 - p = 2 by omega, ← List.map_drop, ← List.map_take, List.drop_eq_getElem_cons hx', List.drop_eq_getElem_cons hp]
  simp [ex, ey]
theorem cut_takeI (ns : List Int) (i : Nat) : cutD (ns.map PyData.int) none (some (i : Int)) = (ns.take i).map PyData.int := by rw [cutD_take, List.map_take]
theorem cut_drop2 (ns : List Int) (i : Nat) : cutD (ns.map PyData.int) (some ((i : Int) + 2)) none = (ns.drop (i + 2)).map PyData.int := by
  rw [show (i : Int) + 2 = ((i + 2 : Nat) : Int) by omega, cutD_dropI]
def leD (m : Int) : PyData → PyData
  | .int z => .bool (decide (z ≤ m))
  | d => d
def geD (m : Int) : PyData → PyData
  | .int z => .bool (decide (m ≤ z))
  | d => d
section
variable {P : Program} {w : World} {K : PySem.W.Frag} {mg : Str → Option Value} {base : Heap}
def R_tames (ds : List PyData) (d : PyData) : Prop := ∃ (tp : Bool) (ns : List Int) (p : Nat), p + 1 < ns.length ∧ ns.length ≤ 900 ∧ ds = [sqD tp (ns.map PyData.int), .int (p : Nat)] ∧ d = .bool (tamB ns p)
theorem cl_tames {f : Addr} {fd : FuncData} (F : At K mg "_tames" s_tames f fd) (nb : NoB mg) : Cl P w K mg base CX0 1 "_tames" (PureR K R_tames) := by
  refine cl_pure F sc_tames (F.fn.binds fun _ _ _ _ _ _ us hl => match us, hl with | [_, _], _ => rfl) (fun ds d h => ?_) (fun X cdv A outer s H Q E M vs ds d hX hr al r h q => ?_)
  · obtain ⟨_, _, _, _, _, rfl, _⟩ := h
    rfl
  · obtain ⟨tp, ns, p, hp, hl, rfl, rfl⟩ := h
    obtain ⟨u, v, rfl, r1, r2⟩ := rpa2 r
    subst hX
    obtain ⟨x, hx⟩ := get_i (ns := ns) (i := p) (by omega)
    obtain ⟨y, hy⟩ := get_i (ns := ns) (i := p + 1) hp
    have e0 := tam_any hx hy
    refine b_cons (s_unp2 (i := 2) (j := 3) al rfl (fd_sort2 rfl nb.sorted (PD.is (pd_sliceS (nm 0 r1) (od_some (nm 1 r2)) (od_some (pd_add (nm 1 r2) pd_int))) (congrArg (sqD tp) (cut_pair hx hy)))) (pg_name (i := 2) sc_tames.nd rfl (by first | exact .inl rfl | exact .inr rfl)) (pg_name (i := 3) sc_tames.nd rfl (by first | exact .inl rfl | exact .inr rfl)) fun v2 v3 H2 x2 q2 q3 => ?_)
    cases q2
    cases q3
    have al2 := al.mono x2
    have r1a := r1.mono (fun _ z => z) (ExM.of x2)
    have r2a := r2.mono (fun _ z => z) (ExM.of x2)
    refine b_cons (s_if (k := decide (x = y)) al2 (TD.is (td_eq hr.units (nm 2 (.int (min x y))) (nm 3 (.int (max x y))) rfl rfl) ?_) (fun hk H3 x3 => ?_) (fun hk H3 x3 => ?_))
    · rw [Bool.eq_iff_iff, decide_eq_true_eq]
      simp [PyData.eqv]
      omega
    · have := of_decide_eq_true hk
      exact b_cons (s_ret (al2.mono x3) (PD.is pd_bl (by rw [e0, this]; simp)) fun v H4 x4 rv => q v H4 ((x2.trans x3).trans x4) rv)
    · have hxy : x ≠ y := of_decide_eq_false hk
      rw [decide_eq_true hxy, Bool.true_and] at e0
      have al3 := al2.mono x3
      have r1b := r1a.mono (fun _ z => z) (ExM.of x3)
      have r2b := r2a.mono (fun _ z => z) (ExM.of x3)
      refine b_nil (b_cons (s_if (k := (ns.take p).any fun k => decide (k ≤ min x y)) al3 (td_val (PD.is (pd_callB (cr_any rfl) rfl nb.any PyProof.Rows.boot_any (ad_cons (PD.is (d' := .list (((ns.take p).map fun k => decide (k ≤ min x y)).map PyData.bool)) (FD.pd
        (fd_map (t := .one 4) (own := [("weight", 4)]) (leD (min x y)) rfl sc_tames.nd (src_S (ds := (ns.take p).map PyData.int) (tp := tp) (PD.is (pd_sliceS (nm 0 r1b) od_none (od_some (nm 1 r2b))) (congrArg (sqD tp) (cut_takeI ns p)))) (blkOk_by (N := n_tames) (sc := defScope s_tames) (by decide +kernel)) (fun _ _ _ _ _ => pg_name (i := 4) sc_tames.nd rfl (.inl rfl)) (fun _ _ => trivial) ?_ ?_ ?_)) ?_) ad_nil) rn_any) ?_)) (fun hk2 H4 x4 => ?_) (fun hk2 H4 x4 => ?_)))
      · rintro M H d σ' ⟨v, _, rfl⟩
        rfl
      · rw [List.length_map, List.length_take]
        omega
      · rintro s0 H0 C cl fp M' H' d σ' hM lift hd ⟨v, rv, rfl⟩
        obtain ⟨z, _, rfl⟩ := List.mem_map.mp hd
        exact pd_le (nm 4 rv) (nm 2 (.int (min x y)))
      · congr 1
        rw [List.map_map, List.map_map]
        rfl
      · rw [List.any_map]
        rfl
      · exact b_cons (s_ret (al3.mono x4) (PD.is pd_bl (by rw [e0, hk2]; rfl)) fun v H5 x5 rv => q v H5 (((x2.trans x3).trans x4).trans x5) rv)
      · have al4 := al3.mono x4
        have r1c := r1b.mono (fun _ z => z) (ExM.of x4)
        have r2c := r2b.mono (fun _ z => z) (ExM.of x4)
        refine b_nil (b_cons (s_ret al4 (PD.is (pd_callB (cr_any rfl) rfl nb.any PyProof.Rows.boot_any (ad_cons (PD.is (d' := .list (((ns.drop (p + 2)).map fun k => decide (max x y ≤ k)).map PyData.bool)) (FD.pd
          (fd_map (t := .one 4) (own := [("weight", 4)]) (geD (max x y)) rfl sc_tames.nd (src_S (ds := (ns.drop (p + 2)).map PyData.int) (tp := tp) (PD.is (pd_sliceS (nm 0 r1c) (od_some (pd_add (nm 1 r2c) pd_int)) od_none) (congrArg (sqD tp) (cut_drop2 ns p)))) (blkOk_by (N := n_tames) (sc := defScope s_tames) (by decide +kernel)) (fun _ _ _ _ _ => pg_name (i := 4) sc_tames.nd rfl (.inl rfl)) (fun _ _ => trivial) ?_ ?_ ?_)) ?_) ad_nil) rn_any) ?_) fun v H5 x5 rv => q v H5 (((x2.trans x3).trans x4).trans x5) rv))
        · rintro M H d σ' ⟨v, _, rfl⟩
          rfl
        · rw [List.length_map, List.length_drop]
          omega
        · rintro s0 H0 C cl fp M' H' d σ' hM lift hd ⟨v, rv, rfl⟩
          obtain ⟨z, _, rfl⟩ := List.mem_map.mp hd
          exact pd_ge (nm 4 rv) (nm 3 (.int (max x y)))
        · congr 1
          rw [List.map_map, List.map_map]
          rfl
        · rw [e0, hk2, List.any_map]
          rfl
/-! ### the row after a change -/
def R_swap (ds : List PyData) (d : PyData) : Prop := ∃ (ns : List Int) (p : Nat), p + 1 < ns.length ∧ ns.length ≤ 900 ∧ ds = [tintsD ns, .int (p : Nat)] ∧ d = tintsD (exch ns p)
theorem cl_swapped {f : Addr} {fd : FuncData} (F : At K mg "swapped" s_swapped f fd) : Cl P w K mg base CX0 1 "swapped" (PureR K R_swap) := by
  refine cl_pure F sc_swapped (F.fn.binds fun _ _ _ _ _ _ us hl => match us, hl with | [_, _], _ => rfl) (fun ds d h => ?_) (fun X cdv A outer s H Q E M vs ds d hX hr al r h q => ?_)
  · obtain ⟨_, _, _, _, rfl, _⟩ := h
    rfl
  · obtain ⟨ns, p, hp, hl, rfl, rfl⟩ := h
    obtain ⟨u, v, rfl, r1, r2⟩ := rpa2 r
    subst hX
    obtain ⟨x, y, A', B', hx, hy, rfl, rfl, en, ee⟩ := exch_eq hp
    have i1 : ((p : Nat) : Int) + 1 = ((p + 1 : Nat) : Int) := by omega
    refine b_cons (s_ret al (PD.is (pd_catT (es := ((ns.take p).map PyData.int) ++ [.int y, .int x]) (fs := (ns.drop (p + 2)).map PyData.int) (pd_catT (es := (ns.take p).map PyData.int) (fs := [.int y, .int x]) (PD.is (pd_sliceT (nm 0 r1) od_none (od_some (nm 1 r2))) (congrArg PyData.tuple (cut_takeI ns p)))
      (pd_tup (ad_cons (pd_ix (nm 0 r1) (PD.is (pd_add (nm 1 r2) pd_int) (congrArg PyData.int i1)) (ix_sqI (tp := true) hy)) (ad_cons (pd_ix (nm 0 r1) (nm 1 r2) (ix_sqI (tp := true) hx)) ad_nil)) (by show 2 ≤ 100000; decide)) ?_) (PD.is (pd_sliceT (nm 0 r1) (od_some (pd_add (nm 1 r2) pd_int)) od_none) (congrArg PyData.tuple (cut_drop2 ns p))) ?_) ?_) q)
    · rw [List.length_map, List.length_take]
      show min p ns.length + 2 ≤ 100000
      omega
    · rw [List.length_append, List.length_map, List.length_map, List.length_take, List.length_drop]
      show min p ns.length + 2 + _ ≤ 100000
      omega
    · show PyData.tuple _ = PyData.tuple _
      rw [ee, List.map_append]
      simp
end
end DK

namespace DK
open PySem PySem.Spec PyProof.Rows L2 GV
section
variable {P : Program} {w : World} {K : PySem.W.Frag} {mg : Str → Option Value} {base : Heap}
theorem ok_initP {f C : Addr} {fd : FuncData} (F : Fun K "__init__" "InvalidPlace.__init__" s_InvalidPlace_init f fd) (o : OexC K C) (n : PySem.W.findIn K (.ref C) "place" = some none) : FnOk P w K mg base CX0 1 f fd ["self", "place"] (spInit C ["place"]) := by
  refine F.ok sc_InvalidPlace_init (fun vs H Q E h => ?_) (fun cdv A outer s H vs Q E hr h => ⟨_, wB.ps, ?_⟩)
  · obtain ⟨a, xs, rfl, hl, _⟩ := h
    exact congrArg (· + 1) hl
  · obtain ⟨a, xs, rfl, hl, ha, q⟩ := h
    match xs, hl with
    | [v], _ =>
      refine b_cons (cs_ost (ce_name (i := 1) rfl (.inl rfl) rfl (ce_name (i := 0) rfl (.inl rfl) rfl ⟨a, C, rfl, o, n, .inl ⟨ha, fun dx hdx ne => b_nil (q _ dx (fun b o hb nb => ?_) hdx ne upd_same ?_)⟩⟩)))
      · rw [upd_ne nb, upd_ne (ne_of_none hb hdx)]
        exact hb
      · rw [upd_ne ne, upd_same]
        rfl
theorem ok_initW {f C : Addr} {fd : FuncData} (F : Fun K "__init__" "InvalidWalk.__init__" s_InvalidWalk_init f fd) (o : OexC K C) (n : PySem.W.findIn K (.ref C) "walk" = some none) : FnOk P w K mg base CX0 1 f fd ["self", "walk"] (spInit C ["walk"]) := by
  refine F.ok sc_InvalidWalk_init (fun vs H Q E h => ?_) (fun cdv A outer s H vs Q E hr h => ⟨_, wB.ps, ?_⟩)
  · obtain ⟨a, xs, rfl, hl, _⟩ := h
    exact congrArg (· + 1) hl
  · obtain ⟨a, xs, rfl, hl, ha, q⟩ := h
    match xs, hl with
    | [v], _ =>
      refine b_cons (cs_ost (ce_name (i := 1) rfl (.inl rfl) rfl (ce_name (i := 0) rfl (.inl rfl) rfl ⟨a, C, rfl, o, n, .inl ⟨ha, fun dx hdx ne => b_nil (q _ dx (fun b o hb nb => ?_) hdx ne upd_same ?_)⟩⟩)))
      · rw [upd_ne nb, upd_ne (ne_of_none hb hdx)]
        exact hb
      · rw [upd_ne ne, upd_same]
        rfl
theorem ok_initB {f C : Addr} {fd : FuncData} (F : Fun K "__init__" "Barred.__init__" s_Barred_init f fd) (o : OexC K C) (n : PySem.W.findIn K (.ref C) "place" = some none) (n2 : PySem.W.findIn K (.ref C) "step" = some none) : FnOk P w K mg base CX0 1 f fd ["self", "place", "step"] (spInit C ["place", "step"]) := by
  refine F.ok sc_Barred_init (fun vs H Q E h => ?_) (fun cdv A outer s H vs Q E hr h => ⟨_, wB.ps, ?_⟩)
  · obtain ⟨a, xs, rfl, hl, _⟩ := h
    exact congrArg (· + 1) hl
  · obtain ⟨a, xs, rfl, hl, ha, q⟩ := h
    match xs, hl with
    | [v, u], _ =>
      refine b_cons (cs_ost (ce_name (i := 1) rfl (.inl rfl) rfl (ce_name (i := 0) rfl (.inl rfl) rfl ⟨a, C, rfl, o, n, .inl ⟨ha, fun dx hdx ne => ?_⟩⟩)))
      refine b_cons (cs_ost (ce_name (i := 2) rfl (.inl rfl) rfl (ce_name (i := 0) rfl (.inl rfl) rfl ⟨a, C, rfl, o, n2, .inr ⟨dx, [("place", v)], upd_same, ?_, (by show 1 ≤ 900; decide), b_nil (q _ dx (fun b o hb nb => ?_) hdx ne ?_ upd_same)⟩⟩)))
      · rw [upd_ne ne, upd_same]
      · rw [upd_ne (ne_of_none hb hdx), upd_ne nb, upd_ne (ne_of_none hb hdx)]
        exact hb
      · rw [upd_ne (Ne.symm ne), upd_same]
/-! ### places -/
def plB (n : Nat) (d : PyData) : Bool := isNumD d 0 ((n : Int) - 2)
def R_place (ds : List PyData) (d : PyData) : Prop := ∃ (tp : Bool) (ns : List Int) (a : PyData), ds = [sqD tp (ns.map PyData.int), a] ∧ d = .bool (plB ns.length a)
theorem cl_is_place {f : Addr} {fd : FuncData} (F : At K mg "is_place" s_is_place f fd) (nb : NoB mg) (c1 : Cl P w K mg base CX0 2 "is_number" (PureR K R_is_number)) : Cl P w K mg base CX0 3 "is_place" (PureR K R_place) := by
  refine cl_pure F sc_is_place (F.fn.binds fun _ _ _ _ _ _ us hl => match us, hl with | [_, _], _ => rfl) (fun ds d h => ?_) (fun X cdv A outer s H Q E M vs ds d hX hr al r h q => ?_)
  · obtain ⟨_, _, _, rfl, _⟩ := h
    rfl
  · obtain ⟨tp, ns, a, rfl, rfl⟩ := h
    obtain ⟨u, v, rfl, r1, r2⟩ := rpa2 r
    subst hX
    exact b_cons (s_ret al (pd_callC c1 hr (by decide) rfl (ad_cons (nm 1 r2) (ad_cons pd_int (ad_cons (pd_sub (pd_len nb rfl (nm 0 r1) (n := ns.length) (by rw [len_sq, List.length_map])) pd_int) ad_nil))) ⟨a, 0, _, rfl, rfl⟩) q)
def spChP (K : PySem.W.Frag) (CP : Addr) : Sp := fun vs H Q E => ∃ (M : Addr → Prop) (u v : V) (tp : Bool) (ns : List Int) (d : PyData), vs = [u, v] ∧ Alive M H ∧ Rp K M H u (sqD tp (ns.map PyData.int)) ∧ Rp K M H v d ∧
  (plB ns.length d = true → ∀ H', Evl.Ex H H' → Q .non H') ∧ (plB ns.length d = false → ∀ H1, Evl.Ex H H1 → Raised CP [("place", v)] H1 E)
theorem cl_check_place {f CP : Addr} {fd : FuncData} (F : At K mg "check_place" s_check_place f fd) (c1 : Cl P w K mg base CX0 3 "is_place" (PureR K R_place)) (er : ErrC P w K mg base "InvalidPlace" CP ["place"]) : Cl P w K mg base (L2.CX P w) 4 "check_place" (spChP K CP) := by
  refine ⟨f, fd, _, F.fn.okX sc_check_place (fun vs H Q E h => ?_) (fun cdv A outer s H vs Q E hr h => ⟨_, wB.ps, ?_⟩), F.gl, F.fn.kp, F.fn.binds fun _ _ _ _ _ _ us hl => match us, hl with | [_, _], _ => rfl⟩
  · obtain ⟨M, u, v, tp, ns, d, rfl, _⟩ := h
    rfl
  · obtain ⟨M, u, v, tp, ns, d, rfl, al, r1, r2, h1, h2⟩ := h
    refine b_cons (s_if (k := !plB ns.length d) al (td_not (td_val (pd_callC c1 hr (by decide) rfl (ad_cons (nm 0 r1) (ad_cons (nm 1 r2) ad_nil)) ⟨tp, ns, d, rfl, rfl⟩))) (fun k H2 x2 => ?_) (fun k H2 x2 => ?_))
    · exact b_cons (s_raise rfl er (hr.mono (by decide)) (takes_of rfl rfl rfl rfl) rfl (ca_cons (ce_nm 1 (ca_nil ⟨rfl, (by show 1 ≤ 1000; decide), h2 (by simpa using k) _ x2⟩))))
    · exact b_nil (b_nil (h1 (by simpa using k) _ x2))
/-! ### walks -/
def wkB (n : Nat) (d : PyData) : Bool := isSeqD d && decide ((partsD d).length ≤ 20000) && (partsD d).all (plB n)
/-- an argument of which is_walk would say b -/
def WArg (K : PySem.W.Frag) (M : Addr → Prop) (H : Hp) (n : Nat) (v : V) (b : Bool) : Prop := (∃ d, Rp K M H v d ∧ (partsD d).length ≤ 90000 ∧ wkB n d = b) ∨ (b = false ∧ ∃ a kvs, v = .ref a ∧ ¬ M a ∧ H a = some (.dK kvs))
theorem WArg.mono {M M' : Addr → Prop} {H H' : Hp} {n : Nat} {v : V} {b : Bool} (h : WArg K M H n v b) (hm : ∀ a, M' a → M a) (e : ExM M H H') : WArg K M' H' n v b :=
  h.imp (fun ⟨d, r, q⟩ => ⟨d, r.mono hm e, q⟩) fun ⟨hb, a, kvs, h1, h2, h3⟩ => ⟨hb, a, kvs, h1, fun z => h2 (hm _ z), e _ _ h3 h2 fun _ z => by cases z⟩
def spChW (K : PySem.W.Frag) (CW : Addr) : Sp := fun vs H Q E => ∃ (M : Addr → Prop) (u v : V) (tp : Bool) (ns : List Int) (b : Bool), vs = [u, v] ∧ Alive M H ∧ Rp K M H u (sqD tp (ns.map PyData.int)) ∧ WArg K M H ns.length v b ∧
  (b = true → ∀ H', Evl.Ex H H' → Q .non H') ∧ (b = false → ∀ H1, Evl.Ex H H1 → Raised CW [("walk", v)] H1 E)
theorem cl_check_walk {f CW : Addr} {fd : FuncData} {t : Tok} (F : At K mg "check_walk" s_check_walk f fd) (nb : NoB mg) (c1 : Cl P w K mg base CX0 3 "is_place" (PureR K R_place)) (er : ErrC P w K mg base "InvalidWalk" CW ["walk"]) (gL : mg "MOST_WALK" = some (.int 20000 t)) : Cl P w K mg base (L2.CX P w) 4 "check_walk" (spChW K CW) := by
  refine ⟨f, fd, _, F.fn.okX sc_check_walk (fun vs H Q E h => ?_) (fun cdv A outer s H vs Q E hr h => ⟨_, wB.ps, ?_⟩), F.gl, F.fn.kp, F.fn.binds fun _ _ _ _ _ _ us hl => match us, hl with | [_, _], _ => rfl⟩
  · obtain ⟨M, u, v, tp, ns, b, rfl, _⟩ := h
    rfl
  · obtain ⟨M, u, v, tp, ns, b, rfl, al, r1, wa, h1, h2⟩ := h
    have bad : b = false → ∀ H2, Evl.Ex H H2 → ∀ D : Ends, ∀ p1 p2 p3 p4, wS (cxOf (L2.CX P w) P w K mg base n_check_walk "check_walk" (defScope s_check_walk) f cdv A outer s H E) (.Raise (some (.Call (.Name "InvalidWalk" p1) [.Name "walk" p2] [] p3)) none p4) D [some u, some v, none] H2 := fun hb H2 x2 D p1 p2 p3 p4 =>
      s_raise rfl er (hr.mono (by decide)) (takes_of rfl rfl rfl rfl) rfl (ca_cons (ce_nm 1 (ca_nil ⟨rfl, (by show 1 ≤ 1000; decide), h2 hb _ x2⟩)))
    rcases wa with ⟨d, r2, hlen, hb⟩ | ⟨hb, a, kvs, rfl, na, hA⟩
    · refine b_cons (s_if (k := !(isListD d || isTupD d) || decide ((20000 : Int) < ((partsD d).length : Nat))) al (WD.td (wd_or (td_not (td_val (pd_isi2 rfl nb.isinstance rfl nb.list PyProof.Rows.boot_list rfl nb.tuple PyProof.Rows.boot_tuple (nm 1 r2) (kit_l d) (kit_t d)))) fun hq => wd_or1 (td_gt (pd_len nb rfl (nm 1 r2) (n := (partsD d).length) ?_) (pd_globI rfl gL)))) (fun k H2 x2 => ?_) (fun k H2 x2 => ?_))
      · cases d <;> first | rfl | (cases hq; done)
      · refine b_cons (bad ?_ H2 x2 _ _ _ _ _)
        rw [← hb]
        unfold wkB
        cases d <;> first | rfl | skip
        all_goals
          simp only [isListD, isTupD, Bool.or_true, Bool.true_or, Bool.not_true, Bool.false_or, decide_eq_true_eq] at k
          rw [decide_eq_false (by omega), Bool.and_false, Bool.false_and]
      · have hs : isSeqD d = true ∧ (partsD d).length ≤ 20000 := by
          cases d <;> simp [isListD, isTupD] at k <;> exact ⟨rfl, by omega⟩
        have al2 := al.mono x2
        have r1a := r1.mono (fun _ z => z) (ExM.of x2)
        have r2a := r2.mono (fun _ z => z) (ExM.of x2)
        have src : Src (cxOf (L2.CX P w) P w K mg base n_check_walk "check_walk" (defScope s_check_walk) f cdv A outer s H E) M (.Name "place" ⟨0, 0, 0, 0⟩) (.Name "walk" ⟨0, 0, 0, 0⟩) [some u, some v, none] H2 (partsD d) → True := fun _ => True.intro
        have e : b = (partsD d).all (plB ns.length) := by
          rw [← hb]
          unfold wkB
          rw [hs.1, decide_eq_true hs.2, Bool.true_and, Bool.true_and]
        refine b_nil (b_cons (s_if (k := !(partsD d).all (plB ns.length)) al2 (td_not (td_val (PD.is (pd_callB (cr_all rfl) rfl nb.all PyProof.Rows.boot_all (ad_cons (PD.is (d' := .list (((partsD d).map (plB ns.length)).map PyData.bool)) (FD.pd
          (fd_map (t := .one 2) (own := [("place", 2)]) (ds := partsD d) (fun d => .bool (plB ns.length d)) rfl sc_check_walk.nd ?_ (blkOk_by (N := n_check_walk) (sc := defScope s_check_walk) (by decide +kernel)) (fun _ _ _ _ _ => pg_name (i := 2) sc_check_walk.nd rfl (.inl rfl)) (fun _ _ => trivial) ?_ ?_ ?_)) ?_) ad_nil) rn_all) ?_))) (fun k H3 x3 => ?_) (fun k H3 x3 => ?_)))
        · cases d with
          | list ds => exact src_list (nm 1 r2a)
          | tuple ds => exact src_tup (nm 1 r2a)
          | _ => cases hs.1
        · rintro M H d σ' ⟨v, _, rfl⟩
          rfl
        · omega
        · rintro s0 H0 C cl fp M' H' d σ' hM lift hd ⟨v, rv, rfl⟩
          exact pd_callC c1 hr (by decide) rfl (ad_cons (nm 0 (lift _ _ r1a)) (ad_cons (nm 2 rv) ad_nil)) ⟨tp, ns, d, rfl, rfl⟩
        · rw [List.map_map]
          rfl
        · rw [List.all_map]
          rfl
        · exact b_cons (bad (by rw [e]; simpa using k) H3 (x2.trans x3) _ _ _ _ _)
        · exact b_nil (b_nil (h1 (by rw [e]; simpa using k) H3 (x2.trans x3)))
    · refine b_cons (s_if (M := M) (k := true) al (WD.td (wd_or (k1 := true) (k2 := true) (td_not (k := false) (td_val (PD.is (pd_isi2D rfl nb.isinstance rfl nb.list PyProof.Rows.boot_list rfl nb.tuple PyProof.Rows.boot_tuple (fun H1 Q hq => ce_nm 1 hq) hA na (by decide +kernel : kitB "dict" "list" = some false) (by decide +kernel : kitB "dict" "tuple" = some false)) rfl))) fun z => by cases z)) (fun _ H2 x2 => ?_) (fun z => by cases z))
      exact b_cons (bad hb H2 x2 _ _ _ _ _)
end
end DK

namespace DK
open PySem PySem.Spec PyProof.Rows L2 GV
/-- where a walk leads, or the first barred place and its step -/
def goW : List Int → List Nat → Nat → List Int ⊕ (Nat × Nat)
  | ns, [], _ => .inl ns
  | ns, p :: ps, k => if tamB ns p = true then goW (exch ns p) ps (k + 1) else .inr (p, k)
def natI (ps : List Nat) : List Int := ps.map fun p : Nat => ((p : Nat) : Int)
theorem natI_len (ps : List Nat) : (natI ps).length = ps.length := by
  unfold natI
  rw [List.length_map]
theorem tameL_len (ns : List Int) : (tameL ns).length ≤ ns.length := by
  unfold tameL
  refine Nat.le_trans (List.length_filter_le _ _) ?_
  rw [List.length_range]
  omega
theorem tameL_lt {ns : List Int} {p : Nat} (h : p ∈ tameL ns) : p + 1 < ns.length := by
  have := List.mem_range.mp (List.mem_filter.mp h).1
  omega
theorem tameL_tam {ns : List Int} {p : Nat} (h : p ∈ tameL ns) : tamB ns p = true := (List.mem_filter.mp h).2
theorem plB_nat {n p : Nat} (h : p + 1 < n) : plB n (.int (p : Nat)) = true := by
  show (decide ((0 : Int) ≤ (p : Nat)) && decide (((p : Nat) : Int) ≤ (n : Int) - 2)) = true
  rw [decide_eq_true (by omega), decide_eq_true (by omega)]
  rfl
section
variable {P : Program} {w : World} {K : PySem.W.Frag} {mg : Str → Option Value} {base : Heap}
abbrev ChkC (P : Program) (w : World) (K : PySem.W.Frag) (mg : Str → Option Value) (base : Heap) (CR : Addr) : Prop := Cl P w K mg base (L2.CX P w) 5 "check_bag_row" (spChk K CR fun _ _ H Q => ∀ H', Evl.Ex H H' → Q .non H')
/-- of a bag row and a place: then_; of another row, of another place: the error -/
def spRP (K : PySem.W.Frag) (CR CP : Addr) (then_ : (Addr → Prop) → V → List Int → Nat → Hp → VK → XK → Prop) : Sp := fun vs H Q E => ∃ (M : Addr → Prop) (v pv : V), vs = [v, pv] ∧ Alive M H ∧
  ((Arg K M H v false ∧ ∀ H1, Evl.Ex H H1 → Raised CR [("row", v)] H1 E) ∨ ∃ (tp : Bool) (ns : List Int) (d : PyData), BagV K M H v tp ns ∧ Rp K M H pv d ∧
    ((plB ns.length d = false ∧ ∀ H1, Evl.Ex H H1 → Raised CP [("place", pv)] H1 E) ∨ ∃ p : Nat, d = .int (p : Nat) ∧ p + 1 < ns.length ∧ then_ M v ns p H Q E))
theorem cl_is_tame {f CR CP : Addr} {fd : FuncData} (F : At K mg "is_tame" s_is_tame f fd) (ck : ChkC P w K mg base CR) (cp : Cl P w K mg base (L2.CX P w) 4 "check_place" (spChP K CP)) (ct : Cl P w K mg base CX0 1 "_tames" (PureR K R_tames)) :
    Cl P w K mg base (L2.CX P w) 6 "is_tame" (spRP K CR CP fun _ _ ns p H Q _ => ∀ H', Evl.Ex H H' → Q (.bl (tamB ns p)) H') := by
  refine ⟨f, fd, _, F.fn.okX sc_is_tame (fun vs H Q E h => ?_) (fun cdv A outer s H vs Q E hr h => ⟨_, wB.ps, ?_⟩), F.gl, F.fn.kp, F.fn.binds fun _ _ _ _ _ _ us hl => match us, hl with | [_, _], _ => rfl⟩
  · obtain ⟨M, v, pv, rfl, _⟩ := h
    rfl
  · obtain ⟨M, v, pv, rfl, al, h⟩ := h
    have tk : Takes _ (fun cls d (_ : St) H' => E cls d H') := takes_of (X := cxOf (L2.CX P w) P w K mg base n_is_tame "is_tame" (defScope s_is_tame) f cdv A outer s H E) rfl rfl rfl rfl
    rcases h with ⟨ab, q⟩ | ⟨tp, ns, d, bg, rp, h⟩
    · exact b_cons (cs_expr (ce_callX ck hr (by decide) rfl tk (ca_cons (ce_nm 0 (ca_nil ⟨M, v, false, rfl, al, ab, (fun z => by cases z), fun _ => q⟩)))))
    · refine b_cons (cs_expr (ce_callX ck hr (by decide) rfl tk (ca_cons (ce_nm 0 (ca_nil ⟨M, v, true, rfl, al, bg.arg, fun _ H2 x2 => ?_, fun z => by cases z⟩)))))
      have al2 := al.mono x2
      have bg2 := bg.mono (fun _ z => z) (ExM.of x2)
      have rp2 := rp.mono (fun _ z => z) (ExM.of x2)
      rcases h with ⟨hb, q⟩ | ⟨p, rfl, hp, q⟩
      · exact b_cons (cs_expr (ce_callX cp hr (by decide) rfl tk (ca_cons (ce_nm 0 (ca_cons (ce_nm 1 (ca_nil ⟨M, v, pv, tp, ns, d, rfl, al2, bg2.1, rp2, (fun z => by rw [hb] at z; cases z), fun _ H3 x3 => q H3 (x2.trans x3)⟩)))))))
      · refine b_cons (cs_expr (ce_callX cp hr (by decide) rfl tk (ca_cons (ce_nm 0 (ca_cons (ce_nm 1 (ca_nil ⟨M, v, pv, tp, ns, _, rfl, al2, bg2.1, rp2, fun _ H3 x3 => ?_, fun z => by rw [plB_nat hp] at z; cases z⟩)))))))
        exact b_cons (s_ret (al2.mono x3) (pd_callC ct hr (by decide) rfl (ad_cons (nm 0 (bg2.1.mono (fun _ z => z) (ExM.of x3))) (ad_cons (nm 1 (rp2.mono (fun _ z => z) (ExM.of x3))) ad_nil)) ⟨tp, ns, p, hp, Nat.le_trans bg.2.1 (by decide), rfl, rfl⟩) fun v4 H4 x4 r4 => by
          cases r4
          exact q H4 ((x2.trans x3).trans x4))
theorem cl_tame_places {f CR : Addr} {fd : FuncData} (F : At K mg "tame_places" s_tame_places f fd) (nb : NoB mg) (ck : ChkC P w K mg base CR) (ct : Cl P w K mg base CX0 1 "_tames" (PureR K R_tames)) :
    Cl P w K mg base (L2.CX P w) 6 "tame_places" (fun vs H Q E => ∃ (M : Addr → Prop) (v : V), vs = [v] ∧ Alive M H ∧ ((∃ tp ns, BagV K M H v tp ns ∧ ∀ p ws H', H p = none → Evl.Ex H H' → H' p = some (.lst ws) → RpAll K M H' ws (natD (tameL ns)) → Q (.ref p) H') ∨ (Arg K M H v false ∧ ∀ H1, Evl.Ex H H1 → Raised CR [("row", v)] H1 E))) := by
  refine ⟨f, fd, _, F.fn.okX sc_tame_places (fun vs H Q E h => ?_) (fun cdv A outer s H vs Q E hr h => ⟨_, wB.ps, ?_⟩), F.gl, F.fn.kp, F.fn.binds fun _ _ _ _ _ _ us hl => match us, hl with | [_], _ => rfl⟩
  · obtain ⟨M, v, rfl, _⟩ := h
    rfl
  · obtain ⟨M, v, rfl, al, h⟩ := h
    have tk : Takes _ (fun cls d (_ : St) H' => E cls d H') := takes_of (X := cxOf (L2.CX P w) P w K mg base n_tame_places "tame_places" (defScope s_tame_places) f cdv A outer s H E) rfl rfl rfl rfl
    rcases h with ⟨tp, ns, bg, q⟩ | ⟨ab, q⟩
    · refine b_cons (cs_expr (ce_callX ck hr (by decide) rfl tk (ca_cons (ce_nm 0 (ca_nil ⟨M, v, true, rfl, al, bg.arg, fun _ H2 x2 => ?_, fun z => by cases z⟩)))))
      have al2 := al.mono x2
      have bg2 := bg.mono (fun _ z => z) (ExM.of x2)
      have hl := bg.2.1
      refine b_cons (cs_ret (ce_fd al2 (fd_filter (t := .one 1) (own := [("place", 1)]) (fun d => match d with | .int i => tamB ns i.toNat | _ => false) id rfl sc_tame_places.nd (src_range1 rfl nb.range (pd_sub (pd_len nb rfl (nm 0 bg2.1) (n := ns.length) (by rw [len_sq, List.length_map])) pd_int) (by omega) (by omega)) (blkOk_by (N := n_tame_places) (sc := defScope s_tame_places) (by decide +kernel)) (fun _ _ _ _ _ => pg_name (i := 1) sc_tame_places.nd rfl (.inl rfl)) (fun _ _ => trivial) ?_ ?_ ?_) fun p ws H3 hp x3 h3 r3 => q p ws H3 (Evl.fresh_back x2 hp) (x2.trans x3) h3 ?_))
      · rintro M H d σ' ⟨v, _, rfl⟩
        rfl
      · rw [List.length_map, List.length_range]
        omega
      · rintro s0 H0 C cl fp M' H' d σ' hM lift hd ⟨v', rv, rfl⟩
        obtain ⟨i, hi, rfl⟩ := List.mem_map.mp hd
        have hi := List.mem_range.mp hi
        rw [Int.zero_add] at rv ⊢
        exact ⟨td_val (pd_callC ct hr (by decide) rfl (ad_cons (nm 0 (lift _ _ bg2.1)) (ad_cons (nm 1 rv) ad_nil)) ⟨tp, ns, i, by omega, Nat.le_trans hl (by decide), rfl, rfl⟩), nm 1 rv⟩
      · have e : (((List.range ((ns.length : Int) - 1).toNat).map fun i => PyData.int (0 + (i : Nat))).filter fun d => match d with | .int i => tamB ns i.toNat | _ => false).map id = natD (tameL ns) := by
          rw [List.map_id, List.filter_map]
          unfold natD tameL
          rw [show ((ns.length : Int) - 1).toNat = ns.length - 1 by omega]
          have e1 : ((fun d => match d with | .int i => tamB ns i.toNat | _ => false) ∘ fun i : Nat => PyData.int (0 + (i : Nat))) = tamB ns := by
            funext i
            show tamB ns (0 + (i : Int)).toNat = _
            rw [show (0 + (i : Int)).toNat = i by omega]
          rw [e1]
          exact List.map_congr_left fun i _ => by rw [Int.zero_add]
        rw [e] at r3
        exact r3
    · exact b_cons (cs_expr (ce_callX ck hr (by decide) rfl tk (ca_cons (ce_nm 0 (ca_nil ⟨M, v, false, rfl, al, ab, (fun z => by cases z), fun _ => q⟩)))))
theorem cl_tame_change {f CR CP CB : Addr} {fd : FuncData} (F : At K mg "tame_change" s_tame_change f fd) (nb : NoB mg) (ck : ChkC P w K mg base CR) (cp : Cl P w K mg base (L2.CX P w) 4 "check_place" (spChP K CP)) (ct : Cl P w K mg base CX0 1 "_tames" (PureR K R_tames)) (cs : Cl P w K mg base CX0 1 "swapped" (PureR K R_swap)) (er : ErrC P w K mg base "Barred" CB ["place", "step"]) :
    Cl P w K mg base (L2.CX P w) 6 "tame_change" (spRP K CR CP fun M _ ns p H Q E => (tamB ns p = true → ∀ v H', Evl.Ex H H' → Rp K M H' v (tintsD (exch ns p)) → Q v H') ∧ (tamB ns p = false → ∀ H1, Evl.Ex H H1 → Raised CB [("step", .int 0), ("place", .int (p : Nat))] H1 E)) := by
  refine ⟨f, fd, _, F.fn.okX sc_tame_change (fun vs H Q E h => ?_) (fun cdv A outer s H vs Q E hr h => ⟨_, wB.ps, ?_⟩), F.gl, F.fn.kp, F.fn.binds fun _ _ _ _ _ _ us hl => match us, hl with | [_, _], _ => rfl⟩
  · obtain ⟨M, v, pv, rfl, _⟩ := h
    rfl
  · obtain ⟨M, v, pv, rfl, al, h⟩ := h
    have tk : Takes _ (fun cls d (_ : St) H' => E cls d H') := takes_of (X := cxOf (L2.CX P w) P w K mg base n_tame_change "tame_change" (defScope s_tame_change) f cdv A outer s H E) rfl rfl rfl rfl
    rcases h with ⟨ab, q⟩ | ⟨tp, ns, d, bg, rp, h⟩
    · exact b_cons (cs_expr (ce_callX ck hr (by decide) rfl tk (ca_cons (ce_nm 0 (ca_nil ⟨M, v, false, rfl, al, ab, (fun z => by cases z), fun _ => q⟩)))))
    · refine b_cons (cs_expr (ce_callX ck hr (by decide) rfl tk (ca_cons (ce_nm 0 (ca_nil ⟨M, v, true, rfl, al, bg.arg, fun _ H2 x2 => ?_, fun z => by cases z⟩)))))
      have al2 := al.mono x2
      have bg2 := bg.mono (fun _ z => z) (ExM.of x2)
      have rp2 := rp.mono (fun _ z => z) (ExM.of x2)
      rcases h with ⟨hb, q⟩ | ⟨p, rfl, hp, q1, q2⟩
      · exact b_cons (cs_expr (ce_callX cp hr (by decide) rfl tk (ca_cons (ce_nm 0 (ca_cons (ce_nm 1 (ca_nil ⟨M, v, pv, tp, ns, d, rfl, al2, bg2.1, rp2, (fun z => by rw [hb] at z; cases z), fun _ H3 x3 => q H3 (x2.trans x3)⟩)))))))
      · refine b_cons (cs_expr (ce_callX cp hr (by decide) rfl tk (ca_cons (ce_nm 0 (ca_cons (ce_nm 1 (ca_nil ⟨M, v, pv, tp, ns, _, rfl, al2, bg2.1, rp2, fun _ H3 x3 => ?_, fun z => by rw [plB_nat hp] at z; cases z⟩)))))))
        have al3 := al2.mono x3
        have r0 := bg2.1.mono (fun _ z => z) (ExM.of x3)
        have rp3 := rp2.mono (fun _ z => z) (ExM.of x3)
        have hl := Nat.le_trans bg.2.1 (by decide : 40 ≤ 900)
        refine b_cons (s_if (k := !tamB ns p) al3 (td_not (td_val (pd_callC ct hr (by decide) rfl (ad_cons (nm 0 r0) (ad_cons (nm 1 rp3) ad_nil)) ⟨tp, ns, p, hp, hl, rfl, rfl⟩))) (fun k H4 x4 => ?_) (fun k H4 x4 => ?_))
        · have rp4 := rp3.mono (fun _ z => z) (ExM.of x4)
          cases rp4
          refine b_cons (s_raise rfl er (hr.mono (by decide)) tk rfl (ca_cons (ce_nm 1 (ca_cons (ce_pd (al3.mono x4) pd_int fun v5 H5 x5 r5 => ?_)))))
          cases r5
          exact ca_nil ⟨rfl, (by show 2 ≤ 1000; decide), q2 (by simpa using k) _ (((x2.trans x3).trans x4).trans x5)⟩
        · have r4 := r0.mono (fun _ z => z) (ExM.of x4)
          exact b_nil (b_cons (s_ret (al3.mono x4) (pd_callC cs hr (by decide) rfl (ad_cons (pd_tupleOf rfl nb.tuple (nm 0 r4) (items_sq tp _)) (ad_cons (nm 1 (rp3.mono (fun _ z => z) (ExM.of x4))) ad_nil)) ⟨ns, p, hp, hl, rfl, rfl⟩) fun v5 H5 x5 r5 => q1 (by simpa using k) v5 H5 (((x2.trans x3).trans x4).trans x5) r5))
/-- of a bag row and a walk: where it leads -/
def spAfter (K : PySem.W.Frag) (CR CW CB : Addr) : Sp := fun vs H Q E => ∃ (M : Addr → Prop) (v wv : V), vs = [v, wv] ∧ Alive M H ∧
  ((Arg K M H v false ∧ ∀ H1, Evl.Ex H H1 → Raised CR [("row", v)] H1 E) ∨ ∃ (tp : Bool) (ns : List Int), BagV K M H v tp ns ∧
    ((WArg K M H ns.length wv false ∧ ∀ H1, Evl.Ex H H1 → Raised CW [("walk", wv)] H1 E) ∨ ∃ (tq : Bool) (ps : List Nat), Rp K M H wv (sqD tq (natD ps)) ∧ ps.length ≤ 20000 ∧ (∀ p ∈ ps, p + 1 < ns.length) ∧
      (∀ ms, goW ns ps 0 = .inl ms → ∀ v H', Evl.Ex H H' → Rp K M H' v (tintsD ms) → Q v H') ∧ ∀ p k, goW ns ps 0 = .inr (p, k) → ∀ H1, Evl.Ex H H1 → Raised CB [("step", .int (k : Nat)), ("place", .int (p : Nat))] H1 E))
theorem wkB_nat {n : Nat} {tq : Bool} {ps : List Nat} (hl : ps.length ≤ 20000) (h : ∀ p ∈ ps, p + 1 < n) : wkB n (sqD tq (natD ps)) = true := by
  have e : (natD ps).all (plB n) = true := List.all_eq_true.mpr fun d hd => by
    obtain ⟨p, hp, rfl⟩ := List.mem_map.mp hd
    exact plB_nat (h p hp)
  have e2 : decide ((natD ps).length ≤ 20000) = true := decide_eq_true (by unfold natD; rw [List.length_map]; exact hl)
  cases tq <;> (show (true && decide ((natD ps).length ≤ 20000) && (natD ps).all (plB n)) = true; rw [e, e2]; rfl)
theorem cl_tame_after {f CR CW CB : Addr} {fd : FuncData} (F : At K mg "tame_after" s_tame_after f fd) (nb : NoB mg) (ck : ChkC P w K mg base CR) (cw : Cl P w K mg base (L2.CX P w) 4 "check_walk" (spChW K CW)) (ct : Cl P w K mg base CX0 1 "_tames" (PureR K R_tames)) (cs : Cl P w K mg base CX0 1 "swapped" (PureR K R_swap)) (er : ErrC P w K mg base "Barred" CB ["place", "step"]) :
    Cl P w K mg base (L2.CX P w) 6 "tame_after" (spAfter K CR CW CB) := by
  refine ⟨f, fd, _, F.fn.okX sc_tame_after (fun vs H Q E h => ?_) (fun cdv A outer s H vs Q E hr h => ⟨_, wB.ps, ?_⟩), F.gl, F.fn.kp, F.fn.binds fun _ _ _ _ _ _ us hl => match us, hl with | [_, _], _ => rfl⟩
  · obtain ⟨M, v, pv, rfl, _⟩ := h
    rfl
  · obtain ⟨M, v, wv, rfl, al, h⟩ := h
    have tk : Takes _ (fun cls d (_ : St) H' => E cls d H') := takes_of (X := cxOf (L2.CX P w) P w K mg base n_tame_after "tame_after" (defScope s_tame_after) f cdv A outer s H E) rfl rfl rfl rfl
    rcases h with ⟨ab, q⟩ | ⟨tp, ns, bg, h⟩
    · exact b_cons (cs_expr (ce_callX ck hr (by decide) rfl tk (ca_cons (ce_nm 0 (ca_nil ⟨M, v, false, rfl, al, ab, (fun z => by cases z), fun _ => q⟩)))))
    · refine b_cons (cs_expr (ce_callX ck hr (by decide) rfl tk (ca_cons (ce_nm 0 (ca_nil ⟨M, v, true, rfl, al, bg.arg, fun _ H2 x2 => ?_, fun z => by cases z⟩)))))
      have al2 := al.mono x2
      have bg2 := bg.mono (fun _ z => z) (ExM.of x2)
      have hl := Nat.le_trans bg.2.1 (by decide : 40 ≤ 900)
      rcases h with ⟨wa, q⟩ | ⟨tq, ps, rw_, hpl, hpn, q1, q2⟩
      · exact b_cons (cs_expr (ce_callX cw hr (by decide) rfl tk (ca_cons (ce_nm 0 (ca_cons (ce_nm 1 (ca_nil ⟨M, v, wv, tp, ns, false, rfl, al2, bg2.1, wa.mono (fun _ z => z) (ExM.of x2), (fun z => by cases z), fun _ H3 x3 => q H3 (x2.trans x3)⟩)))))))
      · have rw2 := rw_.mono (fun _ z => z) (ExM.of x2)
        refine b_cons (cs_expr (ce_callX cw hr (by decide) rfl tk (ca_cons (ce_nm 0 (ca_cons (ce_nm 1 (ca_nil ⟨M, v, wv, tp, ns, true, rfl, al2, bg2.1, .inl ⟨_, rw2, ?_, wkB_nat hpl hpn⟩, fun _ H3 x3 => ?_, fun z => by cases z⟩)))))))
        · have : (natD ps).length ≤ 90000 := by
            unfold natD
            rw [List.length_map]
            omega
          cases tq <;> exact this
        have al3 := al2.mono x3
        have rw3 := rw2.mono (fun _ z => z) (ExM.of x3)
        refine b_cons (s_set (i := 2) (d := tintsD ns) al3 sc_tame_after.nd rfl (.inl rfl) (pd_tupleOf rfl nb.tuple (nm 0 (bg2.1.mono (fun _ z => z) (ExM.of x3))) (items_sq tp _)) fun v4 H4 x4 r4 => ?_)
        have al4 := al3.mono x4
        have x04 := (x2.trans x3).trans x4
        have rw4 := rw3.mono (fun _ z => z) (ExM.of x4)
        have elen : (enumD (natD ps)).length = ps.length := by
          rw [enumD_length]
          unfold natD
          rw [List.length_map]
        refine b_cons (s_for (t := .two 3 4) (passes_of rfl) rfl (src_enumS rfl nb.enumerate (nm 1 rw4)) (pg_tup rfl (pgs_cons (pg_name (i := 3) sc_tame_after.nd rfl (.inl rfl)) (pgs_cons (pg_name (i := 4) sc_tame_after.nd rfl (.inl rfl)) pgs_nil))) al4
          (fun Hs i σ' H' => ∃ (v5 : V) (ms : List Int) (xs xp : Option V), σ' = [some v, some wv, some v5, xs, xp] ∧ Evl.Ex Hs H' ∧ Rp K M H' v5 (tintsD ms) ∧ ms.length = ns.length ∧ goW ns ps 0 = goW ms (ps.drop i) i) ?_ ?_ ?_ ?_ ?_)
        · exact fun H1 x1 => ⟨v4, ns, none, none, rfl, Evl.Ex.refl _, r4.mono (fun _ z => z) (ExM.of x1), rfl, rfl⟩
        · rintro H1 i σ' H' x1 ⟨_, _, _, _, rfl, ex, _⟩
          exact ⟨.of ex, (al4.mono x1).mono ex⟩
        · intro d hd
          obtain ⟨i, hi⟩ := List.mem_iff_getElem?.mp hd
          obtain ⟨e, _, rfl⟩ := enumD_get hi
          exact ⟨_, _, rfl⟩
        · rintro H1 i d σ' H' H5 σ2 x1 hd ⟨v5, ms, xs, xp, rfl, ex, r5, hml, hg⟩ x5 ⟨da, db, vs, vp, e, ri, rp, rfl⟩
          obtain ⟨e', he', e2⟩ := enumD_get hd
          rw [e2] at e
          cases e
          unfold natD at he'
          rw [List.getElem?_map] at he'
          obtain ⟨p, hp, rfl⟩ := Option.map_eq_some_iff.mp he'
          have hpn' := hpn p (List.mem_of_getElem? hp)
          obtain ⟨hpi, epi⟩ := List.getElem?_eq_some_iff.mp hp
          rw [List.drop_eq_getElem_cons hpi, epi] at hg
          have xx := (x1.trans ex).trans x5
          have al5 := al4.mono xx
          have r6 := r5.mono (fun _ z => z) (ExM.of x5)
          refine b_cons (s_if (k := !tamB ms p) al5 (td_not (td_val (pd_callC ct hr (by decide) rfl (ad_cons (nm 2 r6) (ad_cons (nm 4 rp) ad_nil)) ⟨true, ms, p, by omega, by omega, rfl, rfl⟩))) (fun k H6 x6 => ?_) (fun k H6 x6 => ?_))
          · have k : tamB ms p = false := by simpa using k
            cases ri
            cases rp
            refine b_cons (s_raise rfl er (hr.mono (by decide)) tk rfl (ca_cons (ce_nm 4 (ca_cons (ce_nm 3 (ca_nil ⟨rfl, (by show 2 ≤ 1000; decide), q2 p i ?_ _ ((x04.trans xx).trans x6)⟩))))))
            rw [hg]
            unfold goW
            rw [if_neg (by rw [k]; exact Bool.false_ne_true)]
          · have k : tamB ms p = true := by simpa using k
            have al6 := al5.mono x6
            refine b_nil (b_cons (s_set (i := 2) (d := tintsD (exch ms p)) al6 sc_tame_after.nd rfl (.inl rfl) (pd_callC cs hr (by decide) rfl (ad_cons (nm 2 (r6.mono (fun _ z => z) (ExM.of x6))) (ad_cons (nm 4 (rp.mono (fun _ z => z) (ExM.of x6))) ad_nil)) ⟨ms, p, by omega, by omega, rfl, rfl⟩) fun v7 H7 x7 r7 => b_nil ⟨v7, exch ms p, _, _, rfl, ((ex.trans x5).trans x6).trans x7, r7, by rw [exch_len]; exact hml, ?_⟩))
            rw [hg]
            conv => lhs; unfold goW
            rw [if_pos k]
        · rintro H1 σ' H' x1 ⟨v5, ms, xs, xp, rfl, ex, r5, hml, hg⟩
          rw [elen, List.drop_length] at hg
          exact b_cons (s_ret (al4.mono (x1.trans ex)) (nm 2 r5) fun v6 H6 x6 r6 => q1 ms hg v6 H6 ((x04.trans (x1.trans ex)).trans x6) r6)
end
end DK

namespace DK
open PySem PySem.Spec PyProof.Rows L2 GV
/-- the texts of one side: l and h stand in the dict -/
structure Sides (K : PySem.W.Frag) (mg : Str → Option Value) (w : World) : Prop where
  ex : ∃ d es n t1 t4, mg "_SIDES" = some (.ref d) ∧ KDict K w d es n ∧ PySem.W.nsIn K d "l" = some (some (.int 1 t1)) ∧ PySem.W.nsIn K d "h" = some (some (.int 4 t4))
section
variable {X : Cx} {M : Addr → Prop} {σ : St} {H : Hp} {a : Expr}
theorem td_ninS {z : Str} {k : Int} {p pos : Pos} (hz : (z = "l" ∧ k = 1) ∨ z = "h" ∧ k = 4) (S : Sides X.K X.mg X.w) (hg : Gl X "_SIDES") (ha : PD X M a σ H (.str z)) : TD X M (.Compare a [.NotIn] [.Name "_SIDES" p] pos) σ H false := by
  obtain ⟨d, es, n, t1, t4, hm, D, n1, n4⟩ := S.ex
  refine .mk fun H1 e1 al Q q => ⟨_, pt_cmpR (op_notIn_kd D) wE.pe (pe_glob hg hm (v := .ref d) rfl (by decide)) rfl, ha.run H1 e1 al _ fun v H2 x2 r => ?_⟩
  cases r
  rcases hz with ⟨rfl, _⟩ | ⟨rfl, _⟩
  · exact ⟨_, _, rfl, rfl, n1, _, rfl, q H2 x2⟩
  · exact ⟨_, _, rfl, rfl, n4, _, rfl, q H2 x2⟩
theorem pd_ixS {z : Str} {k : Int} {p pos : Pos} (hz : (z = "l" ∧ k = 1) ∨ z = "h" ∧ k = 4) (S : Sides X.K X.mg X.w) (hg : Gl X "_SIDES") (ha : PD X M a σ H (.str z)) (hs : PlainIx a := by exact fun _ _ => rfl) : PD X M (.Subscript (.Name "_SIDES" p) a pos) σ H (.int k) := by
  obtain ⟨d, es, n, t1, t4, hm, D, n1, n4⟩ := S.ex
  refine .mk fun H1 e1 al Q q => ⟨_, pe_ix ix_kdict (pe_glob hg hm (v := .ref d) rfl (by decide)) wE.pe hs, ha.run H1 e1 al _ fun v H2 x2 r => ?_⟩
  cases r
  rcases hz with ⟨rfl, rfl⟩ | ⟨rfl, rfl⟩
  · exact ⟨d, _, .int 1, rfl, rfl, ⟨es, n, _, D.at_, D.lit, n1, ⟨t1, rfl⟩⟩, q _ H2 x2 (.int 1)⟩
  · exact ⟨d, _, .int 4, rfl, rfl, ⟨es, n, _, D.at_, D.lit, n4, ⟨t4, rfl⟩⟩, q _ H2 x2 (.int 4)⟩
/-- x, y, z = a tuple of three texts -/
theorem cs_unp3 {e : Expr} {pos px py pz pt : Pos} {i j l kt : Nat} {x y z : Str} {D : Ends} {u v w : Str} (hx : PG X (.Name x px) (gName i)) (hy : PG X (.Name y py) (gName j)) (hz : PG X (.Name z pz) (gName l))
    (h : wE X e σ H fun r H2 => ∃ p, r = .ref p ∧ H2 p = some (.tup [.str u, .str v, .str w]) ∧ D.nx (((σ.set i (some (.str u))).set j (some (.str v))).set l (some (.str w))) H2)
    (ht : PG X (.Tuple [.Name x px, .Name y py, .Name z pz] kt pt) (gTup X.K 3 (gCons (gName i) (gCons (gName j) (gCons (gName l) gNil))))) (hs : swapsWithSole [.Tuple [.Name x px, .Name y py, .Name z pz] kt pt] e pos.line X.env = pure false := by rfl) (hw : swappedStores [.Tuple [.Name x px, .Name y py, .Name z pz] kt pt] e X.env = pure none := by rfl)
    (h1 : (assignEach [.Tuple [.Name x px, .Name y py, .Name z pz] kt pt] X.env).map (·.2) = [assign (.Tuple [.Name x px, .Name y py, .Name z pz] kt pt) X.env] := by rfl) : wS X (.Assign [.Tuple [.Name x px, .Name y py, .Name z pz] kt pt] e pos) D σ H :=
  ⟨_, ps_asg wE.pe ht hs hw h1, wE.weak h fun r H2 ⟨p, e, hp, q⟩ => ⟨p, _, e, .inl (.inl hp), rfl, _, _, rfl, _, _, rfl, _, _, rfl, rfl, q⟩⟩
end
section
variable {P : Program} {w : World} {K : PySem.W.Frag} {mg : Str → Option Value} {base : Heap}
theorem part_lh : Txt.partition (Str.ofString "l-h") (Str.ofString "-") = (Str.ofString "l", Str.ofString "-", Str.ofString "h") := by decide +kernel
def R_not (ds : List PyData) (d : PyData) : Prop := ds = [.str "l-h"] ∧ d = .int 33
theorem cl_number_of_text {f : Addr} {fd : FuncData} (F : At K mg "number_of_text" s_number_of_text f fd) (nb : NoB mg) (S : Sides K mg w) : Cl P w K mg base CX0 1 "number_of_text" (PureR K R_not) := by
  refine cl_pure F sc_number_of_text (F.fn.binds fun _ _ _ _ _ _ us hl => match us, hl with | [_], _ => rfl) (fun ds d h => ?_) (fun X cdv A outer s H Q E M vs ds d hX hr al r h q => ?_)
  · obtain ⟨rfl, _⟩ := h
    rfl
  · obtain ⟨rfl, rfl⟩ := h
    obtain ⟨v, rfl, r1⟩ := rpa1 r
    cases r1
    subst hX
    refine b_cons (s_if (k := false) al (td_not (k := true) (td_val (pd_isi rfl nb.isinstance rfl nb.str PyProof.Rows.boot_str (nm 0 (.str "l-h")) (by decide +kernel)))) (fun k => by cases k) (fun _ H2 x2 => ?_))
    refine b_nil (b_cons (cs_unp3 (i := 1) (j := 2) (l := 3) (u := "l") (v := "-") (w := "h") (pg_name (i := 1) sc_number_of_text.nd rfl (.inl rfl)) (pg_name (i := 2) sc_number_of_text.nd rfl (.inl rfl)) (pg_name (i := 3) sc_number_of_text.nd rfl (.inl rfl)) ⟨_, pe_partition wE.pe wE.pe, ce_nm 0 ⟨⟨"l-h", rfl⟩, ce_str ⟨"l-h", "-", rfl, rfl, by decide +kernel, Evl.sz_of (by decide +kernel), fun p hp => ⟨p, rfl, (by rw [part_lh]; exact upd_same), ?_⟩⟩⟩⟩ (pg_tup rfl (pgs_cons (pg_name (i := 1) sc_number_of_text.nd rfl (.inl rfl)) (pgs_cons (pg_name (i := 2) sc_number_of_text.nd rfl (.inl rfl)) (pgs_cons (pg_name (i := 3) sc_number_of_text.nd rfl (.inl rfl)) pgs_nil))))))
    refine b_cons (s_if (k := false) (al.mono (x2.trans (Evl.Ex.new hp))) (WD.td (wd_or (k1 := false) (k2 := false) (TD.is (td_eq hr.units (nm 2 (.str "-")) pd_str (by decide +kernel) (by decide +kernel)) (by decide +kernel)) fun _ => wd_or (k1 := false) (k2 := false) (td_ninS (.inl ⟨rfl, rfl⟩) S rfl (nm 1 (.str "l"))) fun _ => wd_or1 (td_ninS (.inr ⟨rfl, rfl⟩) S rfl (nm 3 (.str "h"))))) (fun k => by cases k) (fun _ H4 x4 => ?_))
    exact b_nil (b_cons (s_ret ((al.mono (x2.trans (Evl.Ex.new hp))).mono x4) (PD.is (pd_add (pd_ixS (.inl ⟨rfl, rfl⟩) S rfl (nm 1 (.str "l"))) (pd_mulW pd_int (pd_ixS (.inr ⟨rfl, rfl⟩) S rfl (nm 3 (.str "h"))) (by unfold CMulW; decide +kernel))) rfl) fun v H5 x5 rv => q v H5 (((x2.trans (Evl.Ex.new hp)).trans x4).trans x5) rv))
theorem eqv_int (i j : Int) : PyData.eqv (.int i) (.int j) = decide (i = j) := by
  rw [Bool.eq_iff_iff, decide_eq_true_eq]
  simp [PyData.eqv]
/-- the class House -/
structure HouC (K : PySem.W.Frag) (CH : Addr) : Prop where
  ins : C8.InsC K CH
  nT : NoAttr K CH "text"
  nN : NoAttr K CH "number"
/-- the house of number 33 stands at h -/
def HAt (CH : Addr) (H : Hp) (h : Addr) : Prop := ∃ dx, H h = some (.ins CH dx [("text", .str "l-h"), ("number", .int 33)])
theorem HAt.ex {CH h : Addr} {H H' : Hp} (a : HAt CH H h) (x : ∀ o, H h = some o → H' h = some o) : HAt CH H' h := let ⟨dx, e⟩ := a; ⟨dx, x _ e⟩
def spHInit (CH : Addr) : Sp := fun vs H Q _ => ∃ (b dx : Addr), vs = [.ref b, .str "l-h"] ∧ H b = some (.ins CH dx []) ∧ ∀ H', (∀ a o, H a = some o → a ≠ b → H' a = some o) → HAt CH H' b → Q .non H'
theorem ok_hinit {f CH : Addr} {fd : FuncData} (F : Fun K "__init__" "House.__init__" s_House_init f fd) (B : HouC K CH) (c1 : Cl P w K mg base CX0 1 "number_of_text" (PureR K R_not)) : FnOk P w K mg base CX0 2 f fd ["self", "text"] (spHInit CH) := by
  refine F.ok sc_House_init (fun vs H Q E h => ?_) (fun cdv A outer sh H vs Q E hr h => ⟨_, wB.ps, ?_⟩)
  · obtain ⟨b, dx, rfl, _⟩ := h
    rfl
  · obtain ⟨b, dx, rfl, hb, q⟩ := h
    refine b_cons (s_set (M := M0) (i := 2) (d := .int 33) alive0 sc_House_init.nd rfl (.inl rfl) (pd_callC c1 hr (by decide) rfl (ad_cons (nm 1 (.str "l-h")) ad_nil) ⟨rfl, rfl⟩) fun v H2 x2 r2 => ?_)
    cases r2
    refine b_cons (s_if (M := M0) (k := false) alive0 (TD.is (td_eq hr.units (nm 2 (.int 33)) pd_int rfl rfl) (by simp [PyData.eqv])) (fun k => by cases k) (fun _ H3 x3 => ?_))
    refine b_nil (b_cons (cs_fld (ce_nm 1 (ce_nm 0 ⟨b, CH, dx, [], rfl, x3 _ _ (x2 _ _ hb), B.ins.cl, B.nT, (by show 0 < 1000; decide), ?_⟩))))
    refine b_cons (cs_fld (ce_nm 2 (ce_nm 0 ⟨b, CH, dx, _, rfl, upd_same, B.ins.cl, B.nN, (by show 1 < 1000; decide), b_nil (q _ (fun a o ha na => ?_) ⟨dx, ?_⟩)⟩)))
    · rw [upd_ne na, upd_ne na]
      exact x3 _ _ (x2 _ _ ha)
    · rw [upd_same]
      rfl
/-- self.number >> index & 1 == 1 -/
def bit33 (k : Nat) : Bool := decide (((33 : Int) / 2 ^ (((k : Nat) : Int)).toNat) % 2 ^ 1 = 1)
def spBit (CH : Addr) : Sp := fun vs H Q _ => ∃ (h : Addr) (k : Nat), vs = [.ref h, .int (k : Nat)] ∧ k ≤ 1000 ∧ HAt CH H h ∧ ∀ H', Evl.Ex H H' → Q (.bl (bit33 k)) H'
theorem ok_bit {f CH : Addr} {fd : FuncData} (F : Fun K "names_index" "House.names_index" s_House_names_index f fd) (B : HouC K CH) : FnOk P w K mg base CX0 1 f fd ["self", "index"] (spBit CH) := by
  refine F.ok sc_House_names_index (fun vs H Q E h => ?_) (fun cdv A outer sh H vs Q E hr h => ⟨_, wB.ps, ?_⟩)
  · obtain ⟨b, k, rfl, _⟩ := h
    rfl
  · obtain ⟨b, k, rfl, hk, ⟨dx, hb⟩, q⟩ := h
    refine b_cons (s_ret (M := M0) (d := .bool (bit33 k)) alive0 (PD.is (pd_eq hr.units (pd_binR (d := .int (((33 : Int) / 2 ^ (((k : Nat) : Int)).toNat) % 2 ^ 1)) op_andM (fun x y H1 rx ry _ Q q => ?_) (pd_binR op_shr (rd_I (C := fun _ j => (0 : Int) ≤ j) (i := 33) (j := (k : Nat)) (by omega)) (pd_fld (AtN.name (i := 0) rfl (.inl rfl) rfl) (fun z => z) hb B.ins.cl B.nN rfl (.int 33)) (nm 1 (.int (k : Nat)))) (pd_int (i := 1))) pd_int rfl rfl) ?_) fun v H2 x2 r2 => ?_)
    · cases rx
      cases ry
      exact ⟨_, 1, rfl, rfl, q _ H1 (Evl.Ex.refl H1) (.int _)⟩
    · show PyData.bool (PyData.eqv _ _) = PyData.bool (bit33 k)
      unfold bit33
      rw [eqv_int]
    · cases r2
      exact q H2 x2
end
end DK

namespace DK
open PySem PySem.Spec PyProof.Rows L2 GV
def letZ (lo hi z : Int) : Int := if z < lo then 0 else if z < hi then 1 else 2
abbrev ikD (i : Nat) (k : Int) : PyData := .tuple [.int (i : Nat), .int k]
def lo2 (ns : List Int) (p : Nat) : Int := min (ns.getD p 0) (ns.getD (p + 1) 0)
def hi2 (ns : List Int) (p : Nat) : Int := max (ns.getD p 0) (ns.getD (p + 1) 0)
def letL (ns : List Int) (p : Nat) : List Int := ns.map (letZ (lo2 ns p) (hi2 ns p))
def befL (ns : List Int) (p : Nat) : List PyData := (List.range p).map fun i => ikD i ((letL ns p).getD i 0)
def behL (ns : List Int) (p : Nat) : List PyData := (List.range (ns.length - (p + 2))).map fun j => ikD (p + 2 + j) ((letL ns p).getD (p + 2 + j) 0 + 3)
theorem letL_len (ns : List Int) (p : Nat) : (letL ns p).length = ns.length := by
  unfold letL
  rw [List.length_map]
def lD (lo hi : Int) : PyData → PyData
  | .int z => .int (letZ lo hi z)
  | d => d
def beD (l : List Int) : PyData → PyData
  | .int i => ikD i.toNat (l.getD i.toNat 0)
  | d => d
def bhD (l : List Int) : PyData → PyData
  | .int i => ikD i.toNat (l.getD i.toNat 0 + 3)
  | d => d
section
variable {P : Program} {w : World} {K : PySem.W.Frag} {mg : Str → Option Value} {base : Heap}
def R_third (ds es : List PyData) : Prop := ∃ (tp : Bool) (ns : List Int) (p : Nat), p + 1 < ns.length ∧ ns.length ≤ 900 ∧ ds = [sqD tp (ns.map PyData.int), .int (p : Nat)] ∧ es = befL ns p ++ behL ns p
theorem cl_third_kinds {f : Addr} {fd : FuncData} (F : At K mg "_third_kinds" s_third_kinds f fd) (nb : NoB mg) : Cl P w K mg base CX0 1 "_third_kinds" (FreshR K R_third) := by
  refine ⟨f, fd, _, F.fn.ok sc_third_kinds (fun vs H Q E h => ?_) (fun cdv A outer sh H vs Q E hr h => ⟨_, wB.ps, ?_⟩), F.gl, F.fn.kp, F.fn.binds fun _ _ _ _ _ _ us hl => match us, hl with | [_, _], _ => rfl⟩
  · obtain ⟨M, ds, es, al, r, ⟨_, _, _, _, _, rfl, _⟩, _⟩ := h
    rw [r.length]
    rfl
  · obtain ⟨M, ds, es, al, r, ⟨tp, ns, p, hp, hl, rfl, rfl⟩, q⟩ := h
    obtain ⟨u, v, rfl, r1, r2⟩ := rpa2 r
    obtain ⟨x, hx⟩ := get_i (ns := ns) (i := p) (by omega)
    obtain ⟨y, hy⟩ := get_i (ns := ns) (i := p + 1) hp
    have elo : lo2 ns p = min x y := by
      unfold lo2
      rw [getD_of hx, getD_of hy]
    have ehi : hi2 ns p = max x y := by
      unfold hi2
      rw [getD_of hx, getD_of hy]
    refine b_cons (s_unp2 (i := 2) (j := 3) al rfl (fd_sort2 rfl nb.sorted (PD.is (pd_sliceS (nm 0 r1) (od_some (nm 1 r2)) (od_some (pd_add (nm 1 r2) pd_int))) (congrArg (sqD tp) (cut_pair hx hy)))) (pg_name (i := 2) sc_third_kinds.nd rfl (by first | exact .inl rfl | exact .inr rfl)) (pg_name (i := 3) sc_third_kinds.nd rfl (by first | exact .inl rfl | exact .inr rfl)) fun v2 v3 H2 x2 q2 q3 => ?_)
    cases q2
    cases q3
    have al2 := al.mono x2
    have r1a := r1.mono (fun _ z => z) (ExM.of x2)
    have r2a := r2.mono (fun _ z => z) (ExM.of x2)
    refine b_cons (cs_set (i := 4) sc_third_kinds.nd rfl (by first | exact .inl rfl | exact .inr rfl) (ce_fd al2 (fd_map (t := .one 6) (own := [("stone", 6)]) (lD (min x y) (max x y)) rfl sc_third_kinds.nd (src_S (nm 0 r1a)) (blkOk_by (N := n_third_kinds) (sc := defScope s_third_kinds) (by decide +kernel)) (fun _ _ _ _ _ => pg_name (i := 6) sc_third_kinds.nd rfl (.inl rfl)) (fun _ _ => trivial) ?_ ?_ ?_) fun l ws H3 hl3 x3 h3 rw3 => ?_))
    · rintro M H d σ' ⟨v, _, rfl⟩
      rfl
    · rw [List.length_map]
      omega
    · rintro s0 H0 C cl fp M' H' d σ' hM lift hd ⟨v', rv, rfl⟩
      obtain ⟨z, _, rfl⟩ := List.mem_map.mp hd
      refine pd_if (k := decide (z < min x y)) (td_lt (nm 6 rv) (nm 2 (.int (min x y)))) (fun k => PD.is pd_int ?_) (fun k => pd_if (k := decide (z < max x y)) (td_lt (nm 6 rv) (nm 3 (.int (max x y)))) (fun k2 => PD.is pd_int ?_) (fun k2 => PD.is pd_int ?_))
      · show PyData.int 0 = .int (letZ _ _ _)
        unfold letZ
        rw [if_pos (of_decide_eq_true k)]
      · show PyData.int 1 = .int (letZ _ _ _)
        unfold letZ
        rw [if_neg (of_decide_eq_false k), if_pos (of_decide_eq_true k2)]
      · show PyData.int 2 = .int (letZ _ _ _)
        unfold letZ
        rw [if_neg (of_decide_eq_false k), if_neg (of_decide_eq_false k2)]
    have ew : (ns.map PyData.int).map (lD (min x y) (max x y)) = (letL ns p).map PyData.int := by
      unfold letL
      rw [elo, ehi, List.map_map, List.map_map]
      rfl
    rw [ew] at rw3
    have al3 := al2.mono x3
    have rl : Rp K M H3 (.ref l) (intsD (letL ns p)) := .lst (al2.fresh hl3) (.inl h3) rw3
    have r1b := r1a.mono (fun _ z => z) (ExM.of x3)
    have r2b := r2a.mono (fun _ z => z) (ExM.of x3)
    have ll := letL_len ns p
    have i2 : ((p : Nat) : Int) + 2 = ((p + 2 : Nat) : Int) := by omega
    refine b_cons (s_setLc (i := 5) (t := .one 7) (own := [("index", 7)]) (ds := (List.range ((ns.length : Int) - (((p : Nat) : Int) + 2)).toNat).map fun k => PyData.int (((p : Nat) : Int) + 2 + (k : Nat))) rfl sc_third_kinds.nd ?_ (blkOk_by (N := n_third_kinds) (sc := defScope s_third_kinds) (by decide +kernel)) (fun _ _ _ _ _ => pg_name (i := 7) sc_third_kinds.nd rfl (.inl rfl)) (fun _ _ => trivial) ?_ (fun _ => true) (bhD (letL ns p)) ?_ ?_ al3 rfl rfl rfl fun l2 ws2 H4 hl4 x4 h4 rw4 => ?_)
    · exact src_range2 rfl nb.range (pd_add (nm 1 r2b) pd_int) (pd_len nb rfl (nm 0 r1b) (n := ns.length) (by rw [len_sq, List.length_map])) (by omega) (by omega)
    · rintro M H d σ' ⟨v, _, rfl⟩
      rfl
    · rw [List.length_map, List.length_range]
      omega
    · rintro s0 H0 C cl fp M' H' d σ' hM lift hd ⟨v', rv, rfl⟩
      obtain ⟨j, hj, rfl⟩ := List.mem_map.mp hd
      have hj := List.mem_range.mp hj
      have ej : ((p : Nat) : Int) + 2 + (j : Nat) = ((p + 2 + j : Nat) : Int) := by omega
      rw [ej] at rv ⊢
      obtain ⟨z, hz⟩ := get_i (ns := letL ns p) (i := p + 2 + j) (by omega)
      refine ⟨tsd_nil, fun _ => PD.is (pd_tup (ad_cons (nm 7 rv) (ad_cons (pd_add (pd_ix (nm 4 (lift _ _ rl)) (nm 7 rv) (ixD_ints hz)) pd_int) ad_nil)) (by show 2 ≤ 100000; decide)) ?_⟩
      show PyData.tuple [_, _] = ikD _ _
      rw [Int.toNat_natCast, getD_of hz]
    rw [filt_all] at rw4
    have al4 := al3.mono x4
    have rl4 := rl.mono (fun _ z => z) (ExM.of x4)
    have rb4 : Rp K M H4 (.ref l2) (.list (behL ns p)) := by
      have e : ((List.range ((ns.length : Int) - (((p : Nat) : Int) + 2)).toNat).map fun k => PyData.int (((p : Nat) : Int) + 2 + (k : Nat))).map (bhD (letL ns p)) = behL ns p := by
        unfold behL
        rw [show ((ns.length : Int) - (((p : Nat) : Int) + 2)).toNat = ns.length - (p + 2) by omega, List.map_map]
        refine List.map_congr_left fun j _ => ?_
        show ikD _ _ = ikD _ _
        rw [show (((p : Nat) : Int) + 2 + (j : Nat)).toNat = p + 2 + j by omega]
      rw [e] at rw4
      exact .lst (al3.fresh hl4) (.inl h4) rw4
    have lb : (befL ns p).length = p := by
      unfold befL
      rw [List.length_map, List.length_range]
    have lh : (behL ns p).length ≤ 900 := by
      unfold behL
      rw [List.length_map, List.length_range]
      omega
    refine b_cons (cs_ret (ce_fd al4 (fd_cat (es := befL ns p) (fs := behL ns p) (PD.is (FD.pd (fd_map (t := .one 7) (own := [("index", 7)]) (beD (letL ns p)) rfl sc_third_kinds.nd (src_range1 rfl nb.range (nm 1 (r2b.mono (fun _ z => z) (ExM.of x4))) (by omega) (by omega)) (blkOk_by (N := n_third_kinds) (sc := defScope s_third_kinds) (by decide +kernel)) (fun _ _ _ _ _ => pg_name (i := 7) sc_third_kinds.nd rfl (.inl rfl)) (fun _ _ => trivial) ?_ ?_ ?_)) ?_) (nm 5 rb4) (by omega)) fun l5 ws5 H5 hl5 x5 h5 rw5 => q l5 ws5 H5 (Evl.fresh_back ((x2.trans x3).trans x4) hl5) (((x2.trans x3).trans x4).trans x5) h5 rw5))
    · rintro M H d σ' ⟨v, _, rfl⟩
      rfl
    · rw [List.length_map, List.length_range]
      omega
    · rintro s0 H0 C cl fp M' H' d σ' hM lift hd ⟨v', rv, rfl⟩
      obtain ⟨j, hj, rfl⟩ := List.mem_map.mp hd
      have hj := List.mem_range.mp hj
      rw [Int.zero_add] at rv ⊢
      obtain ⟨z, hz⟩ := get_i (ns := letL ns p) (i := j) (by omega)
      refine PD.is (pd_tup (ad_cons (nm 7 rv) (ad_cons (pd_ix (nm 4 (lift _ _ rl4)) (nm 7 rv) (ixD_ints hz)) ad_nil)) (by show 2 ≤ 100000; decide)) ?_
      show PyData.tuple [_, _] = ikD _ _
      rw [Int.toNat_natCast, getD_of hz]
    · congr 1
      unfold befL
      rw [Int.toNat_natCast, List.map_map]
      refine List.map_congr_left fun j _ => ?_
      show ikD _ _ = ikD _ _
      rw [Int.zero_add, Int.toNat_natCast]
end
end DK

namespace DK
open PySem PySem.Spec PyProof.Rows L2 GV
def bD : PyData → Bool
  | .tuple [_, .int k] => bit33 k.toNat
  | _ => false
def fD : PyData → PyData
  | .tuple [i, _] => i
  | d => d
def helpL (ns : List Int) (p : Nat) : List PyData := ((befL ns p ++ behL ns p).filter bD).map fD
theorem let_range (lo hi z : Int) : letZ lo hi z = 0 ∨ letZ lo hi z = 1 ∨ letZ lo hi z = 2 := by
  unfold letZ
  split
  · exact .inl rfl
  · split
    · exact .inr (.inl rfl)
    · exact .inr (.inr rfl)
theorem let_get {ns : List Int} {p i : Nat} {z : Int} (h : ns[i]? = some z) : (letL ns p).getD i 0 = letZ (lo2 ns p) (hi2 ns p) z := by
  refine getD_of ?_
  unfold letL
  rw [List.getElem?_map, h]
  rfl
theorem bit_bef (lo hi z : Int) : bit33 (letZ lo hi z).toNat = decide (z < lo) := by
  unfold letZ
  by_cases h : z < lo
  · rw [if_pos h, decide_eq_true h]
    decide
  · rw [if_neg h, decide_eq_false h]
    split <;> decide
theorem bit_beh (lo hi z : Int) (hl : lo ≤ hi) : bit33 (letZ lo hi z + 3).toNat = decide (hi ≤ z) := by
  unfold letZ
  by_cases h : z < lo
  · rw [if_pos h, decide_eq_false (by omega)]
    decide
  · rw [if_neg h]
    by_cases h2 : z < hi
    · rw [if_pos h2, decide_eq_false (by omega)]
      decide
    · rw [if_neg h2, decide_eq_true (by omega)]
      decide
/-- under the house l-h a row of different weights is free exactly at its tame places -/
theorem help_tam {ns : List Int} {p : Nat} (hn : ns.Nodup) (hp : p + 1 < ns.length) : decide (0 < (helpL ns p).length) = tamB ns p := by
  obtain ⟨x, hx⟩ := get_i (ns := ns) (i := p) (by omega)
  obtain ⟨y, hy⟩ := get_i (ns := ns) (i := p + 1) hp
  have uniq : ∀ {i j : Nat} {z : Int}, ns[i]? = some z → ns[j]? = some z → i = j := fun {i j z} h1 h2 => by
    have hi := (List.getElem?_eq_some_iff.mp h1).1
    exact (List.getElem?_inj hi hn).mp (h1.trans h2.symm)
  have hxy : x ≠ y := fun e => by
    subst e
    have := uniq hx hy
    omega
  have elo : lo2 ns p = min x y := by
    unfold lo2
    rw [getD_of hx, getD_of hy]
  have ehi : hi2 ns p = max x y := by
    unfold hi2
    rw [getD_of hx, getD_of hy]
  have hle : lo2 ns p ≤ hi2 ns p := by
    rw [elo, ehi]
    omega
  have nlo : ∀ {k : Nat} {z : Int}, ns[k]? = some z → k ≠ p → k ≠ p + 1 → z ≠ min x y ∧ z ≠ max x y := fun {k z} hk h1 h2 => by
    have e1 : z ≠ x := fun e => h1 (uniq (by rw [hk, e]) hx)
    have e2 : z ≠ y := fun e => h2 (uniq (by rw [hk, e]) hy)
    omega
  rw [tam_any hx hy, decide_eq_true hxy, Bool.true_and, Bool.eq_iff_iff, decide_eq_true_eq, Bool.or_eq_true]
  unfold helpL
  rw [List.length_map, List.length_pos_iff_exists_mem]
  constructor
  · rintro ⟨d, hd⟩
    obtain ⟨hm, hb⟩ := List.mem_filter.mp hd
    rcases List.mem_append.mp hm with hm | hm
    · obtain ⟨i, hi, rfl⟩ := List.mem_map.mp hm
      have hi := List.mem_range.mp hi
      obtain ⟨z, hz⟩ := get_i (ns := ns) (i := i) (by omega)
      have hb : bit33 ((letL ns p).getD i 0).toNat = true := hb
      rw [let_get hz, bit_bef, decide_eq_true_eq, elo] at hb
      exact .inl (List.any_eq_true.mpr ⟨z, List.mem_of_getElem? (i := i) (by rw [List.getElem?_take, if_pos hi]; exact hz), decide_eq_true (by omega)⟩)
    · obtain ⟨j, hj, rfl⟩ := List.mem_map.mp hm
      have hj := List.mem_range.mp hj
      obtain ⟨z, hz⟩ := get_i (ns := ns) (i := p + 2 + j) (by omega)
      have hb : bit33 ((letL ns p).getD (p + 2 + j) 0 + 3).toNat = true := hb
      rw [let_get hz, bit_beh _ _ _ hle, decide_eq_true_eq, ehi] at hb
      exact .inr (List.any_eq_true.mpr ⟨z, List.mem_of_getElem? (i := j) (by rw [List.getElem?_drop]; exact hz), decide_eq_true hb⟩)
  · rintro (h | h)
    · obtain ⟨z, hz, hb⟩ := List.any_eq_true.mp h
      have hb := of_decide_eq_true hb
      obtain ⟨k, hk⟩ := List.mem_iff_getElem?.mp hz
      have hk2 := (List.getElem?_eq_some_iff.mp hk).1
      rw [List.length_take] at hk2
      rw [List.getElem?_take, if_pos (by omega)] at hk
      have := nlo hk (by omega) (by omega)
      refine ⟨ikD k ((letL ns p).getD k 0), List.mem_filter.mpr ⟨List.mem_append_left _ (List.mem_map.mpr ⟨k, List.mem_range.mpr (by omega), rfl⟩), ?_⟩⟩
      show bit33 ((letL ns p).getD k 0).toNat = true
      rw [let_get hk, bit_bef, elo]
      exact decide_eq_true (by omega)
    · obtain ⟨z, hz, hb⟩ := List.any_eq_true.mp h
      have hb := of_decide_eq_true hb
      obtain ⟨k, hk⟩ := List.mem_iff_getElem?.mp hz
      rw [List.getElem?_drop] at hk
      have hk2 := (List.getElem?_eq_some_iff.mp hk).1
      refine ⟨ikD (p + 2 + k) ((letL ns p).getD (p + 2 + k) 0 + 3), List.mem_filter.mpr ⟨List.mem_append_right _ (List.mem_map.mpr ⟨k, List.mem_range.mpr (by omega), rfl⟩), ?_⟩⟩
      show bit33 ((letL ns p).getD (p + 2 + k) 0 + 3).toNat = true
      rw [let_get hk, bit_beh _ _ _ hle, ehi]
      exact decide_eq_true hb
section
variable {P : Program} {w : World} {K : PySem.W.Frag} {mg : Str → Option Value} {base : Heap}
/-- the method names_index -/
def BitM (P : Program) (w : World) (K : PySem.W.Frag) (mg : Str → Option Value) (base : Heap) (CH : Addr) : Prop := ∃ f fd, Meth K CH "names_index" f ∧ FnOk P w K mg base CX0 1 f fd ["self", "index"] (spBit CH) ∧ Binds K fd ["self", "index"] []
def spHP (K : PySem.W.Frag) (CH : Addr) (then_ : (Addr → Prop) → List Int → Nat → Hp → VK → Prop) : Sp := fun vs H Q _ => ∃ (M : Addr → Prop) (u v : V) (h : Addr) (tp : Bool) (ns : List Int) (p : Nat), vs = [u, v, .ref h] ∧ Alive M H ∧ Rp K M H u (sqD tp (ns.map PyData.int)) ∧ Rp K M H v (.int (p : Nat)) ∧ p + 1 < ns.length ∧ ns.length ≤ 40 ∧ HAt CH H h ∧ ¬ M h ∧ then_ M ns p H Q
theorem befL_ok {ns : List Int} {p : Nat} (hp : p + 1 < ns.length) {d : PyData} (h : d ∈ befL ns p ++ behL ns p) : ∃ i k : Nat, k ≤ 5 ∧ d = ikD i (k : Nat) := by
  rcases List.mem_append.mp h with h | h
  · obtain ⟨i, hi, rfl⟩ := List.mem_map.mp h
    have hi := List.mem_range.mp hi
    obtain ⟨z, hz⟩ := get_i (ns := ns) (i := i) (by omega)
    have lr := let_range (lo2 ns p) (hi2 ns p) z
    exact ⟨i, (letZ (lo2 ns p) (hi2 ns p) z).toNat, by omega, by rw [let_get hz]; show PyData.tuple [_, .int _] = .tuple [_, .int _]; rw [Int.toNat_of_nonneg (by omega)]⟩
  · obtain ⟨j, hj, rfl⟩ := List.mem_map.mp h
    have hj := List.mem_range.mp hj
    obtain ⟨z, hz⟩ := get_i (ns := ns) (i := p + 2 + j) (by omega)
    have lr := let_range (lo2 ns p) (hi2 ns p) z
    exact ⟨p + 2 + j, (letZ (lo2 ns p) (hi2 ns p) z + 3).toNat, by omega, by rw [let_get hz]; show PyData.tuple [_, .int _] = .tuple [_, .int _]; rw [Int.toNat_of_nonneg (by omega)]⟩
theorem NTins {C dx : Addr} {fs : List (Str × V)} : NT (.ins C dx fs) := fun _ z => by cases z
theorem cl_helper_indexes {f CH : Addr} {fd : FuncData} (F : At K mg "_helper_indexes" s_helper_indexes f fd) (B : HouC K CH) (bm : BitM P w K mg base CH) (ct : Cl P w K mg base CX0 1 "_third_kinds" (FreshR K R_third)) :
    Cl P w K mg base CX0 2 "_helper_indexes" (spHP K CH fun M ns p H Q => ∀ l ws H', H l = none → Evl.Ex H H' → H' l = some (.lst ws) → RpAll K M H' ws (helpL ns p) → Q (.ref l) H') := by
  refine ⟨f, fd, _, F.fn.ok sc_helper_indexes (fun vs H Q E h => ?_) (fun cdv A outer sh H vs Q E hr h => ⟨_, wB.ps, ?_⟩), F.gl, F.fn.kp, F.fn.binds fun _ _ _ _ _ _ us hl => match us, hl with | [_, _, _], _ => rfl⟩
  · obtain ⟨M, u, v, h, tp, ns, p, rfl, _⟩ := h
    rfl
  · obtain ⟨M, u, v, h, tp, ns, p, rfl, al, r1, r2, hp, hl, ⟨dx, hh⟩, nh, q⟩ := h
    obtain ⟨fb, fdb, bm1, bm2, bm3⟩ := bm
    refine b_cons (cs_ret (ce_fd al (fd_filterO (t := .two 3 4) (own := [("index", 3), ("kind", 4)]) bD fD rfl sc_helper_indexes.nd (src_list (FD.pd (fd_callC ct hr (by decide) rfl (ad_cons (nm 0 r1) (ad_cons (nm 1 r2) ad_nil)) ⟨tp, ns, p, hp, by omega, rfl, rfl⟩))) (blkOk_by (N := n_helper_indexes) (sc := defScope s_helper_indexes) (by decide +kernel)) (fun _ _ _ _ _ => pg_tup rfl (pgs_cons (pg_name (i := 3) sc_helper_indexes.nd rfl (.inl rfl)) (pgs_cons (pg_name (i := 4) sc_helper_indexes.nd rfl (.inl rfl)) pgs_nil))) ?_ ?_ ?_ ?_) q))
    · intro d hd
      obtain ⟨i, k, _, rfl⟩ := befL_ok hp hd
      exact ⟨_, _, rfl⟩
    · rintro M H d σ' ⟨_, _, _, _, _, _, _, rfl⟩
      rfl
    · have : (befL ns p ++ behL ns p).length ≤ 100000 := by
        unfold befL behL
        rw [List.length_append, List.length_map, List.length_map, List.length_range, List.length_range]
        omega
      exact this
    · rintro s0 H0 C cl fp M' H' d σ' hM lift kp hd ⟨da, db, v1, v2, e, q1, q2, rfl⟩
      obtain ⟨i, k, hk, rfl⟩ := befL_ok hp hd
      cases e
      cases q2
      obtain ⟨hh', nh'⟩ := kp _ _ nh NTins hh
      refine ⟨td_val (.mk fun H1 e1 al1 Q q => ?_), PD.is (nm 3 q1) rfl⟩
      have hh1 := e1 _ _ hh' nh' NTins
      refine ce_meth (AtN.name (i := 2) rfl (by first | exact .inl rfl | exact .inr (.inl rfl) | exact .inr (.inr rfl)) rfl) B.ins.cl bm1 bm2 hr (by decide) bm3 pass0 hh1 rfl (ca_cons (ce_nm 4 (ca_nil ⟨h, k, rfl, by omega, ⟨dx, hh1⟩, fun H3 x3 => ?_⟩)))
      have e2 : bit33 k = bD (ikD i (k : Nat)) := rfl
      rw [e2]
      exact q _ H3 x3 (.bl _)
end
end DK

namespace DK
open PySem PySem.Spec PyProof.Rows L2 GV
section
variable {P : Program} {w : World} {K : PySem.W.Frag} {mg : Str → Option Value} {base : Heap}
theorem cl_frees {f CH : Addr} {fd : FuncData} (F : At K mg "frees" s_frees f fd) (nb : NoB mg) (ch : Cl P w K mg base CX0 2 "_helper_indexes" (spHP K CH fun M ns p H Q => ∀ l ws H', H l = none → Evl.Ex H H' → H' l = some (.lst ws) → RpAll K M H' ws (helpL ns p) → Q (.ref l) H')) :
    Cl P w K mg base CX0 3 "frees" (spHP K CH fun M ns p H Q => ∀ H', Evl.Ex H H' → Q (.bl (decide (0 < (helpL ns p).length))) H') := by
  refine ⟨f, fd, _, F.fn.ok sc_frees (fun vs H Q E h => ?_) (fun cdv A outer sh H vs Q E hr h => ⟨_, wB.ps, ?_⟩), F.gl, F.fn.kp, F.fn.binds fun _ _ _ _ _ _ us hl => match us, hl with | [_, _, _], _ => rfl⟩
  · obtain ⟨M, u, v, h, tp, ns, p, rfl, _⟩ := h
    rfl
  · obtain ⟨M, u, v, h, tp, ns, p, rfl, al, r1, r2, hp, hl, hh, nh, q⟩ := h
    refine b_cons (s_ret al (pd_gt (pd_len nb rfl (FD.pd (ds := helpL ns p) (.mk fun H1 e1 al1 Q q => ?_)) rfl) pd_int) fun v2 H2 x2 r2 => ?_)
    · exact ce_call ch hr (by decide) rfl (ca_cons (ce_nm 0 (ca_cons (ce_nm 1 (ca_cons (ce_nm 2 (ca_nil ⟨M, u, v, h, tp, ns, p, rfl, al1, r1.mono (fun _ z => z) e1, r2.mono (fun _ z => z) e1, hp, hl, hh.ex fun o ho => e1 _ _ ho nh (by obtain ⟨dx, e⟩ := hh; rw [e] at ho; cases ho; exact NTins), nh, q⟩)))))))
    · cases r2
      have e : decide ((0 : Int) < ((helpL ns p).length : Nat)) = decide (0 < (helpL ns p).length) := by
        rw [Bool.eq_iff_iff, decide_eq_true_eq, decide_eq_true_eq]
        omega
      rw [e]
      exact q H2 x2
/-! ### the checks of a row, of a house -/
def spRowOk (K : PySem.W.Frag) (g : Hp → VK → Prop) : Sp := fun vs H Q _ => ∃ (M : Addr → Prop) (v : V) (tp : Bool) (ns : List Int), vs = [v] ∧ Alive M H ∧ BagV K M H v tp ns ∧ ns.Nodup ∧ g H Q
theorem bagB_of {tp : Bool} {ns : List Int} (hl : ns.length ≤ 40) (hw : ∀ z ∈ ns, isWeightD (.int z) = true) : bagB (sqD tp (ns.map PyData.int)) = true := by
  have e : (ns.map PyData.int).all isWeightD = true := List.all_eq_true.mpr fun d hd => by
    obtain ⟨z, hz, rfl⟩ := List.mem_map.mp hd
    exact hw z hz
  have e2 : decide ((ns.map PyData.int).length ≤ 40) = true := decide_eq_true (by rw [List.length_map]; exact hl)
  cases tp <;> (show (true && decide ((ns.map PyData.int).length ≤ 40) && (ns.map PyData.int).all isWeightD) = true; rw [e, e2]; rfl)
theorem parts_sq' (tp : Bool) (ds : List PyData) : (partsD (sqD tp ds)).length = ds.length := by cases tp <;> rfl
theorem cl_is_row {f : Addr} {fd : FuncData} (F : At K mg "is_row" s_is_row f fd) (nb : NoB mg) (c1 : Cl P w K mg base CX0 4 "is_bag_row" (PureR K R_bag)) : Cl P w K mg base CX0 5 "is_row" (spRowOk K fun H Q => ∀ H', Evl.Ex H H' → Q (.bl true) H') := by
  refine ⟨f, fd, _, F.fn.ok sc_is_row (fun vs H Q E h => ?_) (fun cdv A outer sh H vs Q E hr h => ⟨_, wB.ps, ?_⟩), F.gl, F.fn.kp, F.fn.binds fun _ _ _ _ _ _ us hl => match us, hl with | [_], _ => rfl⟩
  · obtain ⟨M, v, tp, ns, rfl, _⟩ := h
    rfl
  · obtain ⟨M, v, tp, ns, rfl, al, ⟨r1, hl, hw⟩, hn, q⟩ := h
    have hb := bagB_of (tp := tp) hl hw
    refine b_cons (s_ret al (pd_and (k1 := true) (k2 := true) (PD.is (pd_callC c1 hr (by decide) rfl (ad_cons (nm 0 r1) ad_nil) ⟨_, rfl, (by rw [parts_sq', List.length_map]; omega), rfl⟩) (by rw [hb])) fun _ => pd_one (PD.is (pd_eq hr.units (pd_lenSet rfl rfl nb.len rfl nb.set (nm 0 r1) (by omega)) (pd_len nb rfl (nm 0 r1) (n := ns.length) (by rw [len_sq, List.length_map])) rfl rfl) ?_)) fun v2 H2 x2 r2 => ?_)
    · rw [dd_eq.mpr hn, eqv_int]
      simp
    · cases r2
      exact q H2 x2
theorem cl_check_row {f CR : Addr} {fd : FuncData} (F : At K mg "check_row" s_check_row f fd) (c1 : Cl P w K mg base CX0 5 "is_row" (spRowOk K fun H Q => ∀ H', Evl.Ex H H' → Q (.bl true) H')) : Cl P w K mg base CX0 6 "check_row" (spRowOk K fun H Q => ∀ H', Evl.Ex H H' → Q .non H') := by
  refine ⟨f, fd, _, F.fn.ok sc_check_row (fun vs H Q E h => ?_) (fun cdv A outer sh H vs Q E hr h => ⟨_, wB.ps, ?_⟩), F.gl, F.fn.kp, F.fn.binds fun _ _ _ _ _ _ us hl => match us, hl with | [_], _ => rfl⟩
  · obtain ⟨M, v, tp, ns, rfl, _⟩ := h
    rfl
  · obtain ⟨M, v, tp, ns, rfl, al, bg, hn, q⟩ := h
    exact b_cons (cs_if (ct_not (ct_val (ce_call c1 hr (by decide) rfl (ca_cons (ce_nm 0 (ca_nil ⟨M, v, tp, ns, rfl, al, bg, hn, fun H2 x2 => ⟨true, rfl, b_nil (b_nil (q H2 x2))⟩⟩)))))))
theorem cl_check_house {f CH : Addr} {fd : FuncData} (F : At K mg "check_house" s_check_house f fd) (nb : NoB mg) (B : HouC K CH) (gH : mg "House" = some (.ref CH)) : Cl P w K mg base CX0 1 "check_house" (fun vs H Q _ => ∃ h, vs = [.ref h] ∧ HAt CH H h ∧ ∀ H', Evl.Ex H H' → Q .non H') := by
  refine ⟨f, fd, _, F.fn.ok sc_check_house (fun vs H Q E h => ?_) (fun cdv A outer sh H vs Q E hr h => ⟨_, wB.ps, ?_⟩), F.gl, F.fn.kp, F.fn.binds fun _ _ _ _ _ _ us hl => match us, hl with | [_], _ => rfl⟩
  · obtain ⟨h, rfl, _⟩ := h
    rfl
  · obtain ⟨h, rfl, ⟨dx, hh⟩, q⟩ := h
    exact b_cons (cs_if (ct_not (ct_val ⟨_, pe_callB (C8.call_isC B.ins) rfl nb.isinstance PyProof.Rows.boot_isinstance (pa_cons wE.pe (pa_cons (pe_glob rfl gH (v := .ref CH) rfl (by decide)) pa_nil)) (by decide) (by decide), ce_nm 0 ⟨h, dx, _, rfl, hh, ⟨true, rfl, b_nil (b_nil (q H (Evl.Ex.refl H)))⟩⟩⟩)))
theorem cl_free_places {f CH : Addr} {fd : FuncData} (F : At K mg "free_places" s_free_places f fd) (nb : NoB mg) (c1 : Cl P w K mg base CX0 6 "check_row" (spRowOk K fun H Q => ∀ H', Evl.Ex H H' → Q .non H'))
    (c2 : Cl P w K mg base CX0 1 "check_house" (fun vs H Q _ => ∃ h, vs = [.ref h] ∧ HAt CH H h ∧ ∀ H', Evl.Ex H H' → Q .non H')) (cf : Cl P w K mg base CX0 3 "frees" (spHP K CH fun M ns p H Q => ∀ H', Evl.Ex H H' → Q (.bl (decide (0 < (helpL ns p).length))) H')) :
    Cl P w K mg base CX0 7 "free_places" (fun vs H Q _ => ∃ (M : Addr → Prop) (v : V) (h : Addr) (tp : Bool) (ns : List Int), vs = [v, .ref h] ∧ Alive M H ∧ BagV K M H v tp ns ∧ ns.Nodup ∧ HAt CH H h ∧ ¬ M h ∧ ∀ l ws H', H l = none → Evl.Ex H H' → H' l = some (.lst ws) → RpAll K M H' ws (natD (tameL ns)) → Q (.ref l) H') := by
  refine ⟨f, fd, _, F.fn.ok sc_free_places (fun vs H Q E h => ?_) (fun cdv A outer sh H vs Q E hr h => ⟨_, wB.ps, ?_⟩), F.gl, F.fn.kp, F.fn.binds fun _ _ _ _ _ _ us hl => match us, hl with | [_, _], _ => rfl⟩
  · obtain ⟨M, v, h, tp, ns, rfl, _⟩ := h
    rfl
  · obtain ⟨M, v, h, tp, ns, rfl, al, bg, hn, hh, nh, q⟩ := h
    have hl := bg.2.1
    refine b_cons (cs_expr (ce_call c1 hr (by decide) rfl (ca_cons (ce_nm 0 (ca_nil ⟨M, v, tp, ns, rfl, al, bg, hn, fun H2 x2 => ?_⟩)))))
    have hh2 := hh.ex fun o ho => x2 _ _ ho
    refine b_cons (cs_expr (ce_call c2 hr (by decide) rfl (ca_cons (ce_nm 1 (ca_nil ⟨h, rfl, hh2, fun H3 x3 => ?_⟩)))))
    have hh3 := hh2.ex fun o ho => x3 _ _ ho
    have al3 := (al.mono x2).mono x3
    have bg3 := bg.mono (fun _ z => z) (ExM.of (x2.trans x3))
    refine b_cons (cs_ret (ce_fd al3 (fd_filterO (t := .one 2) (own := [("place", 2)]) (fun d => match d with | .int i => tamB ns i.toNat | _ => false) id rfl sc_free_places.nd (src_range1 rfl nb.range (pd_sub (pd_len nb rfl (nm 0 bg3.1) (n := ns.length) (by rw [len_sq, List.length_map])) pd_int) (by omega) (by omega)) (blkOk_by (N := n_free_places) (sc := defScope s_free_places) (by decide +kernel)) (fun _ _ _ _ _ => pg_name (i := 2) sc_free_places.nd rfl (.inl rfl)) (fun _ _ => trivial) ?_ ?_ ?_) fun l ws H4 hl4 x4 h4 r4 => q l ws H4 (Evl.fresh_back (x2.trans x3) hl4) ((x2.trans x3).trans x4) h4 ?_))
    · rintro M H d σ' ⟨v, _, rfl⟩
      rfl
    · rw [List.length_map, List.length_range]
      omega
    · rintro s0 H0 C cl fp M' H' d σ' hM lift kp hd ⟨v', rv, rfl⟩
      obtain ⟨i, hi, rfl⟩ := List.mem_map.mp hd
      have hi := List.mem_range.mp hi
      rw [Int.zero_add] at rv ⊢
      obtain ⟨dx, e3⟩ := hh3
      obtain ⟨h5, nh5⟩ := kp _ _ nh NTins e3
      refine ⟨td_val (.mk fun H1 e1 al1 Q q => ?_), nm 2 rv⟩
      refine ce_call cf hr (by decide) rfl (ca_cons (ce_nm 0 (ca_cons (ce_nm 2 (ca_cons (ce_nm 1 (ca_nil ⟨M', v, v', h, tp, ns, i, rfl, al1, (lift _ _ bg3.1).mono (fun _ z => z) e1, rv.mono (fun _ z => z) e1, by omega, hl, ⟨dx, e1 _ _ h5 nh5 NTins⟩, nh5, fun H6 x6 => ?_⟩)))))))
      rw [help_tam hn (by omega)]
      exact q _ H6 x6 (.bl _)
    · have e : (((List.range ((ns.length : Int) - 1).toNat).map fun i => PyData.int (0 + (i : Nat))).filter fun d => match d with | .int i => tamB ns i.toNat | _ => false).map id = natD (tameL ns) := by
        rw [List.map_id, List.filter_map]
        unfold natD tameL
        rw [show ((ns.length : Int) - 1).toNat = ns.length - 1 by omega]
        have e1 : ((fun d => match d with | .int i => tamB ns i.toNat | _ => false) ∘ fun i : Nat => PyData.int (0 + (i : Nat))) = tamB ns := by
          funext i
          show tamB ns (0 + (i : Int)).toNat = _
          rw [show (0 + (i : Int)).toNat = i by omega]
        rw [e1]
        exact List.map_congr_left fun i _ => by rw [Int.zero_add]
      rw [e] at r4
      exact r4
end
end DK

namespace DK
open PySem PySem.Spec PyProof.Rows L2 GV
theorem eqvAll_map {α : Type} [DecidableEq α] (f : α → PyData) (hf : ∀ p q, PyData.eqv (f p) (f q) = decide (p = q)) : ∀ l m : List α, PyData.eqvAll (l.map f) (m.map f) = decide (l = m)
  | [], [] => by simp [PyData.eqvAll]
  | [], _ :: _ => by simp [PyData.eqvAll]
  | _ :: _, [] => by simp [PyData.eqvAll]
  | x :: l, y :: m => by
    show (PyData.eqv (f x) (f y) && PyData.eqvAll (l.map f) (m.map f)) = _
    rw [hf, eqvAll_map f hf l m, Bool.eq_iff_iff, Bool.and_eq_true, decide_eq_true_eq, decide_eq_true_eq, decide_eq_true_eq, List.cons.injEq]
theorem eqv_ints (ns ms : List Int) : PyData.eqv (intsD ns) (intsD ms) = decide (ns = ms) := by
  show PyData.eqvAll _ _ = _
  exact eqvAll_map PyData.int eqv_int ns ms
theorem Rp.sameB {K : PySem.W.Frag} {M : Addr → Prop} {H : Hp} {v : V} {d : PyData} (r : Rp K M H v d) : sameB v = true := by
  cases r <;> rfl
theorem Arg.sameB {K : PySem.W.Frag} {M : Addr → Prop} {H : Hp} {v : V} {b : Bool} (h : Arg K M H v b) : sameB v = true := by
  rcases h with ⟨d, r, _⟩ | ⟨_, a, kvs, rfl, _⟩
  · exact DK.Rp.sameB r
  · rfl
theorem WArg.sameB {K : PySem.W.Frag} {M : Addr → Prop} {H : Hp} {n : Nat} {v : V} {b : Bool} (h : WArg K M H n v b) : sameB v = true := by
  rcases h with ⟨d, r, _⟩ | ⟨_, a, kvs, rfl, _⟩
  · exact DK.Rp.sameB r
  · rfl
theorem tabs_eqB {a : Addr} {H H' : Hp} {T : List (Addr × Str)} {xs : List V} (t : LamX.Tabs T H) (e : ExB a H H') (h : H a = some (.lst xs)) : LamX.Tabs T H' := GV.Tabs.exS (S := fun x => x = a) t (fun x o n h => e x o n h) fun x e => ⟨_, e ▸ h⟩
theorem exM_ofN {M : Addr → Prop} {H H' : Hp} (e : LamX.ExtN H H') : ExM M H H' := fun a o h _ n => e a o h n
theorem natD_eq (ps : List Nat) : natD ps = (natI ps).map PyData.int := by
  unfold natD natI
  rw [List.map_map]
  rfl
theorem BagV.m0 {K : PySem.W.Frag} {M : Addr → Prop} {H : Hp} {v : V} {tp : Bool} {ns : List Int} (h : BagV K M H v tp ns) : BagV K M0 H v tp ns := ⟨h.1.m0, h.2⟩
abbrev barD (p s : Int) : PyData := .tuple [.str "Barred", .int p, .int s]
theorem eqv_bar (p s : Int) : PyData.eqv (barD p s) (barD p s) = true := by
  show (PyData.eqv (.str "Barred") (.str "Barred") && (PyData.eqv (.int p) (.int p) && (PyData.eqv (.int s) (.int s) && true))) = true
  rw [eqv_int, eqv_int, decide_eq_true rfl, decide_eq_true rfl]
  decide
theorem lk_step (a b : V) : List.lookup ("step" : Str) [(("step" : Str), a), (("place" : Str), b)] = some a := by simp [List.lookup]
theorem lk_place (a b : V) : List.lookup ("place" : Str) [(("step" : Str), a), (("place" : Str), b)] = some b := by
  have h : (("place" : Str) == ("step" : Str)) = false := by decide
  simp [List.lookup, h]
theorem shaped_bar (p s : Int) : SeqAt.shaped (barD p s) = true := by
  refine shaped_of ?_ (Nat.le_trans (show (barD p s).depth ≤ 1 from Nat.le_of_eq rfl) (by decide))
  have h : PyData.canLay0 (.str "Barred") = true := by decide +kernel
  show (PyData.canLay0 (.str "Barred") && (PyData.canLay0 (.int p) && (PyData.canLay0 (.int s) && true))) = true
  rw [h]
  rfl
theorem NewT.rp {K : PySem.W.Frag} {H : Hp} {p : Addr} {vs : List V} {ds : List PyData} (h : H p = some (.tup vs)) (r : RpAll K M0 H vs ds) : Rp K M0 H (.ref p) (.tuple ds) := .tup (fun z => z) (.inl h) r
section
variable {P : Program} {w : World} {K : PySem.W.Frag} {mg : Str → Option Value} {base : Heap}
/-! ### Barred, as isinstance sees it -/
structure BarIs (K : PySem.W.Frag) (mg : Str → Option Value) (CB CP CM : Addr) : Prop where
  ec : ExcC K CB
  gM : mg "MillError" = some (.ref CM)
  gV : mg "ValueError" = none
  em : PySem.W.exmOne K (.ref CB) (.ref CM) = some true
  kV : PySem.W.kitOne K (.ref CB) (.type "ValueError") = some true
  kB : PySem.W.kitOne K (.ref CB) (.ref CB) = some true
  kP : PySem.W.kitOne K (.ref CB) (.ref CP) = some false
abbrev TCh (P : Program) (w : World) (K : PySem.W.Frag) (mg : Str → Option Value) (base : Heap) (CR CP CB : Addr) : Prop := Cl P w K mg base (L2.CX P w) 6 "tame_change" (spRP K CR CP fun M _ ns p H Q E => (tamB ns p = true → ∀ v H', Evl.Ex H H' → Rp K M H' v (tintsD (exch ns p)) → Q v H') ∧ (tamB ns p = false → ∀ H1, Evl.Ex H H1 → Raised CB [("step", .int 0), ("place", .int (p : Nat))] H1 E))
theorem cl_barred_by_base {f CR CP CB CM CW : Addr} {fd : FuncData} (F : At K mg "_law_barred_by_base" s_law_barred_by_base f fd) (nb : NoB mg) (Bi : BarIs K mg CB CP CM) (To : Told K mg CR CP CW CB) (ct : TCh P w K mg base CR CP CB) :
    Cl P w K mg base CX0 7 "_law_barred_by_base" (fun vs H Q _ => ∃ (v pv : V) (tp : Bool) (ns : List Int) (p : Nat), vs = [v, pv] ∧ BagV K M0 H v tp ns ∧ Rp K M0 H pv (.int (p : Nat)) ∧ p + 1 < ns.length ∧ tamB ns p = false ∧ ∀ H', Evl.Ex H H' → Q (.bl true) H') := by
  refine ⟨f, fd, _, F.fn.ok sc_law_barred_by_base (fun vs H Q E h => ?_) (fun cdv A outer s H vs Q E hr h => ⟨_, wB.ps, ?_⟩), F.gl, F.fn.kp, F.fn.binds fun _ _ _ _ _ _ us hl => match us, hl with | [_, _], _ => rfl⟩
  · obtain ⟨v, pv, tp, ns, p, rfl, _⟩ := h
    rfl
  · obtain ⟨v, pv, tp, ns, p, rfl, bg, rp, hp, hb, q⟩ := h
    refine b_cons (s_try (Wout := fun _ _ _ _ => False) rfl rfl sc_law_barred_by_base.nd tkF (.as_ (i := 2) ⟨rfl, by decide, .inl Bi.gM⟩ rfl rfl (fun a oe cls d pn hz hd => psW hz hd) .nil) fun pn xe tk => ?_)
    refine b_cons (cs_expr (ce_callX ct hr (by decide) rfl tk (ca_cons (ce_nm 0 (ca_cons (ce_nm 1 (ca_nil ⟨M0, v, pv, rfl, alive0, .inr ⟨tp, ns, _, bg, rp, .inr ⟨p, rfl, hp, ⟨(fun z => by rw [hb] at z; cases z), fun _ H1 x1 dd H2 hdd x2 h2 => ?_⟩⟩⟩⟩)))))))
    refine ⟨true, Bi.em, fun _ a ha hlt => ?_, fun z => by cases z⟩
    intro oe pn2 hz hd
    have hs : ∀ {H3 : Hp}, ExM M0 H2 H3 → H3 dd = some (.xd [("step", .int 0), ("place", .int (p : Nat))]) := fun e => e _ _ h2 (fun z => z) fun _ z => by cases z
    refine b_cons (s_ret (M := M0) (d := .bool true) alive0 (pd_and (k1 := true) (k2 := true) (.mk fun H3 e3 al3 Q q3 => ⟨_, pe_callB (call_isEd Bi.ec hz hd) rfl nb.isinstance PyProof.Rows.boot_isinstance (pa_cons wE.pe (pa_cons (pe_bltn (v := .ty "ValueError") rfl Bi.gV (by decide +kernel) rfl) pa_nil)) (by decide) (by decide), ce_nm 2 ⟨hs e3, .ty "ValueError", .type "ValueError", true, rfl, fun u h => h, Bi.kV, q3 _ H3 (Evl.Ex.refl H3) (.bl true)⟩⟩) fun _ =>
      pd_and (k1 := true) (k2 := true) (.mk fun H3 e3 al3 Q q3 => ⟨_, pe_callB (call_isEd Bi.ec hz hd) rfl nb.isinstance PyProof.Rows.boot_isinstance (pa_cons wE.pe (pa_cons (pe_glob rfl To.gB (v := .ref CB) rfl (by decide)) pa_nil)) (by decide) (by decide), ce_nm 2 ⟨hs e3, .ref CB, .ref CB, true, rfl, fun u h => h, Bi.kB, q3 _ H3 (Evl.Ex.refl H3) (.bl true)⟩⟩) fun _ =>
        pd_one (pd_not (k := false) (.mk fun H3 e3 al3 Q q3 => ⟨_, pe_callB (call_isEd Bi.ec hz hd) rfl nb.isinstance PyProof.Rows.boot_isinstance (pa_cons wE.pe (pa_cons (pe_glob rfl To.gP (v := .ref CP) rfl (by decide)) pa_nil)) (by decide) (by decide), ce_nm 2 ⟨hs e3, .ref CP, .ref CP, false, rfl, fun u h => h, Bi.kP, q3 _ H3 (Evl.Ex.refl H3) (.bl false)⟩⟩))) fun v5 H5 x5 r5 => ?_)
    cases r5
    exact q H5 ((x1.trans x2).trans x5)
end
end DK

namespace DK
open PySem PySem.Spec PyProof.Rows L2 GV
section
variable {P : Program} {w : World} {K : PySem.W.Frag} {mg : Str → Option Value} {base : Heap}
abbrev spTP (K : PySem.W.Frag) (CR : Addr) : Sp := fun vs H Q E => ∃ (M : Addr → Prop) (v : V), vs = [v] ∧ Alive M H ∧ ((∃ tp ns, BagV K M H v tp ns ∧ ∀ p ws H', H p = none → Evl.Ex H H' → H' p = some (.lst ws) → RpAll K M H' ws (natD (tameL ns)) → Q (.ref p) H') ∨ (Arg K M H v false ∧ ∀ H1, Evl.Ex H H1 → Raised CR [("row", v)] H1 E))
abbrev spFP (K : PySem.W.Frag) (CH : Addr) : Sp := fun vs H Q _ => ∃ (M : Addr → Prop) (v : V) (h : Addr) (tp : Bool) (ns : List Int), vs = [v, .ref h] ∧ Alive M H ∧ BagV K M H v tp ns ∧ ns.Nodup ∧ HAt CH H h ∧ ¬ M h ∧ ∀ l ws H', H l = none → Evl.Ex H H' → H' l = some (.lst ws) → RpAll K M H' ws (natD (tameL ns)) → Q (.ref l) H'
abbrev spBB (K : PySem.W.Frag) : Sp := fun vs H Q _ => ∃ (v pv : V) (tp : Bool) (ns : List Int) (p : Nat), vs = [v, pv] ∧ BagV K M0 H v tp ns ∧ Rp K M0 H pv (.int (p : Nat)) ∧ p + 1 < ns.length ∧ tamB ns p = false ∧ ∀ H', Evl.Ex H H' → Q (.bl true) H'
/-- all that the law calls -/
structure Calls (P : Program) (w : World) (K : PySem.W.Frag) (mg : Str → Option Value) (base : Heap) (CR CP CW CB CH : Addr) : Prop where
  nb : NoB mg
  draw : Cl P w K mg base CX0 1 "_law_draw" spDraw
  pot : Cl P w K mg base CX0 1 "_law_pot" (spPot K)
  bag : Cl P w K mg base CX0 3 "_law_bag" spBagRow
  given : Cl P w K mg base CX0 3 "_law_given" (spGiven K)
  bad : Cl P w K mg base CX0 3 "_law_bad_row" (spBad K)
  isL : Cl P w K mg base CX0 2 "_law_is_list" (PureR K R_list)
  isR : Cl P w K mg base CX0 3 "_law_is_row" (PureR K R_row)
  tl : Cl P w K mg base CX0 2 "_law_tame_list" (FreshR K R_tameL)
  exc : Cl P w K mg base CX0 1 "_law_exchanged" (FreshR K R_exch)
  tp : Cl P w K mg base (L2.CX P w) 6 "tame_places" (spTP K CR)
  it : Cl P w K mg base (L2.CX P w) 6 "is_tame" (spRP K CR CP fun _ _ ns p H Q _ => ∀ H', Evl.Ex H H' → Q (.bl (tamB ns p)) H')
  tc : TCh P w K mg base CR CP CB
  ta : Cl P w K mg base (L2.CX P w) 6 "tame_after" (spAfter K CR CW CB)
  fp : Cl P w K mg base CX0 7 "free_places" (spFP K CH)
  bb : Cl P w K mg base CX0 7 "_law_barred_by_base" (spBB K)
  mkH : ∃ fI fdI, Mk K CH fI ∧ FnOk P w K mg base CX0 2 fI fdI ["self", "text"] (spHInit CH) ∧ Binds K fdI ["self", "text"] []
  gH : mg "House" = some (.ref CH)
  toldF : ∃ g fd, At K mg "_law_told" s_law_told g fd
  told : Told K mg CR CP CW CB
/-- House("l-h") -/
theorem ce_house {X : Cx} {σ : St} {H : Hp} {CH : Addr} {p pos p2 : Pos} {j : Nat} {n : Nat} {Q : VK} (mk : ∃ fI fdI, Mk X.K CH fI ∧ FnOk X.prog X.w X.K X.mg X.base CX0 2 fI fdI ["self", "text"] (spHInit CH) ∧ Binds X.K fdI ["self", "text"] []) (gH : X.mg "House" = some (.ref CH)) (hr : Room j X.A) (hj : 3 ≤ j) (hg : Gl X "House")
    (q : ∀ h H', H h = none → Evl.Ex H H' → HAt CH H' h → Q (.ref h) H') (he : starEach (.Constant (.str "l-h") n p2 :: []) X.env = (false, eval (.Constant (.str "l-h") n p2) X.env) :: starEach [] X.env := by rfl) (hpl : (backTo pos (starEach [] X.env)).any (·.1) = false := by rfl) : wE X (.Call (.Name "House" p) [.Constant (.str "l-h") n p2] [] pos) σ H Q := by
  obtain ⟨fI, fdI, m, ok, bi⟩ := mk
  refine ⟨_, pe_make m ok (hr.mono hj) hg gH bi .nil pass0 wA.pa (by decide) he hpl, ca_cons (ce_str (ca_nil fun x dx hx hdx ne => ?_)) he⟩
  refine ⟨x, dx, rfl, upd_same, fun H' k a => ⟨rfl, q x H' hx (fun b o hb => ?_) a⟩⟩
  have nx : b ≠ x := ne_of_none hb hx
  exact k b o (by rw [upd_ne nx, upd_ne (ne_of_none hb hdx)]; exact hb) nx
def spPK (K : PySem.W.Frag) (T : List (Addr × Str)) : Sp := fun vs H Q _ => ∃ (u v : V) (tp : Bool) (ns : List Int), vs = [u, v] ∧ Rp K M0 H u (intsD ns) ∧ BagV K M0 H v tp ns ∧ LamX.Tabs T H ∧ ∀ H', LamX.ExtN H H' → LamX.Tabs T H' → Q (.bl true) H'
theorem cl_places_kept {f CR CP CW CB CH : Addr} {fd : FuncData} {cdv : Value} {T : List (Addr × Str)} (F : FunC K mg "_law_places_kept" s_law_places_kept f fd cdv) (L : Calls P w K mg base CR CP CW CB CH)
    (lb : LamB mg base T cdv ((PyProof.Rows.envOfC "_law_places_kept" (defScope s_law_places_kept) 0 f cdv).qual ++ "<lambda>")) : Cl P w K mg base CX0 9 "_law_places_kept" (spPK K T) := by
  have nb := L.nb
  refine ⟨f, fd, _, F.ok sc_law_places_kept (fun vs H Q E h => ?_) (fun A outer sh H vs Q E hr h => ?_), F.gl, F.kp, F.fn.binds fun _ _ _ _ _ _ us hl => match us, hl with | [_, _], _ => rfl⟩
  · obtain ⟨u, v, tp, ns, rfl, _⟩ := h
    rfl
  · obtain ⟨u, v, tp, ns, rfl, ru, bg, hT, q⟩ := h
    obtain ⟨g, fdT, FT⟩ := L.toldF
    have hl := bg.2.1
    have tlen := tameL_len ns
    refine b_cons (cs_set (i := 2) sc_law_places_kept.nd rfl (by first | exact .inl rfl | exact .inr rfl) (ce_fd (M := M0) alive0 (fd_callC L.tl hr (by decide) rfl (ad_cons (nm 0 ru) ad_nil) ⟨ns, by omega, rfl, rfl⟩) fun l ws H1 hl1 x1 h1 rw1 => ?_))
    rw [natD_eq] at rw1
    have rt : Rp K M0 H1 (.ref l) (intsD (natI (tameL ns))) := .lst (fun z => z) (.inl h1) rw1
    have ru1 := ru.mono (fun _ z => z) (ExM.of x1)
    have bg1 := bg.mono (fun _ z => z) (ExM.of x1)
    refine b_cons (s_if (M := M0) (k := false) alive0 (td_not (k := true) (td_val (pd_callC L.isL hr (by decide) rfl (ad_cons (FD.pd (ds := (natI (tameL ns)).map PyData.int) (.mk fun H2 e2 al2 Q q2 => ?_)) (ad_cons (nm 2 rt) ad_nil)) ⟨natI (tameL ns), by rw [natI_len]; omega, rfl, rfl⟩))) (fun k => by cases k) (fun _ H2 x2 => ?_))
    · exact ce_callX L.tp hr (by decide) rfl tkF (ca_cons (ce_nm 1 (ca_nil ⟨M0, v, rfl, al2, .inl ⟨tp, ns, bg1.mono (fun _ z => z) e2, fun p ws H3 hp x3 h3 r3 => q2 p ws H3 hp x3 h3 (by rw [← natD_eq]; exact r3)⟩⟩)))
    have x02 := x1.trans x2
    have t2 := hT.ext x02
    have ru2 := ru1.mono (fun _ z => z) (ExM.of x2)
    have bg2 := bg1.mono (fun _ z => z) (ExM.of x2)
    have rt2 := rt.mono (fun _ z => z) (ExM.of x2)
    refine b_nil (b_cons (s_for (M := M0) (t := .one 3) PassesOwn.never rfl (src_range1 rfl nb.range (pd_sub (pd_len nb rfl (nm 0 ru2) (n := ns.length) (by show some _ = some _; rw [List.length_map])) pd_int) (by omega) (by omega)) (pg_name (i := 3) sc_law_places_kept.nd rfl (by first | exact .inl rfl | exact .inr rfl)) alive0
      (fun Hs i σ' H' => (∃ xp xt, σ' = [some u, some v, some (.ref l), xp, xt]) ∧ LamX.ExtN Hs H' ∧ LamX.Tabs T H') ?_ ?_ (fun _ _ => trivial) ?_ ?_))
    · exact fun Hs xs => ⟨⟨_, _, rfl⟩, LamX.ExtN.refl _, t2.ext xs⟩
    · rintro Hs i σ' H' xs ⟨_, e, _⟩
      exact ⟨exM_ofN e, alive0⟩
    · rintro Hs i d σ' H' H3 σ2 xs hd ⟨⟨xp, xt, rfl⟩, e, t⟩ x3 ⟨v3, rv3, rfl⟩
      rw [List.getElem?_map] at hd
      obtain ⟨p, hp, rfl⟩ := Option.map_eq_some_iff.mp hd
      have hp := List.mem_range.mp (List.mem_of_getElem? hp)
      have hpn : p + 1 < ns.length := by omega
      rw [Int.zero_add] at rv3
      cases rv3
      have m3 : ExM M0 H2 H3 := (ExM.of xs).trans ((exM_ofN e).trans (.of x3))
      have ru3 := ru2.mono (fun _ z => z) m3
      have bg3 := bg2.mono (fun _ z => z) m3
      have rt3 := rt2.mono (fun _ z => z) m3
      have e3 : LamX.ExtN Hs H3 := e.trans (.of x3)
      have back : ∀ H4, LamX.ExtN H3 H4 → LamX.Tabs T H4 → ∀ xp xt, (∃ a b, [some u, some v, some (.ref l), xp, xt] = [some u, some v, some (.ref l), a, b]) ∧ LamX.ExtN Hs H4 ∧ LamX.Tabs T H4 := fun H4 e4 t4 xp xt => ⟨⟨_, _, rfl⟩, e3.trans e4, t4⟩
      refine b_cons (cs_set (i := 4) sc_law_places_kept.nd rfl (by first | exact .inl rfl | exact .inr rfl) (ce_told (k := 6) FT L.told lb (hr.mono (by decide)) rfl (LamX.lamS_by (by show LamX.lamSB (defScope s_law_places_kept) _ = true; decide +kernel)) rfl (fun _ _ _ _ _ => rfl) (t.ext x3) fun H4 e4 t4 A2 outer2 sh2 H02 f2 c2' hr2 => ?_))
      have m4 : ExM M0 H3 H4 := exM_ofN e4
      have ru4 := ru3.mono (fun _ z => z) m4
      have bg4 := bg3.mono (fun _ z => z) m4
      have rt4 := rt3.mono (fun _ z => z) m4
      refine ce_callX L.tc hr2 (by decide) rfl (takes_of rfl rfl rfl rfl) (ca_cons (ce_nm 1 (ca_cons (ce_nm 3 (ca_nil ⟨M0, v, _, rfl, alive0, .inr ⟨tp, ns, _, bg4, .int (p : Nat), .inr ⟨p, rfl, hpn, ⟨fun ht v5 H5 x5 r5 => ?_, fun ht H5 x5 d6 H6 hd6 x6 h6 => ?_⟩⟩⟩⟩)))))
      · -- a tame place
        intro p6 H6 hp6 x6 h6
        have x46 := x5.trans x6
        have rtold : Rp K M0 H6 (.ref p6) (.tuple [.str "value", tintsD (exch ns p)]) := NewT.rp h6 (.cons (.str _) (.cons (r5.mono (fun _ z => z) (ExM.of x6)) .nil))
        have ru6 := ru4.mono (fun _ z => z) (ExM.of x46)
        have bg6 := bg4.mono (fun _ z => z) (ExM.of x46)
        have rt6 := rt4.mono (fun _ z => z) (ExM.of x46)
        have hmem : ((p : Nat) : Int) ∈ natI (tameL ns) := List.mem_map.mpr ⟨p, List.mem_filter.mpr ⟨List.mem_range.mpr (by omega), ht⟩, rfl⟩
        refine b_cons (s_if (M := M0) (k := true) alive0 (TD.is (td_in (nm 3 (.int (p : Nat))) (nm 2 rt6)) (decide_eq_true hmem)) (fun _ H7 x7 => ?_) (fun k => by cases k))
        have ru7 := ru6.mono (fun _ z => z) (ExM.of x7)
        have bg7 := bg6.mono (fun _ z => z) (ExM.of x7)
        have rtold7 := rtold.mono (fun _ z => z) (ExM.of x7)
        refine b_cons (s_if (M := M0) (k := false) alive0 (WD.td (wd_or (k1 := false) (k2 := false) (.mk fun H8 e8 al8 Q q8 => ?_) fun _ => wd_or1 (TD.is (td_ne hr.units (pd_ix (nm 4 rtold7) pd_int rfl) pd_str (by decide +kernel) (by decide +kernel)) (by decide +kernel)))) (fun k => by cases k) (fun _ H8 x8 => ?_))
        · refine ct_isnB (k := true) (j := true) (ce_callX L.it hr (by decide) rfl tkF (ca_cons (ce_nm 1 (ca_cons (ce_nm 3 (ca_nil ⟨M0, v, _, rfl, alive0, .inr ⟨tp, ns, _, bg7.mono (fun _ z => z) e8, .int (p : Nat), .inr ⟨p, rfl, hpn, fun H9 x9 => ?_⟩⟩⟩))))))
          rw [ht]
          exact ⟨rfl, q8 H9 x9⟩
        have ru8 := ru7.mono (fun _ z => z) (ExM.of x8)
        have rtold8 := rtold7.mono (fun _ z => z) (ExM.of x8)
        refine b_nil (b_cons (s_if (M := M0) (k := false) alive0 (td_not (k := true) (td_val (pd_callC L.isR hr (by decide) rfl (ad_cons (pd_ix (nm 4 rtold8) pd_int rfl) (ad_cons (FD.pd (fd_callC L.exc hr (by decide) rfl (ad_cons (nm 0 ru8) (ad_cons (nm 3 (.int (p : Nat))) ad_nil)) ⟨ns, p, hpn, by omega, rfl, rfl⟩)) ad_nil)) ⟨exch ns p, by rw [exch_len]; omega, rfl, rfl⟩))) (fun k => by cases k) (fun _ H9 x9 => ?_)))
        have x49 := (((x46.trans x7).trans x8).trans x9)
        exact b_nil (b_nil (b_nil (back H9 (e4.trans (.of x49)) (t4.ext x49) _ _)))
      · -- a barred place
        refine .inr (.inr (.inr ⟨.int (p : Nat), .int 0, ⟨rfl, d6, _, rfl, h6, lk_place _ _⟩, ⟨rfl, d6, _, rfl, h6, lk_step _ _⟩, fun p7 H7 hp7 x7 h7 => ?_⟩))
        have x47 := (x5.trans x6).trans x7
        have rtold : Rp K M0 H7 (.ref p7) (barD (p : Nat) 0) := NewT.rp h7 (.cons (.str _) (.cons (.int _) (.cons (.int _) .nil)))
        have bg7 := bg4.mono (fun _ z => z) (ExM.of x47)
        have rt7 := rt4.mono (fun _ z => z) (ExM.of x47)
        have hmem : ¬ ((p : Nat) : Int) ∈ natI (tameL ns) := fun h => by
          obtain ⟨p', h1, h2⟩ := List.mem_map.mp h
          have : p' = p := by omega
          subst this
          rw [tameL_tam h1] at ht
          cases ht
        refine b_cons (s_if (M := M0) (k := false) alive0 (TD.is (td_in (nm 3 (.int (p : Nat))) (nm 2 rt7)) (decide_eq_false hmem)) (fun k => by cases k) (fun _ H8 x8 => ?_))
        have bg8 := bg7.mono (fun _ z => z) (ExM.of x8)
        have rtold8 := rtold.mono (fun _ z => z) (ExM.of x8)
        refine b_cons (s_if (M := M0) (k := false) alive0 (WD.td (wd_or (k1 := false) (k2 := false) (.mk fun H9 e9 al9 Q q9 => ?_) fun _ => wd_or1 (TD.is (td_ne hr.units (nm 4 rtold8) (pd_tup (ad_cons pd_str (ad_cons (nm 3 (.int (p : Nat))) (ad_cons pd_int ad_nil))) (by show 3 ≤ 100000; decide)) (shaped_bar _ _) (shaped_bar _ _)) (by rw [eqv_bar]; rfl)))) (fun k => by cases k) (fun _ H9 x9 => ?_))
        · refine ct_isnB (k := false) (j := false) (ce_callX L.it hr (by decide) rfl tkF (ca_cons (ce_nm 1 (ca_cons (ce_nm 3 (ca_nil ⟨M0, v, _, rfl, alive0, .inr ⟨tp, ns, _, bg8.mono (fun _ z => z) e9, .int (p : Nat), .inr ⟨p, rfl, hpn, fun H9 x9 => ?_⟩⟩⟩))))))
          rw [ht]
          exact ⟨rfl, q9 H9 x9⟩
        have bg9 := bg8.mono (fun _ z => z) (ExM.of x9)
        refine b_cons (cs_if (ct_not (ct_val (ce_call L.bb hr (by decide) rfl (ca_cons (ce_nm 1 (ca_cons (ce_nm 3 (ca_nil ⟨v, _, tp, ns, p, rfl, bg9, .int (p : Nat), hpn, ht, fun H10 x10 => ⟨true, rfl, ?_⟩⟩)))))))))
        rw [if_neg (by decide)]
        have x410 := ((x47.trans x8).trans x9).trans x10
        exact b_nil (b_nil (b_nil (b_nil (back H10 (e4.trans (.of x410)) (t4.ext x410) _ _))))
    · rintro Hs σ' H' xs ⟨⟨xp, xt, rfl⟩, e, t⟩
      have m3 : ExM M0 H2 H' := (ExM.of xs).trans (exM_ofN e)
      have ru3 := ru2.mono (fun _ z => z) m3
      have bg3 := bg2.mono (fun _ z => z) m3
      have rt3 := rt2.mono (fun _ z => z) m3
      have eN : LamX.ExtN H H' := (LamX.ExtN.of (x02.trans xs)).trans e
      refine b_cons (s_if (M := M0) (k := decide ns.Nodup) alive0 (TD.is (td_eq hr.units (pd_lenSet (tp := false) rfl rfl nb.len rfl nb.set (nm 0 ru3) (by omega)) (pd_len nb rfl (nm 0 ru3) (n := ns.length) (by show some _ = some _; rw [List.length_map])) rfl rfl) ?_) (fun k H4 x4 => ?_) (fun k H4 x4 => ?_))
      · rw [eqv_int, Bool.eq_iff_iff, decide_eq_true_eq, decide_eq_true_eq, ← dd_eq]
        omega
      · have hn := of_decide_eq_true k
        refine b_cons (cs_ret (ce_eq hr.units (ce_call L.fp hr (by decide) rfl (ca_cons (ce_nm 1 (ca_cons (ce_house L.mkH L.gH hr (by decide) rfl fun h H5 hh x5 ah => ca_nil ⟨M0, v, h, tp, ns, rfl, alive0, (bg3.mono (fun _ z => z) (ExM.of x4)).mono (fun _ z => z) (ExM.of x5), hn, ah, (fun z => z), fun l6 ws6 H6 hl6 x6 h6 r6 => ce_nm 2 ⟨_, _, Rp.dp (.lst (fun z => z) (.inl h6) r6 : Rp K M0 H6 (.ref l6) (.list (natD (tameL ns)))), (((rt3.mono (fun _ z => z) (ExM.of x4)).mono (fun _ z => z) (ExM.of x5)).mono (fun _ z => z) (ExM.of x6)).dp, ?_, ?_, ?_⟩⟩)))))))
        · rw [natD_eq]
          exact shapedI _
        · exact shapedI _
        · rw [natD_eq]
          show Q (.bl (PyData.eqv (intsD _) (intsD _))) H6
          rw [eqv_ints, decide_eq_true rfl]
          have x := (x4.trans x5).trans x6
          exact q H6 (eN.trans (.of x)) (t.ext x)
      · exact b_nil (b_cons (s_ret (M := M0) alive0 pd_bl fun v5 H5 x5 r5 => by
          cases r5
          exact q H5 (eN.trans (.of (x4.trans x5))) (t.ext (x4.trans x5))))
end
end DK

namespace DK
open PySem PySem.Spec PyProof.Rows L2 GV
def barL (ns : List Int) : List Nat := (List.range (ns.length - 1)).filter fun p => !tamB ns p
theorem mem_tame {ns : List Int} {p : Nat} (h : p + 1 < ns.length) : decide (((p : Nat) : Int) ∈ natI (tameL ns)) = tamB ns p := by
  rw [Bool.eq_iff_iff, decide_eq_true_eq]
  constructor
  · intro hh
    obtain ⟨p', h1, h2⟩ := List.mem_map.mp hh
    have : p' = p := by omega
    subst this
    exact tameL_tam h1
  · intro ht
    exact List.mem_map.mpr ⟨p, List.mem_filter.mpr ⟨List.mem_range.mpr (by omega), ht⟩, rfl⟩
theorem barL_lt {ns : List Int} {p : Nat} (h : p ∈ barL ns) : p + 1 < ns.length ∧ tamB ns p = false := by
  obtain ⟨h1, h2⟩ := List.mem_filter.mp h
  have := List.mem_range.mp h1
  exact ⟨by omega, by simpa using h2⟩
theorem barL_len (ns : List Int) : (barL ns).length ≤ ns.length := by
  unfold barL
  refine Nat.le_trans (List.length_filter_le _ _) ?_
  rw [List.length_range]
  omega
def ntD (ns : List Int) : PyData → Bool
  | .int i => !tamB ns i.toNat
  | _ => false
theorem bar_eq (ns : List Int) : (((List.range ((ns.length : Int) - 1).toNat).map fun i => PyData.int (0 + (i : Nat))).filter (ntD ns)).map id = natD (barL ns) := by
  rw [List.map_id, List.filter_map]
  unfold natD barL
  rw [show ((ns.length : Int) - 1).toNat = ns.length - 1 by omega]
  have e1 : (ntD ns ∘ fun i : Nat => PyData.int (0 + (i : Nat))) = fun p => !tamB ns p := by
    funext i
    show (!tamB ns (0 + (i : Int)).toNat) = _
    rw [show (0 + (i : Int)).toNat = i by omega]
  rw [e1]
  exact List.map_congr_left fun i _ => by rw [Int.zero_add]
theorem goW_rep {ns : List Int} {b : Nat} (h : tamB ns b = false) (n : Nat) : goW ns (List.replicate (n + 1) b) 0 = .inr (b, 0) := by
  rw [List.replicate_succ]
  unfold goW
  rw [if_neg (by rw [h]; exact Bool.false_ne_true)]
theorem ix0 (b : Nat) (bs : List Nat) : ixD (.list (natD (b :: bs))) (.int 0) = some (.int (b : Nat)) := ixD_list (ds := natD (b :: bs)) (i := 0) rfl
theorem natD_nil {l : List Nat} : PyData.eqv (.list (natD l)) (.list []) = l.isEmpty := by
  cases l with
  | nil => rfl
  | cons x t => rfl
section
variable {P : Program} {w : World} {K : PySem.W.Frag} {mg : Str → Option Value} {base : Heap}
theorem cl_long_walk_kept {f CR CP CW CB CH : Addr} {fd : FuncData} {cdv : Value} {T : List (Addr × Str)} (F : FunC K mg "_law_long_walk_kept" s_law_long_walk_kept f fd cdv) (L : Calls P w K mg base CR CP CW CB CH)
    (lb : LamB mg base T cdv ((PyProof.Rows.envOfC "_law_long_walk_kept" (defScope s_law_long_walk_kept) 0 f cdv).qual ++ "<lambda>")) : Cl P w K mg base CX0 9 "_law_long_walk_kept" (spPK K T) := by
  have nb := L.nb
  refine ⟨f, fd, _, F.ok sc_law_long_walk_kept (fun vs H Q E h => ?_) (fun A outer sh H vs Q E hr h => ?_), F.gl, F.kp, F.fn.binds fun _ _ _ _ _ _ us hl => match us, hl with | [_, _], _ => rfl⟩
  · obtain ⟨u, v, tp, ns, rfl, _⟩ := h
    rfl
  · obtain ⟨u, v, tp, ns, rfl, ru, bg, hT, q⟩ := h
    obtain ⟨g, fdT, FT⟩ := L.toldF
    have hl := bg.2.1
    refine b_cons (cs_set (i := 2) sc_law_long_walk_kept.nd rfl (by first | exact .inl rfl | exact .inr rfl) (ce_fd (M := M0) alive0 (fd_callC L.tl hr (by decide) rfl (ad_cons (nm 0 ru) ad_nil) ⟨ns, by omega, rfl, rfl⟩) fun l ws H1 hl1 x1 h1 rw1 => ?_))
    rw [natD_eq] at rw1
    have rt : Rp K M0 H1 (.ref l) (intsD (natI (tameL ns))) := .lst (fun z => z) (.inl h1) rw1
    have ru1 := ru.mono (fun _ z => z) (ExM.of x1)
    refine b_cons (s_setLc (i := 3) (t := .one 6) (own := [("spot", 6)]) (M := M0) (ds := (List.range ((ns.length : Int) - 1).toNat).map fun i => PyData.int (0 + (i : Nat))) rfl sc_law_long_walk_kept.nd ?_ (blkOk_by (N := n_law_long_walk_kept) (sc := defScope s_law_long_walk_kept) (by decide +kernel)) (fun _ _ _ _ _ => pg_name (i := 6) sc_law_long_walk_kept.nd rfl (.inl rfl)) (fun _ _ => trivial) ?_ (ntD ns) id ?_ ?_ alive0 rfl rfl rfl fun lb2 ws2 H2 hl2 x2 h2 rw2 => ?_)
    · exact src_range1 rfl nb.range (pd_sub (pd_len nb rfl (nm 0 ru1) (n := ns.length) (by show some _ = some _; rw [List.length_map])) pd_int) (by omega) (by omega)
    · rintro M H d σ' ⟨v, _, rfl⟩
      rfl
    · rw [List.length_map, List.length_range]
      omega
    · rintro s0 H0 C cl fp M' H' d σ' hM lift hd ⟨v', rv, rfl⟩
      obtain ⟨j, hj, rfl⟩ := List.mem_map.mp hd
      have hj := List.mem_range.mp hj
      rw [Int.zero_add] at rv ⊢
      refine ⟨tsd_one (TD.is (td_nin (nm 6 rv) (nm 2 (lift _ _ rt))) ?_), fun _ => nm 6 rv⟩
      rw [mem_tame (by omega)]
      show _ = (!tamB ns ((j : Nat) : Int).toNat)
      rw [Int.toNat_natCast]
    rw [bar_eq] at rw2
    have rb : Rp K M0 H2 (.ref lb2) (.list (natD (barL ns))) := .lst (fun z => z) (.inl h2) rw2
    have x02 := x1.trans x2
    refine b_cons (s_if (M := M0) (k := (barL ns).isEmpty) alive0 (TD.is (td_eq hr.units (nm 3 rb) (FD.pd (fd_lst ad_nil (by simp))) (by rw [natD_eq]; exact shapedI _) rfl) natD_nil) (fun k H3 x3 => ?_) (fun k H3 x3 => ?_))
    · exact b_cons (s_ret (M := M0) alive0 pd_bl fun v4 H4 x4 r4 => by
        cases r4
        exact q H4 (.of ((x02.trans x3).trans x4)) (hT.ext ((x02.trans x3).trans x4)))
    · cases hbl : barL ns with
      | nil =>
        rw [hbl] at k
        cases k
      | cons b bs =>
        rw [hbl] at rb
        obtain ⟨hbn, hbt⟩ := barL_lt (ns := ns) (p := b) (by rw [hbl]; exact List.mem_cons_self)
        have rb3 := rb.mono (fun _ z => z) (ExM.of x3)
        have bg3 := bg.mono (fun _ z => z) (ExM.of (x02.trans x3))
        refine b_nil (b_cons (cs_set (i := 4) sc_law_long_walk_kept.nd rfl (by first | exact .inl rfl | exact .inr rfl) (ce_rep (ce_fd (M := M0) alive0 (fd_lst (ds := [.int (b : Nat)]) (ad_cons (pd_ix (nm 3 rb3) pd_int (ix0 b bs)) ad_nil) (by show 1 ≤ 100000; decide)) fun l5 ws5 H5 hl5 x5 h5 rw5 => ce_pd (M := M0) alive0 (pd_int (i := 20000)) fun v6 H6 x6 r6 => ?_))))
        cases r6
        obtain ⟨⟩ | ⟨rr, rn⟩ := rw5
        cases rr
        cases rn
        refine ⟨l5, [.int (b : Nat)], 20000, rfl, rfl, x6 _ _ h5, by show 1 * 20000 ≤ 100000; decide, by decide, fun p7 hp7 => ?_⟩
        rw [replicate_flat]
        have x7 := Evl.Ex.new (o := .lst (List.replicate 20000 (V.int (b : Nat)))) hp7
        have hw7 : upd H6 p7 (.lst (List.replicate 20000 (V.int (b : Nat)))) p7 = _ := upd_same
        generalize upd H6 p7 (.lst (List.replicate 20000 (V.int (b : Nat)))) = H7 at x7 hw7 ⊢
        have rep : ∀ (n : Nat) (H' : Hp), RpAll K M0 H' (List.replicate n (V.int (b : Nat))) (natD (List.replicate n b)) := fun n H' => by
          induction n with
          | zero => exact .nil
          | succ n ih => exact .cons (.int _) ih
        have rwk : Rp K M0 H7 (.ref p7) (sqD false (natD (List.replicate 20000 b))) := .lst (fun z => z) (.inl hw7) (rep _ _)
        have x37 := (x5.trans x6).trans x7
        have bg7 := bg3.mono (fun _ z => z) (ExM.of x37)
        have rb7 := rb3.mono (fun _ z => z) (ExM.of x37)
        have x07 := (x02.trans x3).trans x37
        refine b_cons (cs_if (ct_ne hr.units (ce_told (k := 6) FT L.told lb (hr.mono (by decide)) rfl (LamX.lamS_by (by show LamX.lamSB (defScope s_law_long_walk_kept) _ = true; decide +kernel)) rfl (fun _ _ _ _ _ => rfl) (hT.ext x07) fun H8 e8 t8 A2 outer2 sh2 H02 f2 c2' hr2 => ?_)))
        have m8 : ExM M0 H7 H8 := exM_ofN e8
        have bg8 := bg7.mono (fun _ z => z) m8
        have rwk8 := rwk.mono (fun _ z => z) m8
        have rb8 := rb7.mono (fun _ z => z) m8
        refine ce_callX L.ta hr2 (by decide) rfl (takes_of rfl rfl rfl rfl) (ca_cons (ce_nm 1 (ca_cons (ce_nm 4 (ca_nil ⟨M0, v, _, rfl, alive0, .inr ⟨tp, ns, bg8, .inr ⟨false, List.replicate 20000 b, rwk8, by rw [List.length_replicate]; exact Nat.le_refl _, fun p hp => by rw [List.eq_of_mem_replicate hp]; exact hbn, ⟨fun ms hm => ?_, fun p' k' hm H9 x9 d10 H10 hd10 x10 h10 => ?_⟩⟩⟩⟩)))))
        · rw [goW_rep hbt 19999] at hm
          cases hm
        rw [goW_rep hbt 19999] at hm
        cases hm
        refine .inr (.inr (.inr ⟨.int (b : Nat), .int 0, ⟨rfl, d10, _, rfl, h10, lk_place _ _⟩, ⟨rfl, d10, _, rfl, h10, lk_step _ _⟩, fun p11 H11 hp11 x11 h11 => ?_⟩))
        have rtold : Rp K M0 H11 (.ref p11) (barD (b : Nat) 0) := NewT.rp h11 (.cons (.str _) (.cons (.int _) (.cons (.int _) .nil)))
        have x811 := (x9.trans x10).trans x11
        have rb11 := rb8.mono (fun _ z => z) (ExM.of x811)
        refine ce_pd (M := M0) alive0 (pd_tup (ds := [.str "Barred", .int (b : Nat), .int 0]) (ad_cons pd_str (ad_cons (pd_ix (nm 3 rb11) pd_int (ix0 b bs)) (ad_cons pd_int ad_nil))) (by show 3 ≤ 100000; decide)) fun v12 H12 x12 r12 => ?_
        refine ⟨barD (b : Nat) 0, barD (b : Nat) 0, (rtold.mono (fun _ z => z) (ExM.of x12)).dp, r12.dp, shaped_bar _ _, shaped_bar _ _, ?_⟩
        rw [eqv_bar, if_neg (by decide)]
        have x812 := x811.trans x12
        have t12 := t8.ext x812
        have rb12 := rb11.mono (fun _ z => z) (ExM.of x12)
        have rwk12 := rwk8.mono (fun _ z => z) (ExM.of x812)
        have bg12 := bg8.mono (fun _ z => z) (ExM.of x812)
        have e012 : LamX.ExtN H H12 := ((LamX.ExtN.of x07).trans e8).trans (.of x812)
        -- one place too many
        refine b_nil (b_cons (cs_set (i := 5) sc_law_long_walk_kept.nd rfl (by first | exact .inl rfl | exact .inr rfl) (ce_fd (M := M0) alive0 (fd_cat (es := natD (List.replicate 20000 b)) (fs := [.int (b : Nat)]) (nm 4 rwk12) (PD.is (FD.pd (fd_slice (nm 3 rb12) od_none (od_some pd_int))) ?_) ?_) fun l13 ws13 H13 hl13 x13 h13 rw13 => ?_)))
        · show PyData.list (GV.cutD _ none (some ((1 : Nat) : Int))) = _
          rw [cutD_take]
          rfl
        · have : (natD (List.replicate 20000 b)).length = 20000 := by
            unfold natD
            rw [List.length_map, List.length_replicate]
          rw [this]
          show 20000 + 1 ≤ 100000
          decide
        have hbig : (natD (List.replicate 20000 b) ++ [PyData.int (b : Nat)]).length = 20001 := by
          unfold natD
          rw [List.length_append, List.length_map, List.length_replicate]
          rfl
        have wa : WArg K M0 H13 ns.length (.ref l13) false := by
          refine .inl ⟨PyData.list (natD (List.replicate 20000 b) ++ [PyData.int ((b : Nat) : Int)]), .lst (fun z => z) (.inl h13) rw13, ?_, ?_⟩
          · show (natD (List.replicate 20000 b) ++ [PyData.int (b : Nat)]).length ≤ 90000
            rw [hbig]
            decide
          · show (true && decide ((natD (List.replicate 20000 b) ++ [PyData.int (b : Nat)]).length ≤ 20000) && _) = false
            rw [hbig]
            rfl
        have bg13 := bg12.mono (fun _ z => z) (ExM.of x13)
        refine b_cons (cs_ret (ce_same2 (i := 5) hr.units wa.sameB rfl (by first | exact .inl rfl | exact .inr (.inl rfl)) rfl (ce_told (k := 6) FT L.told lb (hr.mono (by decide)) rfl (LamX.lamS_by (by show LamX.lamSB (defScope s_law_long_walk_kept) _ = true; decide +kernel)) rfl (fun _ _ _ _ _ => rfl) (t12.ext x13) fun H14 e14 t14 A3 outer3 sh3 H03 f3 c3' hr3 => ?_)))
        have m14 : ExM M0 H13 H14 := exM_ofN e14
        refine ce_callX L.ta hr3 (by decide) rfl (takes_of rfl rfl rfl rfl) (ca_cons (ce_nm 1 (ca_cons (ce_nm 5 (ca_nil ⟨M0, v, _, rfl, alive0, .inr ⟨tp, ns, bg13.mono (fun _ z => z) m14, .inl ⟨wa.mono (fun _ z => z) m14, fun H15 x15 d16 H16 hd16 x16 h16 => ?_⟩⟩⟩)))))
        refine .inr (.inr (.inl ⟨_, ⟨rfl, d16, _, rfl, h16, by simp [List.lookup]⟩, fun p17 H17 hp17 x17 h17 => ⟨p17, rfl, h17, fun H18 x18 => ?_⟩⟩))
        have x1418 := ((x15.trans x16).trans x17).trans x18
        exact q H18 (((e012.trans (.of x13)).trans e14).trans (.of x1418)) (t14.ext x1418)
end
end DK

namespace DK
open PySem PySem.Spec PyProof.Rows L2 GV
def oddD : Option (List Nat × Nat) → PyData
  | none => .none
  | some (ws, b) => .tuple [.list (natD ws), .int (b : Nat)]
/-- what the walk's loop keeps -/
structure WInv (K : PySem.W.Frag) (H0 : Hp) (a : Addr) (c : Int) (u v : V) (tp : Bool) (ns : List Int) (cut : Nat) (pn pw : Addr) (ms : List Int) (ps : List Nat) (vo : V) (o : Option (List Nat × Nat)) (H' : Hp) : Prop where
  ex : ExB a H0 H'
  pot : ∃ r k, H' a = some (potL r c k)
  now : H' pn = some (.lst (ms.map V.int))
  npn : ¬ S2 a pw pn
  wk : H' pw = some (.lst ((natI ps).map V.int))
  npw : pw ≠ a
  fw : H0 pw = none
  ru : Rp K (S2 a pw) H' u (intsD ns)
  rv : Rp K (S2 a pw) H' v (sqD tp (ns.map PyData.int))
  ro : Rp K (S2 a pw) H' vo (oddD o)
  ml : ms.length = ns.length
  pl : ∀ p ∈ ps, p + 1 < ns.length
  go : ∀ qs, goW ns (ps ++ qs) 0 = goW ms qs ps.length
  od : ∀ ws b, o = some (ws, b) → (∀ p ∈ ws, p + 1 < ns.length) ∧ ws.length ≤ 1000 ∧ goW ns ws 0 = .inr (b, cut)
section
variable {K : PySem.W.Frag} {H0 H' H'' : Hp} {a pn pw : Addr} {c : Int} {u v vo : V} {tp : Bool} {ns ms : List Int} {cut : Nat} {ps : List Nat} {o : Option (List Nat × Nat)}
theorem exM_S2 {x y : Addr} {H H' : Hp} (e : ExB x H H') : ExM (S2 x y) H H' := fun z o h n _ => e z o (fun w => n (.inl w)) h
theorem WInv.step (I : WInv K H0 a c u v tp ns cut pn pw ms ps vo o H') (e : ExB a H' H'') (pot : ∃ r k, H'' a = some (potL r c k)) : WInv K H0 a c u v tp ns cut pn pw ms ps vo o H'' :=
  ⟨I.ex.trans e, pot, e _ _ (fun z => I.npn (.inl z)) I.now, I.npn, e _ _ I.npw I.wk, I.npw, I.fw, I.ru.mono (fun _ z => z) (exM_S2 e), I.rv.mono (fun _ z => z) (exM_S2 e), I.ro.mono (fun _ z => z) (exM_S2 e), I.ml, I.pl, I.go, I.od⟩
theorem WInv.stepE (I : WInv K H0 a c u v tp ns cut pn pw ms ps vo o H') (x : Evl.Ex H' H'') : WInv K H0 a c u v tp ns cut pn pw ms ps vo o H'' := I.step (.of x) (let ⟨r, k, h⟩ := I.pot; ⟨r, k, x _ _ h⟩)
theorem WInv.al (I : WInv K H0 a c u v tp ns cut pn pw ms ps vo o H') : Alive (S2 a pw) H' := fun x z => by
  rcases z with z | z
  · obtain ⟨r, k, h⟩ := I.pot
    exact ⟨_, z ▸ h⟩
  · exact ⟨_, z ▸ I.wk⟩
theorem WInv.rn (I : WInv K H0 a c u v tp ns cut pn pw ms ps vo o H') : Rp K (S2 a pw) H' (.ref pn) (intsD ms) := .lst I.npn (.inl I.now) (.ints ms)
end
def forB : Stmt → List Stmt
  | .For _ _ b _ _ => b
  | _ => []
abbrev wkBody : List Stmt := forB ((defBody s_law_walk_kept).getD 4 (.Pass ⟨0, 0, 0, 0⟩))
theorem natI_nil {l : List Nat} : PyData.eqv (intsD (natI l)) (.list []) = l.isEmpty := by
  cases l <;> rfl
theorem shN (l : List Nat) : SeqAt.shaped (.list (natD l)) = true := by rw [natD_eq]; exact shapedI _
theorem get_natD {l : List Nat} {i : Nat} {b : Nat} (h : l[i]? = some b) : ixD (.list (natD l)) (.int (i : Nat)) = some (.int (b : Nat)) := ixD_list (by unfold natD; rw [List.getElem?_map, h]; rfl)
section
variable {P : Program} {w : World} {K : PySem.W.Frag} {mg : Str → Option Value} {base : Heap}
abbrev XW (P : Program) (w : World) (K : PySem.W.Frag) (mg : Str → Option Value) (base : Heap) (f : Addr) (cdv : Value) (A : Around) (outer : List Env) (sh : Shared) (H : Hp) (E : XK) : Cx := (cxOf CX0 P w K mg base n_law_walk_kept "_law_walk_kept" (defScope s_law_walk_kept) f cdv A outer sh H E).nox
/-- the turn's end: one tame place is changed, or the walk ends -/
theorem wk_tail {f : Addr} {cdv : Value} {A : Around} {outer : List Env} {sh : Shared} {H0 Hs H3 : Hp} {E : XK} {CR CP CW CB CH a pn pw pt pb : Addr} {c : Int} {u v vo : V} {tp : Bool} {ns ms : List Int} {cut i : Nat} {ps : List Nat} {o : Option (List Nat × Nat)} {xk xp : Option V} {D : Ends}
    (L : Calls P w K mg base CR CP CW CB CH) (hr : Room 8 (XW P w K mg base f cdv A outer sh Hs E).A) (I : WInv K H0 a c u v tp ns cut pn pw ms ps vo o H3) (rt : Rp K (S2 a pw) H3 (.ref pt) (intsD (natI (tameL ms)))) (hn : ns.length ≤ 40) (hps : ps.length ≤ 12)
    (nx : ∀ pn' ms' ps' xk xt xb xp H', ps'.length = ps.length + 1 → WInv K H0 a c u v tp ns cut pn' pw ms' ps' vo o H' → D.nx [some (.ref a), some u, some v, some (.ref pn'), some (.ref pw), some vo, some (.int (cut : Nat)), xk, xt, xb, xp, none, none, none] H')
    (bk : ∀ xk xt xb xp H', WInv K H0 a c u v tp ns cut pn pw ms ps vo o H' → D.bk [some (.ref a), some u, some v, some (.ref pn), some (.ref pw), some vo, some (.int (cut : Nat)), xk, xt, xb, xp, none, none, none] H') :
    wB (XW P w K mg base f cdv A outer sh Hs E) (wkBody.drop 3) D [some (.ref a), some u, some v, some (.ref pn), some (.ref pw), some vo, some (.int (cut : Nat)), xk, some (.ref pt), some (.ref pb), xp, none, none, none] H3 := by
  have tlen := tameL_len ms
  have ml := I.ml
  refine b_cons (s_if (k := (tameL ms).isEmpty) I.al (TD.is (td_eq hr.units (nm 8 rt) (FD.pd (fd_lst ad_nil (by simp))) (shapedI _) rfl) natI_nil) (fun _ H4 x4 => ?_) (fun k H4 x4 => ?_))
  · exact b_cons ⟨_, ps_break, bk _ _ _ _ _ (I.stepE x4)⟩
  · have I4 := I.stepE x4
    have rt4 := rt.mono (fun _ z => z) (ExM.of x4)
    obtain ⟨r4, k4, ha4⟩ := I4.pot
    have rt4a : Rp K (Ma a) H4 (.ref pt) (intsD (natI (tameL ms))) := rt4.mono (fun _ z => .inl z) (ExM.refl _)
    have pos : 0 < (tameL ms).length := by
      cases ht : tameL ms with
      | nil =>
        rw [ht] at k
        cases k
      | cons _ _ => simp
    refine b_nil (b_cons (cs_set (i := 10) sc_law_walk_kept.nd rfl (by first | exact .inl rfl | exact .inr rfl) (ce_ix (ce_nm 8 (ce_draw L.draw hr (by decide) rfl (fun H1 Q hq => ce_nm 0 hq) (pd_len L.nb rfl (nm 8 rt4a) (n := (tameL ms).length) (by show some (List.length _) = some _; rw [List.length_map, natI_len])) ha4 (by omega) (n8000 (by omega) (by omega)) fun z5 r5 k5 H5 z50 z51 e5 ha5 => ?_)))))
    obtain ⟨t, htt⟩ : ∃ t, (tameL ms)[z5.toNat]? = some t := ⟨_, List.getElem?_eq_getElem (by omega)⟩
    have ht := List.mem_of_getElem? htt
    have I5 := I4.step e5 ⟨_, _, ha5⟩
    refine rIx_of (M := S2 a pw) (da := intsD (natI (tameL ms))) (d := .int (t : Nat)) (rt4.mono (fun _ z => z) (exM_S2 e5)) ?_ fun v6 r6 => ?_
    · rw [show z5 = ((z5.toNat : Nat) : Int) by omega]
      refine ixD_ints ?_
      unfold natI
      rw [List.getElem?_map, htt]
      rfl
    cases r6
    have hlt := tameL_lt ht
    -- the walk grows
    refine b_cons (cs_expr (ce_append (ce_nm 4 ⟨pw, _, rfl, I5.wk, ce_nm 10 ⟨_, I5.wk, by rw [List.length_map, natI_len]; omega, ?_⟩⟩)))
    have np : ∀ {x}, ¬ S2 a pw x → x ≠ pw := fun n e => n (.inr e)
    have eM : ExM (S2 a pw) H5 (upd H5 pw (.lst ((natI ps).map V.int ++ [.int (t : Nat)]))) := fun x o h n _ => by
      rw [upd_ne (np n)]
      exact h
    have en : (natI ps).map V.int ++ [.int (t : Nat)] = (natI (ps ++ [t])).map V.int := by
      unfold natI
      rw [List.map_append, List.map_append]
      rfl
    have h6w : upd H5 pw (.lst ((natI ps).map V.int ++ [.int (t : Nat)])) pw = some (.lst ((natI (ps ++ [t])).map V.int)) := by rw [upd_same, en]
    have h6n : upd H5 pw (.lst ((natI ps).map V.int ++ [.int (t : Nat)])) pn = some (.lst (ms.map V.int)) := by
      rw [upd_ne (np I5.npn)]
      exact I5.now
    have h6a : upd H5 pw (.lst ((natI ps).map V.int ++ [.int (t : Nat)])) a = some (potL r5 c k5) := by
      rw [upd_ne (Ne.symm I5.npw)]
      exact ha5
    have ex6 : ExB a H0 (upd H5 pw (.lst ((natI ps).map V.int ++ [.int (t : Nat)]))) := fun x o n h => by
      rw [upd_ne (ne_of_none h I5.fw)]
      exact I5.ex x o n h
    have ru6 := I5.ru.mono (fun _ z => z) eM
    have rv6 := I5.rv.mono (fun _ z => z) eM
    have ro6 := I5.ro.mono (fun _ z => z) eM
    generalize upd H5 pw (.lst ((natI ps).map V.int ++ [.int (t : Nat)])) = H6 at h6w h6n h6a ex6 ru6 rv6 ro6 ⊢
    have al6 : Alive (S2 a pw) H6 := fun x z => z.elim (fun e => ⟨_, e ▸ h6a⟩) fun e => ⟨_, e ▸ h6w⟩
    refine b_cons (cs_set (i := 3) sc_law_walk_kept.nd rfl (by first | exact .inl rfl | exact .inr rfl) (ce_fd al6 (fd_callC L.exc hr (by decide) rfl (ad_cons (nm 3 (.lst I5.npn (.inl h6n) (.ints ms) : Rp K (S2 a pw) H6 (.ref pn) (intsD ms))) (ad_cons (nm 10 (.int (t : Nat))) ad_nil)) ⟨ms, t, by omega, by omega, rfl, rfl⟩) fun p7 ws7 H7 hp7 x7 h7 rw7 => ?_))
    have ew := rw7.of_ints
    subst ew
    refine b_nil (nx p7 (exch ms t) (ps ++ [t]) _ _ _ _ H7 (by rw [List.length_append]; rfl) ⟨ex6.trE x7, ⟨_, _, x7 _ _ h6a⟩, h7, al6.fresh hp7, x7 _ _ h6w, I5.npw, I5.fw, ru6.mono (fun _ z => z) (ExM.of x7), rv6.mono (fun _ z => z) (ExM.of x7), ro6.mono (fun _ z => z) (ExM.of x7), by rw [exch_len]; exact I5.ml, fun p hp => ?_, fun qs => ?_, I5.od⟩)
    · rcases List.mem_append.mp hp with hp | hp
      · exact I5.pl p hp
      · rw [List.mem_singleton.mp hp]
        omega
    · rw [List.append_assoc, I5.go, List.length_append]
      show goW ms (t :: qs) ps.length = _
      conv => lhs; unfold goW
      rw [if_pos (tameL_tam ht)]
      rfl
end
end DK

namespace DK
open PySem PySem.Spec PyProof.Rows L2 GV
theorem natI_toNat {zs : List Int} (h : ∀ z ∈ zs, 0 ≤ z) : natI (zs.map Int.toNat) = zs := by
  unfold natI
  rw [List.map_map]
  conv => rhs; rw [← List.map_id zs]
  refine List.map_congr_left fun z hz => ?_
  show ((z.toNat : Nat) : Int) = z
  exact Int.toNat_of_nonneg (h z hz)
section
variable {P : Program} {w : World} {K : PySem.W.Frag} {mg : Str → Option Value} {base : Heap}
theorem al_of {a : Addr} {H : Hp} (h : ∃ r c k, H a = some (potL r c k)) : Alive (Ma a) H := let ⟨_, _, _, h⟩ := h; al_pot h
/-- the walk with a barred place in it -/
theorem wk_odd {f : Addr} {cdv : Value} {A : Around} {outer : List Env} {sh : Shared} {H0 Hs H3 : Hp} {E : XK} {CR CP CW CB CH a pn pw pt pb : Addr} {c : Int} {u v vo : V} {tp : Bool} {ns ms : List Int} {cut : Nat} {ps : List Nat} {o : Option (List Nat × Nat)} {xk xp : Option V} {D : Ends}
    (L : Calls P w K mg base CR CP CW CB CH) (hr : Room 8 (XW P w K mg base f cdv A outer sh Hs E).A) (I : WInv K H0 a c u v tp ns cut pn pw ms ps vo o H3) (rt : Rp K (S2 a pw) H3 (.ref pt) (intsD (natI (tameL ms)))) (rb : Rp K (S2 a pw) H3 (.ref pb) (.list (natD (barL ms)))) (hn : ns.length ≤ 40) (hps : ps.length = cut) (hcut : cut ≤ 12) (hne : barL ms ≠ []) {st : List Stmt} (hst : (match wkBody.getD 2 (.Pass ⟨0, 0, 0, 0⟩) with | .If _ b _ _ => b | _ => []) = st)
    (nx : ∀ vo' o' H' xp', WInv K H0 a c u v tp ns cut pn pw ms ps vo' o' H' → Rp K (S2 a pw) H' (.ref pt) (intsD (natI (tameL ms))) → D.nx [some (.ref a), some u, some v, some (.ref pn), some (.ref pw), some vo', some (.int (cut : Nat)), xk, some (.ref pt), some (.ref pb), xp', none, none, none] H') :
    wB (XW P w K mg base f cdv A outer sh Hs E) st D [some (.ref a), some u, some v, some (.ref pn), some (.ref pw), some vo, some (.int (cut : Nat)), xk, some (.ref pt), some (.ref pb), xp, none, none, none] H3 := by
  subst hst
  have ml := I.ml
  have bl := barL_len ms
  obtain ⟨r3, k3, ha3⟩ := I.pot
  have rba : Rp K (Ma a) H3 (.ref pb) (.list (natD (barL ms))) := rb.mono (fun _ z => .inl z) (ExM.refl _)
  have pos : 0 < (barL ms).length := List.length_pos_iff.mpr hne
  refine b_cons (cs_set (i := 10) sc_law_walk_kept.nd rfl (by first | exact .inl rfl | exact .inr rfl) (ce_ix (ce_nm 9 (ce_draw L.draw hr (by decide) rfl (fun H1 Q hq => ce_nm 0 hq) (pd_len L.nb rfl (nm 9 rba) (n := (barL ms).length) (by show some (List.length (List.map _ _)) = some _; rw [List.length_map])) ha3 (by omega) (n8000 (by omega) (by omega)) fun z4 r4 k4 H4 z40 z41 e4 ha4 => ?_))))
  obtain ⟨b, hbb⟩ : ∃ t, (barL ms)[z4.toNat]? = some t := ⟨_, List.getElem?_eq_getElem (by omega)⟩
  obtain ⟨hbn, hbt⟩ := barL_lt (List.mem_of_getElem? hbb)
  have I4 := I.step e4 ⟨_, _, ha4⟩
  refine rIx_of (M := S2 a pw) (da := .list (natD (barL ms))) (d := .int (b : Nat)) (rb.mono (fun _ z => z) (exM_S2 e4)) (by rw [show z4 = ((z4.toNat : Nat) : Int) by omega]; exact get_natD hbb) fun v5 r5 => ?_
  cases r5
  refine b_cons (cs_set (i := 5) sc_law_walk_kept.nd rfl (by first | exact .inl rfl | exact .inr rfl) (ce_tup (ca_cons (ce_bin op_catR (ce_bin op_catR (ce_nm 4 (ce_lst (ca_cons (ce_nm 10 (ca_nil ⟨(by show 1 ≤ 1000; decide), fun p5 hp5 => ?_⟩))))))))))
  have x5 := Evl.Ex.new (H := H4) (o := .lst [V.int (b : Nat)]) hp5
  have h5 : upd H4 p5 (.lst [V.int (b : Nat)]) p5 = some (.lst [.int (b : Nat)]) := upd_same
  generalize upd H4 p5 (.lst [V.int (b : Nat)]) = H5 at x5 h5 ⊢
  refine ⟨pw, p5, _, _, rfl, rfl, .inl (x5 _ _ I4.wk), .inl h5, by rw [List.length_map, natI_len]; exact Evl.sz_of (by show ps.length + 1 ≤ 100000; omega), fun p6 hp6 => ?_⟩
  have x6 := Evl.Ex.new (H := H5) (o := .lst ((natI ps).map V.int ++ [V.int (b : Nat)])) hp6
  have h6 : upd H5 p6 (.lst ((natI ps).map V.int ++ [V.int (b : Nat)])) p6 = _ := upd_same
  generalize upd H5 p6 (.lst ((natI ps).map V.int ++ [V.int (b : Nat)])) = H6 at x6 h6 ⊢
  have I6 := (I4.stepE x5).stepE x6
  have ha6 := x6 _ _ (x5 _ _ ha4)
  refine ce_lcR (slot := 13) (own := [("step", 13)]) rfl sc_law_walk_kept.nd rfl L.nb.range (blkOk_by (N := n_law_walk_kept) (sc := defScope s_law_walk_kept) (by decide +kernel)) (fun _ _ _ _ _ => pg_name (i := 13) sc_law_walk_kept.nd rfl (.inl rfl)) (fun v => rfl) (ce_pd alive0 (pd_int (i := 3)) fun y7 H7 x7 r7 => ?_)
  cases r7
  refine ⟨3, rfl, by decide, fun D8 hD8 => ?_⟩
  have I7 := I6.stepE x7
  have ha7 := x7 _ _ ha6
  have h7 := x7 _ _ h6
  have nad : a ≠ D8 := fun e => by
    rw [← e, ha7] at hD8
    cases hD8
  have n6D : p6 ≠ D8 := fun e => by
    rw [← e, h7] at hD8
    cases hD8
  have n6a : p6 ≠ a := fun e => by
    rw [e, x5 _ _ ha4] at hp6
    cases hp6
  refine ⟨fun i H' => ∃ (zs : List Int) (r' k' : Int), ExS (S2 a D8) (upd H7 D8 (.lst [])) H' ∧ H' a = some (potL r' c k') ∧ H' D8 = some (.lst (zs.map V.int)) ∧ zs.length = i ∧ ∀ z ∈ zs, 0 ≤ z ∧ z < (ns.length : Nat) - 1, ⟨[], r4, k4, fun x o _ h => h, by rw [upd_ne nad]; exact ha7, upd_same, rfl, fun z h => absurd h List.not_mem_nil⟩, ?_, ?_⟩
  · rintro i H' hi ⟨zs, r', k', e, h1, h2, hl, hz⟩ s0 H0' C cl fp
    have ru' : Rp K (Ma a) H' u (intsD ns) := by
      have q1 : Rp K (Ma a) H7 u (intsD ns) := I7.ru.mono (fun _ z => .inl z) (ExM.refl _)
      have q2 : Rp K (S2 a D8) H7 u (intsD ns) := q1.wide fun x z => z.imp id fun e => by rw [e]; exact hD8
      exact (q2.mono (fun _ z => z) (ExM.trans (.of (Evl.Ex.new hD8)) e.exM)).mono (fun _ z => .inl z) (ExM.refl _)
    refine ce_draw L.draw hr (by decide) rfl (fun H1 Q hq => ce_nm 0 hq) (pd_sub (pd_len L.nb rfl (nm 1 ru') (n := ns.length) (by show some (List.length (List.map _ _)) = some _; rw [List.length_map])) pd_int) h1 (by omega) (n8000 (by omega) (by omega)) fun z8 r8 k8 H8 z80 z81 e8 ha8 => ?_
    refine ⟨zs.map V.int, e8 _ _ (Ne.symm nad) h2, by rw [List.length_map]; omega, zs ++ [z8], r8, k8, ?_, ?_, ?_, ?_, ?_⟩
    · exact (e.trans (ExS.mono (S := fun x => x = a) (fun x o n h => e8 x o n h) fun x e => .inl e)).trans (.upd (.inr rfl))
    · rw [upd_ne nad]
      exact ha8
    · rw [upd_same, List.map_append]
      rfl
    · rw [List.length_append, hl]
      rfl
    · intro y hy
      rcases List.mem_append.mp hy with hy | hy
      · exact hz y hy
      · rw [List.mem_singleton.mp hy]
        exact ⟨z80, z81⟩
  · rintro H8 ⟨zs, r8, k8, e8, ha8, h8, hl8, hz8⟩
    have eb : ExB a H7 H8 := exB_of_S2 e8 (.of (Evl.Ex.new hD8)) hD8
    have I8 := I7.step eb ⟨_, _, ha8⟩
    refine ⟨p6, D8, _, _, rfl, rfl, .inl (eb _ _ n6a h7), .inl h8, by rw [List.length_append, List.length_map, natI_len, List.length_map]; exact Evl.sz_of (by show ps.length + 1 + zs.length ≤ 100000; omega), fun p9 hp9 => ?_⟩
    have en : (natI ps).map V.int ++ [V.int (b : Nat)] ++ zs.map V.int = (natI (ps ++ b :: zs.map Int.toNat)).map V.int := by
      have e0 := natI_toNat (zs := zs) fun z hz => (hz8 z hz).1
      have e1 : natI (ps ++ b :: zs.map Int.toNat) = natI ps ++ ((b : Nat) : Int) :: natI (zs.map Int.toNat) := by
        unfold natI
        rw [List.map_append, List.map_cons]
      rw [e1, e0, List.map_append, List.map_cons, List.append_assoc]
      rfl
    rw [en]
    have x9 := Evl.Ex.new (H := H8) (o := .lst ((natI (ps ++ b :: zs.map Int.toNat)).map V.int)) hp9
    have h9 : upd H8 p9 (.lst ((natI (ps ++ b :: zs.map Int.toNat)).map V.int)) p9 = _ := upd_same
    generalize upd H8 p9 (.lst ((natI (ps ++ b :: zs.map Int.toNat)).map V.int)) = H9 at x9 h9 ⊢
    have I9 := I8.stepE x9
    refine ca_cons (ce_nm 10 (ca_nil ⟨(by show 2 ≤ 1000; decide), fun p10 hp10 => ?_⟩))
    have x10 := Evl.Ex.new (H := H9) (o := .tup [V.ref p9, V.int (b : Nat)]) hp10
    have h10 : upd H9 p10 (.tup [V.ref p9, V.int (b : Nat)]) p10 = _ := upd_same
    generalize upd H9 p10 (.tup [V.ref p9, V.int (b : Nat)]) = H10 at x10 h10 ⊢
    have I10 := I9.stepE x10
    have e310 : ExB a H3 H10 := (((((e4.trE x5).trE x6).trE x7).trans eb).trE x9).trE x10
    have ro : Rp K (S2 a pw) H10 (.ref p10) (oddD (some (ps ++ b :: zs.map Int.toNat, b))) := by
      have q1 : Rp K (S2 a pw) H10 (.ref p9) (intsD (natI (ps ++ b :: zs.map Int.toNat))) := .lst (I8.al.fresh hp9) (.inl (x10 _ _ h9)) (.ints _)
      have q2 : Rp K (S2 a pw) H10 (.ref p9) (.list (natD (ps ++ b :: zs.map Int.toNat))) := by
        rw [natD_eq]
        exact q1
      exact .tup (I9.al.fresh hp10) (.inl h10) (.cons q2 (.cons (.int _) .nil))
    refine b_nil (nx _ (some (ps ++ b :: zs.map Int.toNat, b)) H10 _ ⟨I10.ex, I10.pot, I10.now, I10.npn, I10.wk, I10.npw, I10.fw, I10.ru, I10.rv, ro, I10.ml, I10.pl, I10.go, ?_⟩ (rt.mono (fun _ z => z) (exM_S2 e310)))
    intro ws b' e
    cases e
    refine ⟨fun p hp => ?_, ?_, ?_⟩
    · rcases List.mem_append.mp hp with hp | hp
      · exact I10.pl p hp
      · rcases List.mem_cons.mp hp with e | hp
        · rw [e]
          omega
        · obtain ⟨z, hz, rfl⟩ := List.mem_map.mp hp
          have := hz8 z hz
          omega
    · rw [List.length_append, List.length_cons, List.length_map]
      omega
    · rw [I10.go]
      unfold goW
      rw [if_neg (by rw [hbt]; exact Bool.false_ne_true), hps]
end
end DK

namespace DK
open PySem PySem.Spec PyProof.Rows L2 GV
section
variable {P : Program} {w : World} {K : PySem.W.Frag} {mg : Str → Option Value} {base : Heap}
def spWK (K : PySem.W.Frag) (T : List (Addr × Str)) : Sp := fun vs H Q _ => ∃ (a : Addr) (r c k : Int) (u v : V) (tp : Bool) (ns : List Int), vs = [.ref a, u, v] ∧ H a = some (potL r c k) ∧ Rp K (Ma a) H u (intsD ns) ∧ BagV K (Ma a) H v tp ns ∧ LamX.Tabs T H ∧ ∀ H', ExM (Ma a) H H' → (∃ r' k', H' a = some (potL r' c k')) → LamX.Tabs T H' → Q (.bl true) H'
/-- what follows the loop -/
theorem wk_last {f CR CP CW CB CH : Addr} {cdv : Value} {A : Around} {outer : List Env} {sh : Shared} {H Hs : Hp} {E : XK} {T : List (Addr × Str)} {Q : VK} {a : Addr} {r c k : Int} {u v : V} {tp : Bool} {ns : List Int} {cut : Nat} {pn pw : Addr} {ms : List Int} {ps : List Nat} {vo : V} {o : Option (List Nat × Nat)} {H' : Hp} {xk xt xb xp : Option V}
    (L : Calls P w K mg base CR CP CW CB CH) (lb : LamB mg base T cdv ((PyProof.Rows.envOfC "_law_walk_kept" (defScope s_law_walk_kept) 0 f cdv).qual ++ "<lambda>")) (hr : Room 8 (XW P w K mg base f cdv A outer sh Hs E).A) (ha : H a = some (potL r c k)) (hT : LamX.Tabs T H) (hl : ns.length ≤ 40) (hw : ∀ z ∈ ns, isWeightD (.int z) = true) (hpl : ps.length ≤ 12)
    (I : WInv K H a c u v tp ns cut pn pw ms ps vo o H') (q : ∀ H', ExM (Ma a) H H' → (∃ r' k', H' a = some (potL r' c k')) → LamX.Tabs T H' → Q (.bl true) H') :
    wB (XW P w K mg base f cdv A outer sh Hs E) ((defBody s_law_walk_kept).drop 5) { nx := fun _ H' => Q .non H', rt := Q } [some (.ref a), some u, some v, some (.ref pn), some (.ref pw), some vo, some (.int (cut : Nat)), xk, xt, xb, xp, none, none, none] H' := by
  have nb := L.nb
  obtain ⟨g, fdT, FT⟩ := L.toldF
  obtain ⟨r', k', ha'⟩ := I.pot
  refine b_cons (cs_set (i := 11) sc_law_walk_kept.nd rfl (by first | exact .inl rfl | exact .inr rfl) (ce_call L.given hr (by decide) rfl (ca_cons (ce_nm 0 (ca_cons (ce_nm 4 (ca_nil ⟨a, pw, natI ps, r', c, k', rfl, ha', Ne.symm I.npw, I.wk, by rw [natI_len]; omega, fun tq vh r1 k1 H1 e1 ha1 rh1 => ?_⟩)))))))
  have I1 := I.step e1 ⟨_, _, ha1⟩
  have toA : ∀ {H v d}, Rp K (S2 a pw) H v d → Rp K (Ma a) H v d := fun r => r.mono (fun _ z => .inl z) (ExM.refl _)
  have rvA := toA I1.rv
  have roA := toA I1.ro
  have rN : Rp K (Ma a) H1 (.ref pn) (intsD ms) := toA I1.rn
  have rW : Rp K (Ma a) H1 (.ref pw) (intsD (natI ps)) := .lst I1.npw (.inl I1.wk) (.ints _)
  have hgo : goW ns ps 0 = .inl ms := by
    have := I1.go []
    rw [List.append_nil] at this
    exact this
  have ml := I1.ml
  have rh2 : Rp K (Ma a) H1 vh (sqD tq (natD ps)) := by
    rw [natD_eq]
    exact rh1
  refine b_cons (s_if (k := false) (al_pot ha1) (WD.td (wd_or (k1 := false) (k2 := false) (td_not (k := true) (td_val (pd_callC L.isR hr (by decide) rfl (ad_cons (d := tintsD ms) (.mk fun H2 e2 al2 Q q2 => ?_) (ad_cons (nm 3 rN) ad_nil)) ⟨ms, by omega, rfl, rfl⟩))) fun _ => wd_or1 (TD.is (td_ne hr.units (FD.pd (fd_listOf rfl nb.list (nm 11 rh1) (items_sq _ _))) (nm 4 rW) (shapedI _) (shapedI _)) (by rw [eqv_ints, decide_eq_true rfl]; rfl)))) (fun k => by cases k) (fun _ H2 x2 => ?_))
  · exact ce_callX L.ta hr (by decide) rfl tkF (ca_cons (ce_nm 2 (ca_cons (ce_nm 11 (ca_nil ⟨Ma a, v, vh, rfl, al2, .inr ⟨tp, ns, ⟨rvA.mono (fun _ z => z) e2, hl, hw⟩, .inr ⟨tq, ps, rh2.mono (fun _ z => z) e2, by omega, I1.pl, ⟨fun ms' hm v' H3 x3 r3 => q2 v' H3 x3 (by rw [hgo] at hm; cases hm; exact r3), fun p k hm => by rw [hgo] at hm; cases hm⟩⟩⟩⟩)))))
  have ha2 := x2 _ _ ha1
  have I2 := I1.stepE x2
  have eB : ExB a H H2 := I2.ex
  have ro2 := roA.mono (fun _ z => z) (ExM.of x2)
  have rv2 := rvA.mono (fun _ z => z) (ExM.of x2)
  refine b_nil (b_cons (s_if (k := isNone (oddD o)) (al_pot ha2) (td_isN (nm 5 ro2)) (fun k H3 x3 => ?_) (fun k H3 x3 => ?_)))
  · exact b_cons (s_ret (M := Ma a) (al_pot (x3 _ _ ha2)) pd_bl fun v4 H4 x4 r4 => by
      cases r4
      exact q H4 ((ExB.exM eB).trans (.of (x3.trans x4))) ⟨_, _, x4 _ _ (x3 _ _ ha2)⟩ (tabs_eqB hT (eB.trE (x3.trans x4)) ha))
  · cases o with
    | none => cases k
    | some wb =>
      obtain ⟨ws, b⟩ := wb
      obtain ⟨hwn, hwl, hwg⟩ := I2.od ws b rfl
      have t3 : LamX.Tabs T H3 := tabs_eqB hT (eB.trE x3) ha
      have ha3 := x3 _ _ ha2
      have ro3 := ro2.mono (fun _ z => z) (ExM.of x3)
      have rv3 := rv2.mono (fun _ z => z) (ExM.of x3)
      refine b_nil (b_cons (cs_ret (ce_eq hr.units (ce_told (k := 6) FT L.told lb (hr.mono (by decide)) rfl (LamX.lamS_by (by show LamX.lamSB (defScope s_law_walk_kept) _ = true; decide +kernel)) rfl (fun _ _ _ _ _ => rfl) t3 fun H4 e4 t4 A2 outer2 sh2 H02 f2 c2' hr2 => ?_))))
      have m4 : ExM (Ma a) H3 H4 := exM_ofN e4
      have ha4 : H4 a = some (potL r1 c k1) := (exM_ofN (M := M0) e4).lst (fun z => z) ha3
      have ro4 := ro3.mono (fun _ z => z) m4
      have rv4 := rv3.mono (fun _ z => z) m4
      refine ce_callX L.ta hr2 (by decide) rfl (takes_of rfl rfl rfl rfl) (ca_cons (ce_nm 2 (ca_cons (ce_pd (al_pot ha4) (pd_ix (nm 5 ro4) pd_int rfl) fun v5 H5 x5 r5 => ca_nil ⟨Ma a, v, v5, rfl, al_pot (x5 _ _ ha4), .inr ⟨tp, ns, ⟨rv4.mono (fun _ z => z) (ExM.of x5), hl, hw⟩, .inr ⟨false, ws, r5, by omega, hwn, ⟨(fun ms' hm => by rw [hwg] at hm; cases hm), fun p' k' hm H6 x6 d7 H7 hd7 x7 h7 => ?_⟩⟩⟩⟩))))
      rw [hwg] at hm
      cases hm
      refine .inr (.inr (.inr ⟨.int (b : Nat), .int (cut : Nat), ⟨rfl, d7, _, rfl, h7, lk_place _ _⟩, ⟨rfl, d7, _, rfl, h7, lk_step _ _⟩, fun p8 H8 hp8 x8 h8 => ?_⟩))
      have x48 := ((x5.trans x6).trans x7).trans x8
      have ha8 := x48 _ _ ha4
      have rtold : Rp K M0 H8 (.ref p8) (barD (b : Nat) (cut : Nat)) := NewT.rp h8 (.cons (.str _) (.cons (.int _) (.cons (.int _) .nil)))
      have ro8 := ro4.mono (fun _ z => z) (ExM.of x48)
      refine ce_pd (al_pot ha8) (pd_tup (ds := [.str "Barred", .int (b : Nat), .int (cut : Nat)]) (ad_cons pd_str (ad_cons (pd_ix (nm 5 ro8) pd_int rfl) (ad_cons (nm 6 (.int (cut : Nat))) ad_nil))) (by show 3 ≤ 100000; decide)) fun v9 H9 x9 r9 => ?_
      refine ⟨barD (b : Nat) (cut : Nat), barD (b : Nat) (cut : Nat), (rtold.mono (fun _ z => z) (ExM.of x9)).dp, r9.dp, shaped_bar _ _, shaped_bar _ _, ?_⟩
      rw [eqv_bar]
      exact q H9 ((((ExB.exM eB).trans (.of x3)).trans m4).trans (.of (x48.trans x9))) ⟨_, _, x9 _ _ ha8⟩ (t4.ext (x48.trans x9))
def JW (K : PySem.W.Frag) (H : Hp) (a : Addr) (c : Int) (u v : V) (tp : Bool) (ns : List Int) (cut : Nat) (pw : Addr) (i : Nat) (σ' : L2.St) (H' : Hp) : Prop := ∃ (pn : Addr) (ms : List Int) (ps : List Nat) (vo : V) (o : Option (List Nat × Nat)) (xk xt xb xp : Option V), σ' = [some (.ref a), some u, some v, some (.ref pn), some (.ref pw), some vo, some (.int (cut : Nat)), xk, xt, xb, xp, none, none, none] ∧ ps.length = i ∧ WInv K H a c u v tp ns cut pn pw ms ps vo o H'
theorem cl_walk_kept {f CR CP CW CB CH : Addr} {fd : FuncData} {cdv : Value} {T : List (Addr × Str)} (F : FunC K mg "_law_walk_kept" s_law_walk_kept f fd cdv) (L : Calls P w K mg base CR CP CW CB CH)
    (lb : LamB mg base T cdv ((PyProof.Rows.envOfC "_law_walk_kept" (defScope s_law_walk_kept) 0 f cdv).qual ++ "<lambda>")) : Cl P w K mg base CX0 9 "_law_walk_kept" (spWK K T) := by
  have nb := L.nb
  refine ⟨f, fd, _, F.ok sc_law_walk_kept (fun vs H Q E h => ?_) (fun A outer sh H vs Q E hr h => ?_), F.gl, F.kp, F.fn.binds fun _ _ _ _ _ _ us hl => match us, hl with | [_, _, _], _ => rfl⟩
  · obtain ⟨a, r, c, k, u, v, tp, ns, rfl, _⟩ := h
    rfl
  · obtain ⟨a, r, c, k, u, v, tp, ns, rfl, ha, ru, ⟨rv, hl, hw⟩, hT, q⟩ := h
    refine b_cons (cs_set (i := 3) sc_law_walk_kept.nd rfl (by first | exact .inl rfl | exact .inr rfl) (ce_fd (al_pot ha) (fd_listOf rfl nb.list (nm 1 ru) rfl) fun pn ws1 H1 hpn x1 h1 rw1 => ?_))
    have ew1 := rw1.of_ints
    subst ew1
    have ha1 := x1 _ _ ha
    refine b_cons (cs_set (i := 4) sc_law_walk_kept.nd rfl (by first | exact .inl rfl | exact .inr rfl) (ce_fd (al_pot ha1) (fd_lst ad_nil (by simp)) fun pw ws2 H2 hpw x2 h2 rw2 => ?_))
    cases rw2
    have ha2 := x2 _ _ ha1
    refine b_cons (s_set (i := 5) (d := .none) (al_pot ha2) sc_law_walk_kept.nd rfl (by first | exact .inl rfl | exact .inr rfl) pd_non fun vo H3 x3 r3 => ?_)
    have ha3 := x3 _ _ ha2
    refine b_cons (cs_set (i := 6) sc_law_walk_kept.nd rfl (by first | exact .inl rfl | exact .inr rfl) (ce_draw L.draw hr (by decide) rfl (fun H1 Q hq => ce_nm 0 hq) pd_int ha3 (by decide) (by decide +kernel) fun z4 r4 k4 H4 z40 z41 e4 ha4 => ?_))
    obtain ⟨cut, rfl⟩ : ∃ n : Nat, z4 = (n : Int) := ⟨z4.toNat, by omega⟩
    have np1 : pn ≠ a := fun e => by
      rw [e, ha] at hpn
      cases hpn
    have np2 : pw ≠ a := fun e => by
      rw [e, ha1] at hpw
      cases hpw
    have np3 : pn ≠ pw := fun e => by
      rw [← e, h1] at hpw
      cases hpw
    have fw : H pw = none := Evl.fresh_back x1 hpw
    have e03 : ExB a H H3 := ((ExB.of x1).trE x2).trE x3
    have e04 : ExB a H H4 := e03.trans e4
    have toS : ∀ {v d}, Rp K (Ma a) H v d → Rp K (S2 a pw) H4 v d := fun r => (r.wide fun x z => z.imp id fun e => by rw [e]; exact fw).mono (fun _ z => z) (exM_S2 e04)
    have I4 : WInv K H a c u v tp ns cut pn pw ns [] vo none H4 := ⟨e04, ⟨_, _, ha4⟩, e4 _ _ np1 (x3 _ _ (x2 _ _ h1)), fun z => z.elim np1 np3, e4 _ _ np2 (x3 _ _ h2), np2, fw, toS ru, toS rv, (by cases r3; exact .non), rfl, (fun p hp => by cases hp), fun qs => rfl, fun ws b e => by cases e⟩
    refine b_cons (s_forRW (slot := 7) PassesOwn.never rfl sc_law_walk_kept.nd rfl (.inl rfl) rfl nb.range (ce_pd alive0 (pd_int (i := 12)) fun v5 H5 x5 r5 => ?_))
    cases r5
    refine ⟨12, JW K H a c u v tp ns cut pw, rfl, by decide, ⟨pn, ns, [], vo, none, _, _, _, _, rfl, rfl, I4.stepE x5⟩, ?_, ?_⟩
    · rintro i σ' H' hi ⟨pn, ms, ps, vo, o, xk, xt, xb, xp, rfl, hpl, I⟩
      have ml := I.ml
      refine b_cons (cs_set (i := 8) sc_law_walk_kept.nd rfl (by first | exact .inl rfl | exact .inr rfl) (ce_fd I.al (fd_callC L.tl hr (by decide) rfl (ad_cons (nm 3 I.rn) ad_nil) ⟨ms, by omega, rfl, rfl⟩) fun pt wt H6 hpt x6 h6 rw6 => ?_))
      rw [natD_eq] at rw6
      have I6 := I.stepE x6
      have rt : Rp K (S2 a pw) H6 (.ref pt) (intsD (natI (tameL ms))) := .lst (I.al.fresh hpt) (.inl h6) rw6
      refine b_cons (s_setLc (i := 9) (t := .one 12) (own := [("spot", 12)]) (M := S2 a pw) (ds := (List.range ((ms.length : Int) - 1).toNat).map fun i => PyData.int (0 + (i : Nat))) rfl sc_law_walk_kept.nd ?_ (blkOk_by (N := n_law_walk_kept) (sc := defScope s_law_walk_kept) (by decide +kernel)) (fun _ _ _ _ _ => pg_name (i := 12) sc_law_walk_kept.nd rfl (.inl rfl)) (fun _ _ => trivial) ?_ (ntD ms) id ?_ ?_ I6.al rfl rfl rfl fun pb wb2 H7 hpb x7 h7 rw7 => ?_)
      · exact src_range1 rfl nb.range (pd_sub (pd_len nb rfl (nm 3 I6.rn) (n := ms.length) (by show some (List.length (List.map _ _)) = some _; rw [List.length_map])) pd_int) (by omega) (by omega)
      · rintro M H d σ' ⟨v, _, rfl⟩
        rfl
      · rw [List.length_map, List.length_range]
        omega
      · rintro s0 H0 C cl fp M' H' d σ' hM lift hd ⟨v', rv, rfl⟩
        obtain ⟨j, hj, rfl⟩ := List.mem_map.mp hd
        have hj := List.mem_range.mp hj
        rw [Int.zero_add] at rv ⊢
        refine ⟨tsd_one (TD.is (td_nin (nm 12 rv) (nm 8 (lift _ _ rt))) ?_), fun _ => nm 12 rv⟩
        rw [mem_tame (by omega)]
        show _ = (!tamB ms ((j : Nat) : Int).toNat)
        rw [Int.toNat_natCast]
      rw [bar_eq] at rw7
      have I7 := I6.stepE x7
      have rb : Rp K (S2 a pw) H7 (.ref pb) (.list (natD (barL ms))) := .lst (I6.al.fresh hpb) (.inl h7) rw7
      have rt7 := rt.mono (fun _ z => z) (ExM.of x7)
      have tail : ∀ (D' : Ends), (∀ σ' H', JW K H a c u v tp ns cut pw (i + 1) σ' H' → D'.nx σ' H') → (∀ σ' H', wB (XW P w K mg base f cdv A outer sh H E) ((defBody s_law_walk_kept).drop 5) { nx := fun _ H' => Q .non H', rt := Q } σ' H' → D'.bk σ' H') → ∀ vo' o' H' xp', WInv K H a c u v tp ns cut pn pw ms ps vo' o' H' → Rp K (S2 a pw) H' (.ref pt) (intsD (natI (tameL ms))) →
          wB (XW P w K mg base f cdv A outer sh H E) (wkBody.drop 3) D' [some (.ref a), some u, some v, some (.ref pn), some (.ref pw), some vo', some (.int (cut : Nat)), some (.int (i : Nat)), some (.ref pt), some (.ref pb), xp', none, none, none] H' := fun D' hnx hbk vo' o' H' xp' I' rt' => wk_tail (i := i) L hr I' rt' hl (by omega)
        (fun pn' ms' ps' xk xt xb xp H' hps' I'' => hnx _ _ ⟨pn', ms', ps', vo', o', xk, xt, xb, xp, rfl, by omega, I''⟩) (fun xk xt xb xp H' I'' => hbk _ _ (wk_last (r := r) (k := k) L lb hr ha hT hl hw (by omega) I'' q))
      refine b_cons (s_if (k := decide (((i : Nat) : Int) = (cut : Nat)) && !(barL ms).isEmpty) I7.al (WD.td (wd_and (TD.is (td_eq hr.units (nm 7 (.int (i : Nat))) (nm 6 (.int (cut : Nat))) rfl rfl) (eqv_int _ _)) fun _ => wd_and1 (TD.is (td_ne hr.units (nm 9 rb) (FD.pd (fd_lst ad_nil (by simp))) (shN _) rfl) (by rw [natD_nil])))) (fun hk H8 x8 => ?_) (fun hk H8 x8 => ?_))
      · rw [Bool.and_eq_true, decide_eq_true_eq] at hk
        refine wk_odd (xk := some (.int (i : Nat))) L hr (I7.stepE x8) (rt7.mono (fun _ z => z) (ExM.of x8)) (rb.mono (fun _ z => z) (ExM.of x8)) hl (by omega) (by omega) (fun e => by rw [e] at hk; cases hk.2) rfl fun vo' o' H' xp' I' rt' => tail _ (fun _ _ h => h) (fun _ _ h => h) vo' o' H' xp' I' rt'
      · exact b_nil (tail _ (fun _ _ h => h) (fun _ _ h => h) vo o H8 _ (I7.stepE x8) (rt7.mono (fun _ z => z) (ExM.of x8)))
    · rintro σ' H' ⟨pn, ms, ps, vo, o, xk, xt, xb, xp, rfl, hpl, I⟩
      exact wk_last (r := r) (k := k) L lb hr ha hT hl hw (by omega) I q
end
end DK

namespace DK
open PySem PySem.Spec PyProof.Rows L2 GV
def menuD (n : Nat) (far : Int) : List PyData := [.int (-1), .int ((n : Nat) - 1), .int (n : Nat), .int far, .int (-far), .none, .str "0", .bool true, .bool false, .tuple [.int 0], .list [.int 0]]
theorem menu_no {n : Nat} {far : Int} (hf : 1000 < far) (hn : n ≤ 40) {d : PyData} (h : d ∈ menuD n far) : plB n d = false := by
  have key : ∀ i : Int, ¬ (0 ≤ i ∧ i ≤ (n : Int) - 2) → plB n (.int i) = false := fun i hi => by
    show (decide (0 ≤ i) && decide (i ≤ (n : Int) - 2)) = false
    rw [Bool.and_eq_false_iff]
    by_cases h0 : 0 ≤ i
    · exact .inr (decide_eq_false fun h => hi ⟨h0, h⟩)
    · exact .inl (decide_eq_false h0)
  unfold menuD at h
  simp only [List.mem_cons, List.not_mem_nil, or_false] at h
  rcases h with rfl | rfl | rfl | rfl | rfl | rfl | rfl | rfl | rfl | rfl | rfl
  · exact key _ (by omega)
  · exact key _ (by omega)
  · exact key _ (by omega)
  · exact key _ (by omega)
  · exact key _ (by omega)
  all_goals rfl
theorem wk_no {n : Nat} {ds : List PyData} {d : PyData} (h : d ∈ ds) (hd : plB n d = false) (tp : Bool) : wkB n (sqD tp ds) = false := by
  have e : ds.all (plB n) = false := List.all_eq_false.mpr ⟨d, h, by rw [hd]; exact Bool.false_ne_true⟩
  cases tp <;> (show (true && decide (ds.length ≤ 20000) && ds.all (plB n)) = false; rw [e, Bool.and_false])
section
variable {P : Program} {w : World} {K : PySem.W.Frag} {mg : Str → Option Value} {base : Heap}
abbrev GoT (s : Str) (v : V) (G : Hp → Prop) : VK := fun x H2 => ∃ p, x = .ref p ∧ H2 p = some (.tup [.str s, v]) ∧ ∀ H3, Evl.Ex H2 H3 → G H3
theorem raisedR {CR CP CW CB : Addr} {v : V} {G : Hp → Prop} {H0 H : Hp} (hc : ∀ H', Evl.Ex H0 H' → G H') (x : Evl.Ex H0 H) : Raised CR [("row", v)] H (ToldX CR CP CW CB (GoT "InvalidRow" v G)) := fun d H1 hd x1 h1 => .inl ⟨v, ⟨rfl, d, _, rfl, h1, by simp [List.lookup]⟩, fun p H2 hp x2 h2 => ⟨p, rfl, h2, fun H3 x3 => hc _ (((x.trans x1).trans x2).trans x3)⟩⟩
theorem raisedP {CR CP CW CB : Addr} {v : V} {G : Hp → Prop} {H0 H : Hp} (hc : ∀ H', Evl.Ex H0 H' → G H') (x : Evl.Ex H0 H) : Raised CP [("place", v)] H (ToldX CR CP CW CB (GoT "InvalidPlace" v G)) := fun d H1 hd x1 h1 => .inr (.inl ⟨v, ⟨rfl, d, _, rfl, h1, by simp [List.lookup]⟩, fun p H2 hp x2 h2 => ⟨p, rfl, h2, fun H3 x3 => hc _ (((x.trans x1).trans x2).trans x3)⟩⟩)
theorem raisedW {CR CP CW CB : Addr} {v : V} {G : Hp → Prop} {H0 H : Hp} (hc : ∀ H', Evl.Ex H0 H' → G H') (x : Evl.Ex H0 H) : Raised CW [("walk", v)] H (ToldX CR CP CW CB (GoT "InvalidWalk" v G)) := fun d H1 hd x1 h1 => .inr (.inr (.inl ⟨v, ⟨rfl, d, _, rfl, h1, by simp [List.lookup]⟩, fun p H2 hp x2 h2 => ⟨p, rfl, h2, fun H3 x3 => hc _ (((x.trans x1).trans x2).trans x3)⟩⟩))
def spRK (K : PySem.W.Frag) (T : List (Addr × Str)) : Sp := fun vs H Q _ => ∃ (a l : Addr) (r c k : Int) (v : V) (tp : Bool) (ns : List Int), vs = [.ref a, .ref l, v] ∧ H a = some (potL r c k) ∧ a ≠ l ∧ H l = some (.lst (ns.map V.int)) ∧ BagV K (Ma a) H v tp ns ∧ LamX.Tabs T H ∧ ∀ H', ExM (Ma a) H H' → (∃ r' k', H' a = some (potL r' c k')) → LamX.Tabs T H' → Q (.bl true) H'
abbrev XR (P : Program) (w : World) (K : PySem.W.Frag) (mg : Str → Option Value) (base : Heap) (f : Addr) (cdv : Value) (A : Around) (outer : List Env) (sh : Shared) (H : Hp) (E : XK) : Cx := (cxOf CX0 P w K mg base n_law_refusals_kept "_law_refusals_kept" (defScope s_law_refusals_kept) f cdv A outer sh H E).nox
/-- from the list of calls on -/
theorem rk_last {f CR CP CW CB CH : Addr} {cdv : Value} {A : Around} {outer : List Env} {sh : Shared} {H Hs : Hp} {E : XK} {T : List (Addr × Str)} {Q : VK} {a l pm ps : Addr} {r c k far : Int} {v vb vp vw : V} {tp : Bool} {ns : List Int} {dp : PyData}
    (L : Calls P w K mg base CR CP CW CB CH) (lb : LamB mg base T cdv ((PyProof.Rows.envOfC "_law_refusals_kept" (defScope s_law_refusals_kept) 0 f cdv).qual ++ "<lambda>")) (hr : Room 8 (XR P w K mg base f cdv A outer sh Hs E).A) (ha : H a = some (potL r c k)) (hT : LamX.Tabs T H) (bg : BagV K (Ma a) H v tp ns) (ab : Arg K (Ma a) H vb false) (rp : Rp K (Ma a) H vp dp) (hp : plB ns.length dp = false) (wa : WArg K (Ma a) H ns.length vw false)
    (q : ∀ H', ExM (Ma a) H H' → (∃ r' k', H' a = some (potL r' c k')) → LamX.Tabs T H' → Q (.bl true) H') :
    wB (XR P w K mg base f cdv A outer sh Hs E) ((defBody s_law_refusals_kept).drop 7) { nx := fun _ H' => Q .non H', rt := Q } [some (.ref a), some (.ref l), some v, some vb, some (.int far), some (.ref pm), some vp, some (.ref ps), some vw, none, none, none] H := by
  obtain ⟨g, fdT, FT⟩ := L.toldF
  obtain ⟨cc, Pt, hcode, tb, hmT, hu⟩ := id lb
  refine b_lams (i := 9) tb hcode hmT hu sc_law_refusals_kept.nd rfl (by first | exact .inl rfl | exact .inr rfl) ?_ hT (by decide) fun pn fs H1 p1 e1 t1 hp1 hfl hcl => ?_
  · intro l hl
    rcases List.mem_cons.mp hl with rfl | hl
    · exact ⟨LamX.lamS_by (by show LamX.lamSB (defScope s_law_refusals_kept) _ = true; decide +kernel), rfl, fun _ _ _ _ _ => rfl⟩
    rcases List.mem_cons.mp hl with rfl | hl
    · exact ⟨LamX.lamS_by (by show LamX.lamSB (defScope s_law_refusals_kept) _ = true; decide +kernel), rfl, fun _ _ _ _ _ => rfl⟩
    rcases List.mem_cons.mp hl with rfl | hl
    · exact ⟨LamX.lamS_by (by show LamX.lamSB (defScope s_law_refusals_kept) _ = true; decide +kernel), rfl, fun _ _ _ _ _ => rfl⟩
    rcases List.mem_cons.mp hl with rfl | hl
    · exact ⟨LamX.lamS_by (by show LamX.lamSB (defScope s_law_refusals_kept) _ = true; decide +kernel), rfl, fun _ _ _ _ _ => rfl⟩
    rcases List.mem_cons.mp hl with rfl | hl
    · exact ⟨LamX.lamS_by (by show LamX.lamSB (defScope s_law_refusals_kept) _ = true; decide +kernel), rfl, fun _ _ _ _ _ => rfl⟩
    rcases List.mem_cons.mp hl with rfl | hl
    · exact ⟨LamX.lamS_by (by show LamX.lamSB (defScope s_law_refusals_kept) _ = true; decide +kernel), rfl, fun _ _ _ _ _ => rfl⟩
    rcases List.mem_cons.mp hl with rfl | hl
    · exact ⟨LamX.lamS_by (by show LamX.lamSB (defScope s_law_refusals_kept) _ = true; decide +kernel), rfl, fun _ _ _ _ _ => rfl⟩
    cases hl
  · have x2 := Evl.Ex.new (H := H1) (o := .lst (fs.map V.ref)) hp1
    have h2 : upd H1 p1 (.lst (fs.map V.ref)) p1 = some (.lst (fs.map V.ref)) := upd_same
    generalize upd H1 p1 (.lst (fs.map V.ref)) = H2 at x2 h2 ⊢
    let X' : Cx := (XR P w K mg base f cdv A outer sh Hs E).tr pn (XR P w K mg base f cdv A outer sh Hs E).xe
    have m2 : ExM (Ma a) H H2 := (exM_ofN e1).trans (.of x2)
    have ha2 : H2 a = some (potL r c k) := x2 _ _ ((exM_ofN (M := M0) e1).lst (fun z => z) ha)
    have t2 := t1.ext x2
    -- what stays
    let Ft : Hp → Prop := fun H' => ExM (Ma a) H H' ∧ H' a = some (potL r c k) ∧ LamX.Tabs T H'
    have ftE : ∀ {H3 H4}, Ft H3 → Evl.Ex H3 H4 → Ft H4 := fun {H3 H4} h x => ⟨h.1.trans (.of x), x _ _ h.2.1, h.2.2.ext x⟩
    have ftN : ∀ {H3 H4}, Ft H3 → LamX.ExtN H3 H4 → LamX.Tabs T H4 → Ft H4 := fun {H3 H4} h e t => ⟨h.1.trans (exM_ofN e), (exM_ofN (M := M0) e).lst (fun z => z) h.2.1, t⟩
    have ft2 : Ft H2 := ⟨m2, ha2, t2⟩
    have st3 : ∀ xc H3, Ft H3 → wB X' ((defBody s_law_refusals_kept).drop 11) { nx := fun _ H' => Q .non H', rt := Q } [some (.ref a), some (.ref l), some v, some vb, some (.int far), some (.ref pm), some vp, some (.ref ps), some vw, some (.ref p1), xc, none] H3 := by
      intro xc H3 h3
      refine b_cons (cs_ret (ce_same2 (i := 8) hr.units wa.sameB rfl (by first | exact .inl rfl | exact .inr (.inl rfl)) rfl (ce_told (k := 6) FT L.told lb (hr.mono (by decide)) rfl (LamX.lamS_by (by show LamX.lamSB (defScope s_law_refusals_kept) _ = true; decide +kernel)) rfl (fun _ _ _ _ _ => rfl) h3.2.2 fun H4 e4 t4 A2 outer2 sh2 H02 f2 c2' hr2 => ?_)))
      have h4 := ftN h3 e4 t4
      exact ce_callX L.ta hr2 (by decide) rfl (takes_of rfl rfl rfl rfl) (ca_cons (ce_nm 2 (ca_cons (ce_nm 8 (ca_nil ⟨Ma a, v, vw, rfl, al_pot h4.2.1, .inr ⟨tp, ns, bg.mono (fun _ z => z) h4.1, .inl ⟨wa.mono (fun _ z => z) h4.1, fun H5 x5 => raisedW (fun H6 x6 => let h6 := ftE h4 x6; q H6 h6.1 ⟨_, _, h6.2.1⟩ h6.2.2) x5⟩⟩⟩)))))
    have st2 : ∀ xc H3, Ft H3 → wB X' ((defBody s_law_refusals_kept).drop 10) { nx := fun _ H' => Q .non H', rt := Q } [some (.ref a), some (.ref l), some v, some vb, some (.int far), some (.ref pm), some vp, some (.ref ps), some vw, some (.ref p1), xc, none] H3 := by
      intro xc H3 h3
      refine b_cons (cs_if (ct_same2 (i := 6) hr.units (DK.Rp.sameB rp) rfl (by first | exact .inl rfl | exact .inr (.inl rfl)) rfl (ce_told (k := 6) FT L.told lb (hr.mono (by decide)) rfl (LamX.lamS_by (by show LamX.lamSB (defScope s_law_refusals_kept) _ = true; decide +kernel)) rfl (fun _ _ _ _ _ => rfl) h3.2.2 fun H4 e4 t4 A2 outer2 sh2 H02 f2 c2' hr2 => ?_)))
      have h4 := ftN h3 e4 t4
      exact ce_callX L.tc hr2 (by decide) rfl (takes_of rfl rfl rfl rfl) (ca_cons (ce_nm 2 (ca_cons (ce_nm 6 (ca_nil ⟨Ma a, v, vp, rfl, al_pot h4.2.1, .inr ⟨tp, ns, dp, bg.mono (fun _ z => z) h4.1, rp.mono (fun _ z => z) h4.1, .inl ⟨hp, fun H5 x5 => raisedP (fun H6 x6 => by rw [if_neg Bool.false_ne_true]; exact b_nil (st3 xc H6 (ftE h4 x6))) x5⟩⟩⟩)))))
    have st1 : ∀ xc H3, Ft H3 → wB X' ((defBody s_law_refusals_kept).drop 9) { nx := fun _ H' => Q .non H', rt := Q } [some (.ref a), some (.ref l), some v, some vb, some (.int far), some (.ref pm), some vp, some (.ref ps), some vw, some (.ref p1), xc, none] H3 := by
      intro xc H3 h3
      refine b_cons (cs_if (ct_same2 (i := 6) hr.units (DK.Rp.sameB rp) rfl (by first | exact .inl rfl | exact .inr (.inl rfl)) rfl (ce_told (k := 6) FT L.told lb (hr.mono (by decide)) rfl (LamX.lamS_by (by show LamX.lamSB (defScope s_law_refusals_kept) _ = true; decide +kernel)) rfl (fun _ _ _ _ _ => rfl) h3.2.2 fun H4 e4 t4 A2 outer2 sh2 H02 f2 c2' hr2 => ?_)))
      have h4 := ftN h3 e4 t4
      exact ce_callX L.it hr2 (by decide) rfl (takes_of rfl rfl rfl rfl) (ca_cons (ce_nm 2 (ca_cons (ce_nm 6 (ca_nil ⟨Ma a, v, vp, rfl, al_pot h4.2.1, .inr ⟨tp, ns, dp, bg.mono (fun _ z => z) h4.1, rp.mono (fun _ z => z) h4.1, .inl ⟨hp, fun H5 x5 => raisedP (fun H6 x6 => by rw [if_neg Bool.false_ne_true]; exact b_nil (st2 xc H6 (ftE h4 x6))) x5⟩⟩⟩)))))
    refine b_cons (s_forL (slot := 10) PassesOwn.never rfl sc_law_refusals_kept.nd rfl (.inl rfl) (ce_nm 9 ⟨p1, fs.map V.ref, fun i σ' H' => (∃ xc, σ' = [some (.ref a), some (.ref l), some v, some vb, some (.int far), some (.ref pm), some vp, some (.ref ps), some vw, some (.ref p1), xc, none]) ∧ Evl.Ex H2 H', rfl, ⟨⟨none, rfl⟩, Evl.Ex.refl _⟩, fun i σ' H' h => h.2 _ _ h2, ?_, ?_⟩))
    · rintro i σ' H' y hy ⟨⟨xc, rfl⟩, x⟩
      rw [List.getElem?_map] at hy
      obtain ⟨fi, hfi, rfl⟩ := Option.map_eq_some_iff.mp hy
      have hi : i < 7 := by
        have := (List.getElem?_eq_some_iff.mp hfi).1
        rw [hfl] at this
        exact this
      have h' := ftE ft2 x
      have ha' := h'.2.1
      have ab' := ab.mono (fun _ z => z) h'.1
      have rp' := rp.mono (fun _ z => z) h'.1
      have wa' := wa.mono (fun _ z => z) h'.1
      have clo : ∀ {l}, CloAt (XR P w K mg base f cdv A outer sh Hs E) pn H1 l fi → CloAt X' pn H' l fi := fun ⟨pm, c', ctv, h1, h2⟩ => ⟨pm, c', ctv, h1, x _ _ (x2 _ _ h2)⟩
      match i, hi with
      | 0, _ =>
        refine b_cons (cs_if (ct_same2 (i := 3) hr.units ab.sameB rfl (by first | exact .inl rfl | exact .inr (.inl rfl)) rfl (ce_toldV (k := 6) (j := 10) FT L.told (hr.mono (by decide)) rfl rfl (.inl rfl) rfl (clo (hcl 0 _ fi rfl hfi)) ⟨LamX.lamS_by (by show LamX.lamSB (defScope s_law_refusals_kept) _ = true; decide +kernel), rfl, fun _ _ _ _ _ => rfl⟩ fun A2 outer2 sh2 H02 f2 c2' hr2 => ?_)))
        exact ce_callX L.tp hr2 (by decide) rfl (takes_of rfl rfl rfl rfl) (ca_cons (ce_nm 3 (ca_nil ⟨Ma a, vb, rfl, al_pot ha', .inr ⟨ab', fun H4 x4 => raisedR (fun H3 x3 => by rw [if_neg Bool.false_ne_true]; exact b_nil (b_nil ⟨⟨_, rfl⟩, x.trans x3⟩)) x4⟩⟩)))
      | 1, _ =>
        refine b_cons (cs_if (ct_same2 (i := 3) hr.units ab.sameB rfl (by first | exact .inl rfl | exact .inr (.inl rfl)) rfl (ce_toldV (k := 6) (j := 10) FT L.told (hr.mono (by decide)) rfl rfl (.inl rfl) rfl (clo (hcl 1 _ fi rfl hfi)) ⟨LamX.lamS_by (by show LamX.lamSB (defScope s_law_refusals_kept) _ = true; decide +kernel), rfl, fun _ _ _ _ _ => rfl⟩ fun A2 outer2 sh2 H02 f2 c2' hr2 => ?_)))
        exact ce_callX L.it hr2 (by decide) rfl (takes_of rfl rfl rfl rfl) (ca_cons (ce_nm 3 (ca_cons (ce_pd (al_pot ha') pd_int fun v5 H5 x5 r5 => ca_nil ⟨Ma a, vb, v5, rfl, al_pot (x5 _ _ ha'), .inl ⟨ab'.mono (fun _ z => z) (ExM.of x5), fun H4 x4 => raisedR (fun H3 x3 => by rw [if_neg Bool.false_ne_true]; exact b_nil (b_nil ⟨⟨_, rfl⟩, x.trans x3⟩)) (x5.trans x4)⟩⟩))))
      | 2, _ =>
        refine b_cons (cs_if (ct_same2 (i := 3) hr.units ab.sameB rfl (by first | exact .inl rfl | exact .inr (.inl rfl)) rfl (ce_toldV (k := 6) (j := 10) FT L.told (hr.mono (by decide)) rfl rfl (.inl rfl) rfl (clo (hcl 2 _ fi rfl hfi)) ⟨LamX.lamS_by (by show LamX.lamSB (defScope s_law_refusals_kept) _ = true; decide +kernel), rfl, fun _ _ _ _ _ => rfl⟩ fun A2 outer2 sh2 H02 f2 c2' hr2 => ?_)))
        exact ce_callX L.it hr2 (by decide) rfl (takes_of rfl rfl rfl rfl) (ca_cons (ce_nm 3 (ca_cons (ce_nm 6 (ca_nil ⟨Ma a, vb, vp, rfl, al_pot ha', .inl ⟨ab', fun H4 x4 => raisedR (fun H3 x3 => by rw [if_neg Bool.false_ne_true]; exact b_nil (b_nil ⟨⟨_, rfl⟩, x.trans x3⟩)) x4⟩⟩)))))
      | 3, _ =>
        refine b_cons (cs_if (ct_same2 (i := 3) hr.units ab.sameB rfl (by first | exact .inl rfl | exact .inr (.inl rfl)) rfl (ce_toldV (k := 6) (j := 10) FT L.told (hr.mono (by decide)) rfl rfl (.inl rfl) rfl (clo (hcl 3 _ fi rfl hfi)) ⟨LamX.lamS_by (by show LamX.lamSB (defScope s_law_refusals_kept) _ = true; decide +kernel), rfl, fun _ _ _ _ _ => rfl⟩ fun A2 outer2 sh2 H02 f2 c2' hr2 => ?_)))
        exact ce_callX L.tc hr2 (by decide) rfl (takes_of rfl rfl rfl rfl) (ca_cons (ce_nm 3 (ca_cons (ce_pd (al_pot ha') pd_int fun v5 H5 x5 r5 => ca_nil ⟨Ma a, vb, v5, rfl, al_pot (x5 _ _ ha'), .inl ⟨ab'.mono (fun _ z => z) (ExM.of x5), fun H4 x4 => raisedR (fun H3 x3 => by rw [if_neg Bool.false_ne_true]; exact b_nil (b_nil ⟨⟨_, rfl⟩, x.trans x3⟩)) (x5.trans x4)⟩⟩))))
      | 4, _ =>
        refine b_cons (cs_if (ct_same2 (i := 3) hr.units ab.sameB rfl (by first | exact .inl rfl | exact .inr (.inl rfl)) rfl (ce_toldV (k := 6) (j := 10) FT L.told (hr.mono (by decide)) rfl rfl (.inl rfl) rfl (clo (hcl 4 _ fi rfl hfi)) ⟨LamX.lamS_by (by show LamX.lamSB (defScope s_law_refusals_kept) _ = true; decide +kernel), rfl, fun _ _ _ _ _ => rfl⟩ fun A2 outer2 sh2 H02 f2 c2' hr2 => ?_)))
        exact ce_callX L.tc hr2 (by decide) rfl (takes_of rfl rfl rfl rfl) (ca_cons (ce_nm 3 (ca_cons (ce_nm 6 (ca_nil ⟨Ma a, vb, vp, rfl, al_pot ha', .inl ⟨ab', fun H4 x4 => raisedR (fun H3 x3 => by rw [if_neg Bool.false_ne_true]; exact b_nil (b_nil ⟨⟨_, rfl⟩, x.trans x3⟩)) x4⟩⟩)))))
      | 5, _ =>
        refine b_cons (cs_if (ct_same2 (i := 3) hr.units ab.sameB rfl (by first | exact .inl rfl | exact .inr (.inl rfl)) rfl (ce_toldV (k := 6) (j := 10) FT L.told (hr.mono (by decide)) rfl rfl (.inl rfl) rfl (clo (hcl 5 _ fi rfl hfi)) ⟨LamX.lamS_by (by show LamX.lamSB (defScope s_law_refusals_kept) _ = true; decide +kernel), rfl, fun _ _ _ _ _ => rfl⟩ fun A2 outer2 sh2 H02 f2 c2' hr2 => ?_)))
        exact ce_callX L.ta hr2 (by decide) rfl (takes_of rfl rfl rfl rfl) (ca_cons (ce_nm 3 (ca_cons (ce_fd (al_pot ha') (fd_lst ad_nil (by simp)) fun p5 ws5 H5 hp5 x5 h5 r5 => ca_nil ⟨Ma a, vb, .ref p5, rfl, al_pot (x5 _ _ ha'), .inl ⟨ab'.mono (fun _ z => z) (ExM.of x5), fun H4 x4 => raisedR (fun H3 x3 => by rw [if_neg Bool.false_ne_true]; exact b_nil (b_nil ⟨⟨_, rfl⟩, x.trans x3⟩)) (x5.trans x4)⟩⟩))))
      | 6, _ =>
        refine b_cons (cs_if (ct_same2 (i := 3) hr.units ab.sameB rfl (by first | exact .inl rfl | exact .inr (.inl rfl)) rfl (ce_toldV (k := 6) (j := 10) FT L.told (hr.mono (by decide)) rfl rfl (.inl rfl) rfl (clo (hcl 6 _ fi rfl hfi)) ⟨LamX.lamS_by (by show LamX.lamSB (defScope s_law_refusals_kept) _ = true; decide +kernel), rfl, fun _ _ _ _ _ => rfl⟩ fun A2 outer2 sh2 H02 f2 c2' hr2 => ?_)))
        exact ce_callX L.ta hr2 (by decide) rfl (takes_of rfl rfl rfl rfl) (ca_cons (ce_nm 3 (ca_cons (ce_nm 8 (ca_nil ⟨Ma a, vb, vw, rfl, al_pot ha', .inl ⟨ab', fun H4 x4 => raisedR (fun H3 x3 => by rw [if_neg Bool.false_ne_true]; exact b_nil (b_nil ⟨⟨_, rfl⟩, x.trans x3⟩)) x4⟩⟩)))))
    · rintro σ' H3 ⟨⟨xc, rfl⟩, x3⟩
      exact st1 xc H3 (ftE ft2 x3)
end
end DK

namespace DK
open PySem PySem.Spec PyProof.Rows L2 GV
section
variable {P : Program} {w : World} {K : PySem.W.Frag} {mg : Str → Option Value} {base : Heap}
theorem cl_refusals_kept {f CR CP CW CB CH : Addr} {fd : FuncData} {cdv : Value} {T : List (Addr × Str)} (F : FunC K mg "_law_refusals_kept" s_law_refusals_kept f fd cdv) (L : Calls P w K mg base CR CP CW CB CH)
    (lb : LamB mg base T cdv ((PyProof.Rows.envOfC "_law_refusals_kept" (defScope s_law_refusals_kept) 0 f cdv).qual ++ "<lambda>")) : Cl P w K mg base CX0 9 "_law_refusals_kept" (spRK K T) := by
  have nb := L.nb
  refine ⟨f, fd, _, F.ok sc_law_refusals_kept (fun vs H Q E h => ?_) (fun A outer sh H vs Q E hr h => ?_), F.gl, F.kp, F.fn.binds fun _ _ _ _ _ _ us hl => match us, hl with | [_, _, _], _ => rfl⟩
  · obtain ⟨a, l, r, c, k, v, tp, ns, rfl, _⟩ := h
    rfl
  · obtain ⟨a, l, r, c, k, v, tp, ns, rfl, ha, nal, hl, bg, hT, q⟩ := h
    have hlen := bg.2.1
    have rl : ∀ {H' : Hp}, H' l = some (.lst (ns.map V.int)) → Rp K (Ma a) H' (.ref l) (intsD ns) := fun h => .lst (fun e => nal e.symm) (.inl h) (.ints ns)
    -- bad
    refine b_cons (cs_set (i := 3) sc_law_refusals_kept.nd rfl (by first | exact .inl rfl | exact .inr rfl) (ce_call L.bad hr (by decide) rfl (ca_cons (ce_nm 0 (ca_cons (ce_nm 1 (ca_nil ⟨a, l, ns, r, c, k, rfl, ha, nal, hl, hlen, fun vb r1 k1 H1 e1 ha1 ab1 => ?_⟩)))))))
    have hl1 := e1 _ _ (Ne.symm nal) hl
    -- far
    refine b_cons (s_set (i := 4) (d := .int (10 ^ Int.toNat 30)) (al_pot ha1) sc_law_refusals_kept.nd rfl (by first | exact .inl rfl | exact .inr rfl) (pd_pow pd_int pd_int ⟨by decide, by decide, by decide⟩) fun v2 H2 x2 r2 => ?_)
    cases r2
    generalize hfar : (10 ^ Int.toNat 30 : Int) = far
    have far1 : 1000 < far := by rw [← hfar]; decide
    have ha2 := x2 _ _ ha1
    have hl2 := x2 _ _ hl1
    -- menu
    refine b_cons (cs_set (i := 5) sc_law_refusals_kept.nd rfl (by first | exact .inl rfl | exact .inr rfl) (ce_fd (al_pot ha2) (fd_lst (ds := menuD ns.length far) (ad_cons (pd_neg pd_int) (ad_cons (pd_sub (pd_len nb rfl (nm 1 (rl hl2)) (n := ns.length) (by show some (List.length (List.map _ _)) = some _; rw [List.length_map])) pd_int) (ad_cons (pd_len nb rfl (nm 1 (rl hl2)) (n := ns.length) (by show some (List.length (List.map _ _)) = some _; rw [List.length_map])) (ad_cons (nm 4 (.int far)) (ad_cons (pd_neg (nm 4 (.int far))) (ad_cons pd_non (ad_cons pd_str (ad_cons pd_bl (ad_cons pd_bl (ad_cons (pd_tup (ad_cons pd_int ad_nil) (by simp)) (ad_cons (FD.pd (fd_lst (ad_cons pd_int ad_nil) (by simp))) ad_nil))))))))))) (by show 11 ≤ 100000; decide)) fun pm wm H3 hpm x3 h3 rm => ?_))
    have ha3 := x3 _ _ ha2
    have hl3 := x3 _ _ hl2
    have rme : Rp K (Ma a) H3 (.ref pm) (.list (menuD ns.length far)) := .lst ((al_pot ha2).fresh hpm) (.inl h3) rm
    -- place
    refine b_cons (cs_set (i := 6) sc_law_refusals_kept.nd rfl (by first | exact .inl rfl | exact .inr rfl) (ce_ix (ce_nm 5 (ce_draw L.draw hr (by decide) rfl (fun H1 Q hq => ce_nm 0 hq) pd_int ha3 (by decide) (by decide +kernel) fun z4 r4 k4 H4 z40 z41 e4 ha4 => ?_))))
    have ml : (menuD ns.length far).length = 11 := rfl
    obtain ⟨dp, hdp⟩ : ∃ d, (menuD ns.length far)[z4.toNat]? = some d := ⟨_, List.getElem?_eq_getElem (by omega)⟩
    have hdn := menu_no far1 hlen (List.mem_of_getElem? hdp)
    refine rIx_of (M := Ma a) (da := .list (menuD ns.length far)) (d := dp) (rme.mono (fun _ z => z) (ExB.exM e4)) (by rw [show z4 = ((z4.toNat : Nat) : Int) by omega]; exact ixD_list hdp) fun vp rp => ?_
    have hl4 := e4 _ _ (Ne.symm nal) hl3
    have e04 : ExB a H H4 := ((e1.trE x2).trE x3).trans e4
    -- steps
    refine b_cons (s_setLcR (iy := 7) (slot := 11) (own := [("k", 11)]) rfl sc_law_refusals_kept.nd rfl nb.range (blkOk_by (N := n_law_refusals_kept) (sc := defScope s_law_refusals_kept) (by decide +kernel)) (fun _ _ _ _ _ => pg_name (i := 11) sc_law_refusals_kept.nd rfl (.inl rfl)) (fun v => rfl) (ce_draw L.draw hr (by decide) rfl (fun H1 Q hq => ce_nm 0 hq) pd_int ha4 (by decide) (by decide +kernel) fun z5 r5 k5 H5 z50 z51 e5 ha5 => ?_) rfl rfl rfl)
    refine ⟨z5.toNat, by rw [show ((z5.toNat : Nat) : Int) = z5 by omega], by omega, fun D6 hD6 => ?_⟩
    have nad : a ≠ D6 := fun e => by
      rw [← e, ha5] at hD6
      cases hD6
    have hl5 := e5 _ _ (Ne.symm nal) hl4
    have nlD : l ≠ D6 := fun e => by
      rw [← e, hl5] at hD6
      cases hD6
    refine ⟨fun i H' => ∃ (zs : List Int) (r' k' : Int), ExS (S2 a D6) (upd H5 D6 (.lst [])) H' ∧ H' a = some (potL r' c k') ∧ H' D6 = some (.lst (zs.map V.int)) ∧ zs.length = i, ⟨[], r5, k5, fun x o _ h => h, by rw [upd_ne nad]; exact ha5, upd_same, rfl⟩, ?_, ?_⟩
    · rintro i H' hi ⟨zs, r', k', e, h1, h2, hlz⟩ s0 H0' C cl fp
      have hlH : H' l = some (.lst (ns.map V.int)) := e _ _ (fun z => z.elim (fun e => nal e.symm) nlD) (by rw [upd_ne nlD]; exact hl5)
      refine ce_draw L.draw hr (by decide) rfl (fun H1 Q hq => ce_nm 0 hq) (pd_max2 rfl nb.max pd_int (pd_sub (pd_len nb rfl (nm 1 (rl hlH)) (n := ns.length) (by show some (List.length (List.map _ _)) = some _; rw [List.length_map])) pd_int)) h1 (by omega) (n8000 (by omega) (by omega)) fun z8 r8 k8 H8 z80 z81 e8 ha8 => ?_
      refine ⟨zs.map V.int, e8 _ _ (Ne.symm nad) h2, by rw [List.length_map]; omega, zs ++ [z8], r8, k8, ?_, ?_, ?_, ?_⟩
      · exact (e.trans (ExS.mono (S := fun x => x = a) (fun x o n h => e8 x o n h) fun x e => .inl e)).trans (.upd (.inr rfl))
      · rw [upd_ne nad]
        exact ha8
      · rw [upd_same, List.map_append]
        rfl
      · rw [List.length_append, hlz]
        rfl
    · rintro H6 ⟨zs, r6, k6, e6, ha6, h6, hlz⟩
      have eb : ExB a H5 H6 := exB_of_S2 e6 (.of (Evl.Ex.new hD6)) hD6
      have e46 : ExB a H4 H6 := e5.trans eb
      have rp6 := rp.mono (fun _ z => z) (ExB.exM e46)
      have rz6 : Rp K (Ma a) H6 (.ref D6) (intsD zs) := .lst (Ne.symm nad) (.inl h6) (.ints zs)
      have fD : H D6 = none := by
        by_cases h0 : H D6 = none
        · exact h0
        · obtain ⟨o, ho⟩ := Option.ne_none_iff_exists'.mp h0
          have := e5 _ _ (Ne.symm nad) (e04 _ _ (Ne.symm nad) ho)
          rw [hD6] at this
          cases this
      have f4 : H4 D6 = none := by
        by_cases h0 : H4 D6 = none
        · exact h0
        · obtain ⟨o, ho⟩ := Option.ne_none_iff_exists'.mp h0
          have := e5 _ _ (Ne.symm nad) ho
          rw [hD6] at this
          cases this
      -- the place goes in
      refine b_cons (cs_expr (ce_insert (ce_nm 7 ⟨D6, rfl, ⟨_, h6⟩, ce_draw L.draw hr (by decide) rfl (fun H1 Q hq => ce_nm 0 hq) (pd_add (pd_len nb rfl (nm 7 rz6) (n := zs.length) (by show some (List.length (List.map _ _)) = some _; rw [List.length_map])) pd_int) ha6 (by omega) (n8000 (by omega) (by omega)) fun z7 r7 k7 H7 z70 z71 e7 ha7 => ce_nm 6 ⟨zs.map V.int, z7.toNat, e7 _ _ (Ne.symm nad) h6, by rw [show ((z7.toNat : Nat) : Int) = z7 by omega], by omega, by rw [List.length_map]; omega, ?_⟩⟩)))
      generalize hH8 : upd H7 D6 (.lst ((zs.map V.int).take z7.toNat ++ [vp] ++ (zs.map V.int).drop z7.toNat)) = H8
      have h8 : H8 D6 = some (.lst ((zs.map V.int).take z7.toNat ++ [vp] ++ (zs.map V.int).drop z7.toNat)) := by rw [← hH8, upd_same]
      have ha8 : H8 a = some (potL r7 c k7) := by
        rw [← hH8, upd_ne nad]
        exact ha7
      have e08 : ExB a H H8 := fun x o n h => by
        rw [← hH8, upd_ne (ne_of_none h fD)]
        exact e7 _ _ n (e46 _ _ n (e04 _ _ n h))
      have rp8 : Rp K (Ma a) H8 vp dp := by
        have q1 : Rp K (S2 a D6) H4 vp dp := rp.wide fun x z => z.imp id fun e => by rw [e]; exact f4
        refine (q1.mono (fun _ z => z) (H' := H8) fun x o h n _ => ?_).mono (fun _ z => .inl z) (ExM.refl _)
        rw [← hH8, upd_ne fun e => n (.inr e)]
        exact e7 _ _ (fun z => n (.inl z)) (e46 _ _ (fun z => n (.inl z)) h)
      have ab8 : Arg K (Ma a) H8 vb false := by
        have fD1 : H1 D6 = none := by
          by_cases h0 : H1 D6 = none
          · exact h0
          · obtain ⟨o, ho⟩ := Option.ne_none_iff_exists'.mp h0
            have := e4 _ _ (Ne.symm nad) (x3 _ _ (x2 _ _ ho))
            rw [f4] at this
            cases this
        have e18 : ExM (Ma a) H1 H8 := fun x o h n _ => by
          rw [← hH8, upd_ne (ne_of_none h fD1)]
          exact e7 _ _ n (e46 _ _ n (e4 _ _ n (x3 _ _ (x2 _ _ h))))
        exact ab1.mono (fun _ z => z) e18
      have bg8 := bg.mono (fun _ z => z) (ExB.exM e08)
      have t8 : LamX.Tabs T H8 := tabs_eqB hT e08 ha
      generalize hsd : (zs.map PyData.int).take z7.toNat ++ [dp] ++ (zs.map PyData.int).drop z7.toNat = sd
      have hsl : sd.length = zs.length + 1 := by rw [← hsd, ins_len, List.length_map]
      have hsm : dp ∈ sd := by
        rw [← hsd, ins_mem]
        exact .inl rfl
      have rsd : Rp K (Ma a) H8 (.ref D6) (.list sd) := by
        rw [← hsd]
        exact .lst (Ne.symm nad) (.inl h8) ((((RpAll.ints zs).take _).append (.cons rp8 .nil)).append ((RpAll.ints zs).drop _))
      have wl : ∀ tp, wkB ns.length (sqD tp sd) = false := wk_no hsm hdn
      have zl : zs.length < 4 := by omega
      -- walk
      refine b_cons (cs_set (i := 8) sc_law_refusals_kept.nd rfl (by first | exact .inl rfl | exact .inr rfl) (ce_ix (ce_lst (ca_cons (ce_nm 7 (ca_cons (ce_pd (al_pot ha8) (pd_tupleOf rfl nb.tuple (nm 7 rsd) rfl) fun v9 H9 x9 r9 => ca_cons (ce_pd (al_pot (x9 _ _ ha8)) pd_non fun v10 H10 x10 r10 => ca_cons (ce_pd (al_pot (x10 _ _ (x9 _ _ ha8))) (pd_int (i := 0)) fun v11 H11 x11 r11 => ca_cons (ce_str (ca_cons (ce_dict0 fun p12 hp12 => ca_cons (ce_dict1 fun p13 hp13 => ca_cons (ce_str (ca_nil ⟨(by show 8 ≤ 1000; decide), fun p14 hp14 => ?_⟩)))))))))))))))
      cases r10
      cases r11
      have x12 := Evl.Ex.new (H := H11) (o := .dK []) hp12
      have h12 : upd H11 p12 (.dK []) p12 = some (.dK []) := upd_same
      generalize upd H11 p12 (.dK []) = H12 at x12 h12 hp13 hp14 ⊢
      have x13 := Evl.Ex.new (H := H12) (o := .dK [(.inl 0, .int 0)]) hp13
      have h13 : upd H12 p13 (.dK [(.inl 0, .int 0)]) p13 = some (.dK [(.inl 0, .int 0)]) := upd_same
      generalize upd H12 p13 (.dK [(.inl 0, .int 0)]) = H13 at x13 h13 hp14 ⊢
      have x14 := Evl.Ex.new (H := H13) (o := .lst [.ref D6, v9, .non, .int 0, .str "", .ref p12, .ref p13, .str "0"]) hp14
      have h14 : upd H13 p14 (.lst [.ref D6, v9, .non, .int 0, .str "", .ref p12, .ref p13, .str "0"]) p14 = some (.lst [.ref D6, v9, .non, .int 0, .str "", .ref p12, .ref p13, .str "0"]) := upd_same
      generalize upd H13 p14 (.lst [.ref D6, v9, .non, .int 0, .str "", .ref p12, .ref p13, .str "0"]) = H14 at x14 h14 ⊢
      have x814 := ((((x9.trans x10).trans x11).trans x12).trans x13).trans x14
      have ha14 := x814 _ _ ha8
      refine ce_draw L.draw hr (by decide) rfl (fun H1 Q hq => ce_nm 0 hq) pd_int ha14 (by decide) (by decide +kernel) fun z15 r15 k15 H15 z150 z151 e15 ha15 => ?_
      have m815 : ExM (Ma a) H8 H15 := (ExM.of x814).trans (ExB.exM e15)
      have n14 : p14 ≠ a := fun e => by
        rw [e, x13 _ _ (x12 _ _ (x11 _ _ (x10 _ _ (x9 _ _ ha8))))] at hp14
        cases hp14
      have n12 : p12 ≠ a := fun e => by
        rw [e, x11 _ _ (x10 _ _ (x9 _ _ ha8))] at hp12
        cases hp12
      have n13 : p13 ≠ a := fun e => by
        rw [e, x12 _ _ (x11 _ _ (x10 _ _ (x9 _ _ ha8)))] at hp13
        cases hp13
      have h15 := e15 _ _ n14 h14
      have r915 := (r9.mono (fun _ z => z) (ExM.of ((((x10.trans x11).trans x12).trans x13).trans x14))).mono (fun _ z => z) (ExB.exM e15)
      have sl : ∀ tp, (partsD (sqD tp sd)).length ≤ 90000 := fun tp => by
        rw [parts_sq', hsl]
        omega
      have fin : ∀ vw, WArg K (Ma a) H15 ns.length vw false → wB (XR P w K mg base f cdv A outer sh H E) ((defBody s_law_refusals_kept).drop 7) { nx := fun _ H' => Q .non H', rt := Q } [some (.ref a), some (.ref l), some v, some vb, some (.int far), some (.ref pm), some vp, some (.ref D6), some vw, none, none, none] H15 := fun vw wa =>
        rk_last L lb hr ha15 (tabs_eqB (t8.ext x814) e15 ha14) (bg8.mono (fun _ z => z) m815) (ab8.mono (fun _ z => z) m815) (rp8.mono (fun _ z => z) m815) hdn wa fun H' m p t => q H' ((ExB.exM e08).trans (m815.trans m)) p t
      obtain ⟨n, rfl⟩ : ∃ n : Nat, z15 = (n : Int) := ⟨z15.toNat, by omega⟩
      have hn : n < 8 := by omega
      match n, hn with
      | 0, _ => exact rIx_lst h15 rfl (fin _ (.inl ⟨_, rsd.mono (fun _ z => z) m815, sl false, wl false⟩))
      | 1, _ => exact rIx_lst h15 rfl (fin _ (.inl ⟨_, r915, sl true, wl true⟩))
      | 2, _ => exact rIx_lst h15 rfl (fin _ (.inl ⟨.none, .non, by decide, rfl⟩))
      | 3, _ => exact rIx_lst h15 rfl (fin _ (.inl ⟨.int 0, .int 0, by decide, rfl⟩))
      | 4, _ => exact rIx_lst h15 rfl (fin _ (.inl ⟨.str "", .str _, by show 0 ≤ 90000; decide, rfl⟩))
      | 5, _ => exact rIx_lst h15 rfl (fin _ (.inr ⟨rfl, p12, _, rfl, n12, e15 _ _ n12 (x14 _ _ (x13 _ _ h12))⟩))
      | 6, _ => exact rIx_lst h15 rfl (fin _ (.inr ⟨rfl, p13, _, rfl, n13, e15 _ _ n13 (x14 _ _ h13)⟩))
      | 7, _ => exact rIx_lst h15 rfl (fin _ (.inl ⟨.str "0", .str _, by show 0 ≤ 90000; decide, rfl⟩))
end
end DK

namespace DK
open PySem PySem.Spec PyProof.Rows L2 GV
theorem cw_or {X : Cx} {σ : L2.St} {H : Hp} {a b : Expr} {pos : Pos} {rest : List Expr} {Q : Bool → Hp → Prop} (h : wT X a σ H fun k H2 => (k = true → Q true H2) ∧ (k = false → wW X (.BoolOp .Or (b :: rest) pos) σ H2 Q)) : wW X (.BoolOp .Or (a :: b :: rest) pos) σ H Q :=
  ⟨_, pw_or wT.pt wW.pw, wT.weak h fun k H2 ⟨h1, h2⟩ => by
    cases k with
    | true => exact h1 rfl
    | false => exact h2 rfl⟩
theorem cw_or1 {X : Cx} {σ : L2.St} {H : Hp} {a : Expr} {pos : Pos} {Q : Bool → Hp → Prop} (h : wT X a σ H Q) : wW X (.BoolOp .Or [a] pos) σ H Q := ⟨_, pw_or1 wT.pt, h⟩
theorem tam_rep (n : Nat) (z : Int) : tameL (List.replicate n z) = [] := by
  unfold tameL
  refine List.filter_eq_nil_iff.mpr fun p hp => ?_
  have hp := List.mem_range.mp hp
  rw [List.length_replicate] at hp
  have h1 : (List.replicate n z)[p]? = some z := by rw [List.getElem?_replicate, if_pos (by omega)]
  have h2 : (List.replicate n z)[p + 1]? = some z := by rw [List.getElem?_replicate, if_pos (by omega)]
  rw [tam_any h1 h2]
  simp
section
variable {P : Program} {w : World} {K : PySem.W.Frag} {mg : Str → Option Value} {base : Heap}
def spWorld (K : PySem.W.Frag) (T : List (Addr × Str)) : Sp := fun vs H Q _ => ∃ (a : Addr) (r c k : Int), vs = [.ref a] ∧ H a = some (potL r c k) ∧ LamX.Tabs T H ∧ ∀ H', ExM (Ma a) H H' → LamX.Tabs T H' → Q (.bl true) H'
theorem cl_law_world {f CR CP CW CB CH : Addr} {fd : FuncData} {T : List (Addr × Str)} (F : At K mg "_law_world" s_law_world f fd) (L : Calls P w K mg base CR CP CW CB CH) (pk : Cl P w K mg base CX0 9 "_law_places_kept" (spPK K T)) (wk : Cl P w K mg base CX0 9 "_law_walk_kept" (spWK K T)) (rk : Cl P w K mg base CX0 9 "_law_refusals_kept" (spRK K T)) (lk : Cl P w K mg base CX0 9 "_law_long_walk_kept" (spPK K T)) : Cl P w K mg base CX0 10 "_law_world" (spWorld K T) := by
  have nb := L.nb
  refine ⟨f, fd, _, F.fn.ok sc_law_world (fun vs H Q E h => ?_) (fun cdv A outer sh H vs Q E hr h => ⟨_, wB.ps, ?_⟩), F.gl, F.fn.kp, F.fn.binds fun _ _ _ _ _ _ us hl => match us, hl with | [_], _ => rfl⟩
  · obtain ⟨a, r, c, k, rfl, _⟩ := h
    rfl
  · obtain ⟨a, r, c, k, rfl, ha, hT, q⟩ := h
    -- row
    refine b_cons (cs_set (i := 1) sc_law_world.nd rfl (by first | exact .inl rfl | exact .inr rfl) (ce_call L.bag hr (by decide) rfl (ca_cons (ce_nm 0 (ca_cons (ce_ix (ce_pd (al_pot ha) (FD.pd (fd_lst (ds := [6, 9, 12, 40].map PyData.int) (ad_cons pd_int (ad_cons pd_int (ad_cons pd_int (ad_cons pd_int ad_nil)))) (by simp))) fun v1 H1 x1 r1 => ce_draw L.draw hr (by decide) rfl (fun H1 Q hq => ce_nm 0 hq) pd_int (x1 _ _ ha) (by decide) (by decide +kernel) fun z2 r2 k2 H2 z20 z21 e2 ha2 => ?_)))))))
    obtain ⟨most, hmost⟩ : ∃ m, ([6, 9, 12, 40] : List Int)[z2.toNat]? = some m := ⟨_, List.getElem?_eq_getElem (by show z2.toNat < 4; omega)⟩
    have hm40 : 0 ≤ most ∧ most ≤ 40 := by
      have := List.mem_of_getElem? hmost
      simp only [List.mem_cons, List.not_mem_nil, or_false] at this
      omega
    refine rIx_of (M := Ma a) (da := .list ([6, 9, 12, 40].map PyData.int)) (d := .int most) (r1.mono (fun _ z => z) (ExB.exM e2)) (by rw [show z2 = ((z2.toNat : Nat) : Int) by omega]; exact ixD_ints hmost) fun v3 r3 => ?_
    cases r3
    refine ca_nil ⟨a, most, r2, c, k2, rfl, ha2, hm40.1, hm40.2, fun l ns r4 k4 H4 hl4 e4 ha4 hl hlen hok => ?_⟩
    have nal : a ≠ l := fun e => by
      rw [← e, ha2] at hl4
      cases hl4
    have e04 : ExB a H H4 := ((ExB.of x1).trans e2).trans e4
    have hw : ∀ z ∈ ns, isWeightD (.int z) = true := fun z hz => (hok z hz).is
    -- passed
    refine b_cons (cs_set (i := 2) sc_law_world.nd rfl (by first | exact .inl rfl | exact .inr rfl) (ce_call L.given hr (by decide) rfl (ca_cons (ce_nm 0 (ca_cons (ce_nm 1 (ca_nil ⟨a, l, ns, r4, c, k4, rfl, ha4, nal, hl, by omega, fun tp vp r5 k5 H5 e5 ha5 rp5 => ?_⟩)))))))
    have hl5 := e5 _ _ (Ne.symm nal) hl
    have rl : ∀ {H' : Hp}, H' l = some (.lst (ns.map V.int)) → Rp K (Ma a) H' (.ref l) (intsD ns) := fun h => .lst (fun e => nal e.symm) (.inl h) (.ints ns)
    have bp : ∀ {H'}, Rp K (Ma a) H' vp (sqD tp (ns.map PyData.int)) → BagV K (Ma a) H' vp tp ns := fun r => ⟨r, hlen, hw⟩
    have t5 : LamX.Tabs T H5 := tabs_eqB hT (e04.trans e5) ha
    refine b_cons (cs_if (ct_w (cw_or (ct_not (ct_val (ce_call pk hr (by decide) rfl (ca_cons (ce_nm 1 (ca_cons (ce_nm 2 (ca_nil ⟨.ref l, vp, tp, ns, rfl, (rl hl5).m0, BagV.m0 (bp rp5), t5, fun H6 e6 t6 => ⟨true, rfl, (fun z => by cases z), fun _ => cw_or1 (ct_not (ct_val (ce_call wk hr (by decide) rfl (ca_cons (ce_nm 0 (ca_cons (ce_nm 1 (ca_cons (ce_nm 2 (ca_nil ?_))))))))))⟩⟩)))))))))))
    have m6 : ExM (Ma a) H5 H6 := exM_ofN e6
    have ha6 : H6 a = some (potL r5 c k5) := (exM_ofN (M := M0) e6).lst (fun z => z) ha5
    have hl6 : H6 l = some (.lst (ns.map V.int)) := m6.lst (Ne.symm nal) hl5
    have rp6 := rp5.mono (fun _ z => z) m6
    refine ⟨a, r5, c, k5, .ref l, vp, tp, ns, rfl, ha6, rl hl6, bp rp6, t6, fun H7 m7 ⟨r7, k7, ha7⟩ t7 => ⟨true, rfl, ?_⟩⟩
    rw [if_neg (by decide)]
    have hl7 : H7 l = some (.lst (ns.map V.int)) := m7.lst (Ne.symm nal) hl6
    have rp7 := rp6.mono (fun _ z => z) m7
    have m07 : ExM (Ma a) H H7 := ((ExB.exM (e04.trans e5)).trans m6).trans m7
    -- same
    refine b_nil (b_cons (cs_set (i := 3) sc_law_world.nd rfl (by first | exact .inl rfl | exact .inr rfl) (ce_rep (ce_lst (ca_cons (ce_sub (ce_draw L.draw hr (by decide) rfl (fun H1 Q hq => ce_nm 0 hq) (pd_add (pd_mul pd_int (pd_pow pd_int pd_int ⟨by decide, by decide, by decide⟩) (.inl ⟨by decide, by decide⟩)) pd_int) ha7 (by decide) (by decide +kernel) fun z8 r8 k8 H8 z80 z81 e8 ha8 => ce_pd alive0 (pd_pow pd_int pd_int ⟨by decide, by decide, by decide⟩) fun y9 H9 x9 r9 => ?_)))))))
    cases r9
    refine ⟨_, _, rfl, rfl, ca_nil ⟨(by show 1 ≤ 1000; decide), fun p10 hp10 => ?_⟩⟩
    generalize hz : z8 - 10 ^ Int.toNat 12 = zz
    have hzw : okW zz := by
      have : z8 < 2 * 1000000000000 + 1 := z81
      rw [← hz]
      exact ⟨by show -1000000000000 ≤ z8 - 1000000000000; omega, by show z8 - 1000000000000 ≤ 1000000000000; omega⟩
    have x10 := Evl.Ex.new (H := H9) (o := .lst [V.int zz]) hp10
    have h10 : upd H9 p10 (.lst [V.int zz]) p10 = some (.lst [.int zz]) := upd_same
    generalize upd H9 p10 (.lst [V.int zz]) = H10 at x10 h10 ⊢
    have ha10 := x10 _ _ (x9 _ _ ha8)
    have n10 : p10 ≠ a := fun e => by
      rw [e, x9 _ _ ha8] at hp10
      cases hp10
    refine ce_draw L.draw hr (by decide) rfl (fun H1 Q hq => ce_nm 0 hq) pd_int ha10 (by decide) (by decide +kernel) fun z11 r11 k11 H11 z110 z111 e11 ha11 => ?_
    obtain ⟨n, rfl⟩ : ∃ n : Nat, z11 = (n : Int) := ⟨z11.toNat, by omega⟩
    refine ⟨p10, [.int zz], n, rfl, rfl, e11 _ _ n10 h10, by show 1 * n ≤ 100000; omega, by omega, fun p12 hp12 => ?_⟩
    rw [replicate_flat]
    have er : List.replicate n (V.int zz) = (List.replicate n zz).map V.int := by rw [List.map_replicate]
    rw [er]
    have x12 := Evl.Ex.new (H := H11) (o := .lst ((List.replicate n zz).map V.int)) hp12
    have h12 : upd H11 p12 (.lst ((List.replicate n zz).map V.int)) p12 = _ := upd_same
    generalize upd H11 p12 (.lst ((List.replicate n zz).map V.int)) = H12 at x12 h12 ⊢
    have ha12 := x12 _ _ ha11
    have n12 : p12 ≠ a := fun e => by
      rw [e, ha11] at hp12
      cases hp12
    have e712 : ExB a H7 H12 := (((e8.trE x9).trE x10).trans e11).trE x12
    have bS : BagV K (Ma a) H12 (.ref p12) false (List.replicate n zz) := ⟨.lst n12 (.inl h12) (.ints _), by rw [List.length_replicate]; omega, fun z hz => by rw [List.eq_of_mem_replicate hz]; exact hzw.is⟩
    have hl12 := e712 _ _ (Ne.symm nal) hl7
    have rp12 := rp7.mono (fun _ z => z) (ExB.exM e712)
    have t12 : LamX.Tabs T H12 := tabs_eqB t7 e712 ha7
    have m012 : ExM (Ma a) H H12 := m07.trans (ExB.exM e712)
    refine b_cons (cs_if (ct_w (cw_or (ct_ne hr.units (ce_callX L.tp hr (by decide) rfl tkF (ca_cons (ce_nm 3 (ca_nil ⟨Ma a, _, rfl, al_pot ha12, .inl ⟨false, _, bS, fun p13 ws13 H13 hp13 x13 h13 r13 => ce_fd (M := Ma a) (al_pot (x13 _ _ ha12)) (fd_lst ad_nil (by simp)) fun p14 ws14 H14 hp14 x14 h14 r14 => ?_⟩⟩))))))))
    rw [tam_rep] at r13
    refine ⟨.list [], .list [], ?_, ?_, rfl, rfl, (fun z => by cases z), fun _ => ?_⟩
    · have q13 : Rp K (Ma a) H13 (.ref p13) (.list []) := .lst ((al_pot ha12).fresh hp13) (.inl h13) r13
      exact (q13.mono (fun _ z => z) (ExM.of x14)).dp
    · have q14 : Rp K (Ma a) H14 (.ref p14) (.list []) := .lst ((al_pot (x13 _ _ ha12)).fresh hp14) (.inl h14) r14
      exact q14.dp
    have x1214 := x13.trans x14
    refine cw_or1 (ct_not (ct_val (ce_call rk hr (by decide) rfl (ca_cons (ce_nm 0 (ca_cons (ce_nm 1 (ca_cons (ce_nm 2 (ca_nil ⟨a, l, r11, c, k11, vp, tp, ns, rfl, x1214 _ _ ha12, nal, x1214 _ _ hl12, bp (rp12.mono (fun _ z => z) (ExM.of x1214)), t12.ext x1214, fun H15 m15 ⟨r15, k15, ha15⟩ t15 => ⟨true, rfl, ?_⟩⟩))))))))))
    rw [if_neg (by decide)]
    have m1215 : ExM (Ma a) H12 H15 := (ExM.of x1214).trans m15
    have hl15 : H15 l = some (.lst (ns.map V.int)) := m1215.lst (Ne.symm nal) hl12
    have rp15 := rp12.mono (fun _ z => z) m1215
    have m015 := m012.trans m1215
    have fin : ∀ H', ExM (Ma a) H15 H' → (∃ r' k', H' a = some (potL r' c k')) → LamX.Tabs T H' → wB (cxOf CX0 P w K mg base n_law_world "_law_world" (defScope s_law_world) f cdv A outer sh H E).nox ((defBody s_law_world).drop 6) { nx := fun _ H' => Q .non H', rt := Q } [some (.ref a), some (.ref l), some vp, some (.ref p12)] H' := by
      rintro H' m ⟨r', k', ha'⟩ t
      refine b_cons (s_ret (al_pot ha') (PD.is (pd_eq hr.units (FD.pd (fd_listOf rfl nb.list (nm 2 (rp15.mono (fun _ z => z) m)) (items_sq _ _))) (nm 1 (rl (m.lst (Ne.symm nal) hl15))) (shapedI _) (shapedI _)) (by rw [eqv_ints, decide_eq_true rfl])) fun v16 H16 x16 r16 => ?_)
      cases r16
      exact q H16 ((m015.trans m).trans (.of x16)) (t.ext x16)
    refine b_nil (b_cons (cs_if (ct_w (cw_and (ct_eq hr.units (ce_draw L.draw hr (by decide) rfl (fun H1 Q hq => ce_nm 0 hq) pd_int ha15 (by decide) (by decide +kernel) fun z17 r17 k17 H17 z170 z171 e17 ha17 => ce_pd alive0 pd_int fun y18 H18 x18 r18 => ⟨.int z17, _, .int z17, r18.dp, rfl, rfl, ?_⟩)))))) 
    have e1518 : ExB a H15 H18 := e17.trE x18
    have ha18 := x18 _ _ ha17
    have t18 : LamX.Tabs T H18 := tabs_eqB t15 e1518 ha15
    refine ⟨fun _ => cw_and1 (ct_not (ct_val (ce_call lk hr (by decide) rfl (ca_cons (ce_nm 1 (ca_cons (ce_nm 2 (ca_nil ⟨.ref l, vp, tp, ns, rfl, (rl (e1518 _ _ (Ne.symm nal) hl15)).m0, BagV.m0 (bp (rp15.mono (fun _ z => z) (ExB.exM e1518))), t18, fun H19 e19 t19 => ⟨true, rfl, ?_⟩⟩)))))))), fun _ => ?_⟩
    · rw [if_neg (by decide)]
      exact b_nil (fin H19 ((ExB.exM e1518).trans (exM_ofN e19)) ⟨_, _, (exM_ofN (M := M0) e19).lst (fun z => z) ha18⟩ t19)
    · rw [if_neg (by decide)]
      exact b_nil (fin H18 (ExB.exM e1518) ⟨_, _, ha18⟩ t18)
end
end DK

namespace DK
open PySem PySem.Spec PyProof.Rows L2 GV
def spLaw (K : PySem.W.Frag) (T : List (Addr × Str)) : Sp := fun vs H Q _ => ∃ (a : Addr) (ns : List Int), vs = [.ref a] ∧ SqL K H a (ns.map V.int) ∧ ns.length ≤ 63 ∧ LamX.Tabs T H ∧ ∀ H', Q (.bl true) H'
section
variable {P : Program} {w : World} {K : PySem.W.Frag} {mg : Str → Option Value} {base : Heap}
theorem ok_law {f CR CP CW CB CH : Addr} {fd : FuncData} {T : List (Addr × Str)} (F : At K mg "law" s_law f fd) (L : Calls P w K mg base CR CP CW CB CH) (cw : Cl P w K mg base CX0 10 "_law_world" (spWorld K T)) : FnOk P w K mg base CX0 11 f fd ["script"] (spLaw K T) := by
  refine F.fn.ok sc_law (fun vs H Q E h => ?_) (fun cdv A outer sh H vs Q E hr h => ⟨_, wB.ps, ?_⟩)
  · obtain ⟨a, ns, rfl, _⟩ := h
    rfl
  obtain ⟨a0, script, rfl, hS, hlen, hT, q⟩ := h
  have nb := L.nb
  have sc0 : ScAt K M0 H a0 script := ScAt.of hS fun z => z
  refine b_cons (s_forRW (slot := 1) PassesOwn.never rfl sc_law.nd rfl (.inl rfl) rfl nb.range (ce_pd alive0 (pd_min2 rfl nb.min pd_int (pd_max2 rfl nb.max pd_int (pd_scLen (j := 0) sc0 rfl nb.len))) fun v H1 x1 r1 => ?_))
  generalize hm : min (3 : Int) (max 1 (script.length : Nat)) = m at r1
  have hm0 : 0 ≤ m ∧ m ≤ 3 := by omega
  cases r1
  refine ⟨m.toNat, fun i σ' H' => (∃ xk, σ' = [some (.ref a0), xk]) ∧ ScAt K M0 H' a0 script ∧ LamX.Tabs T H', by rw [Int.toNat_of_nonneg hm0.1], by omega, ⟨⟨_, rfl⟩, sc0.mono (fun _ z => z) (ExM.of x1), hT.ext x1⟩, ?_, ?_⟩
  · rintro i σ' H' hi ⟨⟨xk, rfl⟩, sc, t⟩
    refine b_cons (cs_if (ct_not (ct_val (ce_call cw hr (by decide) rfl (ca_cons (ce_call L.pot hr (by decide) rfl (ca_cons (ce_nm 0 (ca_cons (ce_nm 1 (ca_nil ⟨M0, a0, script, i, rfl, alive0, sc, fun p r c H2 hp x2 h2 => ca_nil ⟨p, r, c, 0, rfl, h2, t.ext x2, fun H3 m3 t3 => ⟨true, rfl, ?_⟩⟩⟩)))))))))))
    rw [if_neg (by decide)]
    refine b_nil (b_nil ⟨⟨_, rfl⟩, ?_, t3⟩)
    have sc2 : ScAt K (Ma p) H2 a0 script := by
      rcases sc with ⟨_, h⟩ | h
      · refine .inl ⟨?_, ?_⟩
        · rintro rfl
          exact GV.Rd.there h hp
        · exact GV.Rd.exM (M := M0) h (fun z => z) (ExM.of x2)
      · exact .inr h
    exact sc2.mono (fun _ z => z.elim) m3
  · rintro σ' H' ⟨⟨xk, rfl⟩, sc, t⟩
    exact b_cons (s_ret alive0 pd_bl fun v H5 x5 r5 => by
      cases r5
      exact q H5)
end
theorem at_mk {K : PySem.W.Frag} {h : Heap} {mg : Str → Option Value} {x : Str} {st : Stmt} {f : Addr} {od an : Option Addr} {sl : Array (Option Value)} {oc kV dc pm cd ct : Value} (X : K.In h) (G : h.Ns mainGlobals mg) (a : PySem.W.nsIn K mainGlobals x = some (some (.ref f)))
    (l : K.lookup f = some ⟨oc, od, .func (PySem.W.fnOf x x (defArgs st) (defBody st) (defScope st) .none kV dc pm an cd ct), sl⟩) (c : PySem.W.codeIn K cd x = true) (k : PySem.W.keepIn K (.ref f) = true) : ∃ f fd, At K mg x st f fd :=
  ⟨f, _, fun_mk l c k, PySem.W.mg_of X G a⟩
theorem exm_of {K : PySem.W.Frag} {S D : Addr} {b : Bool} (h1 : PySem.W.subIn K (.ref S) (.type "BaseException") = some true) (h0 : PySem.W.subIn K (.ref D) (.type "BaseException") = some true) (h2 : PySem.W.isClsIn K D = true) (h3 : PySem.W.typeIn K (.ref D) = some (.type "type")) (h4 : PySem.W.subIn K (.ref S) (.ref D) = some b) : PySem.W.exmOne K (.ref S) (.ref D) = some b := by
  have e1 : (PySem.W.subIn K (.ref D) (.type "BaseException") == some true) = true := by rw [h0] <;> rfl
  have e2 : ((PySem.W.clsIn K D).isSome && PySem.W.typeIn K (.ref D) == some (.type "type")) = true := by
    have h2' : (PySem.W.clsIn K D).isSome = true := h2
    rw [h2', h3] <;> rfl
  show (if (PySem.W.subIn K (.ref D) (.type "BaseException") == some true) = true then (if ((PySem.W.clsIn K D).isSome && PySem.W.typeIn K (.ref D) == some (.type "type")) = true then PySem.W.subIn K (.ref S) (.ref D) else none) else none) = some b
  rw [if_pos e1, if_pos e2]
  exact h4
abbrev qL (x : Str) (st : Stmt) (f c : Addr) : Str := (PyProof.Rows.envOfC x (defScope st) 0 f (.ref c)).qual ++ "<lambda>"
structure LamF (K : PySem.W.Frag) (mg : Str → Option Value) (h : Heap) (x : Str) (st : Stmt) (f c Pt : Addr) : Prop where
  fn : ∃ fd, FunC K mg x st f fd (.ref c)
  hd : PySem.W.CodeHd h c Pt
  tb : h.get? Pt = some (PySem.W.tabObj #[])
  no : K.lookup Pt = none
theorem lam_mk {K : PySem.W.Frag} {h : Heap} {mg : Str → Option Value} {x : Str} {st : Stmt} {f c Pt : Addr} {od an : Option Addr} {sl : Array (Option Value)} {oc kV dc pm ct : Value} (X : K.In h) (G : h.Ns mainGlobals mg) (a : PySem.W.nsIn K mainGlobals x = some (some (.ref f)))
    (l : K.lookup f = some ⟨oc, od, .func (PySem.W.fnOf x x (defArgs st) (defBody st) (defScope st) .none kV dc pm an (.ref c) ct), sl⟩) (co : PySem.W.codeIn K (.ref c) x = true) (k : PySem.W.keepIn K (.ref f) = true) (hd : PySem.W.codeHdIn K c Pt = true) (tb : h.get? Pt = some (PySem.W.tabObj #[])) (no : K.lookup Pt = none) : LamF K mg h x st f c Pt :=
  ⟨⟨_, ⟨_, _, _, _, _, _, _, _, rfl, l, co⟩, k, PySem.W.mg_of X G a⟩, PySem.W.codeHd_of_K X hd, tb, no⟩
theorem gi_mk {K : PySem.W.Frag} {h : Heap} {mg : Str → Option Value} {x : Str} {i : Int} {t : Tok} (X : K.In h) (G : h.Ns mainGlobals mg) (a : PySem.W.nsIn K mainGlobals x = some (some (.int i t))) : ∃ t, mg x = some (.int i t) := ⟨t, PySem.W.mg_of X G a⟩
structure Facts (K : PySem.W.Frag) (mg : Str → Option Value) : Prop where
  nb : NoB mg
  is_integer : ∃ f fd, At K mg "is_integer" s_is_integer f fd
  is_number : ∃ f fd, At K mg "is_number" s_is_number f fd
  is_weight : ∃ f fd, At K mg "is_weight" s_is_weight f fd
  is_bag_row : ∃ f fd, At K mg "is_bag_row" s_is_bag_row f fd
  is_row : ∃ f fd, At K mg "is_row" s_is_row f fd
  is_place : ∃ f fd, At K mg "is_place" s_is_place f fd
  check_row : ∃ f fd, At K mg "check_row" s_check_row f fd
  check_place : ∃ f fd, At K mg "check_place" s_check_place f fd
  check_walk : ∃ f fd, At K mg "check_walk" s_check_walk f fd
  swapped : ∃ f fd, At K mg "swapped" s_swapped f fd
  check_bag_row : ∃ f fd, At K mg "check_bag_row" s_check_bag_row f fd
  tames : ∃ f fd, At K mg "_tames" s_tames f fd
  is_tame : ∃ f fd, At K mg "is_tame" s_is_tame f fd
  tame_places : ∃ f fd, At K mg "tame_places" s_tame_places f fd
  tame_change : ∃ f fd, At K mg "tame_change" s_tame_change f fd
  tame_after : ∃ f fd, At K mg "tame_after" s_tame_after f fd
  number_of_text : ∃ f fd, At K mg "number_of_text" s_number_of_text f fd
  check_house : ∃ f fd, At K mg "check_house" s_check_house f fd
  third_kinds : ∃ f fd, At K mg "_third_kinds" s_third_kinds f fd
  helper_indexes : ∃ f fd, At K mg "_helper_indexes" s_helper_indexes f fd
  frees : ∃ f fd, At K mg "frees" s_frees f fd
  free_places : ∃ f fd, At K mg "free_places" s_free_places f fd
  law_pot : ∃ f fd, At K mg "_law_pot" s_law_pot f fd
  law_draw : ∃ f fd, At K mg "_law_draw" s_law_draw f fd
  law_weights : ∃ f fd, At K mg "_law_weights" s_law_weights f fd
  law_bag : ∃ f fd, At K mg "_law_bag" s_law_bag f fd
  law_given : ∃ f fd, At K mg "_law_given" s_law_given f fd
  law_bad_row : ∃ f fd, At K mg "_law_bad_row" s_law_bad_row f fd
  law_is_number : ∃ f fd, At K mg "_law_is_number" s_law_is_number f fd
  law_is_list : ∃ f fd, At K mg "_law_is_list" s_law_is_list f fd
  law_is_row : ∃ f fd, At K mg "_law_is_row" s_law_is_row f fd
  law_tame : ∃ f fd, At K mg "_law_tame" s_law_tame f fd
  law_tame_list : ∃ f fd, At K mg "_law_tame_list" s_law_tame_list f fd
  law_exchanged : ∃ f fd, At K mg "_law_exchanged" s_law_exchanged f fd
  law_told : ∃ f fd, At K mg "_law_told" s_law_told f fd
  law_barred : ∃ f fd, At K mg "_law_barred_by_base" s_law_barred_by_base f fd
  law_world : ∃ f fd, At K mg "_law_world" s_law_world f fd
  law : ∃ f fd, At K mg "law" s_law f fd
  gW : ∃ t, mg "MOST_WEIGHT" = some (.int mostW t)
  gS : ∃ t, mg "MOST_STONES" = some (.int 40 t)
  gL : ∃ t, mg "MOST_WALK" = some (.int 20000 t)
/-- an error class with its own __init__ -/
structure ECls (K : PySem.W.Frag) (mg : Str → Option Value) (x q : Str) (st : Stmt) (C : Addr) : Prop where
  g : mg x = some (.ref C)
  o : OexC K C
  xf : XfC K C
  be : PySem.W.subIn K (.ref C) (.type "BaseException") = some true
  ty : PySem.W.typeIn K (.ref C) = some (.type "type")
  ci : PySem.W.isClsIn K C = true
  i : ∃ f fd, PySem.W.findIn K (.ref C) "__init__" = some (some (.ref f)) ∧ PySem.W.typeIn K (.ref f) = some (.type "function") ∧ Fun K "__init__" q st f fd
open PySem.W (nsIn findIn typeIn subIn keepIn isClsIn hasDictIn codeIn fnOf specialIn takesIn mroIn kitOne)
theorem ec_mk {K : PySem.W.Frag} {h : Heap} {mg : Str → Option Value} {x q : Str} {st : Stmt} {CW fW : Addr} (X : K.In h) (G : h.Ns mainGlobals mg)
    {nmW qW : Str} {NW : Addr} {bsW bmW : List Value} {snW : List Str} {subW : List Value} {abW : Bool} {colW : Option Bool} {ddW : Option Addr} {w0 w1 w2 w3 w5 : Option Value}
    {od1 an1 : Option Addr} {sl1 : Array (Option Value)} {oc1 kV1 dc1 pm1 cd1 ct1 : Value}
    (aW : nsIn K mainGlobals x = some (some (.ref CW)))
    (lW : K.lookup CW = some (excClassObj nmW qW CW NW bsW bmW true snW subW abW colW ddW w0 w1 w2 w3 w5 "ValueError.__new__")) (rW : HandSPX.refsVE bmW = true)
    (saW : findIn K (.ref CW) "__setattr__" = some (some (.builtin "object.__setattr__")))
    (eW : subIn K (.ref CW) (.type "BaseException") = some true)
    (tW : typeIn K (.ref CW) = some (.type "type"))
    (kW : keepIn K (.ref CW) = true)
    (gaW : findIn K (.ref CW) "__getattribute__" = some (some (.builtin "BaseException.__getattribute__")))
    (ggW : findIn K (.ref CW) "__getattr__" = some none) (hdW : hasDictIn K CW = true)
    (cW : isClsIn K CW = true)
    (iW : findIn K (.ref CW) "__init__" = some (some (.ref fW))) (yW : typeIn K (.ref fW) = some (.type "function")) (l1 : K.lookup fW = some ⟨oc1, od1, .func (fnOf "__init__" q (defArgs st) (defBody st) (defScope st) .none kV1 dc1 pm1 an1 cd1 ct1), sl1⟩) (c1 : codeIn K cd1 q = true) (k1 : keepIn K (.ref fW) = true) : ECls K mg x q st CW :=
  ⟨PySem.W.mg_of X G aW, ⟨⟨_, _, _, _, _, _, _, _, _, _, _, _, _, _, _, lW, rW⟩, saW, eW, tW, kW⟩, ⟨gaW, ggW, eW, hdW⟩, eW, tW, cW, ⟨fW, _, iW, yW, fun_mk l1 c1 k1⟩⟩
structure EFacts (K : PySem.W.Frag) (mg : Str → Option Value) (CR CP CW CB CM : Addr) : Prop where
  told : Told K mg CR CP CW CB
  bar : BarIs K mg CB CP CM
structure EFraw (K : PySem.W.Frag) (mg : Str → Option Value) (CR CP CW CB CM : Addr) : Prop where
  nR : findIn K (.ref CR) "row" = some none
  nP : findIn K (.ref CP) "place" = some none
  nW : findIn K (.ref CW) "walk" = some none
  nB : findIn K (.ref CB) "place" = some none
  nS : findIn K (.ref CB) "step" = some none
  s01 : subIn K (.ref CR) (.ref CR) = some true
  s02 : subIn K (.ref CP) (.ref CR) = some false
  s03 : subIn K (.ref CP) (.ref CP) = some true
  s04 : subIn K (.ref CW) (.ref CR) = some false
  s05 : subIn K (.ref CW) (.ref CP) = some false
  s06 : subIn K (.ref CW) (.ref CW) = some true
  s07 : subIn K (.ref CB) (.ref CR) = some false
  s08 : subIn K (.ref CB) (.ref CP) = some false
  s09 : subIn K (.ref CB) (.ref CW) = some false
  s10 : subIn K (.ref CB) (.ref CB) = some true
  aM : mg "MillError" = some (.ref CM)
  eM : subIn K (.ref CM) (.type "BaseException") = some true
  cM : isClsIn K CM = true
  tM : typeIn K (.ref CM) = some (.type "type")
  s11 : subIn K (.ref CB) (.ref CM) = some true
  aV : mg "ValueError" = none
  ha : findIn K (.ref CB) "__class__" = some (some (.builtin "object.__class__"))
  hn : specialIn K (.builtin "object.__class__") "__get__" = some (some (.builtin "getset_descriptor.__get__"))
  ht : takesIn K (.builtin "object.__class__") = some true
  hm : mroIn K CB (.type "object") = some true
  s12 : kitOne K (.ref CB) (.type "ValueError") = some true
  s13 : kitOne K (.ref CB) (.ref CB) = some true
  s14 : kitOne K (.ref CB) (.ref CP) = some false
theorem ef_mk {K : PySem.W.Frag} {h : Heap} {mg : Str → Option Value} {CR CP CW CB CM : Addr} (X : K.In h) (G : h.Ns mainGlobals mg)
    (nR : findIn K (.ref CR) "row" = some none) (nP : findIn K (.ref CP) "place" = some none) (nW : findIn K (.ref CW) "walk" = some none) (nB : findIn K (.ref CB) "place" = some none) (nS : findIn K (.ref CB) "step" = some none) (s01 : subIn K (.ref CR) (.ref CR) = some true) (s02 : subIn K (.ref CP) (.ref CR) = some false) (s03 : subIn K (.ref CP) (.ref CP) = some true) (s04 : subIn K (.ref CW) (.ref CR) = some false) (s05 : subIn K (.ref CW) (.ref CP) = some false) (s06 : subIn K (.ref CW) (.ref CW) = some true) (s07 : subIn K (.ref CB) (.ref CR) = some false) (s08 : subIn K (.ref CB) (.ref CP) = some false) (s09 : subIn K (.ref CB) (.ref CW) = some false) (s10 : subIn K (.ref CB) (.ref CB) = some true) (aM : nsIn K mainGlobals "MillError" = some (some (.ref CM))) (eM : subIn K (.ref CM) (.type "BaseException") = some true) (cM : isClsIn K CM = true) (tM : typeIn K (.ref CM) = some (.type "type")) (s11 : subIn K (.ref CB) (.ref CM) = some true) (aV : nsIn K mainGlobals "ValueError" = some none) (ha : findIn K (.ref CB) "__class__" = some (some (.builtin "object.__class__"))) (hn : specialIn K (.builtin "object.__class__") "__get__" = some (some (.builtin "getset_descriptor.__get__"))) (ht : takesIn K (.builtin "object.__class__") = some true) (hm : mroIn K CB (.type "object") = some true) (s12 : kitOne K (.ref CB) (.type "ValueError") = some true) (s13 : kitOne K (.ref CB) (.ref CB) = some true) (s14 : kitOne K (.ref CB) (.ref CP) = some false) : EFraw K mg CR CP CW CB CM :=
  ⟨nR, nP, nW, nB, nS, s01, s02, s03, s04, s05, s06, s07, s08, s09, s10, PySem.W.mg_of X G aM, eM, cM, tM, s11, PySem.W.mg_none_of X G aV, ha, hn, ht, hm, s12, s13, s14⟩
theorem ef_of {K : PySem.W.Frag} {mg : Str → Option Value} {CR CP CW CB CM : Addr} (ER : ECls K mg "InvalidRow" "InvalidRow.__init__" s_InvalidRow_init CR) (EP : ECls K mg "InvalidPlace" "InvalidPlace.__init__" s_InvalidPlace_init CP) (EW : ECls K mg "InvalidWalk" "InvalidWalk.__init__" s_InvalidWalk_init CW) (EB : ECls K mg "Barred" "Barred.__init__" s_Barred_init CB) (R : EFraw K mg CR CP CW CB CM) : EFacts K mg CR CP CW CB CM :=
  ⟨⟨ER.g, EP.g, EW.g, EB.g, ⟨exm_of ER.be ER.be ER.ci ER.ty R.s01, exm_of EP.be ER.be ER.ci ER.ty R.s02, exm_of EP.be EP.be EP.ci EP.ty R.s03, exm_of EW.be ER.be ER.ci ER.ty R.s04, exm_of EW.be EP.be EP.ci EP.ty R.s05, exm_of EW.be EW.be EW.ci EW.ty R.s06, exm_of EB.be ER.be ER.ci ER.ty R.s07, exm_of EB.be EP.be EP.ci EP.ty R.s08, exm_of EB.be EW.be EW.ci EW.ty R.s09, exm_of EB.be EB.be EB.ci EB.ty R.s10⟩, ER.xf, EP.xf, EW.xf, EB.xf, R.nR, R.nP, R.nW, R.nB, R.nS⟩,
    ⟨⟨EB.xf.ga, EB.xf.gg, EB.be, EB.xf.hdC, R.ha, R.hn, R.ht, R.hm⟩, R.aM, R.aV, exm_of EB.be R.eM R.cM R.tM R.s11, R.s12, R.s13, R.s14⟩⟩
/-- the class House -/
structure HFacts (K : PySem.W.Frag) (mg : Str → Option Value) (CH : Addr) : Prop where
  hc : HouC K CH
  gH : mg "House" = some (.ref CH)
  init : ∃ f fd, Mk K CH f ∧ Fun K "__init__" "House.__init__" s_House_init f fd
  bit : ∃ f fd, Meth K CH "names_index" f ∧ Fun K "names_index" "House.names_index" s_House_names_index f fd
theorem hf_mk {K : PySem.W.Frag} {h : Heap} {mg : Str → Option Value} {C f1 f5 : Addr} (X : K.In h) (G : h.Ns mainGlobals mg) {od1 an1 od5 an5 : Option Addr} {sl1 sl5 : Array (Option Value)} {oc1 kV1 dc1 pm1 cd1 ct1 oc5 kV5 dc5 pm5 cd5 ct5 : Value}
    (aC : nsIn K mainGlobals "House" = some (some (.ref C)))
    (pg : PySem.W.plainGet K C Str.empty = true) (hd : hasDictIn K C = true) (po : PySem.W.plainOver K C = true) (sa : findIn K (.ref C) "__setattr__" = some (some (.builtin "object.__setattr__"))) (mk : PySem.W.makesIn K C = true) (kc : keepIn K (.ref C) = true) (nT : findIn K (.ref C) "text" = some none) (nN : findIn K (.ref C) "number" = some none)
    (ha : findIn K (.ref C) "__class__" = some (some (.builtin "object.__class__"))) (hn : specialIn K (.builtin "object.__class__") "__get__" = some (some (.builtin "getset_descriptor.__get__"))) (ht : takesIn K (.builtin "object.__class__") = some true) (hm : mroIn K C (.type "object") = some true) (s01 : kitOne K (.ref C) (.ref C) = some true)
    (a1 : findIn K (.ref C) "__init__" = some (some (.ref f1))) (i1 : PySem.W.isFn K (.ref f1) = true) (l1 : K.lookup f1 = some ⟨oc1, od1, .func (fnOf "__init__" "House.__init__" (defArgs s_House_init) (defBody s_House_init) (defScope s_House_init) .none kV1 dc1 pm1 an1 cd1 ct1), sl1⟩) (c1 : codeIn K cd1 "House.__init__" = true) (k1 : keepIn K (.ref f1) = true)
    (a5 : findIn K (.ref C) "names_index" = some (some (.ref f5))) (i5 : PySem.W.isFn K (.ref f5) = true) (l5 : K.lookup f5 = some ⟨oc5, od5, .func (fnOf "names_index" "House.names_index" (defArgs s_House_names_index) (defBody s_House_names_index) (defScope s_House_names_index) .none kV5 dc5 pm5 an5 cd5 ct5), sl5⟩) (c5 : codeIn K cd5 "House.names_index" = true) (k5 : keepIn K (.ref f5) = true) : HFacts K mg C :=
  ⟨⟨⟨⟨pg, hd, po, sa⟩, ha, hn, ht, hm, s01⟩, nT, nN⟩, PySem.W.mg_of X G aC, ⟨f1, _, ⟨mk, a1, i1, kc⟩, fun_mk l1 c1 k1⟩, ⟨f5, _, ⟨a5, i5, k5⟩, fun_mk l5 c5 k5⟩⟩
theorem sd_mk {K : PySem.W.Frag} {h : Heap} {mg : Str → Option Value} {w : World} {d : Addr} {es : Array DictEntry} {n : Nat} {t1 t4 : Tok} (X : K.In h) (G : h.Ns mainGlobals mg) (aD : nsIn K mainGlobals "_SIDES" = some (some (.ref d))) (lD : K.lookup d = some ⟨.type "dict", none, .dict es n, #[]⟩) (kl : PySem.W.KeysLit w.params es.toList) (lo : (d == sysModules) = false)
    (n1 : nsIn K d "l" = some (some (.int 1 t1))) (n4 : nsIn K d "h" = some (some (.int 4 t4))) : Sides K mg w := ⟨d, es, n, t1, t4, PySem.W.mg_of X G aD, ⟨lD, kl, lo⟩, n1, n4⟩
section
variable {P : Program} {w : World} {K : PySem.W.Frag} {mg : Str → Option Value} {base : Heap}
theorem lcalls {CR CP CW CB CM CH : Addr} (FA : Facts K mg) (ER : ECls K mg "InvalidRow" "InvalidRow.__init__" s_InvalidRow_init CR) (EP : ECls K mg "InvalidPlace" "InvalidPlace.__init__" s_InvalidPlace_init CP) (EW : ECls K mg "InvalidWalk" "InvalidWalk.__init__" s_InvalidWalk_init CW) (EB : ECls K mg "Barred" "Barred.__init__" s_Barred_init CB) (EF : EFacts K mg CR CP CW CB CM) (HF : HFacts K mg CH) (S : Sides K mg w) : Calls P w K mg base CR CP CW CB CH := by
  have nb := FA.nb
  have To := EF.told
  obtain ⟨fR, fdR, r1, r2, r3⟩ := ER.i
  obtain ⟨fP, fdP, p1, p2, p3⟩ := EP.i
  obtain ⟨fW, fdW, w1, w2, w3⟩ := EW.i
  obtain ⟨fB, fdB, b1, b2, b3⟩ := EB.i
  have erR : ErrC P w K mg base "InvalidRow" CR ["row"] := ⟨ER.g, ER.o, ER.xf, fun f hf => by rw [List.mem_singleton.mp hf]; exact To.nR, fR, fdR, _, r1, r2, ok_initR r3 ER.o To.nR, r3.binds fun _ _ _ _ _ _ us hl => match us, hl with | [_, _], _ => rfl⟩
  have erP : ErrC P w K mg base "InvalidPlace" CP ["place"] := ⟨EP.g, EP.o, EP.xf, fun f hf => by rw [List.mem_singleton.mp hf]; exact To.nP, fP, fdP, _, p1, p2, ok_initP p3 EP.o To.nP, p3.binds fun _ _ _ _ _ _ us hl => match us, hl with | [_, _], _ => rfl⟩
  have erW : ErrC P w K mg base "InvalidWalk" CW ["walk"] := ⟨EW.g, EW.o, EW.xf, fun f hf => by rw [List.mem_singleton.mp hf]; exact To.nW, fW, fdW, _, w1, w2, ok_initW w3 EW.o To.nW, w3.binds fun _ _ _ _ _ _ us hl => match us, hl with | [_, _], _ => rfl⟩
  have erB : ErrC P w K mg base "Barred" CB ["place", "step"] := ⟨EB.g, EB.o, EB.xf, fun f hf => by
    rcases List.mem_cons.mp hf with e | e
    · rw [e]
      exact To.nB
    · rw [List.mem_singleton.mp e]
      exact To.nS, fB, fdB, _, b1, b2, ok_initB b3 EB.o To.nB To.nS, b3.binds fun _ _ _ _ _ _ us hl => match us, hl with | [_, _, _], _ => rfl⟩
  obtain ⟨_, _, a1⟩ := FA.is_integer
  have c1 : Cl P w K mg base CX0 1 "is_integer" _ := cl_is_integer a1 nb
  obtain ⟨_, _, a2⟩ := FA.is_number
  have c2 := cl_is_number a2 c1
  obtain ⟨_, _, a3⟩ := FA.is_weight
  obtain ⟨_, gW⟩ := FA.gW
  obtain ⟨_, gS⟩ := FA.gS
  obtain ⟨_, gL⟩ := FA.gL
  have c3 := cl_is_weight a3 c2 gW
  obtain ⟨_, _, a4⟩ := FA.is_bag_row
  have c4 := cl_is_bag_row a4 nb c3 gS
  have c4d : Cl P w K mg base CX0 1 "is_bag_row" _ := cl_is_bag_rowD a4 nb
  obtain ⟨_, _, a5⟩ := FA.check_bag_row
  have c5 := cl_chk a5 c4 c4d erR
  obtain ⟨_, _, a6⟩ := FA.is_row
  have c6 := cl_is_row a6 nb c4
  obtain ⟨_, _, a7⟩ := FA.check_row
  have c7 := cl_check_row (CR := CR) a7 c6
  obtain ⟨_, _, a8⟩ := FA.is_place
  have c8 := cl_is_place a8 nb c2
  obtain ⟨_, _, a9⟩ := FA.check_place
  have c9 := cl_check_place a9 c8 erP
  obtain ⟨_, _, a10⟩ := FA.check_walk
  have c10 := cl_check_walk a10 nb c8 erW gL
  obtain ⟨_, _, a11⟩ := FA.swapped
  have c11 : Cl P w K mg base CX0 1 "swapped" _ := cl_swapped a11
  obtain ⟨_, _, a12⟩ := FA.tames
  have c12 : Cl P w K mg base CX0 1 "_tames" _ := cl_tames a12 nb
  obtain ⟨_, _, a13⟩ := FA.is_tame
  obtain ⟨_, _, a14⟩ := FA.tame_places
  obtain ⟨_, _, a15⟩ := FA.tame_change
  have c15 := cl_tame_change a15 nb c5 c9 c12 c11 erB
  obtain ⟨_, _, a16⟩ := FA.tame_after
  obtain ⟨_, _, a17⟩ := FA.number_of_text
  have c17 : Cl P w K mg base CX0 1 "number_of_text" _ := cl_number_of_text a17 nb S
  obtain ⟨_, _, a18⟩ := FA.check_house
  have c18 : Cl P w K mg base CX0 1 "check_house" _ := cl_check_house a18 nb HF.hc HF.gH
  obtain ⟨_, _, a19⟩ := FA.third_kinds
  have c19 : Cl P w K mg base CX0 1 "_third_kinds" _ := cl_third_kinds a19 nb
  obtain ⟨fb, fdb, m1, m2⟩ := HF.bit
  have bm : BitM P w K mg base CH := ⟨fb, fdb, m1, ok_bit m2 HF.hc, m2.binds fun _ _ _ _ _ _ us hl => match us, hl with | [_, _], _ => rfl⟩
  obtain ⟨_, _, a20⟩ := FA.helper_indexes
  have c20 := cl_helper_indexes a20 HF.hc bm c19
  obtain ⟨_, _, a21⟩ := FA.frees
  have c21 := cl_frees a21 nb c20
  obtain ⟨_, _, a22⟩ := FA.free_places
  obtain ⟨fi, fdi, i1, i2⟩ := HF.init
  obtain ⟨_, _, d1⟩ := FA.law_pot
  obtain ⟨_, _, d2⟩ := FA.law_draw
  have cd : Cl P w K mg base CX0 1 "_law_draw" spDraw := cl_law_draw d2 nb
  obtain ⟨_, _, d3⟩ := FA.law_weights
  have cW := cl_law_weights d3 nb cd
  obtain ⟨_, _, d4⟩ := FA.law_bag
  obtain ⟨_, _, d6⟩ := FA.law_given
  obtain ⟨_, _, d7⟩ := FA.law_bad_row
  obtain ⟨_, _, d8⟩ := FA.law_is_number
  have cN : Cl P w K mg base CX0 1 "_law_is_number" _ := cl_law_is_number d8 nb
  obtain ⟨_, _, d9⟩ := FA.law_is_list
  have cL := cl_law_is_list d9 cN nb
  obtain ⟨_, _, d10⟩ := FA.law_is_row
  have cR := cl_law_is_row d10 cL nb
  obtain ⟨_, _, d12⟩ := FA.law_tame
  have cT : Cl P w K mg base CX0 1 "_law_tame" _ := cl_law_tame d12 nb
  obtain ⟨_, _, d13⟩ := FA.law_tame_list
  have cTL := cl_law_tame_list d13 nb cT
  obtain ⟨_, _, d14⟩ := FA.law_exchanged
  have cE : Cl P w K mg base CX0 1 "_law_exchanged" _ := cl_law_exchanged d14 nb
  obtain ⟨g15, fd15, d15⟩ := FA.law_told
  obtain ⟨_, _, d16⟩ := FA.law_barred
  exact ⟨nb, cd, cl_law_pot d1 nb, cl_law_bag d4 nb cd cW, cl_law_given d6 nb cd, cl_law_bad_row d7 nb cd, cL, cR, cTL, cE, cl_tame_places a14 nb c5 c12, cl_is_tame a13 c5 c9 c12, c15, cl_tame_after a16 nb c5 c10 c12 c11 erB, cl_free_places a22 nb c7 c18 c21, cl_barred_by_base d16 nb EF.bar To c15, ⟨fi, fdi, i1, ok_hinit i2 HF.hc c17, i2.binds fun _ _ _ _ _ _ us hl => match us, hl with | [_, _], _ => rfl⟩, HF.gH, ⟨g15, fd15, d15⟩, To⟩
end
theorem law_at {l : PySem.W.OpenLaw} {w : World} {K : PySem.W.Frag} {h : Heap} {mg : Str → Option Value} {fa CR CP CW CB CM CH f1 c1 P1 f2 c2 P2 f3 c3 P3 f4 c4 P4 : Addr} (hfa : mg "law" = some (.ref fa)) (A : Facts K mg) (ER : ECls K mg "InvalidRow" "InvalidRow.__init__" s_InvalidRow_init CR) (EP : ECls K mg "InvalidPlace" "InvalidPlace.__init__" s_InvalidPlace_init CP) (EW : ECls K mg "InvalidWalk" "InvalidWalk.__init__" s_InvalidWalk_init CW) (EB : ECls K mg "Barred" "Barred.__init__" s_Barred_init CB) (EF : EFraw K mg CR CP CW CB CM) (HF : HFacts K mg CH) (S : Sides K mg w)
    (l1 : LamF K mg h "_law_places_kept" s_law_places_kept f1 c1 P1) (l2 : LamF K mg h "_law_walk_kept" s_law_walk_kept f2 c2 P2) (l3 : LamF K mg h "_law_long_walk_kept" s_law_long_walk_kept f3 c3 P3) (l4 : LamF K mg h "_law_refusals_kept" s_law_refusals_kept f4 c4 P4) (n12 : P1 ≠ P2) (n13 : P1 ≠ P3) (n14 : P1 ≠ P4) (n23 : P2 ≠ P3) (n24 : P2 ≠ P4) (n34 : P3 ≠ P4) : LamX.LawAtS l w K CX0 11 63 "script" mg fa h := by
  obtain ⟨f, fd, AL⟩ := A.law
  have e := hfa.symm.trans AL.gl
  cases e
  obtain ⟨oc, od, kV, doc, pm, an, cdv, ct, osl, e1, _, _⟩ := AL.fn.ex
  refine ⟨fd, [(c1, P1), (c2, P2), (c3, P3), (c4, P4)], spLaw K [(P1, qL "_law_places_kept" s_law_places_kept f1 c1), (P2, qL "_law_walk_kept" s_law_walk_kept f2 c2), (P3, qL "_law_long_walk_kept" s_law_long_walk_kept f3 c3), (P4, qL "_law_refusals_kept" s_law_refusals_kept f4 c4)], ?_, ?_, ?_, ?_, ?_, ?_⟩
  · simp only [List.mem_cons, List.not_mem_nil, or_false]
    rintro p (rfl | rfl | rfl | rfl)
    · exact l1.tb
    · exact l2.tb
    · exact l3.tb
    · exact l4.tb
  · simp only [List.mem_cons, List.not_mem_nil, or_false]
    rintro p (rfl | rfl | rfl | rfl)
    · exact l1.no
    · exact l2.no
    · exact l3.no
    · exact l4.no
  · simp only [List.mem_cons, List.not_mem_nil, or_false]
    rintro p (rfl | rfl | rfl | rfl)
    · exact l1.hd
    · exact l2.hd
    · exact l3.hd
    · exact l4.hd
  · intro s u
    rw [e1]
    exact .of_eq rfl
  · intro H a ns hl _ ht hS
    refine ⟨a, ns, rfl, hS, hl, ?_, fun _ => rfl⟩
    intro p hp
    simp only [List.mem_cons, List.not_mem_nil, or_false] at hp
    rcases hp with rfl | rfl | rfl | rfl
    · exact LamX.TabS.nil (ht (c1, P1) (by simp))
    · exact LamX.TabS.nil (ht (c2, P2) (by simp))
    · exact LamX.TabS.nil (ht (c3, P3) (by simp))
    · exact LamX.TabS.nil (ht (c4, P4) (by simp))
  · intro base KB GB tb
    obtain ⟨fd1, F1⟩ := l1.fn
    obtain ⟨fd2, F2⟩ := l2.fn
    obtain ⟨fd3, F3⟩ := l3.fn
    obtain ⟨fd4, F4⟩ := l4.fn
    have L := lcalls (P := l.prog) (w := w) (base := base) A ER EP EW EB (ef_of ER EP EW EB EF) HF S
    obtain ⟨_, _, dw⟩ := A.law_world
    refine ok_law AL L (cl_law_world dw L (cl_places_kept F1 L ⟨c1, P1, rfl, tb (c1, P1) (by simp), by simp [qL], ?_⟩) (cl_walk_kept F2 L ⟨c2, P2, rfl, tb (c2, P2) (by simp), by simp [qL], ?_⟩) (cl_refusals_kept F4 L ⟨c4, P4, rfl, tb (c4, P4) (by simp), by simp [qL], ?_⟩) (cl_long_walk_kept F3 L ⟨c3, P3, rfl, tb (c3, P3) (by simp), by simp [qL], ?_⟩))
    · simp only [List.mem_cons, List.not_mem_nil, or_false]
      rintro p (rfl | rfl | rfl | rfl) e
      · rfl
      · exact absurd e.symm n12
      · exact absurd e.symm n13
      · exact absurd e.symm n14
    · simp only [List.mem_cons, List.not_mem_nil, or_false]
      rintro p (rfl | rfl | rfl | rfl) e
      · exact absurd e n12
      · rfl
      · exact absurd e.symm n23
      · exact absurd e.symm n24
    · simp only [List.mem_cons, List.not_mem_nil, or_false]
      rintro p (rfl | rfl | rfl | rfl) e
      · exact absurd e n14
      · exact absurd e n24
      · exact absurd e n34
      · rfl
    · simp only [List.mem_cons, List.not_mem_nil, or_false]
      rintro p (rfl | rfl | rfl | rfl) e
      · exact absurd e n13
      · exact absurd e n23
      · rfl
      · exact absurd e.symm n34
end DK

open PySem PySem.W PyProof.Rows in
set_option maxRecDepth 100000 in
set_option maxHeartbeats 0 in
theorem PySem.Challenge.cw_millbrook_k07_tame_places_holds : PySem.Challenge.rw_millbrook_k07_tame_places.Holds := by
  w_on; o_law; k_head; (case hw => w_witness2)
  k_fill
  refine LamX.walk_ofTs (l := PySem.Challenge.rw_millbrook_k07_tame_places) (n := 63) (k := 11) (x := "script") (CX := fun _ => L2.CX0) rfl (by rw [sizeLine_eq]; decide) rfl ⟨rfl, by decide, by decide⟩ (fun w h Y => PySem.W.km_in_of Y) ?F (fun _ _ _ _ _ z => z)
  case F =>
    intro w mg fa h Y KX G hmg
    have TB := PySem.W.km_tabs_of Y
    refine' DK.law_at hmg ⟨⟨PySem.W.mg_none_of KX G ?z_0, PySem.W.mg_none_of KX G ?z_1, PySem.W.mg_none_of KX G ?z_2, PySem.W.mg_none_of KX G ?z_3, PySem.W.mg_none_of KX G ?z_4, PySem.W.mg_none_of KX G ?z_5, PySem.W.mg_none_of KX G ?z_6, PySem.W.mg_none_of KX G ?z_7, PySem.W.mg_none_of KX G ?z_8, PySem.W.mg_none_of KX G ?z_9, PySem.W.mg_none_of KX G ?z_10, PySem.W.mg_none_of KX G ?z_11, PySem.W.mg_none_of KX G ?z_12, PySem.W.mg_none_of KX G ?z_13, PySem.W.mg_none_of KX G ?z_14, PySem.W.mg_none_of KX G ?z_15, PySem.W.mg_none_of KX G ?z_16⟩, DK.at_mk KX G ?a_17 ?l_18 ?c_19 ?k_20, DK.at_mk KX G ?a_21 ?l_22 ?c_23 ?k_24, DK.at_mk KX G ?a_25 ?l_26 ?c_27 ?k_28, DK.at_mk KX G ?a_29 ?l_30 ?c_31 ?k_32, DK.at_mk KX G ?a_33 ?l_34 ?c_35 ?k_36, DK.at_mk KX G ?a_37 ?l_38 ?c_39 ?k_40, DK.at_mk KX G ?a_41 ?l_42 ?c_43 ?k_44, DK.at_mk KX G ?a_45 ?l_46 ?c_47 ?k_48, DK.at_mk KX G ?a_49 ?l_50 ?c_51 ?k_52, DK.at_mk KX G ?a_53 ?l_54 ?c_55 ?k_56, DK.at_mk KX G ?a_57 ?l_58 ?c_59 ?k_60, DK.at_mk KX G ?a_61 ?l_62 ?c_63 ?k_64, DK.at_mk KX G ?a_65 ?l_66 ?c_67 ?k_68, DK.at_mk KX G ?a_69 ?l_70 ?c_71 ?k_72, DK.at_mk KX G ?a_73 ?l_74 ?c_75 ?k_76, DK.at_mk KX G ?a_77 ?l_78 ?c_79 ?k_80, DK.at_mk KX G ?a_81 ?l_82 ?c_83 ?k_84, DK.at_mk KX G ?a_85 ?l_86 ?c_87 ?k_88, DK.at_mk KX G ?a_89 ?l_90 ?c_91 ?k_92, DK.at_mk KX G ?a_93 ?l_94 ?c_95 ?k_96, DK.at_mk KX G ?a_97 ?l_98 ?c_99 ?k_100, DK.at_mk KX G ?a_101 ?l_102 ?c_103 ?k_104, DK.at_mk KX G ?a_105 ?l_106 ?c_107 ?k_108, DK.at_mk KX G ?a_109 ?l_110 ?c_111 ?k_112, DK.at_mk KX G ?a_113 ?l_114 ?c_115 ?k_116, DK.at_mk KX G ?a_117 ?l_118 ?c_119 ?k_120, DK.at_mk KX G ?a_121 ?l_122 ?c_123 ?k_124, DK.at_mk KX G ?a_125 ?l_126 ?c_127 ?k_128, DK.at_mk KX G ?a_129 ?l_130 ?c_131 ?k_132, DK.at_mk KX G ?a_133 ?l_134 ?c_135 ?k_136, DK.at_mk KX G ?a_137 ?l_138 ?c_139 ?k_140, DK.at_mk KX G ?a_141 ?l_142 ?c_143 ?k_144, DK.at_mk KX G ?a_145 ?l_146 ?c_147 ?k_148, DK.at_mk KX G ?a_149 ?l_150 ?c_151 ?k_152, DK.at_mk KX G ?a_153 ?l_154 ?c_155 ?k_156, DK.at_mk KX G ?a_157 ?l_158 ?c_159 ?k_160, DK.at_mk KX G ?a_161 ?l_162 ?c_163 ?k_164, DK.at_mk KX G ?a_165 ?l_166 ?c_167 ?k_168, DK.gi_mk KX G ?g_169, DK.gi_mk KX G ?g_170, DK.gi_mk KX G ?g_171⟩ (DK.ec_mk KX G ?e_172 ?e_173 ?dec_174 ?e_175 ?e_176 ?e_177 ?e_178 ?e_179 ?e_180 ?e_181 ?e_182 ?e_183 ?e_184 ?e_185 ?e_186 ?e_187) (DK.ec_mk KX G ?e_188 ?e_189 ?dec_190 ?e_191 ?e_192 ?e_193 ?e_194 ?e_195 ?e_196 ?e_197 ?e_198 ?e_199 ?e_200 ?e_201 ?e_202 ?e_203) (DK.ec_mk KX G ?e_204 ?e_205 ?dec_206 ?e_207 ?e_208 ?e_209 ?e_210 ?e_211 ?e_212 ?e_213 ?e_214 ?e_215 ?e_216 ?e_217 ?e_218 ?e_219) (DK.ec_mk KX G ?e_220 ?e_221 ?dec_222 ?e_223 ?e_224 ?e_225 ?e_226 ?e_227 ?e_228 ?e_229 ?e_230 ?e_231 ?e_232 ?e_233 ?e_234 ?e_235) (DK.ef_mk KX G ?e_264 ?e_265 ?e_266 ?e_267 ?e_268 ?sub_269 ?sub_270 ?sub_271 ?sub_272 ?sub_273 ?sub_274 ?sub_275 ?sub_276 ?sub_277 ?sub_278 ?e_279 ?e_280 ?e_281 ?e_282 ?sub_283 ?e_284 ?e_285 ?e_286 ?e_287 ?e_288 ?sub_289 ?sub_290 ?sub_291) (DK.hf_mk KX G ?e_292 ?e_293 ?e_294 ?e_295 ?e_296 ?e_297 ?e_298 ?e_299 ?e_300 ?e_301 ?e_302 ?e_303 ?e_304 ?sub_305 ?e_306 ?e_307 ?e_308 ?e_309 ?e_310 ?e_311 ?e_312 ?e_313 ?e_314 ?e_315) (DK.sd_mk KX G ?e_316 ?e_317 ?kl_318 ?low_319 ?e_320 ?e_321) (DK.lam_mk (Pt := 497) KX G ?m_236 ?m_237 ?m_238 ?m_239 ?hd_240 ?tab_241 ?no_242) (DK.lam_mk (Pt := 504) KX G ?m_243 ?m_244 ?m_245 ?m_246 ?hd_247 ?tab_248 ?no_249) (DK.lam_mk (Pt := 509) KX G ?m_250 ?m_251 ?m_252 ?m_253 ?hd_254 ?tab_255 ?no_256) (DK.lam_mk (Pt := 514) KX G ?m_257 ?m_258 ?m_259 ?m_260 ?hd_261 ?tab_262 ?no_263) (by decide) (by decide) (by decide) (by decide) (by decide) (by decide)
    (case z_0 => k_is)
    (case z_1 => k_is)
    (case z_2 => k_is)
    (case z_3 => k_is)
    (case z_4 => k_is)
    (case z_5 => k_is)
    (case z_6 => k_is)
    (case z_7 => k_is)
    (case z_8 => k_is)
    (case z_9 => k_is)
    (case z_10 => k_is)
    (case z_11 => k_is)
    (case z_12 => k_is)
    (case z_13 => k_is)
    (case z_14 => k_is)
    (case z_15 => k_is)
    (case z_16 => k_is)
    (case a_17 => k_is)
    (case l_18 => k_is)
    (case c_19 => k_is)
    (case k_20 => k_is)
    (case a_21 => k_is)
    (case l_22 => k_is)
    (case c_23 => k_is)
    (case k_24 => k_is)
    (case a_25 => k_is)
    (case l_26 => k_is)
    (case c_27 => k_is)
    (case k_28 => k_is)
    (case a_29 => k_is)
    (case l_30 => k_is)
    (case c_31 => k_is)
    (case k_32 => k_is)
    (case a_33 => k_is)
    (case l_34 => k_is)
    (case c_35 => k_is)
    (case k_36 => k_is)
    (case a_37 => k_is)
    (case l_38 => k_is)
    (case c_39 => k_is)
    (case k_40 => k_is)
    (case a_41 => k_is)
    (case l_42 => k_is)
    (case c_43 => k_is)
    (case k_44 => k_is)
    (case a_45 => k_is)
    (case l_46 => k_is)
    (case c_47 => k_is)
    (case k_48 => k_is)
    (case a_49 => k_is)
    (case l_50 => k_is)
    (case c_51 => k_is)
    (case k_52 => k_is)
    (case a_53 => k_is)
    (case l_54 => k_is)
    (case c_55 => k_is)
    (case k_56 => k_is)
    (case a_57 => k_is)
    (case l_58 => k_is)
    (case c_59 => k_is)
    (case k_60 => k_is)
    (case a_61 => k_is)
    (case l_62 => k_is)
    (case c_63 => k_is)
    (case k_64 => k_is)
    (case a_65 => k_is)
    (case l_66 => k_is)
    (case c_67 => k_is)
    (case k_68 => k_is)
    (case a_69 => k_is)
    (case l_70 => k_is)
    (case c_71 => k_is)
    (case k_72 => k_is)
    (case a_73 => k_is)
    (case l_74 => k_is)
    (case c_75 => k_is)
    (case k_76 => k_is)
    (case a_77 => k_is)
    (case l_78 => k_is)
    (case c_79 => k_is)
    (case k_80 => k_is)
    (case a_81 => k_is)
    (case l_82 => k_is)
    (case c_83 => k_is)
    (case k_84 => k_is)
    (case a_85 => k_is)
    (case l_86 => k_is)
    (case c_87 => k_is)
    (case k_88 => k_is)
    (case a_89 => k_is)
    (case l_90 => k_is)
    (case c_91 => k_is)
    (case k_92 => k_is)
    (case a_93 => k_is)
    (case l_94 => k_is)
    (case c_95 => k_is)
    (case k_96 => k_is)
    (case a_97 => k_is)
    (case l_98 => k_is)
    (case c_99 => k_is)
    (case k_100 => k_is)
    (case a_101 => k_is)
    (case l_102 => k_is)
    (case c_103 => k_is)
    (case k_104 => k_is)
    (case a_105 => k_is)
    (case l_106 => k_is)
    (case c_107 => k_is)
    (case k_108 => k_is)
    (case a_109 => k_is)
    (case l_110 => k_is)
    (case c_111 => k_is)
    (case k_112 => k_is)
    (case a_113 => k_is)
    (case l_114 => k_is)
    (case c_115 => k_is)
    (case k_116 => k_is)
    (case a_117 => k_is)
    (case l_118 => k_is)
    (case c_119 => k_is)
    (case k_120 => k_is)
    (case a_121 => k_is)
    (case l_122 => k_is)
    (case c_123 => k_is)
    (case k_124 => k_is)
    (case a_125 => k_is)
    (case l_126 => k_is)
    (case c_127 => k_is)
    (case k_128 => k_is)
    (case a_129 => k_is)
    (case l_130 => k_is)
    (case c_131 => k_is)
    (case k_132 => k_is)
    (case a_133 => k_is)
    (case l_134 => k_is)
    (case c_135 => k_is)
    (case k_136 => k_is)
    (case a_137 => k_is)
    (case l_138 => k_is)
    (case c_139 => k_is)
    (case k_140 => k_is)
    (case a_141 => k_is)
    (case l_142 => k_is)
    (case c_143 => k_is)
    (case k_144 => k_is)
    (case a_145 => k_is)
    (case l_146 => k_is)
    (case c_147 => k_is)
    (case k_148 => k_is)
    (case a_149 => k_is)
    (case l_150 => k_is)
    (case c_151 => k_is)
    (case k_152 => k_is)
    (case a_153 => k_is)
    (case l_154 => k_is)
    (case c_155 => k_is)
    (case k_156 => k_is)
    (case a_157 => k_is)
    (case l_158 => k_is)
    (case c_159 => k_is)
    (case k_160 => k_is)
    (case a_161 => k_is)
    (case l_162 => k_is)
    (case c_163 => k_is)
    (case k_164 => k_is)
    (case a_165 => k_is)
    (case l_166 => k_is)
    (case c_167 => k_is)
    (case k_168 => k_is)
    (case g_169 => k_is)
    (case g_170 => k_is)
    (case g_171 => k_is)
    (case e_172 => k_is)
    (case e_173 => k_is)
    (case dec_174 => decide +kernel)
    (case e_175 => k_is)
    (case e_176 => k_is)
    (case e_177 => k_is)
    (case e_178 => k_is)
    (case e_179 => k_is)
    (case e_180 => k_is)
    (case e_181 => k_is)
    (case e_182 => k_is)
    (case e_183 => k_is)
    (case e_184 => k_is)
    (case e_185 => k_is)
    (case e_186 => k_is)
    (case e_187 => k_is)
    (case e_188 => k_is)
    (case e_189 => k_is)
    (case dec_190 => decide +kernel)
    (case e_191 => k_is)
    (case e_192 => k_is)
    (case e_193 => k_is)
    (case e_194 => k_is)
    (case e_195 => k_is)
    (case e_196 => k_is)
    (case e_197 => k_is)
    (case e_198 => k_is)
    (case e_199 => k_is)
    (case e_200 => k_is)
    (case e_201 => k_is)
    (case e_202 => k_is)
    (case e_203 => k_is)
    (case e_204 => k_is)
    (case e_205 => k_is)
    (case dec_206 => decide +kernel)
    (case e_207 => k_is)
    (case e_208 => k_is)
    (case e_209 => k_is)
    (case e_210 => k_is)
    (case e_211 => k_is)
    (case e_212 => k_is)
    (case e_213 => k_is)
    (case e_214 => k_is)
    (case e_215 => k_is)
    (case e_216 => k_is)
    (case e_217 => k_is)
    (case e_218 => k_is)
    (case e_219 => k_is)
    (case e_220 => k_is)
    (case e_221 => k_is)
    (case dec_222 => decide +kernel)
    (case e_223 => k_is)
    (case e_224 => k_is)
    (case e_225 => k_is)
    (case e_226 => k_is)
    (case e_227 => k_is)
    (case e_228 => k_is)
    (case e_229 => k_is)
    (case e_230 => k_is)
    (case e_231 => k_is)
    (case e_232 => k_is)
    (case e_233 => k_is)
    (case e_234 => k_is)
    (case e_235 => k_is)
    (case m_236 => k_is)
    (case m_237 => k_is)
    (case m_238 => k_is)
    (case m_239 => k_is)
    (case hd_240 => kernel_rfl)
    (case tab_241 => exact TB _ (by simp))
    (case no_242 => first | rfl | k_is)
    (case m_243 => k_is)
    (case m_244 => k_is)
    (case m_245 => k_is)
    (case m_246 => k_is)
    (case hd_247 => kernel_rfl)
    (case tab_248 => exact TB _ (by simp))
    (case no_249 => first | rfl | k_is)
    (case m_250 => k_is)
    (case m_251 => k_is)
    (case m_252 => k_is)
    (case m_253 => k_is)
    (case hd_254 => kernel_rfl)
    (case tab_255 => exact TB _ (by simp))
    (case no_256 => first | rfl | k_is)
    (case m_257 => k_is)
    (case m_258 => k_is)
    (case m_259 => k_is)
    (case m_260 => k_is)
    (case hd_261 => kernel_rfl)
    (case tab_262 => exact TB _ (by simp))
    (case no_263 => first | rfl | k_is)
    (case e_264 => k_is)
    (case e_265 => k_is)
    (case e_266 => k_is)
    (case e_267 => k_is)
    (case e_268 => k_is)
    (case sub_269 => first | rfl | k_is)
    (case sub_270 => first | rfl | k_is)
    (case sub_271 => first | rfl | k_is)
    (case sub_272 => first | rfl | k_is)
    (case sub_273 => first | rfl | k_is)
    (case sub_274 => first | rfl | k_is)
    (case sub_275 => first | rfl | k_is)
    (case sub_276 => first | rfl | k_is)
    (case sub_277 => first | rfl | k_is)
    (case sub_278 => first | rfl | k_is)
    (case e_279 => k_is)
    (case e_280 => k_is)
    (case e_281 => k_is)
    (case e_282 => k_is)
    (case sub_283 => first | rfl | k_is)
    (case e_284 => k_is)
    (case e_285 => k_is)
    (case e_286 => k_is)
    (case e_287 => k_is)
    (case e_288 => k_is)
    (case sub_289 => first | rfl | k_is)
    (case sub_290 => first | rfl | k_is)
    (case sub_291 => first | rfl | k_is)
    (case e_292 => k_is)
    (case e_293 => k_is)
    (case e_294 => k_is)
    (case e_295 => k_is)
    (case e_296 => k_is)
    (case e_297 => k_is)
    (case e_298 => k_is)
    (case e_299 => k_is)
    (case e_300 => k_is)
    (case e_301 => k_is)
    (case e_302 => k_is)
    (case e_303 => k_is)
    (case e_304 => k_is)
    (case sub_305 => first | rfl | k_is)
    (case e_306 => k_is)
    (case e_307 => k_is)
    (case e_308 => k_is)
    (case e_309 => k_is)
    (case e_310 => k_is)
    (case e_311 => k_is)
    (case e_312 => k_is)
    (case e_313 => k_is)
    (case e_314 => k_is)
    (case e_315 => k_is)
    (case e_316 => k_is)
    (case e_317 => k_is)
    (case kl_318 => exact ⟨⟨_, _, rfl, rfl⟩, ⟨_, _, rfl, rfl⟩, ⟨_, _, rfl, rfl⟩, ⟨_, _, rfl, rfl⟩, ⟨_, _, rfl, rfl⟩, ⟨_, _, rfl, rfl⟩, ⟨_, _, rfl, rfl⟩, ⟨_, _, rfl, rfl⟩, True.intro⟩)
    (case low_319 => first | decide | decide +kernel)
    (case e_320 => k_is)
    (case e_321 => k_is)

