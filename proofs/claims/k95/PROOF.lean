import PyProof.Rows.All
import Wide.All
import OpenK.AllK
import Wide.FinOn
import HandS.ForMost
import HandS.SetFor
import HandS.ForExc
import HandS.IsInst
import HandS.Evl
import HandS.Flow
import HandS.Codes
import HandS.Wide
import HandS.TupAny
import HandS.Conv
import HandS.Strs
import HandS.SortInts
import KE.DataMinMax
import KE.DataAny
import KE.SortData
import HandS.SortKw
import HandS.ExcInit
import HandS.ExcField
import HandS.Small
import HandS.TryMany
import HandS.Property
import HandS.Lambda
import KE.GoesEnum
import HandS.More
import HandS.NoneIn
import HandS.TupLe
import PyProof.TupleOfSeq
import HandS.WideBits
import KE.DataMinKey
import HandS.ExcIs
import KE.KExcIs
import PyProof.NeKinds
import HandS.Text
import HandS.OwnEq
import OpenK.KMeth
import OpenK.KOps
import KE.KOpsOwn
import HandS.ClsMeth
import KE.KDictList
import HandS.Dict
import HandS.ExcOwn
import PyProof.ReprRoads
import HandS.RaiseMore
import KE.KCallOwn
import HandS.FStr
import HandS.SetBool
import HandS.Defaults
import HandS.Star
import HandS.Style
import HandS.MapObj
import HandS.RepeatKit
import KE.KItemsList
import HandS.ExcValue
import HandS.RevTup
import HandS.MakeKwOnly
import KE.KNest
import KE.KNestM
import HandS.EndTab
import PySem.Challenge.RW_millbrook_k95_stones_taken_out_and_put_i
set_option Elab.async false
set_option linter.all false
set_option maxRecDepth 100000
namespace GV
open PySem PySem.Spec PyProof.Rows L2
/-- a set as it is new -/
abbrev nset (w : World) : Obj := { cls := .type "set", dict := none, data := .set #[] 0 (.fresh 0 0 (!w.params.followText "set-order")) }
section
variable {P : Program} {w : World} {A : Around} {E : Value → Shared → Prop} {s : Shared}
set_option maxHeartbeats 3200000 in
/-- set(l), l a list of ints: its members in the order of the world -/
theorem set_ofL {l : Addr} {items : Array Value} (ns : List Int) {Q : Value → Shared → Prop} (hh : A.handled = none) (hl : s.heap.IsList l items) (hit : IntsAre items.toList ns) (hb : ns.length + 1 < scanBound)
    (fin : ∀ (g : Heap) (tk c : Nat), SetR w g s.heap.objs.size (fun j => decide (j ∈ ns)) c → c ≤ ns.length → (∀ b o, s.heap.get? b = some o → g.get? b = some o) → Q (.ref s.heap.objs.size) { s with heap := g, toks := tk }) :
    wpAny (model P w) A (call (.type "set") [.ref l]) Q E s := by
  have size : items.size = ns.length := by
    have q := IntsAre.length hit
    rwa [Array.length_toList] at q
  obtain ⟨c, tl, hmro⟩ := F.called_set.mro
  have a1 := F.called_set.made
  have a2 := F.called_set.sub
  refine wpAny_call (codeAny_of_tree (show wpAny _ _ (callAny (.type "set") _) _ _ _ from wpAny_pure ⟨Code.quiet_builtin _ (by decide +kernel), codeAny_builtin F.entry_type_call ?_⟩))
  rw [Around.under_plain (weight_type_call_type "set" [.ref l] []) rfl]
  have a3 := F.called_set.notType
  have a4 := F.called_set.canCreate
  have a5 := F.typeCall_set_1 (.ref l)
  repeat (any_goals first | assumption | wp_step)
  refine codeAny_mono (code_set_led1 (.ref l) (E := E) (Q₁ := fun o s₁ => o = .ref s.heap.objs.size ∧ s₁ = { s with heap := s.heap.push (nset w) }) ⟨rfl, rfl⟩) fun r s₁ hr => ?_
  rcases r with er | fl
  · exact hr
  rcases fl with _ | _ | _ | ob
  iterate 3 exact hr.elim
  obtain ⟨rfl, rfl⟩ := hr
  have at0 : (s.heap.push (nset w)).get? s.heap.objs.size = some (nset w) := Heap.get?_push_size _ rfl
  have ty0 : Shared.TypeIs { s with heap := s.heap.push (nset w) } (.ref s.heap.objs.size) "set" := ⟨_, at0, rfl⟩
  have b1 := F.called_set.init.lookup
  have b2 := F.called_set.init.bind (.ref s.heap.objs.size)
  repeat (any_goals first | assumption | wp_step)
  refine codeAny_mono (codeAny_call_builtin (R := wants (fun r s₂ => r = .none ∧ ∃ g tk c, s₂ = { s with heap := g, toks := tk } ∧ SetR w g s.heap.objs.size (fun j => decide (j ∈ ns)) c ∧ c ≤ ns.length ∧ (∀ b o, s.heap.get? b = some o → g.get? b = some o)) E)
    F.called_set.init.plain F.entry_set_init (check_set_init_1 ty0 ?_)) fun r₂ s₂ hr₂ => ?_
  · obtain ⟨⟨oc, od, odt, osl⟩, hol, hcl, nl, hdl⟩ := hl
    simp only at hcl hdl
    subst hcl hdl
    have ol : (s.heap.push (nset w)).get? l = some { cls := .type "list", dict := od, data := .seq items nl, slots := osl } := Heap.get?_push_of_some _ hol
    have c1 := F.sub_list_set
    have c2 := F.sub_list_frozenset
    have c3 : (Value.type "list" == Value.type "dict") = false := by decide
    have isl : (s.heap.push (nset w)).IsList l items := ⟨_, ol, rfl, nl, rfl⟩
    unfold Builtin.«set.__init__» noKeywords Builtin.Frozenset.updateFrom
    generalize hPI : pyIter = PI
    wp_walk
    subst hPI
    refine wpAny_pyIter_list isl (wpAny_bind (wpAny_runValue ?_))
    have lt : l < s.heap.objs.size := Heap.lt_size hol
    have hh3 : A.in1.in1.in1.handled = none := by simp [hh]
    have neI : l ≠ (s.heap.push (nset w)).objs.size := by
      rw [Heap.size_push]
      exact Nat.ne_of_lt (Nat.lt_succ_of_lt lt)
    have nf : s.heap.objs.size ∉ [(s.heap.push (nset w)).objs.size, l] := by
      rw [Heap.size_push]
      simp only [List.mem_cons, List.not_mem_nil, or_false, not_or]
      exact And.intro (Nat.ne_of_lt (Nat.lt_succ_self _)) (Nat.ne_of_gt lt)
    have val : ∀ (i : Nat) (v : Value), items[i]? = some v → ∃ k t, ns[i]? = some k ∧ v = .int k t := fun i v hv => by
      have hi : i < ns.length := by rw [← size]; exact (Array.getElem?_eq_some_iff.mp hv).1
      obtain ⟨t, e⟩ := PyProof.Rows.IntsAre.int_at hit i v (by rwa [Array.getElem?_toList])
      refine ⟨ns[i], t, List.getElem?_eq_getElem hi, ?_⟩
      rw [e, List.getD_eq_getElem?_getD, List.getElem?_eq_getElem hi, Option.getD_some]
    refine set_update_ints ((Walks.list hh3 _ l neI items).toS) s.heap.objs.size nf ns size hb val (items.size - 0) 0 _ (by omega) (Nat.zero_le _) ⟨⟨_, Heap.get?_push_size _ rfl, rfl, rfl⟩, isl.push _⟩ ?z ?y
    case z => exact ⟨0, Nat.le_refl 0, setR_new_at (Heap.get?_push_of_some _ at0)⟩
    case y =>
      rintro ⟨g, gn, dr, tk, os⟩ c' hm hc' hS'
      obtain rfl : gn = s.gens := hm.gens
      obtain rfl : dr = s.drawn := hm.drawn
      obtain rfl : os = s.os := hm.os
      refine wpAny_pure (show wpAny _ _ (ret Value.none) _ _ _ from wpAny_pure ⟨rfl, g, tk, c', rfl, hS', size ▸ hc', fun b o e => ?_⟩)
      have b0 : b < s.heap.objs.size := Heap.lt_size e
      refine hm.heap b o ?_ (Heap.get?_push_of_some _ (Heap.get?_push_of_some _ e))
      rw [Heap.size_push]
      simp only [List.mem_cons, List.not_mem_nil, or_false, not_or]
      exact And.intro (Nat.ne_of_lt b0) (Nat.ne_of_lt (Nat.lt_succ_of_lt b0))
  · rcases r₂ with er | fl₂
    · exact hr₂
    rcases fl₂ with _ | _ | _ | r
    iterate 3 exact hr₂.elim
    obtain ⟨rfl, g, tk, c', rfl, hS', hc', hk'⟩ := hr₂
    repeat (any_goals first | assumption | wp_step)
    exact fin _ _ _ hS' hc' hk'
end
end GV

/-! Rules upon the syntax itself: the weakest reading of a piece of text, and what it gives on data. -/
namespace GV
open PySem PySem.Spec PyProof.Rows L2
abbrev St := L2.St

/-! ### the weakest readings -/
def wE (X : Cx) (e : Expr) : TE := fun σ H Q => ∃ t, PE X e t ∧ t σ H Q
def wT (X : Cx) (e : Expr) : TT := fun σ H Q => ∃ t, PT X e t ∧ t σ H Q
def wA (X : Cx) (es : List Expr) : TA := fun σ H Q => ∃ t, PA X es t ∧ t σ H Q
def wS (X : Cx) (st : Stmt) : TS := fun D σ H => ∃ t, PS X st t ∧ t D σ H
def wB (X : Cx) (st : List Stmt) : TS := fun D σ H => ∃ t, PSs X st t ∧ t D σ H
section
variable {X : Cx}
theorem wE.pe {e : Expr} : PE X e (wE X e) := ⟨fun pins s σ H Q I ⟨_, h, q⟩ => h.run pins s σ H Q I q⟩
theorem wT.pt {e : Expr} : PT X e (wT X e) := ⟨fun pins s σ H Q I ⟨_, h, q⟩ => h.run pins s σ H Q I q⟩
theorem wA.pa {es : List Expr} : PA X es (wA X es) := ⟨fun pos pins s σ H Q I ⟨_, h, q⟩ => h.run pos pins s σ H Q I q⟩
theorem wS.ps {st : Stmt} : PS X st (wS X st) := ⟨fun pins s σ H D I ⟨_, h, q⟩ => h.run pins s σ H D I q⟩
theorem wB.ps {st : List Stmt} : PSs X st (wB X st) := ⟨fun pins s σ H D I ⟨_, h, q⟩ => h.run pins s σ H D I q⟩
end

/-! ### what is known of the heap: all but the mutable things at M and the tables -/
def NT (o : HO) : Prop := ∀ ps, o ≠ .tbl ps
def ExM (M : Addr → Prop) (H H' : Hp) : Prop := ∀ a o, H a = some o → ¬ M a → NT o → H' a = some o
def Alive (M : Addr → Prop) (H : Hp) : Prop := ∀ a, M a → ∃ o, H a = some o
theorem ExM.refl {M : Addr → Prop} (H : Hp) : ExM M H H := fun _ _ h _ _ => h
theorem ExM.trans {M : Addr → Prop} {H H1 H2 : Hp} (a : ExM M H H1) (b : ExM M H1 H2) : ExM M H H2 := fun x o h m n => b x o (a x o h m n) m n
theorem ExM.of {M : Addr → Prop} {H H' : Hp} (e : Evl.Ex H H') : ExM M H H' := fun a o h _ _ => e a o h
theorem Alive.mono {M : Addr → Prop} {H H' : Hp} (a : Alive M H) (e : Evl.Ex H H') : Alive M H' := fun x m => let ⟨o, h⟩ := a x m; ⟨o, e x o h⟩
theorem Alive.fresh {M : Addr → Prop} {H : Hp} {p : Addr} (a : Alive M H) (h : H p = none) : ¬ M p := fun m => by
  obtain ⟨o, q⟩ := a p m
  rw [h] at q
  cases q

mutual
/-- v is the datum d, none of whose parts lies in M -/
inductive Rp (K : PySem.W.Frag) (M : Addr → Prop) (H : Hp) : V → PyData → Prop
  | non : Rp K M H .non .none
  | bl (b : Bool) : Rp K M H (.bl b) (.bool b)
  | int (i : Int) : Rp K M H (.int i) (.int i)
  | str (x : Str) : Rp K M H (.str x) (.str x)
  | lst {a : Addr} {xs : List V} {ds : List PyData} : ¬ M a → Rd H a (.lst xs) → RpAll K M H xs ds → Rp K M H (.ref a) (.list ds)
  | tup {a : Addr} {xs : List V} {ds : List PyData} : ¬ M a → Rd H a (.tup xs) → RpAll K M H xs ds → Rp K M H (.ref a) (.tuple ds)
inductive RpAll (K : PySem.W.Frag) (M : Addr → Prop) (H : Hp) : List V → List PyData → Prop
  | nil : RpAll K M H [] []
  | cons {v : V} {vs : List V} {d : PyData} {ds : List PyData} : Rp K M H v d → RpAll K M H vs ds → RpAll K M H (v :: vs) (d :: ds)
end

section
variable {K : PySem.W.Frag} {M M' : Addr → Prop} {H H' : Hp}
theorem Rd.exM {a : Addr} {xs : List V} (h : Rd H a (.lst xs)) (m : ¬ M a) (e : ExM M H H') : Rd H' a (.lst xs) := by
  rcases h with h | ⟨o, h⟩
  · exact .inl (e _ _ h m (fun _ z => by cases z))
  · exact .inr ⟨o, e _ _ h m (fun _ z => by cases z)⟩
theorem Rd.exT {a : Addr} {xs : List V} (h : Rd H a (.tup xs)) (m : ¬ M a) (e : ExM M H H') : Rd H' a (.tup xs) := by
  rcases h with h | ⟨o, h⟩
  · exact .inl (e _ _ h m (fun _ z => by cases z))
  · exact .inr ⟨o, e _ _ h m (fun _ z => by cases z)⟩
theorem Rd.there {a : Addr} {u : HO} (h : Rd H a u) : H a ≠ none := by
  rcases h with h | ⟨o, h⟩ <;> rw [h] <;> exact fun z => by cases z
mutual
theorem Rp.mono {v : V} {d : PyData} : (r : Rp K M H v d) → (hm : ∀ a, M' a → M a) → ExM M H H' → Rp K M' H' v d
  | .non, _, _ => .non
  | .bl b, _, _ => .bl b
  | .int i, _, _ => .int i
  | .str x, _, _ => .str x
  | .lst m h r, hm, e => .lst (fun z => m (hm _ z)) (Rd.exM h m e) (RpAll.mono r hm e)
  | .tup m h r, hm, e => .tup (fun z => m (hm _ z)) (Rd.exT h m e) (RpAll.mono r hm e)
theorem RpAll.mono {vs : List V} {ds : List PyData} : (r : RpAll K M H vs ds) → (hm : ∀ a, M' a → M a) → ExM M H H' → RpAll K M' H' vs ds
  | .nil, _, _ => .nil
  | .cons r rs, hm, e => .cons (Rp.mono r hm e) (RpAll.mono rs hm e)
end
mutual
/-- further mutable things, none of which was there -/
theorem Rp.wide {v : V} {d : PyData} : (r : Rp K M H v d) → (∀ a, M' a → M a ∨ H a = none) → Rp K M' H v d
  | .non, _ => .non
  | .bl b, _ => .bl b
  | .int i, _ => .int i
  | .str x, _ => .str x
  | .lst m h r, hm => .lst (fun z => (hm _ z).elim m (Rd.there h)) h (RpAll.wide r hm)
  | .tup m h r, hm => .tup (fun z => (hm _ z).elim m (Rd.there h)) h (RpAll.wide r hm)
theorem RpAll.wide {vs : List V} {ds : List PyData} : (r : RpAll K M H vs ds) → (∀ a, M' a → M a ∨ H a = none) → RpAll K M' H vs ds
  | .nil, _ => .nil
  | .cons r rs, hm => .cons (Rp.wide r hm) (RpAll.wide rs hm)
end
mutual
theorem Rp.dp {v : V} {d : PyData} : (r : Rp K M H v d) → Dp K H v d
  | .non => .non
  | .bl b => .bl b
  | .int i => .int i
  | .str x => .str x
  | .lst _ h r => .lst (.inl h) (RpAll.dp r)
  | .tup _ h r => .tup (.inl h) (RpAll.dp r)
theorem RpAll.dp {vs : List V} {ds : List PyData} : (r : RpAll K M H vs ds) → DpAll K H vs ds
  | .nil => .nil
  | .cons r rs => .cons (Rp.dp r) (RpAll.dp rs)
end
theorem RpAll.length : ∀ {vs : List V} {ds : List PyData}, RpAll K M H vs ds → vs.length = ds.length
  | _, _, .nil => rfl
  | _, _, .cons _ rs => congrArg (· + 1) rs.length
theorem RpAll.get : ∀ {vs : List V} {ds : List PyData} {i : Nat} {d : PyData}, RpAll K M H vs ds → ds[i]? = some d → ∃ v, vs[i]? = some v ∧ Rp K M H v d
  | _, _, 0, _, .cons r _, e => by
    simp at e
    subst e
    exact ⟨_, rfl, r⟩
  | _, _, i + 1, d, .cons _ rs, e => by
    obtain ⟨v, h1, h2⟩ := RpAll.get (i := i) (d := d) rs (by simpa using e)
    exact ⟨v, by simpa using h1, h2⟩
  | _, _, _, _, .nil, e => by simp at e
theorem RpAll.append : ∀ {vs ws : List V} {ds es : List PyData}, RpAll K M H vs ds → RpAll K M H ws es → RpAll K M H (vs ++ ws) (ds ++ es)
  | _, _, _, _, .nil, s => s
  | _, _, _, _, .cons r rs, s => .cons r (RpAll.append rs s)
theorem RpAll.ints : ∀ ns : List Int, RpAll K M H (ns.map V.int) (ns.map PyData.int)
  | [] => .nil
  | n :: r => .cons (.int n) (RpAll.ints r)
theorem RpAll.strs : ∀ ns : List Str, RpAll K M H (ns.map V.str) (ns.map PyData.str)
  | [] => .nil
  | n :: r => .cons (.str n) (RpAll.strs r)
theorem RpAll.of_ints : ∀ {vs : List V} {ns : List Int}, RpAll K M H vs (ns.map PyData.int) → vs = ns.map V.int
  | [], [], .nil => rfl
  | _ :: _, n :: r, .cons h hs => by
    cases h
    rw [RpAll.of_ints hs]
    rfl
end

/-! ### what a piece of text gives -/
structure PD (X : Cx) (M : Addr → Prop) (e : Expr) (σ : St) (H : Hp) (d : PyData) : Prop where
  run : ∀ H1, ExM M H H1 → Alive M H1 → ∀ Q : VK, (∀ v H2, Evl.Ex H1 H2 → Rp X.K M H2 v d → Q v H2) → wE X e σ H1 Q
structure TD (X : Cx) (M : Addr → Prop) (e : Expr) (σ : St) (H : Hp) (b : Bool) : Prop where
  run : ∀ H1, ExM M H H1 → Alive M H1 → ∀ Q : Bool → Hp → Prop, (∀ H2, Evl.Ex H1 H2 → Q b H2) → wT X e σ H1 Q
structure AD (X : Cx) (M : Addr → Prop) (es : List Expr) (σ : St) (H : Hp) (ds : List PyData) : Prop where
  run : ∀ H1, ExM M H H1 → Alive M H1 → ∀ Q : List V → Hp → Prop, (∀ vs H2, Evl.Ex H1 H2 → RpAll X.K M H2 vs ds → Q vs H2) → wA X es σ H1 Q

section
variable {X : Cx} {M : Addr → Prop} {σ : St} {H H' : Hp} {a b c e : Expr} {da db d : PyData} {pos : Pos}
theorem PD.mono (h : PD X M e σ H d) (x : ExM M H H') : PD X M e σ H' d := ⟨fun H1 e1 al Q q => h.run H1 (x.trans e1) al Q q⟩
theorem TD.mono {k : Bool} (h : TD X M e σ H k) (x : ExM M H H') : TD X M e σ H' k := ⟨fun H1 e1 al Q q => h.run H1 (x.trans e1) al Q q⟩
theorem AD.mono {es : List Expr} {ds : List PyData} (h : AD X M es σ H ds) (x : ExM M H H') : AD X M es σ H' ds := ⟨fun H1 e1 al Q q => h.run H1 (x.trans e1) al Q q⟩
theorem PD.is {d' : PyData} (h : PD X M e σ H d) (q : d = d') : PD X M e σ H d' := q ▸ h
theorem TD.is {k k' : Bool} (h : TD X M e σ H k) (q : k = k') : TD X M e σ H k' := q ▸ h
/-- names and constants -/
theorem pd_name {i : Nat} {x : Str} {v : V} (hN : X.N[i]? = some x) (hv : Vis X.env.scope x) (hs : σ[i]? = some (some v)) (r : Rp X.K M H v d)
    (hd : (x == ("__debug__" : Str)) = false := by decide) (hcd : (x == ("__classdict__" : Str)) = false := by decide) : PD X M (.Name x pos) σ H d :=
  ⟨fun H1 e1 _ Q q => ⟨_, pe_var hN hv hd hcd, v, hs, q v H1 (Evl.Ex.refl H1) (r.mono (fun _ z => z) e1)⟩⟩
theorem pd_int {i : Int} {j} : PD X M (.Constant (.int i) j pos) σ H (.int i) := ⟨fun H1 _ _ Q q => ⟨_, pe_int, q _ H1 (Evl.Ex.refl H1) (.int i)⟩⟩
theorem pd_bl {k : Bool} {j} : PD X M (.Constant (.bool k) j pos) σ H (.bool k) := ⟨fun H1 _ _ Q q => ⟨_, pe_bl, q _ H1 (Evl.Ex.refl H1) (.bl k)⟩⟩
theorem pd_non {j} : PD X M (.Constant .none j pos) σ H .none := ⟨fun H1 _ _ Q q => ⟨_, pe_non, q _ H1 (Evl.Ex.refl H1) .non⟩⟩
theorem pd_str {x : Str} {j} : PD X M (.Constant (.str x) j pos) σ H (.str x) := ⟨fun H1 _ _ Q q => ⟨_, pe_str, q _ H1 (Evl.Ex.refl H1) (.str x)⟩⟩
theorem pd_globI {x : Str} {i : Int} {t : Tok} (hg : Gl X x) (hm : X.mg x = some (.int i t)) (hd : (x == ("__debug__" : Str)) = false := by decide) : PD X M (.Name x pos) σ H (.int i) :=
  ⟨fun H1 _ _ Q q => ⟨_, pe_glob hg hm (v := .int i) ⟨t, rfl⟩ hd, q _ H1 (Evl.Ex.refl H1) (.int i)⟩⟩

/-! ### two operands -/
/-- an operator by values -/
def RD2 (X : Cx) (M : Addr → Prop) (r : R2) (da db d : PyData) : Prop :=
  ∀ x y H1, Rp X.K M H1 x da → Rp X.K M H1 y db → Alive M H1 → ∀ Q : VK, (∀ v H2, Evl.Ex H1 H2 → Rp X.K M H2 v d → Q v H2) → r x y H1 Q
theorem pd_binR {op : Operator} {r : R2} (ho : OpR X (binaryOp op) r) (hr : RD2 X M r da db d) (ha : PD X M a σ H da) (hb : PD X M b σ H db) : PD X M (.BinOp a op b pos) σ H d := ⟨fun H1 e1 al Q q =>
  ⟨_, pe_op ho wE.pe wE.pe, ha.run H1 e1 al _ fun x H2 x2 rx => hb.run H2 (e1.trans (.of x2)) (al.mono x2) _ fun y H3 x3 ry =>
    hr x y H3 (rx.mono (fun _ z => z) (.of x3)) ry ((al.mono x2).mono x3) Q fun v H4 x4 rv => q v H4 ((x2.trans x3).trans x4) rv⟩⟩
theorem pd_cmpR {op : CmpOp} {r : R2} (ho : OpR X (compareOp op) r) (hm : behindInMarks op b = false) (hr : RD2 X M r da db d) (ha : PD X M a σ H da) (hb : PD X M b σ H db) : PD X M (.Compare a [op] [b] pos) σ H d := ⟨fun H1 e1 al Q q =>
  ⟨_, pe_cmpR ho wE.pe wE.pe hm, ha.run H1 e1 al _ fun x H2 x2 rx => hb.run H2 (e1.trans (.of x2)) (al.mono x2) _ fun y H3 x3 ry =>
    hr x y H3 (rx.mono (fun _ z => z) (.of x3)) ry ((al.mono x2).mono x3) Q fun v H4 x4 rv => q v H4 ((x2.trans x3).trans x4) rv⟩⟩
theorem rd_I0 {g : Int → Int → Int} {i j : Int} : RD2 X M (rI0 fun i j => .int (g i j)) (.int i) (.int j) (.int (g i j)) := fun x y H1 rx ry _ Q q => by
  cases rx
  cases ry
  exact ⟨i, j, rfl, rfl, q _ H1 (Evl.Ex.refl H1) (.int _)⟩
theorem rd_I {C : Int → Int → Prop} {g : Int → Int → Int} {i j : Int} (hc : C i j) : RD2 X M (rI C fun i j => .int (g i j)) (.int i) (.int j) (.int (g i j)) := fun x y H1 rx ry _ Q q => by
  cases rx
  cases ry
  exact ⟨i, j, rfl, rfl, hc, q _ H1 (Evl.Ex.refl H1) (.int _)⟩
theorem rd_B0 {g : Int → Int → Bool} {i j : Int} : RD2 X M (rI0 fun i j => .bl (g i j)) (.int i) (.int j) (.bool (g i j)) := fun x y H1 rx ry _ Q q => by
  cases rx
  cases ry
  exact ⟨i, j, rfl, rfl, q _ H1 (Evl.Ex.refl H1) (.bl _)⟩
theorem pd_add {i j : Int} (ha : PD X M a σ H (.int i)) (hb : PD X M b σ H (.int j)) : PD X M (.BinOp a .Add b pos) σ H (.int (i + j)) := pd_binR op_add rd_I0 ha hb
theorem pd_sub {i j : Int} (ha : PD X M a σ H (.int i)) (hb : PD X M b σ H (.int j)) : PD X M (.BinOp a .Sub b pos) σ H (.int (i - j)) := pd_binR op_sub rd_I0 ha hb
theorem pd_mul {i j : Int} (ha : PD X M a σ H (.int i)) (hb : PD X M b σ H (.int j)) (hc : CMul i j) : PD X M (.BinOp a .Mult b pos) σ H (.int (i * j)) := pd_binR op_mul (rd_I hc) ha hb
theorem pd_lt {i j : Int} (ha : PD X M a σ H (.int i)) (hb : PD X M b σ H (.int j)) : PD X M (.Compare a [.Lt] [b] pos) σ H (.bool (decide (i < j))) := pd_cmpR op_lt (nomark _) rd_B0 ha hb
theorem pd_le {i j : Int} (ha : PD X M a σ H (.int i)) (hb : PD X M b σ H (.int j)) : PD X M (.Compare a [.LtE] [b] pos) σ H (.bool (decide (i ≤ j))) := pd_cmpR op_le (nomark _) rd_B0 ha hb
theorem pd_gt {i j : Int} (ha : PD X M a σ H (.int i)) (hb : PD X M b σ H (.int j)) : PD X M (.Compare a [.Gt] [b] pos) σ H (.bool (decide (j < i))) := pd_cmpR op_gt (nomark _) rd_B0 ha hb
theorem pd_ge {i j : Int} (ha : PD X M a σ H (.int i)) (hb : PD X M b σ H (.int j)) : PD X M (.Compare a [.GtE] [b] pos) σ H (.bool (decide (j ≤ i))) := pd_cmpR op_ge (nomark _) rd_B0 ha hb
end
end GV

namespace GV
open PySem PySem.Spec PyProof.Rows L2
section
variable {X : Cx} {M : Addr → Prop} {σ : St} {H H' : Hp} {a b c e : Expr} {da db d : PyData} {pos : Pos} {es : List Expr} {ds : List PyData}

/-! ### truth, and, or, not -/
theorem pd_and {k1 k2 : Bool} {rest : List Expr} (ha : PD X M a σ H (.bool k1)) (hb : k1 = true → PD X M (.BoolOp .And (b :: rest) pos) σ H (.bool k2)) : PD X M (.BoolOp .And (a :: b :: rest) pos) σ H (.bool (k1 && k2)) := .mk fun H1 e1 al Q q =>
  ⟨_, pe_and wE.pe wE.pe, ha.run H1 e1 al _ fun x H2 x2 rx => by
    cases rx
    refine ⟨k1, rfl, ?_⟩
    cases k1 with
    | true => exact (hb rfl).run H2 (e1.trans (.of x2)) (al.mono x2) Q fun v H3 x3 rv => q v H3 (x2.trans x3) rv
    | false => exact q _ H2 x2 (.bl _)⟩
theorem pd_or {k1 k2 : Bool} {rest : List Expr} (ha : PD X M a σ H (.bool k1)) (hb : k1 = false → PD X M (.BoolOp .Or (b :: rest) pos) σ H (.bool k2)) : PD X M (.BoolOp .Or (a :: b :: rest) pos) σ H (.bool (k1 || k2)) := .mk fun H1 e1 al Q q =>
  ⟨_, pe_or wE.pe wE.pe, ha.run H1 e1 al _ fun x H2 x2 rx => by
    cases rx
    refine ⟨k1, rfl, ?_⟩
    cases k1 with
    | false => exact (hb rfl).run H2 (e1.trans (.of x2)) (al.mono x2) Q fun v H3 x3 rv => q v H3 (x2.trans x3) rv
    | true => exact q _ H2 x2 (.bl _)⟩
theorem pd_one {op} (h : PD X M a σ H d) : PD X M (.BoolOp op [a] pos) σ H d := .mk fun H1 e1 al Q q => ⟨_, pe_one wE.pe, h.run H1 e1 al Q q⟩
theorem pd_not {k : Bool} (h : PD X M a σ H (.bool k)) : PD X M (.UnaryOp .Not a pos) σ H (.bool (!k)) := .mk fun H1 e1 al Q q =>
  ⟨_, pe_not wE.pe, h.run H1 e1 al _ fun x H2 x2 rx => by
    cases rx
    exact ⟨k, rfl, q _ H2 x2 (.bl _)⟩⟩
theorem td_val {k : Bool} (h : PD X M e σ H (.bool k)) (he : ∀ whole, isTrue e X.env whole = (do let v ← whole; standAt e.pos; holding [v] (truthy v)) := by intro _; rfl) : TD X M e σ H k := .mk fun H1 e1 al Q q =>
  ⟨_, pt_val wE.pe he, h.run H1 e1 al _ fun x H2 x2 rx => by
    cases rx
    exact ⟨k, rfl, q H2 x2⟩⟩
theorem td_not {k : Bool} (h : TD X M a σ H k) : TD X M (.UnaryOp .Not a pos) σ H (!k) := .mk fun H1 e1 al Q q => ⟨_, pt_not wT.pt, h.run H1 e1 al _ fun H2 x2 => q H2 x2⟩
/-- a chain of tests -/
structure WD (X : Cx) (M : Addr → Prop) (e : Expr) (σ : St) (H : Hp) (k : Bool) : Prop where
  ex : ∃ t, PW X e t ∧ ∀ H1, ExM M H H1 → Alive M H1 → ∀ Q : Bool → Hp → Prop, (∀ H2, Evl.Ex H1 H2 → Q k H2) → t σ H1 Q
theorem WD.td {k : Bool} (h : WD X M e σ H k) : TD X M e σ H k := .mk fun H1 e1 al Q q => let ⟨t, p, r⟩ := h.ex; ⟨t, p.pt, r H1 e1 al Q q⟩
theorem wd_and1 {k : Bool} (h : TD X M a σ H k) : WD X M (.BoolOp .And [a] pos) σ H k := .mk ⟨_, pw_and1 wT.pt, h.run⟩
theorem wd_or1 {k : Bool} (h : TD X M a σ H k) : WD X M (.BoolOp .Or [a] pos) σ H k := .mk ⟨_, pw_or1 wT.pt, h.run⟩
/-- the reading of a chain, of any of its ends -/
def wW (X : Cx) (e : Expr) : TT := fun σ H Q => ∃ t, PW X e t ∧ t σ H Q
theorem wW.pw {e : Expr} : PW X e (wW X e) := ⟨fun pins s σ H whole Q I ⟨_, h, q⟩ => h.run pins s σ H whole Q I q⟩
theorem wd_and {k1 k2 : Bool} {rest : List Expr} (ha : TD X M a σ H k1) (hb : k1 = true → WD X M (.BoolOp .And (b :: rest) pos) σ H k2) : WD X M (.BoolOp .And (a :: b :: rest) pos) σ H (k1 && k2) :=
  .mk ⟨_, pw_and wT.pt wW.pw, fun H1 e1 al Q q => ha.run H1 e1 al _ fun H2 x2 => by
    cases k1 with
    | true =>
      obtain ⟨t, p, r⟩ := (hb rfl).ex
      exact ⟨t, p, r H2 (e1.trans (.of x2)) (al.mono x2) Q fun H3 x3 => q H3 (x2.trans x3)⟩
    | false => exact q H2 x2⟩
theorem wd_or {k1 k2 : Bool} {rest : List Expr} (ha : TD X M a σ H k1) (hb : k1 = false → WD X M (.BoolOp .Or (b :: rest) pos) σ H k2) : WD X M (.BoolOp .Or (a :: b :: rest) pos) σ H (k1 || k2) :=
  .mk ⟨_, pw_or wT.pt wW.pw, fun H1 e1 al Q q => ha.run H1 e1 al _ fun H2 x2 => by
    cases k1 with
    | false =>
      obtain ⟨t, p, r⟩ := (hb rfl).ex
      exact ⟨t, p, r H2 (e1.trans (.of x2)) (al.mono x2) Q fun H3 x3 => q H3 (x2.trans x3)⟩
    | true => exact q H2 x2⟩
theorem pd_if {k : Bool} (ht : TD X M c σ H k) (ha : k = true → PD X M a σ H d) (hb : k = false → PD X M b σ H d) : PD X M (.IfExp c a b pos) σ H d := .mk fun H1 e1 al Q q =>
  ⟨_, pe_ifExp wT.pt wE.pe wE.pe, ht.run H1 e1 al _ fun H2 x2 => by
    cases k with
    | true => exact (ha rfl).run H2 (e1.trans (.of x2)) (al.mono x2) Q fun v H3 x3 rv => q v H3 (x2.trans x3) rv
    | false => exact (hb rfl).run H2 (e1.trans (.of x2)) (al.mono x2) Q fun v H3 x3 rv => q v H3 (x2.trans x3) rv⟩

/-! ### lists of parts, displays -/
theorem ad_nil : AD X M [] σ H [] := .mk fun H1 _ _ Q q => ⟨_, pa_nil, q [] H1 (Evl.Ex.refl H1) .nil⟩
theorem ad_cons (h : PD X M e σ H d) (hr : AD X M es σ H ds) (hs : starEach (e :: es) X.env = (false, eval e X.env) :: starEach es X.env := by rfl) : AD X M (e :: es) σ H (d :: ds) := .mk fun H1 e1 al Q q =>
  ⟨_, pa_cons wE.pe wA.pa hs, h.run H1 e1 al _ fun v H2 x2 rv => hr.run H2 (e1.trans (.of x2)) (al.mono x2) _ fun vs H3 x3 rvs =>
    q (v :: vs) H3 (x2.trans x3) (.cons (rv.mono (fun _ z => z) (.of x3)) rvs)⟩
theorem Rp.newT {p : Addr} {xs : List V} (al : Alive M H) (hp : H p = none) (r : RpAll X.K M H xs ds) : Rp X.K M (upd H p (.tup xs)) (.ref p) (.tuple ds) :=
  .tup (al.fresh hp) (.inl upd_same) (r.mono (fun _ z => z) (.of (Evl.Ex.new hp)))
theorem Rp.newL {p : Addr} {xs : List V} (al : Alive M H) (hp : H p = none) (r : RpAll X.K M H xs ds) : Rp X.K M (upd H p (.lst xs)) (.ref p) (.list ds) :=
  .lst (al.fresh hp) (.inl upd_same) (r.mono (fun _ z => z) (.of (Evl.Ex.new hp)))
theorem pd_tup {x1} (h : AD X M es σ H ds) (hl : ds.length ≤ 100000) : PD X M (.Tuple es x1 pos) σ H (.tuple ds) := .mk fun H1 e1 al Q q =>
  ⟨_, pe_tup wA.pa, h.run H1 e1 al _ fun vs H2 x2 r => ⟨by rw [r.length]; exact Evl.sz_of hl, fun p hp => q _ _ (x2.trans (Evl.Ex.new hp)) (.newT (al.mono x2) hp r)⟩⟩
/-- .. a new one -/
structure FD (X : Cx) (M : Addr → Prop) (e : Expr) (σ : St) (H : Hp) (ds : List PyData) : Prop where
  run : ∀ H1, ExM M H H1 → Alive M H1 → ∀ Q : VK, (∀ p vs H2, H1 p = none → Evl.Ex H1 H2 → H2 p = some (.lst vs) → RpAll X.K M H2 vs ds → Q (.ref p) H2) → wE X e σ H1 Q
theorem FD.mono (h : FD X M e σ H ds) (x : ExM M H H') : FD X M e σ H' ds := .mk fun H1 e1 al Q q => h.run H1 (x.trans e1) al Q q
theorem FD.pd (h : FD X M e σ H ds) : PD X M e σ H (.list ds) := .mk fun H1 e1 al Q q => h.run H1 e1 al Q fun p vs H2 hp x2 h2 r => q _ H2 x2 (.lst (al.fresh hp) (.inl h2) r)
theorem fd_lst (h : AD X M es σ H ds) (hl : ds.length ≤ 100000) : FD X M (.List es pos) σ H ds := .mk fun H1 e1 al Q q =>
  ⟨_, pe_lst wA.pa, h.run H1 e1 al _ fun vs H2 x2 r => ⟨by rw [r.length]; exact Evl.sz_of hl, fun p hp => q p vs _ (Evl.fresh_back x2 hp) (x2.trans (Evl.Ex.new hp)) upd_same (r.mono (fun _ z => z) (.of (Evl.Ex.new hp)))⟩⟩

/-! ### == and is -/
theorem pd_eq (hu : X.A.units + 64 < cLine) (ha : PD X M a σ H da) (hb : PD X M b σ H db) (sa : SeqAt.shaped da = true) (sb : SeqAt.shaped db = true) : PD X M (.Compare a [.Eq] [b] pos) σ H (.bool (PyData.eqv da db)) :=
  pd_cmpR (op_eqD hu) (nomark _) (fun x y H1 rx ry _ Q q => ⟨da, db, rx.dp, ry.dp, sa, sb, q _ H1 (Evl.Ex.refl H1) (.bl _)⟩) ha hb
theorem pd_ne (hu : X.A.units + 64 < cLine) (ha : PD X M a σ H da) (hb : PD X M b σ H db) (sa : SeqAt.shaped da = true) (sb : SeqAt.shaped db = true) : PD X M (.Compare a [.NotEq] [b] pos) σ H (.bool (!PyData.eqv da db)) :=
  pd_cmpR (op_neD hu) (nomark _) (fun x y H1 rx ry _ Q q => ⟨da, db, rx.dp, ry.dp, sa, sb, q _ H1 (Evl.Ex.refl H1) (.bl _)⟩) ha hb
def isNone : PyData → Bool
  | .none => true
  | _ => false
theorem Rp.isN {K : PySem.W.Frag} {x : V} (r : Rp K M H x d) : decide (x = .non) = isNone d := by
  cases r <;> rfl
theorem pd_isN {j p2} (ha : PD X M a σ H da) : PD X M (.Compare a [.Is] [.Constant .none j p2] pos) σ H (.bool (isNone da)) :=
  pd_cmpR op_isN (nomark _) (fun x y H1 rx ry _ Q q => by
    cases ry
    exact ⟨rfl, q _ H1 (Evl.Ex.refl H1) (by rw [rx.isN]; exact .bl _)⟩) ha pd_non
theorem pd_notN {j p2} (ha : PD X M a σ H da) : PD X M (.Compare a [.IsNot] [.Constant .none j p2] pos) σ H (.bool (!isNone da)) :=
  pd_cmpR op_notN (nomark _) (fun x y H1 rx ry _ Q q => by
    cases ry
    exact ⟨rfl, q _ H1 (Evl.Ex.refl H1) (by rw [rx.isN]; exact .bl _)⟩) ha pd_non

/-! ### items -/
def ixD : PyData → PyData → Option PyData
  | .list ds, .int i => atI ds i
  | .tuple ds, .int i => atI ds i
  | .str z, .int i => if z.length ≤ sizeLine then (atI z.cps.toList i).map fun c => .str ⟨#[c]⟩ else none
  | _, _ => none
theorem atI_rp {K : PySem.W.Frag} {xs : List V} {i : Int} (r : RpAll K M H xs ds) (h : atI ds i = some d) : ∃ v, atI xs i = some v ∧ Rp K M H v d := by
  unfold atI at h ⊢
  rw [r.length]
  cases e : ixN ds.length i with
  | none =>
    rw [e] at h
    cases h
  | some j =>
    rw [e] at h
    obtain ⟨v, h1, h2⟩ := r.get h
    exact ⟨v, h1, h2⟩
theorem pd_ix (ha : PD X M a σ H da) (hb : PD X M b σ H db) (h : ixD da db = some d) (hs : PlainIx b := by exact fun _ _ => rfl) : PD X M (.Subscript a b pos) σ H d := .mk fun H1 e1 al Q q =>
  ⟨_, pe_ix ix_seq wE.pe wE.pe hs, ha.run H1 e1 al _ fun x H2 x2 rx => hb.run H2 (e1.trans (.of x2)) (al.mono x2) _ fun y H3 x3 ry => by
    have rx' := rx.mono (fun _ z => z) (.of x3)
    have fin : ∀ v, Rp X.K M H3 v d → Q v H3 := fun v rv => q v H3 (x2.trans x3) rv
    cases ry with
    | int i =>
      cases rx' with
      | lst m hs rs =>
        obtain ⟨v, hv, rv⟩ := atI_rp rs h
        exact .inl ⟨_, _, i, v, rfl, rfl, .inl hs, hv, fin v rv⟩
      | tup m hs rs =>
        obtain ⟨v, hv, rv⟩ := atI_rp rs h
        exact .inr (.inl ⟨_, _, i, v, rfl, rfl, .inl hs, hv, fin v rv⟩)
      | str z =>
        simp only [ixD] at h
        split at h
        · rename_i hz
          cases e : atI z.cps.toList i with
          | none =>
            rw [e] at h
            cases h
          | some c =>
            rw [e] at h
            cases h
            exact .inr (.inr ⟨z, i, c, rfl, rfl, hz, e, fin _ (.str _)⟩)
        · cases h
      | _ => cases h
    | _ => cases da <;> cases h⟩

/-! ### own defs that leave all as it is -/
def PureR (K : PySem.W.Frag) (R : List PyData → PyData → Prop) : Sp := fun vs H Q _ => ∃ M ds d, Alive M H ∧ RpAll K M H vs ds ∧ R ds d ∧ ∀ v H', Evl.Ex H H' → Rp K M H' v d → Q v H'
theorem pd_call {R : List PyData → PyData → Prop} {CX : CXT} {E : XK} {k : Nat} {f : Addr} {fd : FuncData} {ps : List Str} {x : Str} {p : Pos} (F : FnOk X.prog X.w X.K X.mg X.base CX k f fd ps (PureR X.K R)) (hr : Room k X.A) (hg : Gl X x) (hm : X.mg x = some (.ref f)) (hk : PySem.W.keepIn X.K (.ref f) = true)
    (hb : Binds X.K fd ps []) (hx : Passes CX X E) (h : AD X M (e :: es) σ H ds) (hR : R ds d)
    (hdb : (x == ("__debug__" : Str)) = false := by decide) (he : starEach (e :: es) X.env = (false, eval e X.env) :: starEach es X.env := by rfl) (hpl : (backTo pos (starEach es X.env)).any (·.1) = false := by rfl) : PD X M (.Call (.Name x p) (e :: es) [] pos) σ H d := .mk fun H1 e1 al Q q =>
  ⟨_, pe_call F hr hg hm hk hb .nil hx wA.pa hdb he hpl, h.run H1 e1 al _ fun vs H2 x2 r => by
    rw [List.append_nil]
    exact ⟨M, ds, d, al.mono x2, r, hR, fun v H3 x3 rv => q v H3 (x2.trans x3) rv⟩⟩
end

/-! ### statements -/
section
variable {X : Cx} {M : Addr → Prop} {σ : St} {H : Hp} {c e : Expr} {d : PyData} {pos : Pos} {st : Stmt} {sts A B : List Stmt} {D : Ends}
theorem b_nil (h : D.nx σ H) : wB X [] D σ H := ⟨_, pss_nil, h⟩
theorem b_cons (h : wS X st { D with nx := wB X sts D } σ H) : wB X (st :: sts) D σ H := ⟨_, pss_cons wS.ps wB.ps, h⟩
theorem s_ret (al : Alive M H) (h : PD X M e σ H d) (q : ∀ v H2, Evl.Ex H H2 → Rp X.K M H2 v d → D.rt v H2) : wS X (.Return (some e) pos) D σ H := ⟨_, ps_ret wE.pe, h.run H (ExM.refl H) al _ q⟩
theorem s_retN (q : D.rt .non H) : wS X (.Return none pos) D σ H := ⟨_, ps_retN, q⟩
theorem s_if {k : Bool} (al : Alive M H) (h : TD X M c σ H k) (h1 : k = true → ∀ H2, Evl.Ex H H2 → wB X A D σ H2) (h2 : k = false → ∀ H2, Evl.Ex H H2 → wB X B D σ H2) : wS X (.If c A B pos) D σ H :=
  ⟨_, ps_if wT.pt wB.ps wB.ps, h.run H (ExM.refl H) al _ fun H2 x2 => by
    cases k with
    | true => exact h1 rfl H2 x2
    | false => exact h2 rfl H2 x2⟩
theorem s_set {i : Nat} {x : Str} {p : Pos} (al : Alive M H) (hN : X.N.Nodup) (hi : X.N[i]? = some x) (hx : Loc X.env.scope x) (h : PD X M e σ H d) (q : ∀ v H2, Evl.Ex H H2 → Rp X.K M H2 v d → D.nx (σ.set i (some v)) H2)
    (hs : swapsWith e (some (.Name x p)) pos.line X.env = pure false := by rfl) (hf : X.fn x = true ∨ X.env.scope.names.lookup x = some .local := by first | exact .inl rfl | exact .inr rfl | assumption) : wS X (.Assign [.Name x p] e pos) D σ H :=
  ⟨_, ps_set hN hi hx wE.pe hs hf, h.run H (ExM.refl H) al _ fun v H2 x2 r => q v H2 x2 r⟩
end
end GV

namespace GV
open PySem PySem.Spec PyProof.Rows L2
section
variable {X : Cx} {M : Addr → Prop} {σ : St} {H H' : Hp} {a b c e : Expr} {da db d : PyData} {pos : Pos} {es : List Expr} {ds : List PyData}

/-! ### more of ints -/
theorem pd_neg {i : Int} (ha : PD X M a σ H (.int i)) : PD X M (.UnaryOp .USub a pos) σ H (.int (-i)) := .mk fun H1 e1 al Q q =>
  ⟨_, pe_un un_neg wE.pe, ha.run H1 e1 al _ fun x H2 x2 rx => by
    cases rx
    exact ⟨i, rfl, q _ H2 x2 (.int _)⟩⟩
theorem pd_mulW {i j : Int} (ha : PD X M a σ H (.int i)) (hb : PD X M b σ H (.int j)) (hc : CMulW i j) : PD X M (.BinOp a .Mult b pos) σ H (.int (i * j)) := pd_binR op_mulW (rd_I hc) ha hb
theorem pd_div {i j : Int} (ha : PD X M a σ H (.int i)) (hb : PD X M b σ H (.int j)) (hc : CDivW i j) : PD X M (.BinOp a .FloorDiv b pos) σ H (.int (i / j)) := pd_binR op_fdivW (rd_I hc) ha hb
theorem pd_mod {i j : Int} (ha : PD X M a σ H (.int i)) (hb : PD X M b σ H (.int j)) (hc : 0 < j) : PD X M (.BinOp a .Mod b pos) σ H (.int (i % j)) := pd_binR op_mod (rd_I (C := fun _ j => 0 < j) hc) ha hb
theorem pd_pow {i j : Int} (ha : PD X M a σ H (.int i)) (hb : PD X M b σ H (.int j)) (hc : CPow i j) : PD X M (.BinOp a .Pow b pos) σ H (.int (i ^ j.toNat)) := pd_binR op_pow (rd_I hc) ha hb

/-! ### built-ins, by values -/
def RDn (X : Cx) (M : Addr → Prop) (r : List V → Hp → VK → Prop) (ds : List PyData) (d : PyData) : Prop :=
  ∀ vs H1, RpAll X.K M H1 vs ds → Alive M H1 → ∀ Q : VK, (∀ v H2, Evl.Ex H1 H2 → Rp X.K M H2 v d → Q v H2) → r vs H1 Q
def RFn (X : Cx) (M : Addr → Prop) (r : List V → Hp → VK → Prop) (ds es : List PyData) : Prop :=
  ∀ vs H1, RpAll X.K M H1 vs ds → Alive M H1 → ∀ Q : VK, (∀ p ws H2, H1 p = none → Evl.Ex H1 H2 → H2 p = some (.lst ws) → RpAll X.K M H2 ws es → Q (.ref p) H2) → r vs H1 Q
theorem pd_callB {id : String} {x : Str} {p : Pos} {r : List V → Hp → VK → Prop} (hc : CallR X (.builtin id) r) (hg : Gl X x) (hm : X.mg x = none) (hv : bootBuiltins x = some (.builtin id)) (h : AD X M (e :: es) σ H ds) (hr : RDn X M r ds d)
    (hn : x ≠ "__name__" := by decide) (hdb : (x == ("__debug__" : Str)) = false := by decide) (he : starEach (e :: es) X.env = (false, eval e X.env) :: starEach es X.env := by rfl) (hpl : (backTo pos (starEach es X.env)).any (·.1) = false := by rfl) :
    PD X M (.Call (.Name x p) (e :: es) [] pos) σ H d := .mk fun H1 e1 al Q q =>
  ⟨_, pe_callB hc hg hm hv wA.pa hn hdb he hpl, h.run H1 e1 al _ fun vs H2 x2 rs => hr vs H2 rs (al.mono x2) Q fun v H3 x3 rv => q v H3 (x2.trans x3) rv⟩
theorem pd_callTy {T : String} {x : Str} {p : Pos} {r : List V → Hp → VK → Prop} (hc : CallR X (.type T) r) (hg : Gl X x) (hm : X.mg x = none) (hv : bootBuiltins x = some (.type T)) (h : AD X M (e :: es) σ H ds) (hr : RDn X M r ds d)
    (hn : x ≠ "__name__" := by decide) (hdb : (x == ("__debug__" : Str)) = false := by decide) (he : starEach (e :: es) X.env = (false, eval e X.env) :: starEach es X.env := by rfl) (hpl : (backTo pos (starEach es X.env)).any (·.1) = false := by rfl) :
    PD X M (.Call (.Name x p) (e :: es) [] pos) σ H d := .mk fun H1 e1 al Q q =>
  ⟨_, pe_callTy hc hg hm hv wA.pa hn hdb he hpl, h.run H1 e1 al _ fun vs H2 x2 rs => hr vs H2 rs (al.mono x2) Q fun v H3 x3 rv => q v H3 (x2.trans x3) rv⟩
theorem fd_callTy {T : String} {x : Str} {p : Pos} {r : List V → Hp → VK → Prop} {fs : List PyData} (hc : CallR X (.type T) r) (hg : Gl X x) (hm : X.mg x = none) (hv : bootBuiltins x = some (.type T)) (h : AD X M (e :: es) σ H ds) (hr : RFn X M r ds fs)
    (hn : x ≠ "__name__" := by decide) (hdb : (x == ("__debug__" : Str)) = false := by decide) (he : starEach (e :: es) X.env = (false, eval e X.env) :: starEach es X.env := by rfl) (hpl : (backTo pos (starEach es X.env)).any (·.1) = false := by rfl) :
    FD X M (.Call (.Name x p) (e :: es) [] pos) σ H fs := .mk fun H1 e1 al Q q =>
  ⟨_, pe_callTy hc hg hm hv wA.pa hn hdb he hpl, h.run H1 e1 al _ fun vs H2 x2 rs => hr vs H2 rs (al.mono x2) Q fun p ws H3 hp x3 h3 rv => q p ws H3 (Evl.fresh_back x2 hp) (x2.trans x3) h3 rv⟩
theorem fd_callB {id : String} {x : Str} {p : Pos} {r : List V → Hp → VK → Prop} {fs : List PyData} (hc : CallR X (.builtin id) r) (hg : Gl X x) (hm : X.mg x = none) (hv : bootBuiltins x = some (.builtin id)) (h : AD X M (e :: es) σ H ds) (hr : RFn X M r ds fs)
    (hn : x ≠ "__name__" := by decide) (hdb : (x == ("__debug__" : Str)) = false := by decide) (he : starEach (e :: es) X.env = (false, eval e X.env) :: starEach es X.env := by rfl) (hpl : (backTo pos (starEach es X.env)).any (·.1) = false := by rfl) :
    FD X M (.Call (.Name x p) (e :: es) [] pos) σ H fs := .mk fun H1 e1 al Q q =>
  ⟨_, pe_callB hc hg hm hv wA.pa hn hdb he hpl, h.run H1 e1 al _ fun vs H2 x2 rs => hr vs H2 rs (al.mono x2) Q fun p ws H3 hp x3 h3 rv => q p ws H3 (Evl.fresh_back x2 hp) (x2.trans x3) h3 rv⟩
theorem rpa1 {vs : List V} {K : PySem.W.Frag} (r : RpAll K M H vs [d]) : ∃ v, vs = [v] ∧ Rp K M H v d := by
  obtain ⟨⟩ | ⟨r1, r⟩ := r
  obtain ⟨⟩ := r
  exact ⟨_, rfl, r1⟩
theorem rpa2 {vs : List V} {K : PySem.W.Frag} (r : RpAll K M H vs [da, db]) : ∃ v w, vs = [v, w] ∧ Rp K M H v da ∧ Rp K M H w db := by
  obtain ⟨⟩ | ⟨r1, r⟩ := r
  obtain ⟨v, rfl, r2⟩ := rpa1 r
  exact ⟨_, _, rfl, r1, r2⟩
/-- int(n), int(True) -/
theorem rn_int {i : Int} : RDn X M (fun xs H Q => (∃ i, xs = [.int i] ∧ Q (.int i) H) ∨ ∃ k, xs = [.bl k] ∧ Q (.int (if k then 1 else 0)) H) [.int i] (.int i) := fun vs H1 r _ Q q => by
  obtain ⟨v, rfl, r1⟩ := rpa1 r
  cases r1
  exact .inl ⟨i, rfl, q _ H1 (Evl.Ex.refl H1) (.int _)⟩
theorem rn_intB {k : Bool} : RDn X M (fun xs H Q => (∃ i, xs = [.int i] ∧ Q (.int i) H) ∨ ∃ k, xs = [.bl k] ∧ Q (.int (if k then 1 else 0)) H) [.bool k] (.int (if k then 1 else 0)) := fun vs H1 r _ Q q => by
  obtain ⟨v, rfl, r1⟩ := rpa1 r
  cases r1
  exact .inr ⟨k, rfl, q _ H1 (Evl.Ex.refl H1) (.int _)⟩
theorem rn_abs {i : Int} : RDn X M (fun xs H Q => ∃ i, xs = [.int i] ∧ Q (.int (if i < 0 then -i else i)) H) [.int i] (.int (if i < 0 then -i else i)) := fun vs H1 r _ Q q => by
  obtain ⟨v, rfl, r1⟩ := rpa1 r
  cases r1
  exact ⟨i, rfl, q _ H1 (Evl.Ex.refl H1) (.int _)⟩
theorem rn_max2 {i j : Int} : RDn X M (fun xs H Q => ∃ i j, xs = [.int i, .int j] ∧ Q (.int (if j > i then j else i)) H) [.int i, .int j] (.int (if j > i then j else i)) := fun vs H1 r _ Q q => by
  obtain ⟨v, w, rfl, r1, r2⟩ := rpa2 r
  cases r1
  cases r2
  exact ⟨i, j, rfl, q _ H1 (Evl.Ex.refl H1) (.int _)⟩
theorem rn_min2 {i j : Int} : RDn X M (fun xs H Q => ∃ i j, xs = [.int i, .int j] ∧ Q (.int (if j < i then j else i)) H) [.int i, .int j] (.int (if j < i then j else i)) := fun vs H1 r _ Q q => by
  obtain ⟨v, w, rfl, r1, r2⟩ := rpa2 r
  cases r1
  cases r2
  exact ⟨i, j, rfl, q _ H1 (Evl.Ex.refl H1) (.int _)⟩
/-- len -/
def lenD : PyData → Option Nat
  | .list ds => some ds.length
  | .tuple ds => some ds.length
  | .str z => if z.length ≤ sizeLine then some z.length else none
  | _ => none
theorem rn_len {n : Nat} (h : lenD d = some n) : RDn X M (fun xs H Q => ∃ x n, xs = [x] ∧ LenV X.K x H n ∧ Q (.int n) H) [d] (.int n) := fun vs H1 r _ Q q => by
  obtain ⟨v, rfl, r1⟩ := rpa1 r
  have fin := q (.int n) H1 (Evl.Ex.refl H1) (.int _)
  cases r1 with
  | lst m hs rs =>
    cases h
    exact ⟨_, _, rfl, .inl ⟨_, .inl hs, rs.length.symm⟩, fin⟩
  | tup m hs rs =>
    cases h
    exact ⟨_, _, rfl, .inr ⟨_, .inl hs, rs.length.symm⟩, fin⟩
  | str z =>
    simp only [lenD] at h
    split at h
    · rename_i hz
      cases h
      exact ⟨_, _, rfl, ⟨hz, rfl⟩, fin⟩
    · cases h
  | _ => cases h
/-- list(xs), tuple(xs) -/
def itemsD : PyData → Option (List PyData)
  | .list ds => some ds
  | .tuple ds => some ds
  | _ => none
theorem rf_list (h : itemsD d = some ds) : RFn X M (fun xs H Q => ∃ p ys, xs = [.ref p] ∧ (SqL X.K H p ys ∨ SqT X.K H p ys) ∧ ∀ l, H l = none → Q (.ref l) (upd H l (.lst ys))) [d] ds := fun vs H1 r al Q q => by
  obtain ⟨v, rfl, r1⟩ := rpa1 r
  cases r1 with
  | lst m hs rs =>
    cases h
    exact ⟨_, _, rfl, .inl (.inl hs), fun l hl => q l _ _ hl (Evl.Ex.new hl) upd_same (rs.mono (fun _ z => z) (.of (Evl.Ex.new hl)))⟩
  | tup m hs rs =>
    cases h
    exact ⟨_, _, rfl, .inr (.inl hs), fun l hl => q l _ _ hl (Evl.Ex.new hl) upd_same (rs.mono (fun _ z => z) (.of (Evl.Ex.new hl)))⟩
  | _ => cases h
theorem rn_tuple (h : itemsD d = some ds) : RDn X M (fun xs H Q => ∃ p ys, xs = [.ref p] ∧ ((SqL X.K H p ys ∧ ∀ l, H l = none → Q (.ref l) (upd H l (.tup ys))) ∨ (SqT X.K H p ys ∧ Q (.ref p) H))) [d] (.tuple ds) := fun vs H1 r al Q q => by
  obtain ⟨v, rfl, r1⟩ := rpa1 r
  cases r1 with
  | lst m hs rs =>
    cases h
    exact ⟨_, _, rfl, .inl ⟨.inl hs, fun l hl => q _ _ (Evl.Ex.new hl) (.newT (X := X) al hl rs)⟩⟩
  | tup m hs rs =>
    cases h
    exact ⟨_, _, rfl, .inr ⟨.inl hs, q _ H1 (Evl.Ex.refl H1) (.tup m hs rs)⟩⟩
  | _ => cases h

/-! ### slices of a list -/
theorem cutV_map (xs : List V) (lo hi : Option Int) : True := True.intro
def cutD (xs : List PyData) (lo hi : Option Int) : List PyData := (xs.drop (HT.sIx xs.length 0 lo)).take (HT.sIx xs.length xs.length hi - HT.sIx xs.length 0 lo)
theorem RpAll.take {K : PySem.W.Frag} : ∀ {vs : List V} {ds : List PyData} (n : Nat), RpAll K M H vs ds → RpAll K M H (vs.take n) (ds.take n)
  | _, _, 0, _ => .nil
  | _, _, n + 1, .nil => .nil
  | _, _, n + 1, .cons r rs => .cons r (RpAll.take n rs)
theorem RpAll.drop {K : PySem.W.Frag} : ∀ {vs : List V} {ds : List PyData} (n : Nat), RpAll K M H vs ds → RpAll K M H (vs.drop n) (ds.drop n)
  | _, _, 0, r => r
  | _, _, n + 1, .nil => .nil
  | _, _, n + 1, .cons r rs => RpAll.drop n rs
theorem RpAll.cut {K : PySem.W.Frag} {vs : List V} {ds : List PyData} (lo hi : Option Int) (r : RpAll K M H vs ds) : RpAll K M H (cutV vs lo hi) (cutD ds lo hi) := by
  unfold cutV cutD
  rw [r.length]
  exact (r.drop _).take _
/-- an optional part of a slice -/
structure OD (X : Cx) (M : Addr → Prop) (e : Option Expr) (σ : St) (H : Hp) (o : Option Int) : Prop where
  ex : ∃ t, PO X e t ∧ ∀ H1, ExM M H H1 → Alive M H1 → ∀ Q : Option Int → Hp → Prop, (∀ H2, Evl.Ex H1 H2 → Q o H2) → t σ H1 Q
theorem od_none : OD X M none σ H none := ⟨_, po_none, fun H1 _ _ Q q => q H1 (Evl.Ex.refl H1)⟩
theorem od_some {i : Int} (h : PD X M e σ H (.int i)) : OD X M (some e) σ H (some i) := ⟨_, po_some wE.pe, fun H1 e1 al Q q => h.run H1 e1 al _ fun x H2 x2 r => by
  cases r
  exact ⟨i, rfl, q H2 x2⟩⟩
theorem fd_slice {lo hi : Option Expr} {l u : Option Int} {p2 : Pos} (h : PD X M e σ H (.list ds)) (hl : OD X M lo σ H l) (hu : OD X M hi σ H u) : FD X M (.Subscript e (.Slice lo hi none p2) pos) σ H (cutD ds l u) := by
  obtain ⟨tl, pl, rl⟩ := hl.ex
  obtain ⟨tu, pu, ru⟩ := hu.ex
  refine .mk fun H1 e1 al Q q => ⟨_, pe_slice sl_list wE.pe pl pu, h.run H1 e1 al _ fun x H2 x2 r => ?_⟩
  refine rl H2 (e1.trans (.of x2)) (al.mono x2) _ fun H3 x3 => ru H3 ((e1.trans (.of x2)).trans (.of x3)) ((al.mono x2).mono x3) _ fun H4 x4 => ?_
  have r4 := r.mono (fun _ z => z) (.of (x3.trans x4))
  cases r4 with
  | lst m hs rs =>
    exact ⟨_, _, rfl, .inl hs, fun p hp => q p _ _ (Evl.fresh_back (x2.trans (x3.trans x4)) hp) ((x2.trans (x3.trans x4)).trans (Evl.Ex.new hp)) upd_same ((rs.cut l u).mono (fun _ z => z) (.of (Evl.Ex.new hp)))⟩

/-! ### list + list -/
def rCatR : R2 := fun x y H Q => ∃ l b xs zs, x = .ref l ∧ y = .ref b ∧ Rd H l (.lst xs) ∧ Rd H b (.lst zs) ∧ xs.length + zs.length ≤ sizeLine ∧ ∀ p, H p = none → Q (.ref p) (upd H p (.lst (xs ++ zs)))
theorem op_catR : OpR X (binaryOp .Add) rCatR := by
  intro pins s σ H x y v u Q I rx ry h
  obtain ⟨l, b, xs, zs, rfl, rfl, hH, hB, hz, q⟩ := h
  cases rx
  cases ry
  obtain ⟨z, its, n, r, e⟩ := hH.ok I.hok
  obtain ⟨z2, its2, n2, r2, e2⟩ := hB.ok I.hok
  have hl := r.length
  have hl2 := r2.length
  refine PySem.P.add_list e e2 ?_ (by rw [List.size_toArray, List.size_toArray]; omega)
  have ea : its.toArray ++ its2.toArray = (its ++ its2).toArray := by simp
  rw [ea]
  exact ⟨.ref _, _, I.lnew (t' := s.toks) (r.append r2) (by rw [List.length_append]; omega), rfl, q _ I.fresh⟩
theorem fd_cat {es fs : List PyData} (ha : PD X M a σ H (.list es)) (hb : PD X M b σ H (.list fs)) (hl : es.length + fs.length ≤ 100000) : FD X M (.BinOp a .Add b pos) σ H (es ++ fs) := .mk fun H1 e1 al Q q =>
  ⟨_, pe_op op_catR wE.pe wE.pe, ha.run H1 e1 al _ fun x H2 x2 rx => hb.run H2 (e1.trans (.of x2)) (al.mono x2) _ fun y H3 x3 ry => by
    have rx' := rx.mono (fun _ z => z) (.of x3)
    cases rx' with
    | lst m1 h1 r1 =>
      cases ry with
      | lst m2 h2 r2 =>
        exact ⟨_, _, _, _, rfl, rfl, h1, h2, by rw [r1.length, r2.length]; exact Evl.sz_of hl, fun p hp => q p _ _ (Evl.fresh_back (x2.trans x3) hp) ((x2.trans x3).trans (Evl.Ex.new hp)) upd_same
          ((r1.append r2).mono (fun _ z => z) (.of (Evl.Ex.new hp)))⟩⟩
end
end GV

namespace GV
open PySem PySem.Spec PyProof.Rows L2

/-! ### what is walked -/
/-- from H0 on the iterator gives these data, one after another -/
structure Wk (K : PySem.W.Frag) (M : Addr → Prop) (J : It) (H0 : Hp) (ds : List PyData) : Prop where
  go : ∀ M' i H, (∀ a, M' a → M a ∨ H0 a = none) → ExM M' H0 H → i < ds.length → J.go i H
  stop : ∀ M' H, (∀ a, M' a → M a ∨ H0 a = none) → ExM M' H0 H → J.stop ds.length H
  yld : ∀ M' i H x H', (∀ a, M' a → M a ∨ H0 a = none) → ExM M' H0 H → Alive M' H → J.yld i H x H' → Evl.Ex H H' ∧ ∀ d, ds[i]? = some d → Rp K M' H' x d
structure Src (X : Cx) (M : Addr → Prop) (tg iter : Expr) (σ : St) (H : Hp) (ds : List PyData) : Prop where
  ex : ∃ wi, PI X tg iter wi ∧ ∀ H1, ExM M H H1 → Alive M H1 → ∀ R, (∀ J H2, Evl.Ex H1 H2 → Wk X.K M J H2 ds → R J H2) → wi σ H1 R
section
variable {X : Cx} {K : PySem.W.Frag} {M : Addr → Prop} {σ : St} {H H' : Hp} {a b c e tg iter : Expr} {da db d : PyData} {pos : Pos} {es : List Expr} {ds : List PyData}
theorem rd_inj {a : Addr} {u w : HO} (h : Rd H a u) (h' : H a = some w ∨ ∃ o, H a = some (.frz o w)) (hf : ∀ o z, u ≠ .frz o z) (hf' : ∀ o z, w ≠ .frz o z) : u = w := by
  rcases h with h | ⟨o, h⟩ <;> rcases h' with h' | ⟨o', h'⟩ <;> rw [h] at h' <;> cases h'
  · rfl
  · exact absurd rfl (hf _ _)
  · exact absurd rfl (hf' _ _)
  · rfl
theorem wk_list {a : Addr} {xs : List V} (m : ¬ M a) (h : Rd H a (.lst xs)) (r : RpAll K M H xs ds) : Wk K M (Itl K a) H ds := by
  have nm : ∀ M' : Addr → Prop, (∀ a, M' a → M a ∨ H a = none) → ¬ M' a := fun M' hm z => (hm a z).elim m (Rd.there h)
  have at_ : ∀ (M' : Addr → Prop) (H' : Hp), (∀ a, M' a → M a ∨ H a = none) → ExM M' H H' → Rd H' a (.lst xs) := fun M' H' hm e => Rd.exM (M := M') h (nm M' hm) e
  refine ⟨fun M' i H' hm e hi => ?_, fun M' H' hm e => ?_, fun M' i H' x H'' hm e al y => ?_⟩
  · have hx : i < xs.length := by rw [r.length]; exact hi
    exact ⟨xs, xs[i], .inl (at_ M' H' hm e), List.getElem?_eq_getElem hx⟩
  · exact ⟨xs, .inl (at_ M' H' hm e), by rw [r.length]; exact Nat.le_refl _⟩
  · obtain ⟨rfl, y⟩ := y
    refine ⟨Evl.Ex.refl _, fun d hd => ?_⟩
    obtain ⟨v, hv, rv⟩ := r.get hd
    have q := y xs (.inl (at_ M' _ hm e))
    rw [hv] at q
    cases q
    exact (rv.wide hm).mono (fun _ z => z) e
theorem wk_tup {a : Addr} {xs : List V} (m : ¬ M a) (h : Rd H a (.tup xs)) (r : RpAll K M H xs ds) : Wk K M (Itt K a) H ds := by
  have nm : ∀ M' : Addr → Prop, (∀ a, M' a → M a ∨ H a = none) → ¬ M' a := fun M' hm z => (hm a z).elim m (Rd.there h)
  have at_ : ∀ (M' : Addr → Prop) (H' : Hp), (∀ a, M' a → M a ∨ H a = none) → ExM M' H H' → Rd H' a (.tup xs) := fun M' H' hm e => Rd.exT (M := M') h (nm M' hm) e
  refine ⟨fun M' i H' hm e hi => ?_, fun M' H' hm e => ?_, fun M' i H' x H'' hm e al y => ?_⟩
  · have hx : i < xs.length := by rw [r.length]; exact hi
    exact ⟨xs, xs[i], .inl (at_ M' H' hm e), List.getElem?_eq_getElem hx⟩
  · exact ⟨xs, .inl (at_ M' H' hm e), by rw [r.length]; exact Nat.le_refl _⟩
  · obtain ⟨rfl, y⟩ := y
    refine ⟨Evl.Ex.refl _, fun d hd => ?_⟩
    obtain ⟨v, hv, rv⟩ := r.get hd
    have q := y xs (.inl (at_ M' _ hm e))
    rw [hv] at q
    cases q
    exact (rv.wide hm).mono (fun _ z => z) e
theorem wk_range (lo : Int) (n : Nat) : Wk K M (Itr lo n) H ((List.range n).map fun i => PyData.int (lo + (i : Nat))) := by
  refine ⟨fun M' i H' hm e hi => ?_, fun M' H' hm e => ?_, fun M' i H' x H'' hm e al y => ?_⟩
  · rw [List.length_map, List.length_range] at hi
    exact hi
  · rw [List.length_map, List.length_range]
    exact Nat.le_refl _
  · obtain ⟨rfl, rfl⟩ := y
    refine ⟨Evl.Ex.refl _, fun d hd => ?_⟩
    rw [List.getElem?_map] at hd
    obtain ⟨j, hj, rfl⟩ := Option.map_eq_some_iff.mp hd
    obtain ⟨h1, h2⟩ := List.getElem?_eq_some_iff.mp hj
    rw [List.getElem_range] at h2
    subst h2
    exact .int _
def enumD (ds : List PyData) : List PyData := ds.zipIdx.map fun p => .tuple [.int (p.2 : Nat), p.1]
theorem enumD_get {i : Nat} {d : PyData} (h : (enumD ds)[i]? = some d) : ∃ e, ds[i]? = some e ∧ d = .tuple [.int (i : Nat), e] := by
  unfold enumD at h
  rw [List.getElem?_map] at h
  obtain ⟨p, hp, rfl⟩ := Option.map_eq_some_iff.mp h
  rw [List.getElem?_zipIdx] at hp
  obtain ⟨e, he, rfl⟩ := Option.map_eq_some_iff.mp hp
  exact ⟨e, he, by simp⟩
theorem enumD_length : (enumD ds).length = ds.length := by
  unfold enumD
  rw [List.length_map, List.length_zipIdx]
theorem wk_enum {a : Addr} {xs : List V} (m : ¬ M a) (h : Rd H a (.lst xs)) (r : RpAll K M H xs ds) : Wk K M (Ite K a) H (enumD ds) := by
  have nm : ∀ M' : Addr → Prop, (∀ a, M' a → M a ∨ H a = none) → ¬ M' a := fun M' hm z => (hm a z).elim m (Rd.there h)
  have at_ : ∀ (M' : Addr → Prop) (H' : Hp), (∀ a, M' a → M a ∨ H a = none) → ExM M' H H' → Rd H' a (.lst xs) := fun M' H' hm e => Rd.exM (M := M') h (nm M' hm) e
  refine ⟨fun M' i H' hm e hi => ?_, fun M' H' hm e => ?_, fun M' i H' x H'' hm e al y => ?_⟩
  · have hx : i < xs.length := by rw [r.length, ← enumD_length]; exact hi
    exact ⟨xs, xs[i], .inl (at_ M' H' hm e), List.getElem?_eq_getElem hx⟩
  · exact ⟨xs, .inl (at_ M' H' hm e), by rw [r.length, enumD_length]; exact Nat.le_refl _⟩
  · obtain ⟨T, z, rfl, hT, rfl, y⟩ := y
    refine ⟨Evl.Ex.new hT, fun d hd => ?_⟩
    obtain ⟨e', he, rfl⟩ := enumD_get hd
    obtain ⟨v, hv, rv⟩ := r.get he
    have q := y xs (.inl (at_ M' _ hm e))
    rw [hv] at q
    cases q
    exact .tup (al.fresh hT) (.inl upd_same) (.cons (.int _) (.cons (((rv.wide hm).mono (fun _ z => z) e).mono (fun _ z => z) (.of (Evl.Ex.new hT))) .nil))
theorem src_list (h : PD X M iter σ H (.list ds)) : Src X M tg iter σ H ds := ⟨_, pi_list wE.pe, fun H1 e1 al R q => h.run H1 e1 al _ fun v H2 x2 r => by
  cases r with
  | lst m hr rs => exact ⟨_, rfl, ⟨_, .inl hr⟩, q _ H2 x2 (wk_list m hr rs)⟩⟩
theorem src_tup (h : PD X M iter σ H (.tuple ds)) : Src X M tg iter σ H ds := ⟨_, pi_tup wE.pe, fun H1 e1 al R q => h.run H1 e1 al _ fun v H2 x2 r => by
  cases r with
  | tup m hr rs => exact ⟨_, rfl, ⟨_, .inl hr⟩, q _ H2 x2 (wk_tup m hr rs)⟩⟩
theorem src_enum {p tpos : Pos} {elts : List Expr} {kk : Nat} (hg : Gl X "enumerate") (hm : X.mg "enumerate" = none) (h : PD X M e σ H (.list ds)) (hs : starEach [e] X.env = [(false, eval e X.env)] := by rfl)
    (hs' : starEach (e :: []) X.env = (false, eval e X.env) :: starEach [] X.env := by rfl) : Src X M (.Tuple elts kk tpos) (.Call (.Name "enumerate" p) [e] [] pos) σ H (enumD ds) :=
  ⟨_, pi_enum hg hm wA.pa hs, fun H1 e1 al R q => (ad_cons h ad_nil hs').run H1 e1 al _ fun vs H2 x2 rs => by
    obtain ⟨v, rfl, r⟩ := rpa1 rs
    cases r with
    | lst m hr rr => exact ⟨_, _, rfl, .inl hr, q _ H2 x2 (wk_enum m hr rr)⟩⟩
theorem src_range1 {p : Pos} {j : Int} (hg : Gl X "range") (hm : X.mg "range" = none) (h : PD X M e σ H (.int j)) (h1 : -(2 ^ 62) ≤ j) (h2 : j < 2 ^ 62) (hs : starEach [e] X.env = [(false, eval e X.env)] := by rfl)
    (hs' : starEach (e :: []) X.env = (false, eval e X.env) :: starEach [] X.env := by rfl) : Src X M tg (.Call (.Name "range" p) [e] [] pos) σ H ((List.range j.toNat).map fun i => PyData.int (0 + (i : Nat))) :=
  ⟨_, pi_range1 hg hm wA.pa hs, fun H1 e1 al R q => (ad_cons h ad_nil hs').run H1 e1 al _ fun vs H2 x2 rs => by
    obtain ⟨v, rfl, r⟩ := rpa1 rs
    cases r
    exact ⟨j, rfl, h1, h2, q _ H2 x2 (wk_range 0 j.toNat)⟩⟩
theorem src_range2 {p : Pos} {a b : Expr} {i j : Int} (hg : Gl X "range") (hm : X.mg "range" = none) (ha : PD X M a σ H (.int i)) (hb : PD X M b σ H (.int j)) (h1 : -(2 ^ 62) ≤ i ∧ i < 2 ^ 62) (h2 : -(2 ^ 62) ≤ j ∧ j < 2 ^ 62)
    (hs : starEach [a, b] X.env = [(false, eval a X.env), (false, eval b X.env)] := by rfl) (hs2 : starEach [b] X.env = [(false, eval b X.env)] := by rfl)
    (hsa : starEach (a :: [b]) X.env = (false, eval a X.env) :: starEach [b] X.env := by rfl) (hsb : starEach (b :: []) X.env = (false, eval b X.env) :: starEach [] X.env := by rfl) :
    Src X M tg (.Call (.Name "range" p) [a, b] [] pos) σ H ((List.range (j - i).toNat).map fun k => PyData.int (i + (k : Nat))) :=
  ⟨_, pi_range2 hg hm wA.pa hs hs2, fun H1 e1 al R q => (ad_cons ha (ad_cons hb ad_nil hsb) hsa).run H1 e1 al _ fun vs H2 x2 rs => by
    obtain ⟨v, w, rfl, r1, r2⟩ := rpa2 rs
    cases r1
    cases r2
    exact ⟨i, j, rfl, ⟨h1.1, h1.2, h2.1, h2.2⟩, q _ H2 x2 (wk_range i (j - i).toNat)⟩⟩

/-! ### targets: a name, two names -/
inductive Tg where
  | one (i : Nat)
  | two (i j : Nat)
def Tg.g (K : PySem.W.Frag) : Tg → TG
  | .one i => gName i
  | .two i j => gTup K 2 (gCons (gName i) (gCons (gName j) gNil))
def Tg.Ok (K : PySem.W.Frag) (M : Addr → Prop) (H : Hp) (d : PyData) (σ : St) : Tg → St → Prop
  | .one i, σ' => ∃ v, Rp K M H v d ∧ σ' = σ.set i (some v)
  | .two i j, σ' => ∃ da db v w, d = .tuple [da, db] ∧ Rp K M H v da ∧ Rp K M H w db ∧ σ' = (σ.set i (some v)).set j (some w)
def Tg.Fits : Tg → PyData → Prop
  | .one _, _ => True
  | .two _ _, d => ∃ da db, d = .tuple [da, db]
theorem Tg.run {t : Tg} {v : V} {Q : St → Hp → Prop} (f : t.Fits d) (r : Rp K M H v d) (q : ∀ σ', t.Ok K M H d σ σ' → Q σ' H) : t.g K v σ H Q := by
  cases t with
  | one i => exact q _ ⟨v, r, rfl⟩
  | two i j =>
    obtain ⟨da, db, rfl⟩ := f
    cases r with
    | tup m h rs =>
      obtain ⟨v1, w1, rfl, r1, r2⟩ := rpa2 rs
      exact ⟨_, _, rfl, .inl h, rfl, v1, [w1], rfl, w1, [], rfl, rfl, q _ ⟨da, db, v1, w1, rfl, r1, r2, rfl⟩⟩

/-! ### for -/
theorem s_for {t : Tg} {body : List Stmt} {D : Ends} (hp : PassesOwn (model X.prog X.w) X.A X.env X.xe) (hc : X.calm = true) (hi : Src X M tg iter σ H ds) (hg : PG X tg (t.g X.K)) (al : Alive M H) (J : Hp → Nat → St → Hp → Prop)
    (h0 : ∀ H1, Evl.Ex H H1 → J H1 0 σ H1) (hk : ∀ H1 i σ' H', Evl.Ex H H1 → J H1 i σ' H' → ExM M H1 H' ∧ Alive M H') (hf : ∀ d ∈ ds, t.Fits d)
    (ht : ∀ H1 i d σ' H' H2 σ2, Evl.Ex H H1 → ds[i]? = some d → J H1 i σ' H' → Evl.Ex H' H2 → t.Ok X.K M H2 d σ' σ2 → wB X body { D with nx := J H1 (i + 1), ct := J H1 (i + 1), bk := D.nx } σ2 H2)
    (hd : ∀ H1 σ' H', Evl.Ex H H1 → J H1 ds.length σ' H' → D.nx σ' H') (hs : ∀ x, foldedSetIterable iter X.env x = pure x := by intro _; rfl) : wS X (.For tg iter body [] pos) D σ H := by
  obtain ⟨wi, pi, run⟩ := hi.ex
  refine ⟨_, ps_for hp hc pi hg wB.ps hs, run H (ExM.refl H) al _ fun It H1 x1 wk => ?_⟩
  refine ⟨fun i m σ' H' => m = ds.length - i ∧ i ≤ ds.length ∧ J H1 i σ' H', ⟨ds.length, rfl, Nat.zero_le _, h0 H1 x1⟩, ?_⟩
  rintro i m σ' H' ⟨rfl, hi', j⟩
  obtain ⟨e, al'⟩ := hk H1 i σ' H' x1 j
  by_cases hlt : i < ds.length
  · refine .inr ⟨wk.go M i H' (fun _ z => .inl z) e hlt, J H1 (i + 1), fun σ2 H2 j2 => ⟨ds.length - (i + 1), by omega, rfl, hlt, j2⟩, fun x H2 y => ?_⟩
    obtain ⟨x2, r⟩ := wk.yld M i H' x H2 (fun _ z => .inl z) e al' y
    have hd' : ds[i]? = some ds[i] := List.getElem?_eq_getElem hlt
    exact Tg.run (hf _ (List.getElem_mem hlt)) (r _ hd') fun σ2 ok => ht H1 i _ σ' H' H2 σ2 x1 hd' j x2 ok
  · have e2 : i = ds.length := by omega
    subst e2
    exact .inl ⟨wk.stop M H' (fun _ z => .inl z) e, hd H1 σ' H' x1 j⟩

/-! ### [elt for target in iter if ..] -/
def wTs (X : Cx) (ifs : List Expr) : TT := fun σ H Q => ∃ t, PTs X ifs t ∧ t σ H Q
theorem wTs.pts {ifs : List Expr} : PTs X ifs (wTs X ifs) := ⟨fun pins s σ H Q I ⟨_, h, q⟩ => h.run pins s σ H Q I q⟩
/-- the tests' answer -/
structure TsD (X : Cx) (M : Addr → Prop) (ifs : List Expr) (σ : St) (H : Hp) (k : Bool) : Prop where
  run : ∀ H1, ExM M H H1 → Alive M H1 → ∀ Q : Bool → Hp → Prop, (∀ H2, Evl.Ex H1 H2 → Q k H2) → wTs X ifs σ H1 Q
theorem tsd_nil : TsD X M [] σ H true := ⟨fun H1 _ _ Q q => ⟨_, pts_nil, q H1 (Evl.Ex.refl H1)⟩⟩
theorem tsd_one {k : Bool} (h : TD X M c σ H k) : TsD X M [c] σ H k := ⟨fun H1 e1 al Q q => ⟨_, pts_one wT.pt, h.run H1 e1 al Q q⟩⟩
abbrev Cx.lc (X : Cx) (s : Shared) (H : Hp) (scope : Scope) (C : Addr) (cl : List (Str × Addr)) (fp : List Addr) : Cx := X.blk s H scope (compEnvC scope cl C X.env) fp
theorem lc_core {t : Tg} {elt : Expr} {ifs : List Expr} {scope : Scope} {own : List (Str × Nat)} (hc : X.calm = true) (hN : X.N.Nodup) (hi : Src X M tg iter σ H ds) (ok : BlkOk X.N X.env.scope scope own)
    (hg : ∀ s H C cl fp, PG (Cx.lc X s H scope C cl fp) tg (t.g X.K)) (hf : ∀ d ∈ ds, t.Fits d) (hw : ∀ M H d σ', t.Ok X.K M H d (wipe σ (own.map (·.2))) σ' → wipe σ' (own.map (·.2)) = wipe σ (own.map (·.2)))
    (p : PyData → Bool) (f : PyData → PyData) (hl : ds.length ≤ 100000)
    (body : ∀ s0 H0 C cl fp M' H' d σ', (∀ a, M a → M' a) → (∀ v e, Rp X.K M H v e → Rp X.K M' H' v e) → d ∈ ds → t.Ok X.K M' H' d (wipe σ (own.map (·.2))) σ' →
      TsD (Cx.lc X s0 H0 scope C cl fp) M' ifs σ' H' (p d) ∧ (p d = true → PD (Cx.lc X s0 H0 scope C cl fp) M' elt σ' H' (f d))) :
    ∃ wi, PI X tg iter wi ∧ ∀ H1, ExM M H H1 → Alive M H1 → ∀ Q : VK, (∀ l ws H2, H1 l = none → Evl.Ex H1 H2 → H2 l = some (.lst ws) → RpAll X.K M H2 ws ((ds.filter p).map f) → Q (.ref l) H2) →
      tLc wi (t.g X.K) (fun σ H Q => ∀ s0 H0 C cl fp, wTs (Cx.lc X s0 H0 scope C cl fp) ifs σ H Q) (fun σ H Q => ∀ s0 H0 C cl fp, wE (Cx.lc X s0 H0 scope C cl fp) elt σ H Q) (own.map (·.2)) σ H1 Q := by
  obtain ⟨wi, pi, run⟩ := hi.ex
  refine ⟨wi, pi, fun H1 e1 al Q q => ?_⟩
  refine run H1 e1 al _ fun It Hs xs wk D hD => ?_
  have alS := al.mono xs
  -- D is mutable meanwhile
  let M' : Addr → Prop := fun a => M a ∨ a = D
  have hm : ∀ a, M' a → M a ∨ Hs a = none := fun a z => z.elim .inl fun e => .inr (by rw [e]; exact hD)
  have al2 : ∀ H', Evl.Ex Hs H' → (∃ acc, H' D = some (.lst acc)) → Alive M' H' := fun H' e ⟨acc, h⟩ a z => by
    rcases z with z | z
    · exact (alS.mono e) a z
    · subst z
      exact ⟨_, h⟩
  refine ⟨fun i m H' => m = ds.length - i ∧ i ≤ ds.length ∧ Evl.Ex Hs H' ∧ ∃ acc, H' D = some (.lst acc) ∧ acc.length ≤ i ∧ RpAll X.K M' H' acc (((ds.take i).filter p).map f), ⟨ds.length, rfl, Nat.zero_le _, Evl.Ex.new hD, [], upd_same, Nat.le_refl _, by simpa using RpAll.nil⟩, ?_⟩
  rintro i m H' ⟨rfl, hi', x, acc, hacc, hlen, racc⟩
  have eM : ExM M' Hs H' := .of x
  have al' := al2 H' x ⟨acc, hacc⟩
  by_cases hlt : i < ds.length
  · refine .inr ⟨wk.go M' i H' hm eM hlt, fun H2 => Evl.Ex Hs H2 ∧ ∃ acc, H2 D = some (.lst acc) ∧ acc.length ≤ i + 1 ∧ RpAll X.K M' H2 acc (((ds.take (i + 1)).filter p).map f), fun H2 ⟨a1, a2⟩ => ⟨ds.length - (i + 1), by omega, rfl, hlt, a1, a2⟩, fun v H2 y => ?_⟩
    obtain ⟨x2, r⟩ := wk.yld M' i H' v H2 hm eM al' y
    have hd' : ds[i]? = some ds[i] := List.getElem?_eq_getElem hlt
    have hmem := List.getElem_mem hlt
    have hacc2 : H2 D = some (.lst acc) := x2 _ _ hacc
    have lift : ∀ v e, Rp X.K M H v e → Rp X.K M' H2 v e := fun v e rv => ((rv.mono (fun _ z => z) (e1.trans (.of xs))).wide hm).mono (fun _ z => z) (.of (x.trans x2))
    have al3 := al2 H2 (x.trans x2) ⟨acc, hacc2⟩
    refine Tg.run (hf _ hmem) (r _ hd') fun σ2 okk => ⟨hw _ _ _ _ okk, ?_⟩
    have all := fun s0 H0 C cl fp => body s0 H0 C cl fp M' H2 ds[i] σ2 (fun _ z => .inl z) lift hmem okk
    -- the test
    have tk : (ds.take (i + 1)).filter p = (ds.take i).filter p ++ (if p ds[i] = true then [ds[i]] else []) := by
      rw [List.take_add_one, hd', List.filter_append]
      simp only [Option.toList_some, List.filter_cons, List.filter_nil]
    have fin : ∀ b, b = p ds[i] → ∀ H3, Evl.Ex H2 H3 → (if b = true then (∀ s0 H0 C cl fp, wE (Cx.lc X s0 H0 scope C cl fp) elt σ2 H3 fun y H4 => ∃ acc, H4 D = some (.lst acc) ∧ acc.length < sizeLine ∧
        (Evl.Ex Hs (upd H4 D (.lst (acc ++ [y]))) ∧ ∃ acc', (upd H4 D (.lst (acc ++ [y]))) D = some (.lst acc') ∧ acc'.length ≤ i + 1 ∧ RpAll X.K M' (upd H4 D (.lst (acc ++ [y]))) acc' (((ds.take (i + 1)).filter p).map f)))
        else (Evl.Ex Hs H3 ∧ ∃ acc, H3 D = some (.lst acc) ∧ acc.length ≤ i + 1 ∧ RpAll X.K M' H3 acc (((ds.take (i + 1)).filter p).map f))) := by
      intro b hb H3 x3
      have hacc3 := x3 _ _ hacc2
      cases b with
      | true =>
        rw [if_pos rfl]
        intro s0 H0 C cl fp
        refine ((all s0 H0 C cl fp).2 hb.symm).run H3 (.of x3) (al3.mono x3) _ fun y H4 x4 ry => ?_
        have x5 : Evl.Ex Hs H4 := ((x.trans x2).trans x3).trans x4
        refine ⟨acc, x4 _ _ hacc3, ?_, Evl.Ex.mut x5 hD, _, upd_same, ?_, ?_⟩
        · exact Nat.lt_of_lt_of_le (Nat.lt_of_le_of_lt hlen hlt) (Evl.sz_of hl)
        · rw [List.length_append, List.length_singleton]
          omega
        · rw [tk, if_pos hb.symm, List.map_append]
          have eD : ExM M' H4 (upd H4 D (.lst (acc ++ [y]))) := fun a o h nm _ => by
            rw [upd_ne (fun e => nm (.inr e))]
            exact h
          exact (racc.mono (fun _ z => z) (.of ((x2.trans x3).trans x4))).append (.cons ry .nil) |>.mono (fun _ z => z) eD
      | false =>
        rw [if_neg Bool.false_ne_true]
        refine ⟨(x.trans x2).trans x3, acc, hacc3, by omega, ?_⟩
        rw [tk, if_neg (by rw [← hb]; exact Bool.false_ne_true), List.append_nil]
        exact racc.mono (fun _ z => z) (.of (x2.trans x3))
    intro s0 H0 C cl fp
    exact (all s0 H0 C cl fp).1.run H2 (ExM.refl H2) al3 _ fun H3 x3 => fin _ rfl H3 x3
  · have e2 : i = ds.length := by omega
    subst e2
    refine .inl ⟨wk.stop M' H' hm eM, q D acc H' (Evl.fresh_back xs hD) (xs.trans x) hacc ?_⟩
    rw [List.take_length] at racc
    exact racc.mono (fun _ z => .inl z) (ExM.refl _)
theorem fd_lc {t : Tg} {elt : Expr} {ifs : List Expr} {scope : Scope} {own : List (Str × Nat)} (hc : X.calm = true) (hN : X.N.Nodup) (hi : Src X M tg iter σ H ds) (ok : BlkOk X.N X.env.scope scope own)
    (hg : ∀ s H C cl fp, PG (Cx.lc X s H scope C cl fp) tg (t.g X.K)) (hf : ∀ d ∈ ds, t.Fits d) (hw : ∀ M H d σ', t.Ok X.K M H d (wipe σ (own.map (·.2))) σ' → wipe σ' (own.map (·.2)) = wipe σ (own.map (·.2)))
    (p : PyData → Bool) (f : PyData → PyData) (hl : ds.length ≤ 100000)
    (body : ∀ s0 H0 C cl fp M' H' d σ', (∀ a, M a → M' a) → (∀ v e, Rp X.K M H v e → Rp X.K M' H' v e) → d ∈ ds → t.Ok X.K M' H' d (wipe σ (own.map (·.2))) σ' →
      TsD (Cx.lc X s0 H0 scope C cl fp) M' ifs σ' H' (p d) ∧ (p d = true → PD (Cx.lc X s0 H0 scope C cl fp) M' elt σ' H' (f d)))
    (hs : ∀ x, foldedSetIterable iter X.env x = pure x := by intro _; rfl) : FD X M (.ListComp elt [⟨tg, iter, ifs, 0⟩] scope pos) σ H ((ds.filter p).map f) := by
  obtain ⟨wi, pi, run⟩ := lc_core hc hN hi ok hg hf hw p f hl body
  exact .mk fun H1 e1 al Q q => ⟨_, pe_lc hc hN pi ok hg (fun s0 H0 C cl fp => ⟨fun pins s σ H Q I h => wTs.pts.run pins s σ H Q I (h s0 H0 C cl fp)⟩) (fun s0 H0 C cl fp => ⟨fun pins s σ H Q I h => wE.pe.run pins s σ H Q I (h s0 H0 C cl fp)⟩) hs, run H1 e1 al Q q⟩
/-- y = [elt for target in iter if ..], where y stands in the block alone -/
theorem s_setLc {t : Tg} {elt : Expr} {ifs : List Expr} {scope : Scope} {own : List (Str × Nat)} (hc : X.calm = true) (hN : X.N.Nodup) (hi : Src X M tg iter σ H ds) (ok : BlkOk X.N X.env.scope scope own)
    (hg : ∀ s H C cl fp, PG (Cx.lc X s H scope C cl fp) tg (t.g X.K)) (hf : ∀ d ∈ ds, t.Fits d) (hw : ∀ M H d σ', t.Ok X.K M H d (wipe σ (own.map (·.2))) σ' → wipe σ' (own.map (·.2)) = wipe σ (own.map (·.2)))
    (p : PyData → Bool) (f : PyData → PyData) (hl : ds.length ≤ 100000)
    (body : ∀ s0 H0 C cl fp M' H' d σ', (∀ a, M a → M' a) → (∀ v e, Rp X.K M H v e → Rp X.K M' H' v e) → d ∈ ds → t.Ok X.K M' H' d (wipe σ (own.map (·.2))) σ' →
      TsD (Cx.lc X s0 H0 scope C cl fp) M' ifs σ' H' (p d) ∧ (p d = true → PD (Cx.lc X s0 H0 scope C cl fp) M' elt σ' H' (f d)))
    {i : Nat} {y : Str} {py spos : Pos} {D : Ends} (al : Alive M H) (hy : X.N[i]? = some y) (hyl : X.env.scope.names.lookup y = some .local) (hsw : swapsWith (.ListComp elt [⟨tg, iter, ifs, 0⟩] scope pos) (some (.Name y py)) spos.line X.env = pure true) (q : ∀ l ws H2, H l = none → Evl.Ex H H2 → H2 l = some (.lst ws) → RpAll X.K M H2 ws ((ds.filter p).map f) → D.nx (σ.set i (some (.ref l))) H2)
    (hs : ∀ x, foldedSetIterable iter X.env x = pure x := by intro _; rfl) : wS X (.Assign [.Name y py] (.ListComp elt [⟨tg, iter, ifs, 0⟩] scope pos) spos) D σ H := by
  obtain ⟨wi, pi, run⟩ := lc_core hc hN hi ok hg hf hw p f hl body
  exact ⟨_, ps_setLc hc hN hy hyl hsw pi ok hg (fun s0 H0 C cl fp => ⟨fun pins s σ H Q I h => wTs.pts.run pins s σ H Q I (h s0 H0 C cl fp)⟩) (fun s0 H0 C cl fp => ⟨fun pins s σ H Q I h => wE.pe.run pins s σ H Q I (h s0 H0 C cl fp)⟩) hs, run H (ExM.refl H) al _ q⟩
end
end GV

namespace GV
open PySem PySem.Spec PyProof.Rows L2
/-- the names of the built-ins that the text asks for are the built-ins' own -/
structure NoB (mg : Str → Option Value) : Prop where
  isinstance : mg "isinstance" = none
  int : mg "int" = none
  bool : mg "bool" = none
  str : mg "str" = none
  list : mg "list" = none
  tuple : mg "tuple" = none
  set : mg "set" = none
  len : mg "len" = none
  range : mg "range" = none
  enumerate : mg "enumerate" = none
  abs : mg "abs" = none
  min : mg "min" = none
  max : mg "max" = none
  sum : mg "sum" = none
  any : mg "any" = none
  all : mg "all" = none
  sorted : mg "sorted" = none
section
variable {X : Cx} {M : Addr → Prop} {σ : St} {H H' : Hp} {a b c e : Expr} {da db d : PyData} {pos : Pos} {es : List Expr} {ds : List PyData}

/-! ### isinstance of data, by one built-in class -/
def tyD : PyData → String
  | .none => "NoneType"
  | .bool _ => "bool"
  | .int _ => "int"
  | .str _ => "str"
  | .list _ => "list"
  | .tuple _ => "tuple"
  | .dict _ => "dict"
theorem Rp.tyX {K : PySem.W.Frag} {v : V} (r : Rp K M H v d) : TyX K H v (.type (tyD d)) := by
  cases r with
  | non => exact .base .non
  | bl b => exact .base (.bl b)
  | int i => exact .base (.int i)
  | str x => exact .base (.str x)
  | lst m h rs =>
    rcases h with h | ⟨o, h⟩
    · exact .base (.lst h)
    · exact .base (.frz h)
  | tup m h rs =>
    rcases h with h | ⟨o, h⟩
    · exact .base (.tup h)
    · exact .fTuple h
theorem pd_isi {T : String} {x : Str} {p p2 : Pos} {k : Bool} (hg : Gl X "isinstance") (hm : X.mg "isinstance" = none) (hgT : Gl X x) (hmT : X.mg x = none) (hv : bootBuiltins x = some (.type T)) (ha : PD X M a σ H d) (hk : kitB (tyD d) T = some k)
    (hn : x ≠ "__name__" := by decide) (hd : (x == ("__debug__" : Str)) = false := by decide)
    (h1 : starEach (a :: [.Name x p2]) X.env = (false, eval a X.env) :: starEach [.Name x p2] X.env := by rfl) (h2 : starEach (.Name x p2 :: []) X.env = (false, eval (.Name x p2) X.env) :: starEach [] X.env := by rfl)
    (hpl : (backTo pos (starEach [.Name x p2] X.env)).any (·.1) = false := by rfl) :
    PD X M (.Call (.Name "isinstance" p) [a, .Name x p2] [] pos) σ H (.bool k) := .mk fun H1 e1 al Q q =>
  ⟨_, pe_callB call_isi hg hm PyProof.Rows.boot_isinstance (pa_cons wE.pe (pa_cons (pe_bltn (v := .ty T) hgT hmT hv rfl hn hd) pa_nil h2) h1) (by decide) (by decide) h1 hpl, ha.run H1 e1 al _ fun v H2 x2 r =>
    ⟨v, .ty T, .type (tyD d), .type T, k, rfl, .ty T, r.tyX, kit_ty hk, q _ H2 x2 (.bl k)⟩⟩

/-! ### a chain of two comparisons of ints -/
theorem pd_leLe {i j k : Int} (ha : PD X M a σ H (.int i)) (hb : PD X M b σ H (.int j)) (hc : PD X M c σ H (.int k)) (h1 : lastMarks [.LtE, .LtE] [b, c] = false := by with_unfolding_all rfl) : PD X M (.Compare a [.LtE, .LtE] [b, c] pos) σ H (.bool (decide (i ≤ j) && decide (j ≤ k))) := .mk fun H1 e1 al Q q =>
  ⟨_, pe_chain op_le op_le wE.pe wE.pe wE.pe h1, ha.run H1 e1 al _ fun x H2 x2 rx => hb.run H2 (e1.trans (.of x2)) (al.mono x2) _ fun y H3 x3 ry => by
    cases rx
    cases ry
    refine ⟨i, j, rfl, rfl, _, rfl, ?_⟩
    by_cases h : i ≤ j
    · rw [if_pos (decide_eq_true h)]
      refine hc.run H3 ((e1.trans (.of x2)).trans (.of x3)) ((al.mono x2).mono x3) _ fun z H4 x4 rz => ?_
      cases rz
      refine ⟨j, k, rfl, rfl, q _ H4 ((x2.trans x3).trans x4) ?_⟩
      rw [decide_eq_true h]
      exact .bl _
    · rw [if_neg (by rw [decide_eq_false h]; exact Bool.false_ne_true)]
      refine q _ H3 (x2.trans x3) ?_
      rw [decide_eq_false h]
      exact .bl _⟩

/-! ### any, all, sum, min, max, in -/
theorem RpAll.of_bools {K : PySem.W.Frag} : ∀ {vs : List V} {bs : List Bool}, RpAll K M H vs (bs.map PyData.bool) → vs = bs.map V.bl
  | [], [], .nil => rfl
  | _ :: _, n :: r, .cons h hs => by
    cases h
    rw [RpAll.of_bools hs]
    rfl
theorem rn_any {bs : List Bool} : RDn X M (rAny X.K) [.list (bs.map PyData.bool)] (.bool (bs.any id)) := fun vs H1 r _ Q q => by
  obtain ⟨v, rfl, r1⟩ := rpa1 r
  cases r1 with
  | lst m hs rs => exact ⟨_, bs, rfl, .inl (by rw [← rs.of_bools]; exact hs), q _ H1 (Evl.Ex.refl H1) (.bl _)⟩
theorem rn_all {bs : List Bool} : RDn X M (rAll X.K) [.list (bs.map PyData.bool)] (.bool (bs.all id)) := fun vs H1 r _ Q q => by
  obtain ⟨v, rfl, r1⟩ := rpa1 r
  cases r1 with
  | lst m hs rs => exact ⟨_, bs, rfl, .inl (by rw [← rs.of_bools]; exact hs), q _ H1 (Evl.Ex.refl H1) (.bl _)⟩
theorem rn_sum {ns : List Int} : RDn X M (rSum X.K) [.list (ns.map PyData.int)] (.int ns.sum) := fun vs H1 r _ Q q => by
  obtain ⟨v, rfl, r1⟩ := rpa1 r
  cases r1 with
  | lst m hs rs => exact ⟨_, ns, rfl, .inl (by rw [← rs.of_ints]; exact hs), q _ H1 (Evl.Ex.refl H1) (.int _)⟩
theorem rn_max {ns : List Int} {m : Int} (hm : m ∈ ns) (hx : ∀ y ∈ ns, y ≤ m) : RDn X M (rMax X.K) [.list (ns.map PyData.int)] (.int m) := fun vs H1 r _ Q q => by
  obtain ⟨v, rfl, r1⟩ := rpa1 r
  cases r1 with
  | lst m' hs rs =>
    refine ⟨_, ns, rfl, .inl (by rw [← rs.of_ints]; exact hs), List.length_pos_of_mem hm, fun k hk hkx => q _ H1 (Evl.Ex.refl H1) ?_⟩
    rw [Int.le_antisymm (hx k hk) (hkx m hm)]
    exact .int _
theorem rn_min {ns : List Int} {m : Int} (hm : m ∈ ns) (hx : ∀ y ∈ ns, m ≤ y) : RDn X M (rMin X.K) [.list (ns.map PyData.int)] (.int m) := fun vs H1 r _ Q q => by
  obtain ⟨v, rfl, r1⟩ := rpa1 r
  cases r1 with
  | lst m' hs rs =>
    refine ⟨_, ns, rfl, .inl (by rw [← rs.of_ints]; exact hs), List.length_pos_of_mem hm, fun k hk hkx => q _ H1 (Evl.Ex.refl H1) ?_⟩
    rw [Int.le_antisymm (hkx m hm) (hx k hk)]
    exact .int _

/-! ### min(e, default=f) of a list of ints -/
def minOr (d : PyData) : List Int → PyData
  | [] => d
  | n :: r => .int (r.foldl min n)
theorem ints_alike (ns : List Int) : PySem.W.AlikeAll (ns.map PyData.int) := by
  refine ⟨fun x hx y hy => ?_, fun x hx => ?_⟩
  · obtain ⟨i, _, rfl⟩ := List.mem_map.mp hx
    obtain ⟨j, _, rfl⟩ := List.mem_map.mp hy
    rfl
  · obtain ⟨i, _, rfl⟩ := List.mem_map.mp hx
    exact fun z => by cases z
theorem ints_depth (ns : List Int) : PyData.depthAll (ns.map PyData.int) = 0 := by
  induction ns with
  | nil => rfl
  | cons n r ih =>
    show max (PyData.depth (.int n)) (PyData.depthAll (r.map PyData.int)) = 0
    rw [ih]
    rfl
theorem dpAll_ints {K : PySem.W.Frag} (ns : List Int) : DpAll K H (ns.map V.int) (ns.map PyData.int) := (RpAll.ints (M := fun _ => False) ns).dp
def rMinDf (K : PySem.W.Frag) : List V → List V → Hp → VK → Prop := fun xs zs H Q => ∃ (a : Addr) (ns : List Int) (z : V), xs = [.ref a] ∧ zs = [z] ∧ SqL K H a (ns.map V.int) ∧ (ns = [] → Q z H) ∧ (∀ n r, ns = n :: r → Q (.int (r.foldl min n)) H)
theorem cr_minDf (hc : X.calm = true) (hu : X.A.units + 2 < cLine) : CallRK X (.builtin "min") ["default"] (rMinDf X.K) := by
  intro pins s σ H xs zs us ws Q I rx rz h
  obtain ⟨a, ns, z, rfl, rfl, hs, q0, q1⟩ := h
  obtain ⟨w, rfl, rw'⟩ := vals1 rz
  rw [Vals.ref1 rx]
  obtain ⟨its, rv, pl, _⟩ := I.list hs
  obtain ⟨as, hr⟩ := Dp.readsAll I _ _ its (dpAll_ints ns) rv
  refine PySem.W.min_list_default (I.ok.hd hc) pl.isList hr (ints_alike ns) (by rw [ints_depth]; omega) (fun e h' tk k => ?_) (fun y ys i v h' tk bs e hv hrd k => ?_)
  · refine ⟨z, H, I.kept k, rw', q0 ?_⟩
    cases ns with
    | nil => rfl
    | cons n r => cases e
  · cases ns with
    | nil => cases e
    | cons n r =>
      cases e
      rw [PySem.W.minD_ints] at hrd
      cases hrd with
      | int i t => exact ⟨.int _, H, I.kept k, ⟨t, rfl⟩, q1 n r rfl⟩
theorem pd_minDf {p kp : Pos} {ns : List Int} (hc : X.calm = true) (hu : X.A.units + 2 < cLine) (hg : Gl X "min") (hm : X.mg "min" = none) (ha : PD X M a σ H (.list (ns.map PyData.int))) (hb : PD X M b σ H d)
    (h1 : starEach (a :: []) X.env = (false, eval a X.env) :: starEach [] X.env := by rfl)
    (he : backTo pos (starEach (a :: []) X.env) = (false, eval a X.env) :: backTo pos (starEach [] X.env) := by rfl) (hpl : (backTo pos (starEach (a :: []) X.env)).any (·.1) = false := by rfl)
    (hall : (backToKw pos (keywordEach [⟨some "default", b, kp⟩] X.env)).all (·.1.isSome) = true := by rfl) (hnone : (backToKw pos (keywordEach [⟨some "default", b, kp⟩] X.env)).any (·.1.isNone) = false := by rfl)
    (hks : (backToKw pos (keywordEach [⟨some "default", b, kp⟩] X.env)).filterMap (·.1) = (["default"] : List Str) := by rfl) :
    PD X M (.Call (.Name "min" p) [a] [⟨some "default", b, kp⟩] pos) σ H (minOr d ns) := .mk fun H1 e1 al Q q =>
  ⟨_, pe_callBK (cr_minDf hc hu) hg hm PyProof.Rows.boot_min (pa_cons wE.pe pa_nil h1) (pk_cons wE.pe pk_nil) (by decide) (by decide) he hpl hall hnone hks, ha.run H1 e1 al _ fun v H2 x2 r => hb.run H2 (e1.trans (.of x2)) (al.mono x2) _ fun w H3 x3 rw' => by
    have r3 := r.mono (fun _ z => z) (.of x3)
    cases r3 with
    | lst m hs rs =>
      refine ⟨_, ns, w, rfl, rfl, .inl (by rw [← rs.of_ints]; exact hs), fun e => q _ H3 (x2.trans x3) ?_, fun n r e => q _ H3 (x2.trans x3) ?_⟩
      · rw [e]
        exact rw'
      · rw [e]
        exact .int _⟩
end
end GV

namespace GV
open PySem PySem.Spec PyProof.Rows L2
section
variable {X : Cx} {M : Addr → Prop} {σ : St} {H H' : Hp} {a b c e : Expr} {pos : Pos}
theorem up_ext : ∀ {l m : List Int}, l.Pairwise (· < ·) → m.Pairwise (· < ·) → (∀ k, k ∈ l ↔ k ∈ m) → l = m
  | [], [], _, _, _ => rfl
  | [], y :: m, _, _, h => absurd ((h y).mpr (List.mem_cons_self ..)) (by simp)
  | x :: l, [], _, _, h => absurd ((h x).mp (List.mem_cons_self ..)) (by simp)
  | x :: l, y :: m, p, q, h => by
    obtain ⟨p1, p2⟩ := List.pairwise_cons.mp p
    obtain ⟨q1, q2⟩ := List.pairwise_cons.mp q
    have hx := (h x).mp (List.mem_cons_self ..)
    have hy := (h y).mpr (List.mem_cons_self ..)
    have e : x = y := by
      rcases List.mem_cons.mp hx with e | hx
      · exact e
      · rcases List.mem_cons.mp hy with e | hy
        · exact e.symm
        · have := q1 x hx
          have := p1 y hy
          omega
    subst e
    rw [up_ext p2 q2 fun k => ?_]
    constructor
    · intro hk
      rcases List.mem_cons.mp ((h k).mp (List.mem_cons_of_mem _ hk)) with e | e
      · subst e
        exact absurd (p1 _ hk) (Int.lt_irrefl _)
      · exact e
    · intro hk
      rcases List.mem_cons.mp ((h k).mpr (List.mem_cons_of_mem _ hk)) with e | e
      · subst e
        exact absurd (q1 _ hk) (Int.lt_irrefl _)
      · exact e
/-- sorted(set(e)), e a list of ints, fewer than 64 -/
theorem fd_sortedSet {p p2 q2 : Pos} {ns out : List Int} (hc : X.calm = true) (hg : Gl X "sorted") (hm : X.mg "sorted" = none) (hg2 : Gl X "set") (hm2 : X.mg "set" = none) (ha : PD X M a σ H (.list (ns.map PyData.int)))
    (hl : ns.length < 64) (ho : out.Pairwise (· < ·)) (hmem : ∀ k, k ∈ out ↔ k ∈ ns)
    (na : starEach [a] X.env = (false, eval a X.env) :: starEach [] X.env := by rfl) : FD X M (.Call (.Name "sorted" p) [.Call (.Name "set" p2) [a] [] q2] [] pos) σ H (out.map PyData.int) := .mk fun H1 e1 al Q q => by
  refine ⟨fun σ H Q => wE X a σ H fun x H1 => ∃ l, x = V.ref l ∧ SqL X.K H1 l (ns.map V.int) ∧ ∀ p, H1 p = none → Q (.ref p) (upd H1 p (.lst (out.map V.int))), ⟨fun pins s σ H Q I h => ?_⟩, ?_⟩
  · refine Call_ (ld_blt I hg hm PyProof.Rows.boot_sorted ?_)
    refine PyProof.Rows.callWith_builtin1 (PyProof.Rows.args_cons ?_ rfl) rfl rfl
    refine Call_ (ld_blt I hg2 hm2 PyProof.Rows.boot_set (PyProof.Rows.callWith_type1 (PyProof.Rows.args_cons (thn (wE.pe.run pins s σ H _ I h) fun v s1 ⟨x, H1, I1, r1, l, e2, hq, q1⟩ => PyProof.Rows.args_nil ?_) na) na rfl))
    subst e2
    cases r1
    obtain ⟨its, r, pl, hz⟩ := I1.list hq
    refine set_ofL ns (I1.ok.hd hc) pl.isList (by simpa using r.ints) (by unfold scanBound; omega) fun g tk c R hcl k => PyProof.Rows.args_nil ?_
    have I2 : Inv X pins σ H1 { s1 with heap := g, toks := tk } := I1.kept k
    refine sorted_set R (I1.ok.hd hc) (by omega) fun s' p o c' ns' k2 g2 o2 hp hgp hi hs hm' hlen => ?_
    have en : ns' = out := up_ext hs ho fun z => by
      rw [hm' z, hmem z]
      exact decide_eq_true_iff
    subst en
    have hn : H1 p = none := I2.hok.fresh hp
    have ln : (ns'.map V.int).length ≤ sizeLine := by
      rw [List.length_map]
      refine Evl.sz_of (Nat.le_trans ?_ (show 64 ≤ 100000 by decide))
      omega
    have J : Inv X pins σ (upd H1 p (.lst (ns'.map V.int))) { ({ s1 with heap := g, toks := tk } : Shared) with heap := s'.heap, gens := s'.gens, drawn := s'.drawn, toks := s'.toks } := I2.call (ch := []) (Un.laid k2 hp hn) (I2.hok.laid k2 hp ⟨ln, o.toList, c', vals_of_ints hi, hgp⟩) (by rw [g2]; exact I2.bare) (fun _ z => nomatch z)
    obtain ⟨hp', g', d', t', os'⟩ := s'
    obtain rfl : os' = s1.os := o2
    exact ⟨.ref p, _, J, rfl, q1 p hn⟩
  · refine ha.run H1 e1 al _ fun v H2 x2 r => ?_
    cases r with
    | lst m hr rs => exact ⟨_, rfl, .inl (by rw [← rs.of_ints]; exact hr), fun p hp => q p _ _ (Evl.fresh_back x2 hp) (x2.trans (Evl.Ex.new hp)) upd_same (RpAll.ints out)⟩
end
end GV

namespace GV
open PySem PySem.Spec PyProof.Rows L2
/-! ### a def of the text that keeps a promise, by its name -/
structure Cl (P : Program) (w : World) (K : PySem.W.Frag) (mg : Str → Option Value) (base : Heap) (CX : CXT) (k : Nat) (x : Str) (sp : Sp) : Prop where
  ex : ∃ (f : Addr) (fd : FuncData) (ps : List Str), FnOk P w K mg base CX k f fd ps sp ∧ mg x = some (.ref f) ∧ PySem.W.keepIn K (.ref f) = true ∧ Binds K fd ps []
section
variable {P : Program} {w : World} {K : PySem.W.Frag} {mg : Str → Option Value} {base : Heap}
/-- where a def stands -/
structure At (K : PySem.W.Frag) (mg : Str → Option Value) (x : Str) (st : Stmt) (f : Addr) (fd : FuncData) : Prop where
  fn : Fun K x x st f fd
  gl : mg x = some (.ref f)
theorem pureR_len {R : List PyData → PyData → Prop} {n : Nat} (hR : ∀ ds d, R ds d → ds.length = n) : ∀ vs H Q E, PureR K R vs H Q E → vs.length = n := fun vs H Q E h => by
  obtain ⟨M, ds, d, al, r, hr, _⟩ := h
  rw [r.length]
  exact hR ds d hr
/-- a pure def -/
theorem cl_pure {x : Str} {st : Stmt} {f : Addr} {fd : FuncData} {N ps : List Str} {k : Nat} {R : List PyData → PyData → Prop} (F : At K mg x st f fd) (S : FnScope N ps (defScope st)) (hb : Binds K fd ps []) (hR : ∀ ds d, R ds d → ds.length = ps.length)
    (body : ∀ (X : Cx) (cdv : Value) (A : Around) (outer : List Env) (s : Shared) (H : Hp) (Q : VK) (E : XK) (M : Addr → Prop) (vs : List V) (ds : List PyData) (d : PyData), X = (cxOf CX0 P w K mg base N x (defScope st) f cdv A outer s H E).nox → Room k X.A → Alive M H → RpAll K M H vs ds → R ds d →
      (∀ v H', Evl.Ex H H' → Rp K M H' v d → Q v H') → wB X (defBody st) { nx := fun _ H' => Q .non H', rt := Q } (L2.start N vs) H) :
    Cl P w K mg base CX0 (k + 1) x (PureR K R) := by
  refine ⟨f, fd, ps, F.fn.ok S (pureR_len hR) (fun cdv A outer s H vs Q E hr h => ⟨_, wB.ps, ?_⟩), F.gl, F.fn.kp, hb⟩
  obtain ⟨M, ds, d, al, r, hr', q⟩ := h
  exact body _ cdv A outer s H Q E M vs ds d rfl hr al r hr' q
end
section
variable {X : Cx} {M : Addr → Prop} {σ : St} {H H' : Hp} {a b c e : Expr} {da db d : PyData} {pos : Pos} {es : List Expr} {ds : List PyData}
theorem pd_callC {R : List PyData → PyData → Prop} {j k : Nat} {x : Str} {p : Pos} (cl : Cl X.prog X.w X.K X.mg X.base CX0 k x (PureR X.K R)) (hr : Room j X.A) (hkj : k ≤ j) (hg : Gl X x) (h : AD X M (e :: es) σ H ds) (hR : R ds d)
    (hdb : (x == ("__debug__" : Str)) = false := by decide) (he : starEach (e :: es) X.env = (false, eval e X.env) :: starEach es X.env := by rfl) (hpl : (backTo pos (starEach es X.env)).any (·.1) = false := by rfl) : PD X M (.Call (.Name x p) (e :: es) [] pos) σ H d := by
  obtain ⟨f, fd, ps, F, hm, hk, hb⟩ := cl.ex
  exact pd_call F (hr.mono hkj) hg hm hk hb pass0 h hR hdb he hpl
/-- .. a def that makes a list -/
def FreshR (K : PySem.W.Frag) (R : List PyData → List PyData → Prop) : Sp := fun vs H Q _ => ∃ M ds es, Alive M H ∧ RpAll K M H vs ds ∧ R ds es ∧ ∀ p ws H', H p = none → Evl.Ex H H' → H' p = some (.lst ws) → RpAll K M H' ws es → Q (.ref p) H'
theorem fd_callC {R : List PyData → List PyData → Prop} {fs : List PyData} {j k : Nat} {x : Str} {p : Pos} (cl : Cl X.prog X.w X.K X.mg X.base CX0 k x (FreshR X.K R)) (hr : Room j X.A) (hkj : k ≤ j) (hg : Gl X x) (h : AD X M (e :: es) σ H ds) (hR : R ds fs)
    (hdb : (x == ("__debug__" : Str)) = false := by decide) (he : starEach (e :: es) X.env = (false, eval e X.env) :: starEach es X.env := by rfl) (hpl : (backTo pos (starEach es X.env)).any (·.1) = false := by rfl) : FD X M (.Call (.Name x p) (e :: es) [] pos) σ H fs := by
  obtain ⟨f, fd, ps, F, hm, hk, hb⟩ := cl.ex
  exact .mk fun H1 e1 al Q q => ⟨_, pe_call F (hr.mono hkj) hg hm hk hb .nil pass0 wA.pa hdb he hpl, h.run H1 e1 al _ fun vs H2 x2 r => by
    rw [List.append_nil]
    exact ⟨M, ds, fs, al.mono x2, r, hR, fun p ws H3 hp x3 h3 rv => q p ws H3 (Evl.fresh_back x2 hp) (x2.trans x3) h3 rv⟩⟩

/-! ### where things change: step by step -/
abbrev M0 : Addr → Prop := fun _ => False
theorem alive0 : Alive M0 H := fun _ z => z.elim
theorem Rp.m0 {K : PySem.W.Frag} {v : V} (r : Rp K M H v d) : Rp K M0 H v d := r.mono (fun _ z => z.elim) (ExM.refl H)
theorem RpAll.m0 {K : PySem.W.Frag} {vs : List V} (r : RpAll K M H vs ds) : RpAll K M0 H vs ds := r.mono (fun _ z => z.elim) (ExM.refl H)
theorem ce_pd {Q : VK} (al : Alive M H) (h : PD X M e σ H d) (q : ∀ v H2, Evl.Ex H H2 → Rp X.K M H2 v d → Q v H2) : wE X e σ H Q := h.run H (ExM.refl H) al Q q
theorem ce_fd {Q : VK} (al : Alive M H) (h : FD X M e σ H ds) (q : ∀ p ws H2, H p = none → Evl.Ex H H2 → H2 p = some (.lst ws) → RpAll X.K M H2 ws ds → Q (.ref p) H2) : wE X e σ H Q := h.run H (ExM.refl H) al Q q
/-! ### comparisons as tests -/
theorem td_cmpR {op : CmpOp} {r : R2} {k : Bool} (ho : OpR X (compareOp op) r) (hm : behindInMarks op b = false) (hr : RD2 X M r da db (.bool k)) (ha : PD X M a σ H da) (hb : PD X M b σ H db) : TD X M (.Compare a [op] [b] pos) σ H k := .mk fun H1 e1 al Q q =>
  ⟨_, pt_cmpR ho wE.pe wE.pe hm, ha.run H1 e1 al _ fun x H2 x2 rx => hb.run H2 (e1.trans (.of x2)) (al.mono x2) _ fun y H3 x3 ry =>
    hr x y H3 (rx.mono (fun _ z => z) (.of x3)) ry ((al.mono x2).mono x3) _ fun v H4 x4 rv => by
      cases rv
      exact ⟨k, rfl, q H4 ((x2.trans x3).trans x4)⟩⟩
theorem td_lt {i j : Int} (ha : PD X M a σ H (.int i)) (hb : PD X M b σ H (.int j)) : TD X M (.Compare a [.Lt] [b] pos) σ H (decide (i < j)) := td_cmpR op_lt (nomark _) rd_B0 ha hb
theorem td_le {i j : Int} (ha : PD X M a σ H (.int i)) (hb : PD X M b σ H (.int j)) : TD X M (.Compare a [.LtE] [b] pos) σ H (decide (i ≤ j)) := td_cmpR op_le (nomark _) rd_B0 ha hb
theorem td_gt {i j : Int} (ha : PD X M a σ H (.int i)) (hb : PD X M b σ H (.int j)) : TD X M (.Compare a [.Gt] [b] pos) σ H (decide (j < i)) := td_cmpR op_gt (nomark _) rd_B0 ha hb
theorem td_ge {i j : Int} (ha : PD X M a σ H (.int i)) (hb : PD X M b σ H (.int j)) : TD X M (.Compare a [.GtE] [b] pos) σ H (decide (j ≤ i)) := td_cmpR op_ge (nomark _) rd_B0 ha hb
theorem rd_eqD (hu : X.A.units + 64 < cLine) (sa : SeqAt.shaped da = true) (sb : SeqAt.shaped db = true) : RD2 X M (rEqD X.K) da db (.bool (PyData.eqv da db)) := fun x y H1 rx ry _ Q q => ⟨da, db, rx.dp, ry.dp, sa, sb, q _ H1 (Evl.Ex.refl H1) (.bl _)⟩
theorem rd_neD (hu : X.A.units + 64 < cLine) (sa : SeqAt.shaped da = true) (sb : SeqAt.shaped db = true) : RD2 X M (rNeD X.K) da db (.bool (!PyData.eqv da db)) := fun x y H1 rx ry _ Q q => ⟨da, db, rx.dp, ry.dp, sa, sb, q _ H1 (Evl.Ex.refl H1) (.bl _)⟩
theorem td_eq (hu : X.A.units + 64 < cLine) (ha : PD X M a σ H da) (hb : PD X M b σ H db) (sa : SeqAt.shaped da = true) (sb : SeqAt.shaped db = true) : TD X M (.Compare a [.Eq] [b] pos) σ H (PyData.eqv da db) := td_cmpR (op_eqD hu) (nomark _) (rd_eqD hu sa sb) ha hb
theorem td_ne (hu : X.A.units + 64 < cLine) (ha : PD X M a σ H da) (hb : PD X M b σ H db) (sa : SeqAt.shaped da = true) (sb : SeqAt.shaped db = true) : TD X M (.Compare a [.NotEq] [b] pos) σ H (!PyData.eqv da db) := td_cmpR (op_neD hu) (nomark _) (rd_neD hu sa sb) ha hb
theorem td_isN {j p2} (ha : PD X M a σ H da) : TD X M (.Compare a [.Is] [.Constant .none j p2] pos) σ H (isNone da) :=
  td_cmpR op_isN (nomark _) (fun x y H1 rx ry _ Q q => by
    cases ry
    exact ⟨rfl, q _ H1 (Evl.Ex.refl H1) (by rw [rx.isN]; exact .bl _)⟩) ha pd_non
theorem td_notN {j p2} (ha : PD X M a σ H da) : TD X M (.Compare a [.IsNot] [.Constant .none j p2] pos) σ H (!isNone da) :=
  td_cmpR op_notN (nomark _) (fun x y H1 rx ry _ Q q => by
    cases ry
    exact ⟨rfl, q _ H1 (Evl.Ex.refl H1) (by rw [rx.isN]; exact .bl _)⟩) ha pd_non
theorem snoc_ind {α : Type} {P : List α → Prop} (h0 : P []) (h1 : ∀ l x, P l → P (l ++ [x])) (l : List α) : P l := by
  have key : ∀ n (l : List α), l.length = n → P l := by
    intro n
    induction n with
    | zero =>
      intro l hl
      rw [List.eq_nil_of_length_eq_zero hl]
      exact h0
    | succ n ih =>
      intro l hl
      have hne : l ≠ [] := fun e => by
        rw [e] at hl
        cases hl
      rw [← List.dropLast_concat_getLast hne]
      refine h1 _ _ (ih _ ?_)
      rw [List.length_dropLast, hl]
      rfl
  exact key _ l rfl
theorem filt_all {α : Type} (l : List α) : (l.filter fun _ => true) = l := List.filter_eq_self.mpr fun _ _ => rfl
/-- [elt for target in iter] -/
theorem fd_map {tg iter : Expr} {t : Tg} {elt : Expr} {scope : Scope} {own : List (Str × Nat)} (f : PyData → PyData) (hc : X.calm = true) (hN : X.N.Nodup) (hi : Src X M tg iter σ H ds) (ok : BlkOk X.N X.env.scope scope own)
    (hg : ∀ s H C cl fp, PG (Cx.lc X s H scope C cl fp) tg (t.g X.K)) (hf : ∀ d ∈ ds, t.Fits d) (hw : ∀ M H d σ', t.Ok X.K M H d (wipe σ (own.map (·.2))) σ' → wipe σ' (own.map (·.2)) = wipe σ (own.map (·.2))) (hl : ds.length ≤ 100000)
    (body : ∀ s0 H0 C cl fp M' H' d σ', (∀ a, M a → M' a) → (∀ v e, Rp X.K M H v e → Rp X.K M' H' v e) → d ∈ ds → t.Ok X.K M' H' d (wipe σ (own.map (·.2))) σ' → PD (Cx.lc X s0 H0 scope C cl fp) M' elt σ' H' (f d))
    (hs : ∀ x, foldedSetIterable iter X.env x = pure x := by intro _; rfl) : FD X M (.ListComp elt [⟨tg, iter, [], 0⟩] scope pos) σ H (ds.map f) := by
  have h := fd_lc (pos := pos) hc hN hi ok hg hf hw (fun _ => true) f hl (fun s0 H0 C cl fp M' H' d σ' hM lift hd hok => ⟨tsd_nil, fun _ => body s0 H0 C cl fp M' H' d σ' hM lift hd hok⟩) hs
  rwa [filt_all] at h
/-- [elt for target in iter if test] -/
theorem fd_filter {tg iter tst : Expr} {t : Tg} {elt : Expr} {scope : Scope} {own : List (Str × Nat)} (p : PyData → Bool) (f : PyData → PyData) (hc : X.calm = true) (hN : X.N.Nodup) (hi : Src X M tg iter σ H ds) (ok : BlkOk X.N X.env.scope scope own)
    (hg : ∀ s H C cl fp, PG (Cx.lc X s H scope C cl fp) tg (t.g X.K)) (hf : ∀ d ∈ ds, t.Fits d) (hw : ∀ M H d σ', t.Ok X.K M H d (wipe σ (own.map (·.2))) σ' → wipe σ' (own.map (·.2)) = wipe σ (own.map (·.2))) (hl : ds.length ≤ 100000)
    (body : ∀ s0 H0 C cl fp M' H' d σ', (∀ a, M a → M' a) → (∀ v e, Rp X.K M H v e → Rp X.K M' H' v e) → d ∈ ds → t.Ok X.K M' H' d (wipe σ (own.map (·.2))) σ' → TD (Cx.lc X s0 H0 scope C cl fp) M' tst σ' H' (p d) ∧ PD (Cx.lc X s0 H0 scope C cl fp) M' elt σ' H' (f d))
    (hs : ∀ x, foldedSetIterable iter X.env x = pure x := by intro _; rfl) : FD X M (.ListComp elt [⟨tg, iter, [tst], 0⟩] scope pos) σ H ((ds.filter p).map f) :=
  fd_lc hc hN hi ok hg hf hw p f hl (fun s0 H0 C cl fp M' H' d σ' hM lift hd hok => let ⟨h1, h2⟩ := body s0 H0 C cl fp M' H' d σ' hM lift hd hok; ⟨tsd_one h1, fun _ => h2⟩) hs
/-- the name in slot i, by what is known of its value -/
theorem nm (i : Nat) {x : Str} {v : V} (r : Rp X.K M H v d) (hN : X.N[i]? = some x := by rfl) (hv : Vis X.env.scope x := by first | exact .inl rfl | exact .inr (.inl rfl) | exact .inr (.inr rfl)) (hs : σ[i]? = some (some v) := by rfl)
    (hd : (x == ("__debug__" : Str)) = false := by decide) (hcd : (x == ("__classdict__" : Str)) = false := by decide) : PD X M (.Name x pos) σ H d := pd_name hN hv hs r hd hcd
theorem ce_name {i : Nat} {x : Str} {v : V} {Q : VK} (hN : X.N[i]? = some x) (hv : Vis X.env.scope x) (hs : σ[i]? = some (some v)) (q : Q v H)
    (hd : (x == ("__debug__" : Str)) = false := by decide) (hcd : (x == ("__classdict__" : Str)) = false := by decide) : wE X (.Name x pos) σ H Q := ⟨_, pe_var hN hv hd hcd, v, hs, q⟩
theorem ca_nil {Q : List V → Hp → Prop} (q : Q [] H) : wA X [] σ H Q := ⟨_, pa_nil, q⟩
theorem ca_cons {Q : List V → Hp → Prop} (h : wE X e σ H fun v H2 => wA X es σ H2 fun vs H3 => Q (v :: vs) H3) (hs : starEach (e :: es) X.env = (false, eval e X.env) :: starEach es X.env := by rfl) : wA X (e :: es) σ H Q := ⟨_, pa_cons wE.pe wA.pa hs, h⟩
theorem ce_bin {op : Operator} {r : R2} {Q : VK} (ho : OpR X (binaryOp op) r) (h : wE X a σ H fun x H2 => wE X b σ H2 fun y H3 => r x y H3 Q) : wE X (.BinOp a op b pos) σ H Q := ⟨_, pe_op ho wE.pe wE.pe, h⟩
theorem ce_add {Q : VK} (h : wE X a σ H fun x H2 => wE X b σ H2 fun y H3 => ∃ i j, x = .int i ∧ y = .int j ∧ Q (.int (i + j)) H3) : wE X (.BinOp a .Add b pos) σ H Q := ce_bin op_add h
theorem ce_sub {Q : VK} (h : wE X a σ H fun x H2 => wE X b σ H2 fun y H3 => ∃ i j, x = .int i ∧ y = .int j ∧ Q (.int (i - j)) H3) : wE X (.BinOp a .Sub b pos) σ H Q := ce_bin op_sub h
theorem ce_call {sp : Sp} {Q : VK} {j k : Nat} {x : Str} {p : Pos} (cl : Cl X.prog X.w X.K X.mg X.base CX0 k x sp) (hr : Room j X.A) (hkj : k ≤ j) (hg : Gl X x) (h : wA X (e :: es) σ H fun vs H2 => sp vs H2 Q E0)
    (hdb : (x == ("__debug__" : Str)) = false := by decide) (he : starEach (e :: es) X.env = (false, eval e X.env) :: starEach es X.env := by rfl) (hpl : (backTo pos (starEach es X.env)).any (·.1) = false := by rfl) : wE X (.Call (.Name x p) (e :: es) [] pos) σ H Q := by
  obtain ⟨f, fd, ps, F, hm, hk, hb⟩ := cl.ex
  refine ⟨_, pe_call F (hr.mono hkj) hg hm hk hb .nil pass0 wA.pa hdb he hpl, ?_⟩
  obtain ⟨t, h1, h2⟩ := h
  refine ⟨t, h1, ?_⟩
  have e1 : (fun vs H1 => sp (vs ++ []) H1 Q E0) = fun vs H1 => sp vs H1 Q E0 := by
    funext vs H1
    rw [List.append_nil]
  rw [e1]
  exact h2
theorem ce_ix {Q : VK} (h : wE X a σ H fun x H2 => wE X b σ H2 fun y H3 => rIx X.K x y H3 Q) (hs : PlainIx b := by exact fun _ _ => rfl) : wE X (.Subscript a b pos) σ H Q := ⟨_, pe_ix ix_seq wE.pe wE.pe hs, h⟩
/-- an item of a datum, by values -/
theorem rIx_of {K : PySem.W.Frag} {x : V} {i : Int} {Q : VK} (r : Rp K M H x da) (h : ixD da (.int i) = some d) (q : ∀ v, Rp K M H v d → Q v H) : rIx K x (.int i) H Q := by
  cases r with
  | lst m hs rs =>
    obtain ⟨v, hv, rv⟩ := atI_rp rs h
    exact .inl ⟨_, _, i, v, rfl, rfl, .inl hs, hv, q v rv⟩
  | tup m hs rs =>
    obtain ⟨v, hv, rv⟩ := atI_rp rs h
    exact .inr (.inl ⟨_, _, i, v, rfl, rfl, .inl hs, hv, q v rv⟩)
  | str z =>
    simp only [ixD] at h
    split at h
    · rename_i hz
      cases e : atI z.cps.toList i with
      | none =>
        rw [e] at h
        cases h
      | some c =>
        rw [e] at h
        cases h
        exact .inr (.inr ⟨z, i, c, rfl, rfl, hz, e, q _ (.str _)⟩)
    · cases h
  | _ => cases h
end
section
variable {X : Cx} {M : Addr → Prop} {σ : St} {H H' : Hp} {c e o ix : Expr} {d : PyData} {pos : Pos} {st : Stmt} {sts A B : List Stmt} {D : Ends}
theorem cs_set {i : Nat} {x : Str} {p : Pos} (hN : X.N.Nodup) (hi : X.N[i]? = some x) (hx : Loc X.env.scope x) (h : wE X e σ H fun v H2 => D.nx (σ.set i (some v)) H2)
    (hs : swapsWith e (some (.Name x p)) pos.line X.env = pure false := by rfl) (hf : X.fn x = true ∨ X.env.scope.names.lookup x = some .local := by first | exact .inl rfl | exact .inr rfl | assumption) : wS X (.Assign [.Name x p] e pos) D σ H := ⟨_, ps_set hN hi hx wE.pe hs hf, h⟩
theorem cs_ret (h : wE X e σ H D.rt) : wS X (.Return (some e) pos) D σ H := ⟨_, ps_ret wE.pe, h⟩
theorem cs_expr (h : wE X e σ H fun _ H2 => D.nx σ H2) (hs : swapsWith e none pos.line X.env = pure false := by rfl) : wS X (.Expr e pos) D σ H := ⟨_, ps_expr wE.pe hs, h⟩
/-- o[ix] = e -/
theorem cs_sub {p : Pos} (h : wE X e σ H fun v H1 => wE X o σ H1 fun x H2 => wE X ix σ H2 fun y H3 => rSetL x y v H3 fun H4 => D.nx σ H4)
    (ha : ∀ v, assign (.Subscript o ix p) X.env v = (do
      let ov ← holding [v] (eval o X.env)
      let iv ← holding [v, ov] (eval ix X.env)
      standAt p
      holding [v, ov, iv] (setItem ov iv v)
      release [v, ov, iv] []) := by intro _; rfl)
    (hs : swapsWithSole [.Subscript o ix p] e pos.line X.env = pure false := by rfl) (hw : swappedStores [.Subscript o ix p] e X.env = pure none := by rfl)
    (h1 : (assignEach [.Subscript o ix p] X.env).map (·.2) = [assign (.Subscript o ix p) X.env] := by rfl) : wS X (.Assign [.Subscript o ix p] e pos) D σ H :=
  ⟨_, ps_asg wE.pe (pg_sub wE.pe wE.pe set_list ha) hs hw h1, h⟩
end
end GV

namespace GV
open PySem PySem.Spec PyProof.Rows L2
/-! ### own errors -/
/-- what the __init__ of an error keeps: its arguments, by these names -/
def spInit (C : Addr) (fl : List Str) : Sp := fun vs H Q _ => ∃ (a : Addr) (xs : List V), vs = .ref a :: xs ∧ xs.length = fl.length ∧ H a = some (exo a C none) ∧
  ∀ H' d, (∀ b o, H b = some o → b ≠ a → H' b = some o) → H d = none → d ≠ a → H' a = some (exo a C (some d)) → H' d = some (exd d (fl.zip xs).reverse) → Q .non H'
structure ErrC (P : Program) (w : World) (K : PySem.W.Frag) (mg : Str → Option Value) (base : Heap) (x : Str) (C : Addr) (fl : List Str) : Prop where
  gC : mg x = some (.ref C)
  oex : OexC K C
  xf : XfC K C
  no : ∀ f ∈ fl, PySem.W.findIn K (.ref C) f = some none
  init : ∃ (fI : Addr) (fd : FuncData) (ps : List Str), PySem.W.findIn K (.ref C) "__init__" = some (some (.ref fI)) ∧ PySem.W.typeIn K (.ref fI) = some (.type "function") ∧ FnOk P w K mg base CX0 1 fI fd ps (spInit C fl) ∧ Binds K fd ps []
/-- what a raised one leaves: a new dict that holds the arguments -/
def Raised (C : Addr) (fs : List (Str × V)) (H : Hp) (E : XK) : Prop := ∀ d H', H d = none → Evl.Ex H H' → H' d = some (.xd fs) → E (.ref C) (some d) H'
section
variable {X : Cx} {σ : St} {H : Hp} {D : Ends} {e : Expr} {es : List Expr}
theorem s_raise {W : WX} {x : Str} {C : Addr} {fl : List Str} {p pos pos2 : Pos} (hc : X.calm = true) (er : ErrC X.prog X.w X.K X.mg X.base x C fl) (hr : Room 2 X.A) (tk : Takes X W) (hg : Gl X x)
    (h : wA X (e :: es) σ H fun vs H1 => vs.length = fl.length ∧ vs.length ≤ 1000 ∧ Raised C (fl.zip vs).reverse H1 fun cls d H' => W cls d σ H')
    (hdb : (x == ("__debug__" : Str)) = false := by decide) (he : starEach (e :: es) X.env = (false, eval e X.env) :: starEach es X.env := by rfl) (hpl : (backTo pos (starEach es X.env)).any (·.1) = false := by rfl) :
    wS X (.Raise (some (.Call (.Name x p) (e :: es) [] pos)) none pos2) D σ H := by
  obtain ⟨fI, fd, ps, iC, tI, F1, hb⟩ := er.init
  obtain ⟨t, pa, q⟩ := h
  -- the arguments' own reading, with what is wanted behind it
  refine ⟨_, ps_raise hc tk (pmk_oex (k := 1) (dvs := []) (ds := []) er.oex iC tI F1 hr hb .nil pass0 hg er.gC (ta := fun σ H Q => ∃ Q0, t σ H Q0 ∧ ∀ vs H1, Q0 vs H1 → Q vs H1) ⟨fun pos pins s σ H Q I ⟨Q0, h0, imp⟩ => wpAny_mono (pa.run pos pins s σ H Q0 I h0) (fun us s1 ⟨vs, H1, I1, r1, q1⟩ => ⟨vs, H1, I1, r1, imp vs H1 q1⟩) fun _ _ z => z⟩ hdb he hpl), _, q, fun vs H1 ⟨hl, h1000, hR⟩ => ?_⟩
  refine ⟨h1000, fun a na => ⟨a, vs, by rw [List.append_nil], hl, upd_same, fun H' d k nd da ea ed => ⟨rfl, d, _, ea, ed, ?_, ?_⟩⟩⟩
  · rwa [upd_ne da] at nd
  · rw [upd_ne da] at nd
    refine hR d _ nd (fun b o hb' => ?_) upd_same
    rw [upd_ne (ne_of_none hb' nd), del_ne (ne_of_none hb' na)]
    exact k b o (by rw [upd_ne (ne_of_none hb' na)]; exact hb') (ne_of_none hb' na)
end
end GV

namespace GV
open PySem PySem.Spec PyProof.Rows L2
/-! ### try with clauses that may keep the exception by a name -/
abbrev HdT := Addr → Value → Option Addr → TS
/-- where a clause with a name goes on: the name is gone -/
def Ends.less (D : Ends) (i : Nat) : Ends := { nx := fun σ' H' => D.nx (σ'.set i none) H', rt := D.rt, bk := fun σ' H' => D.bk (σ'.set i none) H', ct := fun σ' H' => D.ct (σ'.set i none) H' }
/-- which clause takes an exception, and what it must do then -/
def wHs (K : PySem.W.Frag) (Wout : WX) (D : Ends) : List (Value × Option Nat × HdT) → WX
  | [] => Wout
  | (c, o, ts) :: r => fun cls d σ H => ∃ b, PySem.W.exmOne K cls c = some b ∧
      (b = true → ∀ a, H a = none → match o with
        | none => ts a cls d D σ H
        | some i => i < σ.length → ts a cls d (Ends.less D i) (σ.set i (some (.ref a))) H) ∧
      (b = false → wHs K Wout D r cls d σ H)
inductive Hds (X : Cx) : List ExceptHandler → List (Value × Option Nat × HdT) → Prop
  | nil : Hds X [] []
  | one {x : Str} {c : Value} {ts : HdT} {b₀ : Stmt} {suite : List Stmt} {np p : Pos} {hs l} : Names X x c →
      (∀ a oe cls d pn, Zc cls d oe → (∃ vs, oe.data = .fields vs) → PSs (X.suite a ((a, oe) :: pn)) (b₀ :: suite) (ts a cls d)) → Hds X hs l →
      Hds X (.ExceptHandler (some (.Name x np)) none (b₀ :: suite) p :: hs) ((c, none, ts) :: l)
  | as_ {x n : Str} {i : Nat} {c : Value} {ts : HdT} {b₀ : Stmt} {suite : List Stmt} {np p : Pos} {hs l} : Names X x c → X.N[i]? = some n → X.env.kindOf n = some .local →
      (∀ a oe cls d pn, Zc cls d oe → (∃ vs, oe.data = .fields vs) → PSs (X.suite a ((a, oe) :: pn)) (b₀ :: suite) (ts a cls d)) → Hds X hs l →
      Hds X (.ExceptHandler (some (.Name x np)) (some n) (b₀ :: suite) p :: hs) ((c, some i, ts) :: l)
theorem ps_tryAs {X : Cx} {body : List Stmt} {h₀ : ExceptHandler} {hds : List ExceptHandler} {l : List (Value × Option Nat × HdT)} {pos : Pos} {tb : WX → TS} {Wout : WX} (hs : X.stack = X.env :: X.outer) (hf : X.env.frame = some X.env.locals) (hN : X.N.Nodup) (tk : Takes X Wout)
    (hb : ∀ (W : WX) (pn : List (Addr × Obj)) (xe : Value → Shared → Prop), Takes (X.tr pn xe) W → PassesOwn (model X.prog X.w) X.A X.env xe → PSs (X.tr pn xe) body (tb W)) (hh : Hds X (h₀ :: hds) l) :
    PS X (.Try body (h₀ :: hds) [] [] pos) fun D σ H => tb (wHs X.K Wout D l) D σ H := by
  constructor
  intro pins s σ H D I h
  have ok := I.ok
  have hfr : X.A.frames = some (X.env :: X.outer) := by
    rw [ok.frames, hs]
  refine wpAny_Try_except (wpAny_mono ((hb (wHs X.K Wout D l) (X.pn ++ pins) _ ?_ PassesOwn.looking).run [] s σ H D (I.toTry _) h) ?_ fun e s1 he => he)
  · rintro u s' ⟨a, B, sI, pins', σ', H', cls, d, rfl, J', nb, up, sky, na, os, ag, w⟩
    have J := J'.ofTry ok
    have sky' : Sky B (X.env :: X.outer) a (Zc cls d) X.env.locals s'.heap := by
      rw [← hs]
      exact sky
    refine Sky.land Zc.steady hfr hf sky' fun h3 fl3 up3 => ?_
    have J3 := J.landed (s' := { heap := h3, gens := s'.gens, drawn := s'.drawn, toks := s'.toks, os := s'.os }) nb fl3.1 (up.trans up3) os ag
    obtain ⟨oe3, vs3, he3, hz3, hd3⟩ := fl3.there
    have nfr : ¬ a ∈ List.filterMap (fun x => x.frame) (X.env :: X.outer) := fun hm => by
      obtain ⟨_, o', e', hnf⟩ := fl3.2.2.1.mem hm
      have e2 : some oe3 = some o' := he3.symm.trans e'
      cases e2
      exact hnf _ hd3
    have nL : a ≠ X.env.locals := fun z => nfr (List.mem_filterMap.mpr ⟨X.env, List.mem_cons_self, by rw [hf, z]⟩)
    have nF : ¬ a ∈ X.fs := fun hm => by
      obtain ⟨e, he, q⟩ := List.mem_filterMap.mp hm
      exact nfr (List.mem_filterMap.mpr ⟨e, List.mem_cons_of_mem _ he, q⟩)
    have S3 := J3.suite he3 hd3 na nL nF
    have go : ∀ {hs' l'}, Hds X hs' l' → wHs X.K Wout D l' cls d σ' H' → wpAny (model X.prog X.w) X.A (handleBy (.ref a) X.env hs') (SP X pins D) X.xe { heap := h3, gens := s'.gens, drawn := s'.drawn, toks := s'.toks, os := s'.os } := by
      intro hs' l' hk
      have LT : ∀ (c : Value) (b : Bool), PySem.W.exmOne X.K cls c = some b → PySem.W.Looks (model X.prog X.w) h3 (excMatches (.ref a) c) b := fun c b hb1 => PySem.W.exm_one J3.kIn (fun A Q E s k q => wpAny_typeOf_ref (k a oe3 he3) (by rw [hz3.1]; exact q)) hb1
      have test : ∀ {x : Str} {c : Value} {np : Pos} {Q : Value → Shared → Prop} {E : Value → Shared → Prop}, Names X x c → Q c { heap := h3, gens := s'.gens, drawn := s'.drawn, toks := s'.toks, os := s'.os } → wpAny (model X.prog X.w) (X.A.mark (some (.ref a))) (eval (.Name x np) X.env) Q E { heap := h3, gens := s'.gens, drawn := s'.drawn, toks := s'.toks, os := s'.os } := by
        intro x c np Q E hc q
        obtain ⟨hg, hdbg, hm | ⟨hm, hv, hnn⟩⟩ := hc
        · exact ld_glob S3 hg hm q hdbg
        · exact ld_blt S3 hg hm hv q hnn hdbg
      induction hk with
      | nil =>
        intro w
        refine wpAny_handleBy_nil ?_
        obtain ⟨k1, k2, k3, oe, vs, T, oT, ts', he, hz, hd, h1, hr⟩ := id fl3
        refine wpAny_bind (wpAny_field he hd h1 ?_)
        rw [if_neg (by simp)]
        refine wpAny_bind ?_
        rw [hf]
        exact HandSPX.setFlight_upZ fl3 fun h4 hh4 up4 => wpAny_throw (tk (.ref a) _ ⟨a, B, sI, pins, σ', H', cls, d, rfl, J, nb, (up.trans up3).trans up4, .inr (.inr (by rw [hs]; exact hh4)), na, os, ag, w⟩)
      | one hc hsu r ih =>
        rintro ⟨b, hb1, hyes, hno⟩
        refine wpAny_handleBy_cons (codeAny_handlers_test (test hc (PySem.W.Looks.here (LT _ _ hb1) ?_))) (fun q => by cases q)
        cases b with
        | false => exact ih (hno rfl)
        | true =>
          refine codeAny_handlers_suite (HandSPX.lands_againZ fl3 fun h4 fl4 up4 => ?_)
          have J4 := J.landed (s' := { heap := h4, gens := s'.gens, drawn := s'.drawn, toks := s'.toks, os := s'.os }) nb fl4.1 ((up.trans up3).trans up4) os ag
          obtain ⟨oe4, vs4, he4, hz4, hd4⟩ := fl4.there
          have S4 := J4.suite he4 hd4 na nL nF
          refine wpAny_mono ((hsu a oe4 cls d (X.pn ++ pins) hz4 ⟨vs4, hd4⟩).run [] _ σ' H' D S4 (hyes rfl a na)) (fun f s6 hsp => ?_) fun _ _ z => z.elim
          show SP X pins D f s6
          cases f with
          | ret u =>
            obtain ⟨v6, σ6, H6, S6, r6, q6⟩ := hsp
            exact ⟨v6, σ6, H6, S6.unsuite ok, r6, q6⟩
          | _ =>
            obtain ⟨σ6, H6, S6, q6⟩ := hsp
            exact ⟨σ6, H6, S6.unsuite ok, q6⟩
      | as_ hc hi hln hsu r ih =>
        rintro ⟨b, hb1, hyes, hno⟩
        refine wpAny_handleBy_cons (codeAny_handlers_test (test hc (PySem.W.Looks.here (LT _ _ hb1) ?_))) (fun q => by cases q)
        cases b with
        | false => exact ih (hno rfl)
        | true =>
          refine codeAny_handlers_suite_as (HandSPX.lands_againZ fl3 fun h4 fl4 up4 => ?_)
          have J4 := J.landed (s' := { heap := h4, gens := s'.gens, drawn := s'.drawn, toks := s'.toks, os := s'.os }) nb fl4.1 ((up.trans up3).trans up4) os ag
          obtain ⟨oe4, vs4, he4, hz4, hd4⟩ := fl4.there
          have S4 := J4.suite he4 hd4 na nL nF
          refine store_ok (X := X.suite a ((a, oe4) :: (X.pn ++ pins))) (v := .ref a) S4 hN hi (.inl hln) rfl (fun s5 S5 => ?_) (.inr hln)
          refine wpAny_mono ((hsu a oe4 cls d (X.pn ++ pins) hz4 ⟨vs4, hd4⟩).run [] s5 _ H' _ S5 (hyes rfl a na (by rw [J.len]; exact (List.getElem?_eq_some_iff.mp hi).1))) (fun f s6 hsp => ?_) fun _ _ z => z.elim
          cases f with
          | ret u =>
            obtain ⟨v6, σ6, H6, S6, r6, q6⟩ := hsp
            exact gone_ok (S6.unsuite ok) hN hi hln fun s7 J7 => ⟨v6, _, H6, J7, r6, q6⟩
          | _ =>
            obtain ⟨σ6, H6, S6, q6⟩ := hsp
            exact gone_ok (S6.unsuite ok) hN hi hln fun s7 J7 => ⟨_, H6, J7, q6⟩
    exact go hh w
  · intro f s1 hsp
    cases f with
    | ret u =>
      obtain ⟨v, σ', H', J', r, q⟩ := hsp
      exact ⟨v, σ', H', J'.ofTry ok, r, q⟩
    | next =>
      obtain ⟨σ', H', J', q⟩ := hsp
      exact wpAny_execs_nil ⟨σ', H', J'.ofTry ok, q⟩
    | _ =>
      obtain ⟨σ', H', J', q⟩ := hsp
      exact ⟨σ', H', J'.ofTry ok, q⟩
end GV

namespace GV
open PySem PySem.Spec PyProof.Rows L2
/-! ### an own error without a word -/
theorem pmk_own0 {X : Cx} {pos : Pos} {C : Addr} {bmB : List Value} {B newId initId : String} {x : Str} {p : Pos} (F : ExcBaseFacts B newId initId bmB) (q : PySem.W.excIn X.K C bmB newId = true) (gC : X.mg x = some (.ref C)) (kC : PySem.W.keepIn X.K (.ref C) = true) (r : Raises X (.ref C)) (hg : Gl X x)
    (hdb : (x == ("__debug__" : Str)) = false := by decide) : PMk X (.Call (.Name x p) [] [] pos) fun σ H Q => Q (.ref C) none H := by
  intro pins s σ H Q I h
  refine wpAny_Call_Name_kw ?_
  refine ld_glob I hg gC ?_ hdb
  refine PySem.W.callWith_K0 (env := X.env) (first := []) I.kIn kC ?_
  obtain ⟨bm, N, nm, qn, bs, hdct, sn, sub, ab, col, dd, k0, k1, k2, k3, k5, mN, hC, hN, hni, T⟩ := exc_obj I.kIn q
  exact wpAny_call_exc_subT F T hC hN hni (fun h' e hm => mk_of I hm r h (HOk.gone I.hok hm.new)) (Nat.zero_le _)
/-- an error class whose objects are made without words -/
structure Err0 (K : PySem.W.Frag) (mg : Str → Option Value) (x : Str) (C : Addr) : Prop where
  gC : mg x = some (.ref C)
  ex : PySem.W.excIn K C [.type "ValueError", .type "Exception", .type "BaseException", .type "object"] "ValueError.__new__" = true
  kC : PySem.W.keepIn K (.ref C) = true
  exC : PySem.W.subIn K (.ref C) (.type "BaseException") = some true
  tyC : PySem.W.typeIn K (.ref C) = some (.type "type")
theorem s_raise0 {X : Cx} {σ : St} {H : Hp} {D : Ends} {W : WX} {x : Str} {C : Addr} {p pos pos2 : Pos} (hc : X.calm = true) (er : Err0 X.K X.mg x C) (tk : Takes X W) (hg : Gl X x) (h : W (.ref C) none σ H) (hdb : (x == ("__debug__" : Str)) = false := by decide) :
    wS X (.Raise (some (.Call (.Name x p) [] [] pos)) none pos2) D σ H := ⟨_, ps_raise hc tk (pmk_own0 F.excBase_ValueError er.ex er.gC er.kC (raises_own er.exC er.tyC) hg hdb), h⟩
end GV

namespace GV
open PySem PySem.Spec PyProof.Rows L2
/-! ### objects: fields, methods, properties -/
/-- e names what stands at a -/
def AtN (X : Cx) (σ : St) (e : Expr) (a : Addr) : Prop := ∀ H1 (Q : VK), Q (.ref a) H1 → wE X e σ H1 Q
section
variable {X : Cx} {M : Addr → Prop} {σ : St} {H H' : Hp} {a b c e o : Expr} {da db d : PyData} {pos : Pos} {es : List Expr} {ds : List PyData} {D : Ends}
theorem AtN.name {i : Nat} {x : Str} {p : Addr} (hN : X.N[i]? = some x) (hv : Vis X.env.scope x) (hs : σ[i]? = some (some (.ref p)))
    (hd : (x == ("__debug__" : Str)) = false := by decide) (hcd : (x == ("__classdict__" : Str)) = false := by decide) : AtN X σ (.Name x pos) p := fun H1 Q q => ce_name hN hv hs q hd hcd
theorem pd_fld {f : Str} {p C dx : Addr} {fs : List (Str × V)} {v : V} (hn : AtN X σ e p) (m : ¬ M p) (hp : H p = some (.ins C dx fs)) (c : Cls X.K C) (n : NoAttr X.K C f) (hf : fs.lookup f = some v) (r : Rp X.K M H v d)
    (hb : attributeBase e f X.env (eval e X.env) = eval e X.env := by rfl) : PD X M (.Attribute e f pos) σ H d := .mk fun H1 e1 al Q q =>
  ⟨_, pe_fld wE.pe hb, hn _ _ ⟨p, C, dx, fs, v, rfl, e1 _ _ hp m (fun _ z => by cases z), c, n, hf, q v H1 (Evl.Ex.refl H1) (r.mono (fun _ z => z) e1)⟩⟩
theorem AtN.fld {f : Str} {p s C dx : Addr} {fs : List (Str × V)} (hn : AtN X σ e p) (c : Cls X.K C) (n : NoAttr X.K C f) (hf : fs.lookup f = some (.ref s)) {Q : VK} (hp : H p = some (.ins C dx fs)) (q : Q (.ref s) H)
    (hb : attributeBase e f X.env (eval e X.env) = eval e X.env := by rfl) : wE X (.Attribute e f pos) σ H Q := ⟨_, pe_fld wE.pe hb, hn _ _ ⟨p, C, dx, fs, _, rfl, hp, c, n, hf, q⟩⟩
/-- o.append(e) -/
theorem ce_append {apos cpos : Pos} {Q : VK} (h : wE X o σ H fun x H1 => ∃ l xs, x = .ref l ∧ H1 l = some (.lst xs) ∧ wE X e σ H1 fun y H2 => ∃ ys, H2 l = some (.lst ys) ∧ ys.length < 100000 ∧ Q .non (upd H2 l (.lst (ys ++ [y]))))
    (h1 : attributeBase o ("append" : Str) X.env (eval o X.env) = eval o X.env := by rfl)
    (h2 : ((((backTo cpos (starEach (e :: []) X.env)).all fun x => !x.1) && (backToKw cpos (keywordEach [] X.env)).all fun x => x.1.isSome) && decide (((e :: []).length + ([] : List Keyword).length + if ([] : List Keyword).isEmpty = true then 0 else 1) < 30)) = true := by rfl)
    (h3 : (apos.endLine == cpos.line) = true := by rfl) (h4 : starEach (e :: []) X.env = (false, eval e X.env) :: starEach [] X.env := by rfl) (h5 : (backTo cpos (starEach [] X.env)).any (·.1) = false := by rfl) :
    wE X (.Call (.Attribute o "append" apos) [e] [] cpos) σ H Q := by
  refine ⟨_, pe_bm PySem.F.plainAttrs_list PySem.F.slot_list_append PySem.F.type_list_append mt_append wE.pe wA.pa h1 h2 h3 h4 h5, ?_⟩
  obtain ⟨t, p, q⟩ := h
  refine ⟨fun σ H Q => ∃ Q0, t σ H Q0 ∧ ∀ x H1, Q0 x H1 → Q x H1, ⟨fun pins s σ H Q I ⟨Q0, h0, imp⟩ => wpAny_mono (p.run pins s σ H Q0 I h0) (fun us s1 ⟨v, H1, I1, r1, q1⟩ => ⟨v, H1, I1, r1, imp v H1 q1⟩) fun _ _ z => z⟩, _, q, ?_⟩
  rintro x H1 ⟨l, xs, rfl, hl, h2⟩
  refine ⟨.inl ⟨rfl, _, SqL.of hl⟩, ?_⟩
  obtain ⟨t2, p2, q2⟩ := h2
  refine ⟨_, pa_cons (te := fun σ H Q => ∃ Q0, t2 σ H Q0 ∧ ∀ x H1, Q0 x H1 → Q x H1) ⟨fun pins s σ H Q I ⟨Q0, h0, imp⟩ => wpAny_mono (p2.run pins s σ H Q0 I h0) (fun us s1 ⟨v, H1, I1, r1, q1⟩ => ⟨v, H1, I1, r1, imp v H1 q1⟩) fun _ _ z => z⟩ pa_nil h4, _, q2, ?_⟩
  rintro y H2 ⟨ys, hy, hlen, hq⟩
  exact ⟨l, ys, y, rfl, rfl, hy, Nat.lt_of_lt_of_le hlen (by rw [sizeLine_eq]; decide), hq⟩
/-- o.pop() -/
theorem ce_pop {apos cpos : Pos} {Q : VK} {l : Addr} {xs : List V} {y : V} (h : wE X o σ H fun x H1 => x = .ref l ∧ H1 l = some (.lst (xs ++ [y])) ∧ Q y (upd H1 l (.lst xs)))
    (h1 : attributeBase o ("pop" : Str) X.env (eval o X.env) = eval o X.env := by rfl) (h3 : (apos.endLine == cpos.line) = true := by rfl) : wE X (.Call (.Attribute o "pop" apos) [] [] cpos) σ H Q := by
  refine ⟨_, pe_bm0 PySem.F.plainAttrs_list PySem.F.slot_list_pop PySem.F.type_list_pop mt_pop wE.pe h1 h3, ?_⟩
  obtain ⟨t, p, q⟩ := h
  refine ⟨fun σ H Q => ∃ Q0, t σ H Q0 ∧ ∀ x H1, Q0 x H1 → Q x H1, ⟨fun pins s σ H Q I ⟨Q0, h0, imp⟩ => wpAny_mono (p.run pins s σ H Q0 I h0) (fun us s1 ⟨v, H1, I1, r1, q1⟩ => ⟨v, H1, I1, r1, imp v H1 q1⟩) fun _ _ z => z⟩, _, q, ?_⟩
  rintro x H1 ⟨rfl, hl, hq⟩
  refine ⟨.inl ⟨rfl, _, SqL.of hl⟩, l, _, y, rfl, rfl, hl, ?_, ?_⟩
  · simp
  · rw [List.dropLast_concat]
    exact hq
/-- o.reverse() -/
theorem ce_reverse {apos cpos : Pos} {Q : VK} {l : Addr} {xs : List V} (h : wE X o σ H fun x H1 => x = .ref l ∧ H1 l = some (.lst xs) ∧ Q .non (upd H1 l (.lst xs.reverse)))
    (h1 : attributeBase o ("reverse" : Str) X.env (eval o X.env) = eval o X.env := by rfl) (h3 : (apos.endLine == cpos.line) = true := by rfl) : wE X (.Call (.Attribute o "reverse" apos) [] [] cpos) σ H Q := by
  refine ⟨_, pe_bm0 PySem.F.plainAttrs_list PySem.F.slot_list_reverse PySem.F.type_list_reverse mt_reverse wE.pe h1 h3, ?_⟩
  obtain ⟨t, p, q⟩ := h
  refine ⟨fun σ H Q => ∃ Q0, t σ H Q0 ∧ ∀ x H1, Q0 x H1 → Q x H1, ⟨fun pins s σ H Q I ⟨Q0, h0, imp⟩ => wpAny_mono (p.run pins s σ H Q0 I h0) (fun us s1 ⟨v, H1, I1, r1, q1⟩ => ⟨v, H1, I1, r1, imp v H1 q1⟩) fun _ _ z => z⟩, _, q, ?_⟩
  rintro x H1 ⟨rfl, hl, hq⟩
  exact ⟨.inl ⟨rfl, _, SqL.of hl⟩, l, _, rfl, rfl, hl, hq⟩
end
/-! ### which data hold no list, so that no change reaches them -/
mutual
def flat : PyData → Bool
  | .list _ => false
  | .dict _ => false
  | .tuple ds => flats ds
  | _ => true
def flats : List PyData → Bool
  | [] => true
  | d :: ds => flat d && flats ds
end
section
variable {K : PySem.W.Frag} {M M' : Addr → Prop} {H H' : Hp}
def Lists (M : Addr → Prop) (H : Hp) : Prop := ∀ a, M a → ∃ xs, H a = some (.lst xs)
mutual
theorem Rp.off {v : V} {d : PyData} : (r : Rp K M' H v d) → flat d = true → Lists M H → Rp K M H v d
  | .non, _, _ => .non
  | .bl b, _, _ => .bl b
  | .int i, _, _ => .int i
  | .str x, _, _ => .str x
  | .lst m h r, hf, hm => absurd hf (by simp [flat])
  | .tup m h r, hf, hm => .tup (fun z => by
      obtain ⟨xs, hx⟩ := hm _ z
      rcases h with h | ⟨o, h⟩ <;> rw [h] at hx <;> cases hx) h (RpAll.off r (by simpa [flat] using hf) hm)
theorem RpAll.off {vs : List V} {ds : List PyData} : (r : RpAll K M' H vs ds) → flats ds = true → Lists M H → RpAll K M H vs ds
  | .nil, _, _ => .nil
  | .cons r rs, hf, hm => .cons (Rp.off r (by simp [flats] at hf; exact hf.1) hm) (RpAll.off rs (by simp [flats] at hf; exact hf.2) hm)
end
/-- .. so what is flat stays whatever becomes of lists -/
def Keep (H H' : Hp) : Prop := ∀ a o, H a = some o → (∀ xs, o ≠ .lst xs) → NT o → H' a = some o
end
end GV

namespace GV
open PySem PySem.Spec PyProof.Rows L2
/-! ### weaker questions -/
theorem PE.weak {X : Cx} {e : Expr} {t : TE} (p : PE X e t) : PE X e fun σ H Q => ∃ Q0 : VK, t σ H Q0 ∧ ∀ v H1, Q0 v H1 → Q v H1 :=
  ⟨fun pins s σ H Q I ⟨Q0, h0, imp⟩ => wpAny_mono (p.run pins s σ H Q0 I h0) (fun us s1 ⟨v, H1, I1, r1, q1⟩ => ⟨v, H1, I1, r1, imp v H1 q1⟩) fun _ _ z => z⟩
theorem wE.weak {X : Cx} {e : Expr} {σ : St} {H : Hp} {Q0 Q : VK} (h : wE X e σ H Q0) (imp : ∀ v H1, Q0 v H1 → Q v H1) : wE X e σ H Q := let ⟨t, p, q⟩ := h; ⟨_, PE.weak p, Q0, q, imp⟩
/-! ### what changes only at S -/
def ExS (S : Addr → Prop) (H H' : Hp) : Prop := ∀ a o, ¬ S a → H a = some o → H' a = some o
theorem ExS.of {S : Addr → Prop} {H H' : Hp} (e : Evl.Ex H H') : ExS S H H' := fun a o _ h => e a o h
theorem ExS.trans {S : Addr → Prop} {H H1 H2 : Hp} (e : ExS S H H1) (f : ExS S H1 H2) : ExS S H H2 := fun a o n h => f a o n (e a o n h)
theorem ExS.upd {S : Addr → Prop} {H : Hp} {b : Addr} {o : HO} (s : S b) : ExS S H (upd H b o) := fun a u n h => by
  rw [upd_ne fun e => n (by rw [e]; exact s)]
  exact h
theorem ExS.mono {S S' : Addr → Prop} {H H' : Hp} (e : ExS S H H') (h : ∀ a, S a → S' a) : ExS S' H H' := fun a o n k => e a o (fun z => n (h a z)) k
theorem ExS.exM {S : Addr → Prop} {H H' : Hp} (e : ExS S H H') : ExM S H H' := fun a o h n _ => e a o n h
theorem ExM.mono {S S' : Addr → Prop} {H H' : Hp} (e : ExM S H H') (h : ∀ a, S a → S' a) : ExM S' H H' := fun a o k n t => e a o k (fun z => n (h a z)) t
theorem ExM.lst {S : Addr → Prop} {H H' : Hp} {a : Addr} {xs : List V} (e : ExM S H H') (n : ¬ S a) (h : H a = some (.lst xs)) : H' a = some (.lst xs) := e a _ h n fun _ z => by cases z
/-- the tables stay -/
theorem Tabs.exS {S : Addr → Prop} {H H' : Hp} {T : List (Addr × Str)} (t : LamX.Tabs T H) (e : ExS S H H') (l : ∀ a, S a → ∃ xs, H a = some (.lst xs)) : LamX.Tabs T H' := fun p hp => by
  obtain ⟨ps, h1, h2, h3⟩ := t p hp
  refine ⟨ps, e _ _ (fun s => ?_) h1, h2, fun pos cv h => ?_⟩
  · obtain ⟨xs, hx⟩ := l _ s
    rw [hx] at h1
    cases h1
  · obtain ⟨c, rfl, hc⟩ := h3 pos cv h
    refine ⟨c, rfl, e _ _ (fun s => ?_) hc⟩
    obtain ⟨xs, hx⟩ := l _ s
    rw [hx] at hc
    cases hc
section
variable {X : Cx} {M : Addr → Prop} {σ : St} {H H' : Hp} {a b c e o : Expr} {da db d : PyData} {pos : Pos} {es : List Expr} {ds : List PyData} {D : Ends}
theorem ce_str {x : Str} {j} {Q : VK} (q : Q (.str x) H) : wE X (.Constant (.str x) j pos) σ H Q := ⟨_, pe_str, q⟩
theorem ce_tup {x1} {Q : VK} (h : wA X es σ H fun vs H1 => vs.length ≤ 1000 ∧ ∀ p, H1 p = none → Q (.ref p) (upd H1 p (.tup vs))) : wE X (.Tuple es x1 pos) σ H Q := by
  obtain ⟨t, p, q⟩ := h
  refine ⟨_, pe_tup (t := fun σ H Q => ∃ Q0, t σ H Q0 ∧ ∀ vs H1, Q0 vs H1 → Q vs H1) ⟨fun pos pins s σ H Q I ⟨Q0, h0, imp⟩ => wpAny_mono (p.run pos pins s σ H Q0 I h0) (fun us s1 ⟨vs, H1, I1, r1, q1⟩ => ⟨vs, H1, I1, r1, imp vs H1 q1⟩) fun _ _ z => z⟩, _, q, ?_⟩
  rintro vs H1 ⟨hl, hq⟩
  exact ⟨Evl.sz_of (by omega), hq⟩
/-- a method's call -/
theorem ce_meth {CX : CXT} {E : XK} {C f p dx : Addr} {fd : FuncData} {ps : List Str} {sp : Sp} {m : Str} {apos : Pos} {pl : Sem Bool} {j k : Nat} {fs : List (Str × V)} {Q : VK} (hn : AtN X σ o p) (c : Cls X.K C) (hm : Meth X.K C m f) (F : FnOk X.prog X.w X.K X.mg X.base CX k f fd ps sp) (hr : Room j X.A) (hkj : k ≤ j) (hb : Binds X.K fd ps []) (hx : Passes CX X E)
    (hp : H p = some (.ins C dx fs)) (hf : fs.lookup m = none) (h : wA X (e :: es) σ H fun vs H2 => sp (.ref p :: vs) H2 Q E)
    (he : starEach (e :: es) X.env = (false, eval e X.env) :: starEach es X.env := by rfl) (hpl : (backTo pos (starEach es X.env)).any (·.1) = false := by rfl)
    (hev : eval (.Call (.Attribute o m apos) (e :: es) [] pos) X.env = (do
      let ov ← eval o X.env
      standAt apos.atName
      let (f, first) ← holding [ov] (getMethod ov m pl)
      callWith pos f first (backTo pos (starEach (e :: es) X.env)) (backToKw pos (keywordEach [] X.env))) := by rfl) : wE X (.Call (.Attribute o m apos) (e :: es) [] pos) σ H Q := by
  refine ⟨_, pe_meth wE.pe c hm F (hr.mono hkj) hb .nil hx wA.pa he hpl hev, hn _ _ ⟨p, dx, fs, rfl, hp, hf, ?_⟩⟩
  obtain ⟨t, h1, h2⟩ := h
  refine ⟨t, h1, ?_⟩
  have e1 : (fun vs H2 => sp (V.ref p :: (vs ++ [])) H2 Q E) = fun vs H2 => sp (V.ref p :: vs) H2 Q E := by
    funext vs H1
    rw [List.append_nil]
  rw [e1]
  exact h2
theorem ce_meth0 {CX : CXT} {E : XK} {C f p dx : Addr} {fd : FuncData} {ps : List Str} {sp : Sp} {m : Str} {apos : Pos} {pl : Sem Bool} {j k : Nat} {fs : List (Str × V)} {Q : VK} (hn : AtN X σ o p) (c : Cls X.K C) (hm : Meth X.K C m f) (F : FnOk X.prog X.w X.K X.mg X.base CX k f fd ps sp) (hr : Room j X.A) (hkj : k ≤ j) (hb : Binds X.K fd ps []) (hx : Passes CX X E)
    (hp : H p = some (.ins C dx fs)) (hf : fs.lookup m = none) (h : sp [.ref p] H Q E)
    (hev : eval (.Call (.Attribute o m apos) [] [] pos) X.env = (do
      let ov ← eval o X.env
      standAt apos.atName
      let (f, first) ← holding [ov] (getMethod ov m pl)
      callWith pos f first (backTo pos (starEach [] X.env)) (backToKw pos (keywordEach [] X.env))) := by rfl) : wE X (.Call (.Attribute o m apos) [] [] pos) σ H Q :=
  ⟨_, pe_meth0 wE.pe c hm F (hr.mono hkj) hb .nil hx hev, hn _ _ ⟨p, dx, fs, rfl, hp, hf, h⟩⟩
/-- a property's value -/
theorem ce_prop {CX : CXT} {E : XK} {C p g b dx : Addr} {f : Str} {fd : FuncData} {ps : List Str} {sp : Sp} {j k : Nat} {fs : List (Str × V)} {Q : VK} (hn : AtN X σ o b) (c : Cls X.K C) (hp : PropOf X.K C f p g) (F : FnOk X.prog X.w X.K X.mg X.base CX k g fd ps sp) (hr : Room j X.A) (hkj : k + 1 ≤ j) (hb : Binds X.K fd ps []) (hx : Passes CX X.nox E)
    (hi : H b = some (.ins C dx fs)) (h : sp [.ref b] H Q E) (hab : attributeBase o f X.env (eval o X.env) = eval o X.env := by rfl) : wE X (.Attribute o f pos) σ H Q :=
  ⟨_, pe_prop wE.pe c hp F (hr.mono hkj) hb .nil hx hab, hn _ _ ⟨b, dx, fs, rfl, hi, h⟩⟩
/-! ### try -/
abbrev tsW (X : Cx) (suite : List Stmt) : HdT := fun a cls d D σ H => ∀ oe pn, Zc cls d oe → (∃ vs, oe.data = .fields vs) → wB (X.suite a ((a, oe) :: pn)) suite D σ H
theorem psW {X : Cx} {suite : List Stmt} {a : Addr} {oe : Obj} {cls : Value} {d : Option Addr} {pn : List (Addr × Obj)} (hz : Zc cls d oe) (hd : ∃ vs, oe.data = .fields vs) : PSs (X.suite a ((a, oe) :: pn)) suite (tsW X suite a cls d) := ⟨fun pins s σ H D I h => wB.ps.run pins s σ H D I (h oe pn hz hd)⟩
theorem s_try {body : List Stmt} {h₀ : ExceptHandler} {hds : List ExceptHandler} {l : List (Value × Option Nat × HdT)} {Wout : WX} (hs : X.stack = X.env :: X.outer) (hf : X.env.frame = some X.env.locals) (hN : X.N.Nodup) (tk : Takes X Wout) (hh : Hds X (h₀ :: hds) l)
    (h : ∀ pn xe, Takes (X.tr pn xe) (wHs X.K Wout D l) → wB (X.tr pn xe) body D σ H) : wS X (.Try body (h₀ :: hds) [] [] pos) D σ H :=
  ⟨_, ps_tryAs (tb := fun W D σ H => ∀ pn xe, Takes (X.tr pn xe) W → wB (X.tr pn xe) body D σ H) hs hf hN tk (fun W pn xe tkW _ => ⟨fun pins s σ H D I h => wB.ps.run pins s σ H D I (h pn xe tkW)⟩) hh, h⟩
/-- e.f, e the exception that the clause holds -/
theorem ce_xf {X : Cx} {a C : Addr} {oe : Obj} {cls : Value} {d : Option Addr} {pn : List (Addr × Obj)} {f : Str} {Q : VK} (xf : XfC X.K C) (n : PySem.W.findIn X.K (.ref C) f = some none) (hz : Zc cls d oe) (hd : ∃ vs, oe.data = .fields vs)
    (h : wE (X.suite a ((a, oe) :: pn)) e σ H fun x H1 => x = .ref a ∧ cls = .ref C ∧ ∃ dd fs v, d = some dd ∧ H1 dd = some (.xd fs) ∧ fs.lookup f = some v ∧ Q v H1)
    (hab : attributeBase e f X.env (eval e X.env) = eval e X.env := by rfl) : wE (X.suite a ((a, oe) :: pn)) (.Attribute e f pos) σ H Q := ⟨_, pe_xf xf n hz hd wE.pe hab, h⟩
end
end GV

namespace GV
open PySem PySem.Spec PyProof.Rows L2
/-! ### the script: a list of whole numbers that nothing changes, wherever it stands -/
def ScAt (K : PySem.W.Frag) (M : Addr → Prop) (H : Hp) (a : Addr) (ns : List Int) : Prop := (¬ M a ∧ Rd H a (.lst (ns.map V.int))) ∨ ∀ H', SqL K H' a (ns.map V.int)
section
variable {K : PySem.W.Frag} {M M' : Addr → Prop} {H H' : Hp} {a : Addr} {ns : List Int}
theorem ScAt.of (h : SqL K H a (ns.map V.int)) (n : ¬ M a) : ScAt K M H a ns := h.elim (fun h => .inl ⟨n, h⟩) fun h => .inr fun _ => .inr h
theorem ScAt.sq (h : ScAt K M H a ns) : SqL K H a (ns.map V.int) := h.elim (fun h => .inl h.2) fun h => h H
theorem ScAt.mono (h : ScAt K M H a ns) (hm : ∀ a, M' a → M a) (e : ExM M H H') : ScAt K M' H' a ns := h.elim (fun ⟨n, h⟩ => .inl ⟨fun z => n (hm _ z), Rd.exM h n e⟩) .inr
end
section
variable {X : Cx} {M : Addr → Prop} {σ : St} {H : Hp} {a : Addr} {e b : Expr} {ns : List Int} {pos : Pos}
theorem pd_scIx {i : Nat} {j : Nat} {x : Str} {p : Pos} {z : Int} (h : ScAt X.K M H a ns) (hb : PD X M b σ H (.int (i : Nat))) (hz : ns[i]? = some z) (hN : X.N[j]? = some x := by rfl) (hv : Vis X.env.scope x := by first | exact .inl rfl | exact .inr (.inl rfl)) (hs : σ[j]? = some (some (.ref a)) := by rfl)
    (hd : (x == ("__debug__" : Str)) = false := by decide) (hcd : (x == ("__classdict__" : Str)) = false := by decide) (hpl : PlainIx b := by exact fun _ _ => rfl) : PD X M (.Subscript (.Name x p) b pos) σ H (.int z) := .mk fun H1 e1 al Q q =>
  ⟨_, pe_ix ix_seq wE.pe wE.pe hpl, ce_name hN hv hs (hb.run H1 e1 al _ fun y H2 x2 ry => by
    cases ry
    have hq := ((h.mono (fun _ z => z) e1).mono (fun _ z => z) (.of x2)).sq
    exact .inl ⟨_, _, (i : Nat), .int z, rfl, rfl, hq, atI_nat (by rw [List.getElem?_map, hz]; rfl), q _ H2 x2 (.int z)⟩) hd hcd⟩
theorem pd_scLen {j : Nat} {x : Str} {p p2 : Pos} (h : ScAt X.K M H a ns) (hg : Gl X "len") (hm : X.mg "len" = none) (hN : X.N[j]? = some x := by rfl) (hv : Vis X.env.scope x := by first | exact .inl rfl | exact .inr (.inl rfl)) (hs : σ[j]? = some (some (.ref a)) := by rfl)
    (hd : (x == ("__debug__" : Str)) = false := by decide) (hcd : (x == ("__classdict__" : Str)) = false := by decide) (hst : starEach (.Name x p :: []) X.env = (false, eval (.Name x p) X.env) :: starEach [] X.env := by rfl) (hpl : (backTo pos (starEach [] X.env)).any (·.1) = false := by rfl) :
    PD X M (.Call (.Name "len" p2) [.Name x p] [] pos) σ H (.int ns.length) := .mk fun H1 e1 al Q q =>
  ⟨_, pe_callB call_len_seq hg hm PySem.boot_len wA.pa (by decide) (by decide) hst hpl, ca_cons (ce_name hN hv hs (ca_nil ⟨a, ns.map V.int, rfl, .inl ((h.mono (fun _ z => z) e1).sq), by
    rw [List.length_map]
    exact q _ H1 (Evl.Ex.refl H1) (.int _)⟩) hd hcd) hst⟩
theorem fd_scSlice {lo hi : Option Expr} {l u : Option Int} {j : Nat} {x : Str} {p p2 : Pos} (h : ScAt X.K M H a ns) (hl : OD X M lo σ H l) (hu : OD X M hi σ H u) (hN : X.N[j]? = some x := by rfl) (hv : Vis X.env.scope x := by first | exact .inl rfl | exact .inr (.inl rfl)) (hs : σ[j]? = some (some (.ref a)) := by rfl)
    (hd : (x == ("__debug__" : Str)) = false := by decide) (hcd : (x == ("__classdict__" : Str)) = false := by decide) : FD X M (.Subscript (.Name x p) (.Slice lo hi none p2) pos) σ H (cutD (ns.map PyData.int) l u) := by
  obtain ⟨tl, pl, rl⟩ := hl.ex
  obtain ⟨tu, pu, ru⟩ := hu.ex
  refine .mk fun H1 e1 al Q q => ⟨_, pe_slice sl_list wE.pe pl pu, ce_name hN hv hs ?_ hd hcd⟩
  refine rl H1 e1 al _ fun H3 x3 => ru H3 (e1.trans (.of x3)) (al.mono x3) _ fun H4 x4 => ?_
  have hq := ((h.mono (fun _ z => z) e1).mono (fun _ z => z) (.of (x3.trans x4))).sq
  exact ⟨_, _, rfl, hq, fun p hp => q p _ _ (Evl.fresh_back (x3.trans x4) hp) ((x3.trans x4).trans (Evl.Ex.new hp)) upd_same (((RpAll.ints ns).cut l u))⟩
end
end GV

-- out of B3
namespace GV
open PySem PySem.Spec PyProof.Rows L2
theorem _root_.L2.Room.u2 {k : Nat} {A : Around} (r : Room k A) : A.units + 2 < cLine := Nat.lt_of_le_of_lt (Nat.add_le_add_left (by decide : 2 ≤ 64) _) r.units
theorem cutD_take (xs : List PyData) (i : Nat) : cutD xs none (some (i : Int)) = xs.take i := by
  unfold cutD
  rw [HT.sIx_none, HT.sIx_nat, List.drop_zero, Nat.sub_zero]
  by_cases h : i ≤ xs.length
  · rw [Nat.min_eq_left h]
  · rw [Nat.min_eq_right (by omega), List.take_of_length_le (Nat.le_refl _), List.take_of_length_le (by omega)]
theorem cutD_drop (xs : List PyData) (i : Nat) : cutD xs (some (i : Int)) none = xs.drop i := by
  unfold cutD
  rw [HT.sIx_none, HT.sIx_nat]
  by_cases h : i ≤ xs.length
  · rw [Nat.min_eq_left h, List.take_of_length_le]
    rw [List.length_drop]
    exact Nat.le_refl _
  · rw [Nat.min_eq_right (by omega), Nat.sub_self, List.take_zero, List.drop_of_length_le (by omega)]
theorem take_snoc {α : Type} {l : List α} {i : Nat} {x : α} (h : l[i]? = some x) : l.take (i + 1) = l.take i ++ [x] := by
  rw [List.take_add_one, h]
  rfl
end GV
-- out of B4
namespace GV
open PySem PySem.Spec PyProof.Rows L2
theorem ixD_list {ds : List PyData} {i : Nat} {d : PyData} (h : ds[i]? = some d) : ixD (.list ds) (.int (i : Nat)) = some d := atI_nat h
theorem ixD_ints {ns : List Int} {i : Nat} {z : Int} (h : ns[i]? = some z) : ixD (.list (ns.map PyData.int)) (.int (i : Nat)) = some (.int z) := ixD_list (by rw [List.getElem?_map, h]; rfl)
section
variable {X : Cx} {M : Addr → Prop} {σ : St} {H H' : Hp} {a e : Expr} {d : PyData} {pos : Pos}
/-- int(e), e an int -/
theorem pd_intI {p : Pos} {i : Int} (nb : NoB X.mg) (hg : Gl X "int") (h : PD X M e σ H (.int i)) (hs : starEach (e :: []) X.env = (false, eval e X.env) :: starEach [] X.env := by rfl) (hpl : (backTo pos (starEach [] X.env)).any (·.1) = false := by rfl) :
    PD X M (.Call (.Name "int" p) [e] [] pos) σ H (.int i) := pd_callTy call_int1 hg nb.int PyProof.Rows.boot_int (ad_cons h ad_nil hs) rn_int (by decide) (by decide) hs hpl
theorem pd_intB {p : Pos} {k : Bool} (nb : NoB X.mg) (hg : Gl X "int") (h : PD X M e σ H (.bool k)) (hs : starEach (e :: []) X.env = (false, eval e X.env) :: starEach [] X.env := by rfl) (hpl : (backTo pos (starEach [] X.env)).any (·.1) = false := by rfl) :
    PD X M (.Call (.Name "int" p) [e] [] pos) σ H (.int (if k then 1 else 0)) := pd_callTy call_int1 hg nb.int PyProof.Rows.boot_int (ad_cons h ad_nil hs) rn_intB (by decide) (by decide) hs hpl
theorem pd_len {p : Pos} {n : Nat} (nb : NoB X.mg) (hg : Gl X "len") (h : PD X M e σ H d) (hn : lenD d = some n) (hs : starEach (e :: []) X.env = (false, eval e X.env) :: starEach [] X.env := by rfl) (hpl : (backTo pos (starEach [] X.env)).any (·.1) = false := by rfl) :
    PD X M (.Call (.Name "len" p) [e] [] pos) σ H (.int n) := pd_callB call_len hg nb.len PySem.boot_len (ad_cons h ad_nil hs) (rn_len hn) (by decide) (by decide) hs hpl
theorem pd_abs {p : Pos} {i : Int} (nb : NoB X.mg) (hg : Gl X "abs") (h : PD X M e σ H (.int i)) (hs : starEach (e :: []) X.env = (false, eval e X.env) :: starEach [] X.env := by rfl) (hpl : (backTo pos (starEach [] X.env)).any (·.1) = false := by rfl) :
    PD X M (.Call (.Name "abs" p) [e] [] pos) σ H (.int (if i < 0 then -i else i)) := pd_callB call_abs hg nb.abs PyProof.Rows.boot_abs (ad_cons h ad_nil hs) rn_abs (by decide) (by decide) hs hpl
theorem pd_sum {p : Pos} {ns : List Int} (hc : X.calm = true) (nb : NoB X.mg) (hg : Gl X "sum") (h : PD X M e σ H (.list (ns.map PyData.int))) (hs : starEach (e :: []) X.env = (false, eval e X.env) :: starEach [] X.env := by rfl) (hpl : (backTo pos (starEach [] X.env)).any (·.1) = false := by rfl) :
    PD X M (.Call (.Name "sum" p) [e] [] pos) σ H (.int ns.sum) := pd_callB (cr_sum hc) hg nb.sum PyProof.Rows.boot_sum (ad_cons h ad_nil hs) rn_sum (by decide) (by decide) hs hpl
end
end GV
-- out of B5
namespace GV
open PySem PySem.Spec PyProof.Rows L2
section
variable {X : Cx} {M : Addr → Prop} {σ : St} {H H' : Hp} {a b c e o : Expr} {da db d : PyData} {pos : Pos} {es : List Expr} {ds : List PyData} {D : Ends}
/-- o.f = e, o an exception being made -/
theorem cs_ost {f : Str} {p' : Pos} (h : wE X e σ H fun y H1 => wE X o σ H1 fun x H2 => ∃ a C, x = .ref a ∧ OexC X.K C ∧ PySem.W.findIn X.K (.ref C) f = some none ∧
      ((H2 a = some (exo a C none) ∧ ∀ dx, H2 dx = none → dx ≠ a → D.nx σ (upd (upd H2 dx (exd dx [(f, y)])) a (exo a C (some dx)))) ∨
        ∃ dx fs, H2 a = some (exo a C (some dx)) ∧ H2 dx = some (exd dx fs) ∧ fs.length ≤ 900 ∧ D.nx σ (upd H2 dx (exd dx ((f, y) :: fs)))))
    (hs : swapsWith e (some (.Attribute o f p')) pos.line X.env = pure false := by rfl) : wS X (.Assign [.Attribute o f p'] e pos) D σ H := ⟨_, ps_ost wE.pe wE.pe hs, h⟩
/-- o.f, a plain attribute of an object -/
theorem ce_fld {f : Str} {Q : VK} (h : wE X e σ H fun x H1 => ∃ a C dx fs v, x = .ref a ∧ H1 a = some (.ins C dx fs) ∧ Cls X.K C ∧ NoAttr X.K C f ∧ fs.lookup f = some v ∧ Q v H1) (hb : attributeBase e f X.env (eval e X.env) = eval e X.env := by rfl) : wE X (.Attribute e f pos) σ H Q := ⟨_, pe_fld wE.pe hb, h⟩
/-- o.f = e -/
theorem cs_fld {f : Str} {p' : Pos} (h : wE X e σ H fun y H1 => wE X o σ H1 fun x H2 => ∃ a C dx fs, x = .ref a ∧ H2 a = some (.ins C dx fs) ∧ Cls X.K C ∧ NoAttr X.K C f ∧ fs.length < 1000 ∧ D.nx σ (upd H2 a (.ins C dx (putF f y fs))))
    (hs : swapsWith e (some (.Attribute o f p')) pos.line X.env = pure false := by rfl) : wS X (.Assign [.Attribute o f p'] e pos) D σ H := ⟨_, ps_fld wE.pe wE.pe hs, h⟩
/-- a call that may raise -/
theorem ce_callX {sp : Sp} {W : WX} {Q : VK} {j k : Nat} {x : Str} {p : Pos} (cl : Cl X.prog X.w X.K X.mg X.base (L2.CX X.prog X.w) k x sp) (hr : Room j X.A) (hkj : k ≤ j) (hg : Gl X x) (tk : Takes X W) (h : wA X (e :: es) σ H fun vs H2 => sp vs H2 Q (fun cls d H' => W cls d σ H'))
    (hdb : (x == ("__debug__" : Str)) = false := by decide) (he : starEach (e :: es) X.env = (false, eval e X.env) :: starEach es X.env := by rfl) (hpl : (backTo pos (starEach es X.env)).any (·.1) = false := by rfl) : wE X (.Call (.Name x p) (e :: es) [] pos) σ H Q := by
  obtain ⟨f, fd, ps, F, hm, hk, hb⟩ := cl.ex
  exact ⟨_, pe_callS F (hr.mono hkj) hg hm hk hb (fun σ => passAt tk σ) wA.pa hdb he hpl, h⟩
theorem cs_if {A B : List Stmt} (h : wT X c σ H fun k H2 => if k = true then wB X A D σ H2 else wB X B D σ H2) : wS X (.If c A B pos) D σ H := ⟨_, ps_if wT.pt wB.ps wB.ps, h⟩
theorem ct_td {k : Bool} {Q : Bool → Hp → Prop} (al : Alive M H) (h : TD X M e σ H k) (q : ∀ H2, Evl.Ex H H2 → Q k H2) : wT X e σ H Q := h.run H (ExM.refl H) al Q q
end
end GV
-- out of B7
namespace GV
open PySem PySem.Spec PyProof.Rows L2
section
variable {X : Cx} {M : Addr → Prop} {σ : St} {H : Hp} {e : Expr} {pos : Pos}
/-- for x in range(n) -/
theorem s_forR {n slot : Nat} {x : Str} {p p1 p2 : Pos} {body : List Stmt} {D : Ends} (hp : PassesOwn (model X.prog X.w) X.A X.env X.xe) (hc : X.calm = true) (hN : X.N.Nodup) (hx : X.N[slot]? = some x) (hl : Loc X.env.scope x) (hg : Gl X "range") (hm : X.mg "range" = none) (h : PD X M e σ H (.int (n : Nat))) (hn : n ≤ 1000000) (al : Alive M H) (J : Hp → Nat → St → Hp → Prop)
    (h0 : ∀ H1, Evl.Ex H H1 → J H1 0 σ H1) (hk : ∀ H1 i σ' H', Evl.Ex H H1 → J H1 i σ' H' → ExM M H1 H' ∧ Alive M H')
    (ht : ∀ H1 i σ' H' H2, Evl.Ex H H1 → i < n → J H1 i σ' H' → Evl.Ex H' H2 → wB X body { D with nx := J H1 (i + 1), ct := J H1 (i + 1), bk := D.nx } (σ'.set slot (some (.int (i : Nat)))) H2)
    (hd : ∀ H1 σ' H', Evl.Ex H H1 → J H1 n σ' H' → D.nx σ' H') (hs : starEach [e] X.env = [(false, eval e X.env)] := by rfl) (hs' : starEach (e :: []) X.env = (false, eval e X.env) :: starEach [] X.env := by rfl)
    (hf : ∀ x, foldedSetIterable (.Call (.Name "range" p) [e] [] p1) X.env x = pure x := by intro _; rfl) (hfn : X.fn x = true ∨ X.env.scope.names.lookup x = some .local := by first | exact .inl rfl | exact .inr rfl | assumption) : wS X (.For (.Name x p2) (.Call (.Name "range" p) [e] [] p1) body [] pos) D σ H := by
  refine s_for (t := .one slot) hp hc (src_range1 hg hm h (by omega) (by omega) hs hs') (pg_name hN hx hl hfn) al J h0 hk (fun _ _ => trivial) ?_ ?_ hf
  · rintro H1 i d σ' H' H2 σ2 x1 hd j x2 ⟨v, rv, rfl⟩
    obtain ⟨k, hk', rfl⟩ := List.mem_iff_getElem?.mp (List.mem_of_getElem? hd) |> fun _ => (by
      rw [List.getElem?_map] at hd
      obtain ⟨k, h1, h2⟩ := Option.map_eq_some_iff.mp hd
      exact ⟨k, h1, h2.symm⟩ : ∃ k, (List.range (Int.toNat (n : Nat)))[i]? = some k ∧ d = PyData.int (0 + (k : Nat)))
    rw [List.getElem?_range (by
      have := (List.getElem?_eq_some_iff.mp hk').1
      simpa using this)] at hk'
    have hin : i < n := by
      have := (List.getElem?_eq_some_iff.mp hd).1
      simpa using this
    cases hk'
    cases rv
    rw [Int.zero_add]
    exact ht H1 i σ' H' H2 x1 hin j x2
  · intro H1 σ' H' x1 j
    refine hd H1 σ' H' x1 ?_
    have e1 : ((List.range (Int.toNat (n : Nat))).map fun i => PyData.int (0 + (i : Nat))).length = n := by simp
    rw [← e1]
    exact j
end
end GV
-- out of B8
namespace GV
open PySem PySem.Spec PyProof.Rows L2
/-! ### which data == may look at -/
theorem shaped_of {d : PyData} (h1 : d.canLay0 = true) (h2 : d.depth ≤ 64) : SeqAt.shaped d = true := by
  simp [SeqAt.shaped, h1, h2]
/-- flat parts, at most one deep -/
def one1 : PyData → Prop
  | .int _ => True
  | .tuple [.int _, .int _] => True
  | _ => False
theorem lay1 {d : PyData} (h : one1 d) : d.canLay0 = true ∧ d.depth ≤ 1 := by
  unfold one1 at h
  split at h
  · exact ⟨rfl, by show 0 ≤ 1; omega⟩
  · exact ⟨rfl, Nat.le_refl 1⟩
  · cases h
theorem lays1 {ds : List PyData} (h : ∀ d ∈ ds, one1 d) : (PyData.list ds).canLay0 = true ∧ (PyData.list ds).depth ≤ 2 := by
  have key : ∀ ds : List PyData, (∀ d ∈ ds, one1 d) → PyData.canLayAll0 ds = true ∧ PyData.depthAll ds ≤ 1 := by
    intro ds
    induction ds with
    | nil => exact fun _ => ⟨rfl, Nat.zero_le _⟩
    | cons d r ih =>
      intro h
      obtain ⟨a, b⟩ := lay1 (h d (List.mem_cons_self))
      obtain ⟨a2, b2⟩ := ih fun x hx => h x (List.mem_cons_of_mem _ hx)
      refine ⟨?_, ?_⟩
      · show (d.canLay0 && PyData.canLayAll0 r) = true
        rw [a, a2]
        rfl
      · show max d.depth (PyData.depthAll r) ≤ 1
        omega
  obtain ⟨a, b⟩ := key ds h
  refine ⟨a, ?_⟩
  show PyData.depthAll ds + 1 ≤ 2
  omega
theorem shaped1 {ds : List PyData} (h : ∀ d ∈ ds, one1 d) : SeqAt.shaped (.list ds) = true := by
  obtain ⟨a, b⟩ := lays1 h
  exact shaped_of a (by omega)
theorem shapedI (ns : List Int) : SeqAt.shaped (.list (ns.map PyData.int)) = true := shaped1 fun d hd => by
  obtain ⟨k, _, rfl⟩ := List.mem_map.mp hd
  trivial
theorem atI_last {α : Type} (l : List α) (x : α) : atI (l ++ [x]) (-1) = some x := by
  unfold atI ixN
  rw [if_neg (by omega), List.length_append, List.length_singleton, if_pos (by omega)]
  show (l ++ [x])[((-1 : Int) + ((l.length + 1 : Nat) : Int)).toNat]? = some x
  rw [show ((-1 : Int) + ((l.length + 1 : Nat) : Int)).toNat = l.length by omega]
  simp
section
variable {X : Cx} {M : Addr → Prop} {σ : St} {H : Hp} {o e : Expr} {pos : Pos}
/-- o.index(e), a whole number that is there -/
theorem pd_index {apos cpos : Pos} {ns : List Int} {k : Int} {j : Nat} (ho : PD X M o σ H (.list (ns.map PyData.int))) (he : PD X M e σ H (.int k)) (hj : ns[j]? = some k) (hf : ∀ m z, m < j → ns[m]? = some z → z ≠ k)
    (h1 : attributeBase o ("index" : Str) X.env (eval o X.env) = eval o X.env := by rfl)
    (h2 : ((((backTo cpos (starEach (e :: []) X.env)).all fun x => !x.1) && (backToKw cpos (keywordEach [] X.env)).all fun x => x.1.isSome) && decide (((e :: []).length + ([] : List Keyword).length + if ([] : List Keyword).isEmpty = true then 0 else 1) < 30)) = true := by rfl)
    (h3 : (apos.endLine == cpos.line) = true := by rfl) (h4 : starEach (e :: []) X.env = (false, eval e X.env) :: starEach [] X.env := by rfl) (h5 : (backTo cpos (starEach [] X.env)).any (·.1) = false := by rfl) :
    PD X M (.Call (.Attribute o "index" apos) [e] [] cpos) σ H (.int (j : Nat)) := .mk fun H1 e1 al Q q => by
  refine ⟨_, pe_bm PySem.F.plainAttrs_list PySem.F.slot_list_index PySem.F.type_list_index mt_index wE.pe (pa_cons wE.pe pa_nil h4) h1 h2 h3 h4 h5, ?_⟩
  refine ho.run H1 e1 al _ fun x H2 x2 r => ?_
  cases r with
  | lst m hs rs =>
    refine ⟨.inl ⟨rfl, _, .inl hs⟩, he.run H2 (e1.trans (.of x2)) (al.mono x2) _ fun y H3 x3 ry => ?_⟩
    cases ry
    have hs3 := GV.Rd.exM hs m (.of x3)
    have ev := rs.of_ints
    subst ev
    refine ⟨_, _, _, j, .int k, rfl, rfl, .inl hs3, rfl, ?_, ?_, ?_, ?_, q _ H3 (x2.trans x3) (.int _)⟩
    · rw [List.all_eq_true]
      intro v hv
      obtain ⟨z, _, rfl⟩ := List.mem_map.mp hv
      rfl
    · rw [List.getElem?_map, hj]
      rfl
    · simp [eqV]
    · intro m z hm hz
      rw [List.getElem?_map] at hz
      obtain ⟨u, hu, rfl⟩ := Option.map_eq_some_iff.mp hz
      simpa [eqV] using hf m u hm hu
end
end GV
-- out of B13
namespace GV
open PySem PySem.Spec PyProof.Rows L2
section
variable {X : Cx} {M : Addr → Prop} {σ : St} {H H' : Hp} {a b c e o : Expr} {da db d : PyData} {pos : Pos} {es : List Expr} {ds : List PyData} {D : Ends}
theorem ce_and {rest : List Expr} {Q : VK} (h : wE X a σ H fun x H2 => ∃ k, x = .bl k ∧ (k = true → wE X (.BoolOp .And (b :: rest) pos) σ H2 Q) ∧ (k = false → Q (.bl false) H2)) : wE X (.BoolOp .And (a :: b :: rest) pos) σ H Q := by
  refine ⟨_, pe_and wE.pe wE.pe, wE.weak h ?_⟩
  rintro x H2 ⟨k, rfl, h1, h2⟩
  refine ⟨k, rfl, ?_⟩
  cases k with
  | true => exact h1 rfl
  | false => exact h2 rfl
theorem ce_one {op} {Q : VK} (h : wE X a σ H Q) : wE X (.BoolOp op [a] pos) σ H Q := ⟨_, pe_one wE.pe, h⟩
theorem ce_eq {Q : VK} (hu : X.A.units + 64 < cLine) (h : wE X a σ H fun x H2 => wE X b σ H2 fun y H3 => ∃ da db, Dp X.K H3 x da ∧ Dp X.K H3 y db ∧ SeqAt.shaped da = true ∧ SeqAt.shaped db = true ∧ Q (.bl (PyData.eqv da db)) H3) : wE X (.Compare a [.Eq] [b] pos) σ H Q :=
  ⟨_, pe_cmpR (op_eqD hu) wE.pe wE.pe (nomark _), h⟩
end
end GV
-- out of B15
namespace GV
open PySem PySem.Spec PyProof.Rows L2
section
variable {X : Cx} {M : Addr → Prop} {σ : St} {H H' : Hp} {a b c e o : Expr} {da db d : PyData} {pos : Pos} {es : List Expr} {ds : List PyData} {D : Ends}
theorem ce_lst {Q : VK} (h : wA X es σ H fun vs H1 => vs.length ≤ 1000 ∧ ∀ p, H1 p = none → Q (.ref p) (upd H1 p (.lst vs))) : wE X (.List es pos) σ H Q := by
  obtain ⟨t, p, q⟩ := h
  refine ⟨_, pe_lst (t := fun σ H Q => ∃ Q0, t σ H Q0 ∧ ∀ vs H1, Q0 vs H1 → Q vs H1) ⟨fun pos pins s σ H Q I ⟨Q0, h0, imp⟩ => wpAny_mono (p.run pos pins s σ H Q0 I h0) (fun us s1 ⟨vs, H1, I1, r1, q1⟩ => ⟨vs, H1, I1, r1, imp vs H1 q1⟩) fun _ _ z => z⟩, _, q, ?_⟩
  rintro vs H1 ⟨hl, hq⟩
  exact ⟨Evl.sz_of (by omega), hq⟩
theorem ct_val {Q : Bool → Hp → Prop} (h : wE X e σ H fun x H2 => ∃ k, x = .bl k ∧ Q k H2) (he : ∀ whole, isTrue e X.env whole = (do let v ← whole; standAt e.pos; holding [v] (truthy v)) := by intro _; rfl) : wT X e σ H Q := ⟨_, pt_val wE.pe he, h⟩
theorem ct_eq {Q : Bool → Hp → Prop} (hu : X.A.units + 64 < cLine) (h : wE X a σ H fun x H2 => wE X b σ H2 fun y H3 => ∃ da db, Dp X.K H3 x da ∧ Dp X.K H3 y db ∧ SeqAt.shaped da = true ∧ SeqAt.shaped db = true ∧ Q (PyData.eqv da db) H3) : wT X (.Compare a [.Eq] [b] pos) σ H Q :=
  ⟨_, pt_cmpR (op_eqD hu) wE.pe wE.pe (nomark _), wE.weak h fun x H2 h2 => wE.weak h2 fun y H3 ⟨da, db, h1, h2, h3, h4, q⟩ => ⟨da, db, h1, h2, h3, h4, _, rfl, q⟩⟩
theorem ct_not {Q : Bool → Hp → Prop} (h : wT X a σ H fun k H2 => Q (!k) H2) : wT X (.UnaryOp .Not a pos) σ H Q := ⟨_, pt_not wT.pt, h⟩
theorem ce_isN {j p2} {Q : VK} (h : wE X a σ H fun x H2 => Q (.bl (decide (x = .non))) H2) : wE X (.Compare a [.Is] [.Constant .none j p2] pos) σ H Q :=
  ⟨_, pe_cmpR op_isN wE.pe pe_non (nomark _), wE.weak h fun x H2 q => ⟨rfl, q⟩⟩
end
end GV
-- out of B18
namespace GV
open PySem PySem.Spec PyProof.Rows L2
section
variable {X : Cx} {σ : St} {H : Hp} {a b : Expr} {pos : Pos}
theorem ct_lt {Q : Bool → Hp → Prop} (h : wE X a σ H fun x H2 => wE X b σ H2 fun y H3 => ∃ i j, x = .int i ∧ y = .int j ∧ Q (decide (i < j)) H3) : wT X (.Compare a [.Lt] [b] pos) σ H Q :=
  ⟨_, pt_cmpR op_lt wE.pe wE.pe (nomark _), wE.weak h fun x H2 h2 => wE.weak h2 fun y H3 ⟨i, j, h1, h2, q⟩ => ⟨i, j, h1, h2, _, rfl, q⟩⟩
end
end GV
-- out of B19
namespace GV
open PySem PySem.Spec PyProof.Rows L2
section
variable {X : Cx} {σ : St} {H : Hp} {a b e o : Expr} {pos : Pos}
theorem PT.weak {X : Cx} {e : Expr} {t : TT} (p : PT X e t) : PT X e fun σ H Q => ∃ Q0 : Bool → Hp → Prop, t σ H Q0 ∧ ∀ v H1, Q0 v H1 → Q v H1 :=
  ⟨fun pins s σ H Q I ⟨Q0, h0, imp⟩ => wpAny_mono (p.run pins s σ H Q0 I h0) (fun us s1 ⟨H1, I1, q1⟩ => ⟨H1, I1, imp _ H1 q1⟩) fun _ _ z => z⟩
theorem wT.weak {Q0 Q : Bool → Hp → Prop} (h : wT X e σ H Q0) (imp : ∀ v H1, Q0 v H1 → Q v H1) : wT X e σ H Q := let ⟨t, p, q⟩ := h; ⟨_, PT.weak p, Q0, q, imp⟩
theorem cw_and1 {Q : Bool → Hp → Prop} (h : wT X a σ H Q) : wW X (.BoolOp .And [a] pos) σ H Q := ⟨_, pw_and1 wT.pt, h⟩
theorem cw_and {rest : List Expr} {Q : Bool → Hp → Prop} (h : wT X a σ H fun k H2 => (k = true → wW X (.BoolOp .And (b :: rest) pos) σ H2 Q) ∧ (k = false → Q false H2)) : wW X (.BoolOp .And (a :: b :: rest) pos) σ H Q :=
  ⟨_, pw_and wT.pt wW.pw, wT.weak h fun k H2 ⟨h1, h2⟩ => by
    cases k with
    | true => exact h1 rfl
    | false => exact h2 rfl⟩
theorem ct_w {Q : Bool → Hp → Prop} (h : wW X e σ H Q) : wT X e σ H Q := let ⟨t, p, q⟩ := h; ⟨t, p.pt, q⟩
theorem ct_gt {Q : Bool → Hp → Prop} (h : wE X a σ H fun x H2 => wE X b σ H2 fun y H3 => ∃ i j, x = .int i ∧ y = .int j ∧ Q (decide (j < i)) H3) : wT X (.Compare a [.Gt] [b] pos) σ H Q :=
  ⟨_, pt_cmpR op_gt wE.pe wE.pe (nomark _), wE.weak h fun x H2 h2 => wE.weak h2 fun y H3 ⟨i, j, h1, h2, q⟩ => ⟨i, j, h1, h2, _, rfl, q⟩⟩
theorem ce_propE {CX : CXT} {E : XK} {C p g : Addr} {f : Str} {fd : FuncData} {ps : List Str} {sp : Sp} {j k : Nat} {Q : VK} (c : Cls X.K C) (hp : PropOf X.K C f p g) (F : FnOk X.prog X.w X.K X.mg X.base CX k g fd ps sp) (hr : Room j X.A) (hkj : k + 1 ≤ j) (hb : Binds X.K fd ps []) (hx : Passes CX X.nox E)
    (h : wE X o σ H fun x H1 => ∃ a dx fs, x = .ref a ∧ H1 a = some (.ins C dx fs) ∧ sp [.ref a] H1 Q E) (hab : attributeBase o f X.env (eval o X.env) = eval o X.env := by rfl) : wE X (.Attribute o f pos) σ H Q :=
  ⟨_, pe_prop wE.pe c hp F (hr.mono hkj) hb .nil hx hab, wE.weak h fun x H1 ⟨a, dx, fs, h1, h2, h3⟩ => ⟨a, dx, fs, h1, h2, h3⟩⟩
/-- C(), an object made -/
theorem ce_make0 {CX : CXT} {E : XK} {f C : Addr} {fd : FuncData} {ps : List Str} {sp : Sp} {j k : Nat} {x : Str} {p : Pos} {Q : VK} (m : Mk X.K C f) (F : FnOk X.prog X.w X.K X.mg X.base CX k f fd ps sp) (hr : Room j X.A) (hkj : k + 1 ≤ j) (hg : Gl X x) (gC : X.mg x = some (.ref C)) (hb : Binds X.K fd ps []) (hx : Passes CX X E)
    (h : ∀ a dx, H a = none → H dx = none → dx ≠ a → sp [.ref a] (upd (upd H dx (.own a)) a (.ins C dx [])) (fun v H2 => v = .non ∧ Q (.ref a) H2) E) (hdb : (x == ("__debug__" : Str)) = false := by decide) : wE X (.Call (.Name x p) [] [] pos) σ H Q :=
  ⟨_, pe_make0 m F (hr.mono hkj) hg gC hb .nil hx hdb, fun a dx h1 h2 h3 => h a dx h1 h2 h3⟩
end
end GV

namespace GV
open PySem PySem.Spec PyProof.Rows L2
section
variable {X : Cx} {σ : St} {H : Hp} {e : Expr} {pos : Pos}
/-- for x in range(n), n a value on the way; nothing need be known of what stays -/
theorem s_forRW {slot : Nat} {x : Str} {p p1 p2 : Pos} {body : List Stmt} {D : Ends} (hp : PassesOwn (model X.prog X.w) X.A X.env X.xe) (hc : X.calm = true) (hN : X.N.Nodup) (hx : X.N[slot]? = some x) (hl : Loc X.env.scope x) (hg : Gl X "range") (hm : X.mg "range" = none)
    (h : wE X e σ H fun v H1 => ∃ (n : Nat) (J : Nat → St → Hp → Prop), v = .int (n : Nat) ∧ n ≤ 1000000 ∧ J 0 σ H1 ∧
      (∀ i σ' H', i < n → J i σ' H' → wB X body { D with nx := J (i + 1), ct := J (i + 1), bk := D.nx } (σ'.set slot (some (.int (i : Nat)))) H') ∧ ∀ σ' H', J n σ' H' → D.nx σ' H')
    (hs : starEach [e] X.env = [(false, eval e X.env)] := by rfl) (hs' : starEach (e :: []) X.env = (false, eval e X.env) :: starEach [] X.env := by rfl)
    (hf : ∀ x, foldedSetIterable (.Call (.Name "range" p) [e] [] p1) X.env x = pure x := by intro _; rfl) (hfn : X.fn x = true ∨ X.env.scope.names.lookup x = some .local := by first | exact .inl rfl | exact .inr rfl | assumption) : wS X (.For (.Name x p2) (.Call (.Name "range" p) [e] [] p1) body [] pos) D σ H := by
  refine ⟨_, ps_for hp hc (pi_range1 hg hm wA.pa hs) (pg_name hN hx hl hfn) wB.ps hf, ca_cons (wE.weak h ?_) hs'⟩
  rintro v H1 ⟨n, J, rfl, hn, h0, ht, hd⟩
  refine ca_nil ⟨(n : Nat), rfl, by omega, by omega, ?_⟩
  have en : ((n : Nat) : Int).toNat = n := by omega
  rw [en]
  refine ⟨fun i m σ' H' => m = n - i ∧ i ≤ n ∧ J i σ' H', ⟨n, rfl, Nat.zero_le _, h0⟩, ?_⟩
  rintro i m σ' H' ⟨rfl, hi', j⟩
  have wk := wk_range (K := X.K) (M := M0) (H := H') 0 n
  have ln : ((List.range n).map fun i => PyData.int (0 + (i : Nat))).length = n := by simp
  by_cases hlt : i < n
  · refine .inr ⟨wk.go M0 i H' (fun _ z => z.elim) (ExM.refl _) (by rw [ln]; exact hlt), J (i + 1), fun σ2 H2 j2 => ⟨n - (i + 1), by omega, rfl, hlt, j2⟩, fun x H2 y => ?_⟩
    obtain ⟨rfl, rfl⟩ := y
    rw [Int.zero_add]
    exact ht i σ' _ hlt j
  · have e2 : i = n := by omega
    subst e2
    have := wk.stop M0 H' (fun _ z => z.elim) (ExM.refl _)
    rw [ln] at this
    exact .inl ⟨this, hd σ' H' j⟩
/-- an item of a list of whatever -/
theorem rIx_lst {K : PySem.W.Frag} {l : Addr} {xs : List V} {i : Int} {v : V} {Q : VK} (h : H l = some (.lst xs)) (hv : atI xs i = some v) (q : Q v H) : rIx K (.ref l) (.int i) H Q := .inl ⟨_, _, i, v, rfl, rfl, .inl (.inl h), hv, q⟩
end
end GV

namespace GV
open PySem PySem.Spec PyProof.Rows L2
section
variable {X : Cx} {σ : St} {H : Hp} {e elt : Expr} {pos : Pos}
/-- [elt for x in range(e)], where elt may change things -/
theorem ce_lcR {slot : Nat} {x : Str} {p p1 p2 : Pos} {scope : Scope} {own : List (Str × Nat)} {Q : VK} (hc : X.calm = true) (hN : X.N.Nodup) (hg : Gl X "range") (hm : X.mg "range" = none) (ok : BlkOk X.N X.env.scope scope own)
    (hx : ∀ s H C cl fp, PG (Cx.lc X s H scope C cl fp) (.Name x p2) (gName slot)) (hw : ∀ v, wipe ((wipe σ (own.map (·.2))).set slot (some v)) (own.map (·.2)) = wipe σ (own.map (·.2)))
    (h : wE X e σ H fun v H1 => ∃ n : Nat, v = .int (n : Nat) ∧ n ≤ 1000000 ∧ ∀ D, H1 D = none → ∃ J : Nat → Hp → Prop, J 0 (upd H1 D (.lst [])) ∧
      (∀ i H', i < n → J i H' → ∀ s0 H0 C cl fp, wE (Cx.lc X s0 H0 scope C cl fp) elt ((wipe σ (own.map (·.2))).set slot (some (.int (i : Nat)))) H' fun y H4 => ∃ acc, H4 D = some (.lst acc) ∧ acc.length < 100000 ∧ J (i + 1) (upd H4 D (.lst (acc ++ [y])))) ∧ ∀ H', J n H' → Q (.ref D) H')
    (hs : starEach [e] X.env = [(false, eval e X.env)] := by rfl) (hs' : starEach (e :: []) X.env = (false, eval e X.env) :: starEach [] X.env := by rfl)
    (hf : ∀ x, foldedSetIterable (.Call (.Name "range" p) [e] [] p1) X.env x = pure x := by intro _; rfl) : wE X (.ListComp elt [⟨.Name x p2, .Call (.Name "range" p) [e] [] p1, [], 0⟩] scope pos) σ H Q := by
  refine ⟨_, pe_lc (tt := fun σ H Q => Q true H) (te := fun σ H Q => ∀ s0 H0 C cl fp, wE (Cx.lc X s0 H0 scope C cl fp) elt σ H Q) hc hN (pi_range1 hg hm wA.pa hs) ok hx (fun _ _ _ _ _ => ⟨fun pins s σ H Q I h => pts_nil.run pins s σ H Q I h⟩)
    (fun s0 H0 C cl fp => ⟨fun pins s σ H Q I h => wE.pe.run pins s σ H Q I (h s0 H0 C cl fp)⟩) hf, ca_cons (wE.weak h ?_) hs'⟩
  rintro v H1 ⟨n, rfl, hn, run⟩
  refine ca_nil ⟨(n : Nat), rfl, by omega, by omega, ?_⟩
  rw [show ((n : Nat) : Int).toNat = n by omega]
  intro D hD
  obtain ⟨J, h0, ht, hd⟩ := run D hD
  refine ⟨fun i m H' => m = n - i ∧ i ≤ n ∧ J i H', ⟨n, rfl, Nat.zero_le _, h0⟩, ?_⟩
  rintro i m H' ⟨rfl, hi', j⟩
  have wk := wk_range (K := X.K) (M := M0) (H := H') 0 n
  have ln : ((List.range n).map fun i => PyData.int (0 + (i : Nat))).length = n := by simp
  by_cases hlt : i < n
  · refine .inr ⟨wk.go M0 i H' (fun _ z => z.elim) (ExM.refl _) (by rw [ln]; exact hlt), J (i + 1), fun H2 j2 => ⟨n - (i + 1), by omega, rfl, hlt, j2⟩, fun x H2 y => ?_⟩
    obtain ⟨rfl, rfl⟩ := y
    rw [Int.zero_add]
    refine ⟨hw _, ?_⟩
    show if true = true then _ else _
    rw [if_pos rfl]
    intro s0 H0 C cl fp
    refine wE.weak (ht i _ hlt j s0 H0 C cl fp) ?_
    rintro y H4 ⟨acc, h1, h2, h3⟩
    exact ⟨acc, h1, Nat.lt_of_lt_of_le h2 (by rw [sizeLine_eq]; decide), h3⟩
  · have e2 : i = n := by omega
    subst e2
    have := wk.stop M0 H' (fun _ z => z.elim) (ExM.refl _)
    rw [ln] at this
    exact .inl ⟨this, hd H' j⟩
end
end GV
namespace GV
open PySem PySem.Spec PyProof.Rows L2
section
variable {X : Cx} {M : Addr → Prop} {σ : St} {H : Hp} {a : Expr} {d : PyData} {pos : Pos}
theorem kitAny2 {K : PySem.W.Frag} {t S T : String} {j k : Bool} (h1 : kitB t S = some j) (h2 : kitB t T = some k) : PySem.W.kitAny K (.type t) [.type S, .type T] = some (j || k) := by
  have e1 := kit_ty (K := K) h1
  have e2 := kit_ty (K := K) h2
  show (match PySem.W.kitOne K (.type t) (.type S) with
    | some true => some true
    | some false => PySem.W.kitAny K (.type t) [.type T]
    | none => none) = _
  rw [e1]
  cases j with
  | true => rfl
  | false =>
    show (match PySem.W.kitOne K (.type t) (.type T) with
      | some true => some true
      | some false => PySem.W.kitAny K (.type t) []
      | none => none) = _
    rw [e2]
    cases k <;> rfl
/-- isinstance(a, (S, T)) -/
theorem pd_isi2 {S T : String} {x y : Str} {p p1 p2 p3 : Pos} {n : Nat} {j k : Bool} (hg : Gl X "isinstance") (hm : X.mg "isinstance" = none) (hgS : Gl X x) (hmS : X.mg x = none) (hvS : bootBuiltins x = some (.type S)) (hgT : Gl X y) (hmT : X.mg y = none) (hvT : bootBuiltins y = some (.type T)) (ha : PD X M a σ H d) (hj : kitB (tyD d) S = some j) (hk : kitB (tyD d) T = some k)
    (nx : x ≠ "__name__" := by decide) (dx : (x == ("__debug__" : Str)) = false := by decide) (ny : y ≠ "__name__" := by decide) (dy : (y == ("__debug__" : Str)) = false := by decide)
    (h1 : starEach (a :: [.Tuple [.Name x p1, .Name y p2] n p3]) X.env = (false, eval a X.env) :: starEach [.Tuple [.Name x p1, .Name y p2] n p3] X.env := by rfl) (h2 : starEach (.Tuple [.Name x p1, .Name y p2] n p3 :: []) X.env = (false, eval (.Tuple [.Name x p1, .Name y p2] n p3) X.env) :: starEach [] X.env := by rfl)
    (h3 : starEach (.Name x p1 :: [.Name y p2]) X.env = (false, eval (.Name x p1) X.env) :: starEach [.Name y p2] X.env := by rfl) (h4 : starEach (.Name y p2 :: []) X.env = (false, eval (.Name y p2) X.env) :: starEach [] X.env := by rfl)
    (hpl : (backTo pos (starEach [.Tuple [.Name x p1, .Name y p2] n p3] X.env)).any (·.1) = false := by rfl) :
    PD X M (.Call (.Name "isinstance" p) [a, .Tuple [.Name x p1, .Name y p2] n p3] [] pos) σ H (.bool (j || k)) := .mk fun H1 e1 al Q q =>
  ⟨_, pe_callB call_isiT hg hm PyProof.Rows.boot_isinstance (pa_cons wE.pe (pa_cons (pe_tup (pa_cons (pe_bltn (v := .ty S) hgS hmS hvS rfl nx dx) (pa_cons (pe_bltn (v := .ty T) hgT hmT hvT rfl ny dy) pa_nil h4) h3)) pa_nil h2) h1) (by decide) (by decide) h1 hpl, ha.run H1 e1 al _ fun v H2 x2 r =>
    ⟨Evl.sz_of (by show 2 ≤ 100000; decide), fun t ht => ⟨v, t, [.ty S, .ty T], .type (tyD d), [.type S, .type T], j || k, rfl, upd_same, .cons (.ty S) (.cons (.ty T) .nil), (r.mono (fun _ z => z) (.of (Evl.Ex.new ht))).tyX, kitAny2 hj hk, q _ _ (x2.trans (Evl.Ex.new ht)) (.bl _)⟩⟩⟩
end
end GV

namespace GV
open PySem PySem.Spec PyProof.Rows L2
section
variable {X : Cx} {M : Addr → Prop} {σ : St} {H : Hp} {a b e : Expr} {d : PyData} {ds : List PyData} {pos : Pos}
theorem cut_all {xs : List PyData} {lo hi : Option Int} (h : HT.sIx xs.length 0 lo = 0 ∧ HT.sIx xs.length xs.length hi = xs.length) : cutD xs lo hi = xs := by
  unfold cutD
  rw [h.1, h.2, List.drop_zero, Nat.sub_zero, List.take_length]
/-- a slice of a tuple -/
theorem pd_sliceT {lo hi : Option Expr} {l u : Option Int} {p2 : Pos} (h : PD X M e σ H (.tuple ds)) (hl : OD X M lo σ H l) (hu : OD X M hi σ H u) : PD X M (.Subscript e (.Slice lo hi none p2) pos) σ H (.tuple (cutD ds l u)) := by
  obtain ⟨tl, pl, rl⟩ := hl.ex
  obtain ⟨tu, pu, ru⟩ := hu.ex
  refine .mk fun H1 e1 al Q q => ⟨_, pe_slice sl_tupA wE.pe pl pu, h.run H1 e1 al _ fun x H2 x2 r => ?_⟩
  refine rl H2 (e1.trans (.of x2)) (al.mono x2) _ fun H3 x3 => ru H3 ((e1.trans (.of x2)).trans (.of x3)) ((al.mono x2).mono x3) _ fun H4 x4 => ?_
  have r4 := r.mono (fun _ z => z) (.of (x3.trans x4))
  have x24 := x2.trans (x3.trans x4)
  cases r4 with
  | tup m hs rs =>
    refine ⟨_, _, rfl, .inl hs, fun hall => ?_, fun _ p hp => ?_⟩
    · rw [rs.length] at hall
      refine q _ H4 x24 ?_
      rw [cut_all hall]
      exact .tup m hs rs
    · exact q _ _ (x24.trans (Evl.Ex.new hp)) (.newT (X := X) (al.mono x24) hp (rs.cut l u))
/-- min(e, default=f) of a tuple of whole numbers -/
def rMinDfT (K : PySem.W.Frag) : List V → List V → Hp → VK → Prop := fun xs zs H Q => ∃ (a : Addr) (ns : List Int) (z : V), xs = [.ref a] ∧ zs = [z] ∧ SqT K H a (ns.map V.int) ∧ (ns = [] → Q z H) ∧ (∀ n r, ns = n :: r → Q (.int (r.foldl min n)) H)
theorem cr_minDfT (hc : X.calm = true) (hu : X.A.units + 2 < cLine) : CallRK X (.builtin "min") ["default"] (rMinDfT X.K) := by
  intro pins s σ H xs zs us ws Q I rx rz h
  obtain ⟨a, ns, z, rfl, rfl, hs, q0, q1⟩ := h
  obtain ⟨w, rfl, rw'⟩ := vals1 rz
  rw [Vals.ref1 rx]
  obtain ⟨its, rv, pl, _⟩ := I.tuple hs
  obtain ⟨as, hr⟩ := Dp.readsAll I _ _ its (dpAll_ints ns) rv
  refine PySem.W.min_tuple_default (I.ok.hd hc) pl hr (ints_alike ns) (by rw [ints_depth]; omega) (fun e h' tk k => ?_) (fun y ys i v h' tk bs e hv hrd k => ?_)
  · refine ⟨z, H, I.kept k, rw', q0 ?_⟩
    cases ns with
    | nil => rfl
    | cons n r => cases e
  · cases ns with
    | nil => cases e
    | cons n r =>
      cases e
      rw [PySem.W.minD_ints] at hrd
      cases hrd with
      | int i t => exact ⟨.int _, H, I.kept k, ⟨t, rfl⟩, q1 n r rfl⟩
theorem pd_minDfT {p kp : Pos} {ns : List Int} (hc : X.calm = true) (hu : X.A.units + 2 < cLine) (hg : Gl X "min") (hm : X.mg "min" = none) (ha : PD X M a σ H (.tuple (ns.map PyData.int))) (hb : PD X M b σ H d)
    (h1 : starEach (a :: []) X.env = (false, eval a X.env) :: starEach [] X.env := by rfl)
    (he : backTo pos (starEach (a :: []) X.env) = (false, eval a X.env) :: backTo pos (starEach [] X.env) := by rfl) (hpl : (backTo pos (starEach (a :: []) X.env)).any (·.1) = false := by rfl)
    (hall : (backToKw pos (keywordEach [⟨some "default", b, kp⟩] X.env)).all (·.1.isSome) = true := by rfl) (hnone : (backToKw pos (keywordEach [⟨some "default", b, kp⟩] X.env)).any (·.1.isNone) = false := by rfl)
    (hks : (backToKw pos (keywordEach [⟨some "default", b, kp⟩] X.env)).filterMap (·.1) = (["default"] : List Str) := by rfl) :
    PD X M (.Call (.Name "min" p) [a] [⟨some "default", b, kp⟩] pos) σ H (minOr d ns) := .mk fun H1 e1 al Q q =>
  ⟨_, pe_callBK (cr_minDfT hc hu) hg hm PyProof.Rows.boot_min (pa_cons wE.pe pa_nil h1) (pk_cons wE.pe pk_nil) (by decide) (by decide) he hpl hall hnone hks, ha.run H1 e1 al _ fun v H2 x2 r => hb.run H2 (e1.trans (.of x2)) (al.mono x2) _ fun w H3 x3 rw' => by
    have r3 := r.mono (fun _ z => z) (.of x3)
    cases r3 with
    | tup m hs rs =>
      refine ⟨_, ns, w, rfl, rfl, .inl (by rw [← rs.of_ints]; exact hs), fun e => q _ H3 (x2.trans x3) ?_, fun n r e => q _ H3 (x2.trans x3) ?_⟩
      · rw [e]
        exact rw'
      · rw [e]
        exact .int _⟩
end
end GV

namespace IK
open PySem PySem.Spec PyProof.Rows L2 GV
abbrev St := L2.St
def topS (i : Nat) : Stmt := PySem.Challenge.pw_millbrook_k95_stones_taken_out_and_put_i.main.body.getD i (.Pass ⟨0, 0, 0, 0⟩)
abbrev s_wall : Stmt := topS 0
abbrev n_wall : List Str := ["k"]
abbrev p_wall : List Str := ["k"]
theorem sc_wall : FnScope n_wall p_wall (defScope s_wall) := ⟨rfl, rfl, rfl, by decide +kernel, rfl, by decide +kernel, by decide +kernel⟩
abbrev s_InvalidRow_init : Stmt := inClass (topS 3) 0
abbrev n_InvalidRow_init : List Str := ["self", "row"]
abbrev p_InvalidRow_init : List Str := ["self", "row"]
theorem sc_InvalidRow_init : FnScope n_InvalidRow_init p_InvalidRow_init (defScope s_InvalidRow_init) := ⟨rfl, rfl, rfl, by decide +kernel, rfl, by decide +kernel, by decide +kernel⟩
abbrev s_InvalidWeight_init : Stmt := inClass (topS 4) 0
abbrev n_InvalidWeight_init : List Str := ["self", "weight"]
abbrev p_InvalidWeight_init : List Str := ["self", "weight"]
theorem sc_InvalidWeight_init : FnScope n_InvalidWeight_init p_InvalidWeight_init (defScope s_InvalidWeight_init) := ⟨rfl, rfl, rfl, by decide +kernel, rfl, by decide +kernel, by decide +kernel⟩
abbrev s_InvalidPlace_init : Stmt := inClass (topS 5) 0
abbrev n_InvalidPlace_init : List Str := ["self", "place"]
abbrev p_InvalidPlace_init : List Str := ["self", "place"]
theorem sc_InvalidPlace_init : FnScope n_InvalidPlace_init p_InvalidPlace_init (defScope s_InvalidPlace_init) := ⟨rfl, rfl, rfl, by decide +kernel, rfl, by decide +kernel, by decide +kernel⟩
abbrev s_InvalidHouse_init : Stmt := inClass (topS 6) 0
abbrev n_InvalidHouse_init : List Str := ["self", "house"]
abbrev p_InvalidHouse_init : List Str := ["self", "house"]
theorem sc_InvalidHouse_init : FnScope n_InvalidHouse_init p_InvalidHouse_init (defScope s_InvalidHouse_init) := ⟨rfl, rfl, rfl, by decide +kernel, rfl, by decide +kernel, by decide +kernel⟩
abbrev s_InvalidNumber_init : Stmt := inClass (topS 7) 0
abbrev n_InvalidNumber_init : List Str := ["self", "number"]
abbrev p_InvalidNumber_init : List Str := ["self", "number"]
theorem sc_InvalidNumber_init : FnScope n_InvalidNumber_init p_InvalidNumber_init (defScope s_InvalidNumber_init) := ⟨rfl, rfl, rfl, by decide +kernel, rfl, by decide +kernel, by decide +kernel⟩
abbrev s_InvalidKinds_init : Stmt := inClass (topS 8) 0
abbrev n_InvalidKinds_init : List Str := ["self", "kinds"]
abbrev p_InvalidKinds_init : List Str := ["self", "kinds"]
theorem sc_InvalidKinds_init : FnScope n_InvalidKinds_init p_InvalidKinds_init (defScope s_InvalidKinds_init) := ⟨rfl, rfl, rfl, by decide +kernel, rfl, by decide +kernel, by decide +kernel⟩
abbrev s_TooMany_init : Stmt := inClass (topS 9) 0
abbrev n_TooMany_init : List Str := ["self", "most", "given"]
abbrev p_TooMany_init : List Str := ["self", "most", "given"]
theorem sc_TooMany_init : FnScope n_TooMany_init p_TooMany_init (defScope s_TooMany_init) := ⟨rfl, rfl, rfl, by decide +kernel, rfl, by decide +kernel, by decide +kernel⟩
abbrev s_NoStone_init : Stmt := inClass (topS 10) 0
abbrev n_NoStone_init : List Str := ["self", "weight"]
abbrev p_NoStone_init : List Str := ["self", "weight"]
theorem sc_NoStone_init : FnScope n_NoStone_init p_NoStone_init (defScope s_NoStone_init) := ⟨rfl, rfl, rfl, by decide +kernel, rfl, by decide +kernel, by decide +kernel⟩
abbrev s_StoneThere_init : Stmt := inClass (topS 11) 0
abbrev n_StoneThere_init : List Str := ["self", "weight"]
abbrev p_StoneThere_init : List Str := ["self", "weight"]
theorem sc_StoneThere_init : FnScope n_StoneThere_init p_StoneThere_init (defScope s_StoneThere_init) := ⟨rfl, rfl, rfl, by decide +kernel, rfl, by decide +kernel, by decide +kernel⟩
abbrev s_is_integer : Stmt := topS 13
abbrev n_is_integer : List Str := ["value"]
abbrev p_is_integer : List Str := ["value"]
theorem sc_is_integer : FnScope n_is_integer p_is_integer (defScope s_is_integer) := ⟨rfl, rfl, rfl, by decide +kernel, rfl, by decide +kernel, by decide +kernel⟩
abbrev s_is_number : Stmt := topS 14
abbrev n_is_number : List Str := ["value", "low", "high"]
abbrev p_is_number : List Str := ["value", "low", "high"]
theorem sc_is_number : FnScope n_is_number p_is_number (defScope s_is_number) := ⟨rfl, rfl, rfl, by decide +kernel, rfl, by decide +kernel, by decide +kernel⟩
abbrev s_check_number : Stmt := topS 15
abbrev n_check_number : List Str := ["number", "low", "high"]
abbrev p_check_number : List Str := ["number", "low", "high"]
theorem sc_check_number : FnScope n_check_number p_check_number (defScope s_check_number) := ⟨rfl, rfl, rfl, by decide +kernel, rfl, by decide +kernel, by decide +kernel⟩
abbrev s_is_weight : Stmt := topS 19
abbrev n_is_weight : List Str := ["value"]
abbrev p_is_weight : List Str := ["value"]
theorem sc_is_weight : FnScope n_is_weight p_is_weight (defScope s_is_weight) := ⟨rfl, rfl, rfl, by decide +kernel, rfl, by decide +kernel, by decide +kernel⟩
abbrev s_is_bag_row : Stmt := topS 20
abbrev n_is_bag_row : List Str := ["value", "item"]
abbrev p_is_bag_row : List Str := ["value"]
theorem sc_is_bag_row : FnScope n_is_bag_row p_is_bag_row (defScope s_is_bag_row) := ⟨rfl, rfl, rfl, by decide +kernel, rfl, by decide +kernel, by decide +kernel⟩
abbrev s_is_row : Stmt := topS 21
abbrev n_is_row : List Str := ["value"]
abbrev p_is_row : List Str := ["value"]
theorem sc_is_row : FnScope n_is_row p_is_row (defScope s_is_row) := ⟨rfl, rfl, rfl, by decide +kernel, rfl, by decide +kernel, by decide +kernel⟩
abbrev s_is_place : Stmt := topS 22
abbrev n_is_place : List Str := ["row", "value"]
abbrev p_is_place : List Str := ["row", "value"]
theorem sc_is_place : FnScope n_is_place p_is_place (defScope s_is_place) := ⟨rfl, rfl, rfl, by decide +kernel, rfl, by decide +kernel, by decide +kernel⟩
abbrev s_check_weight : Stmt := topS 23
abbrev n_check_weight : List Str := ["weight"]
abbrev p_check_weight : List Str := ["weight"]
theorem sc_check_weight : FnScope n_check_weight p_check_weight (defScope s_check_weight) := ⟨rfl, rfl, rfl, by decide +kernel, rfl, by decide +kernel, by decide +kernel⟩
abbrev s_check_row : Stmt := topS 24
abbrev n_check_row : List Str := ["row"]
abbrev p_check_row : List Str := ["row"]
theorem sc_check_row : FnScope n_check_row p_check_row (defScope s_check_row) := ⟨rfl, rfl, rfl, by decide +kernel, rfl, by decide +kernel, by decide +kernel⟩
abbrev s_check_place : Stmt := topS 25
abbrev n_check_place : List Str := ["row", "place"]
abbrev p_check_place : List Str := ["row", "place"]
theorem sc_check_place : FnScope n_check_place p_check_place (defScope s_check_place) := ⟨rfl, rfl, rfl, by decide +kernel, rfl, by decide +kernel, by decide +kernel⟩
abbrev s_put_in : Stmt := topS 26
abbrev n_put_in : List Str := ["row", "weight", "index", "stones"]
abbrev p_put_in : List Str := ["row", "weight", "index"]
theorem sc_put_in : FnScope n_put_in p_put_in (defScope s_put_in) := ⟨rfl, rfl, rfl, by decide +kernel, rfl, by decide +kernel, by decide +kernel⟩
abbrev s_taken_out : Stmt := topS 27
abbrev n_taken_out : List Str := ["row", "weight", "stone"]
abbrev p_taken_out : List Str := ["row", "weight"]
theorem sc_taken_out : FnScope n_taken_out p_taken_out (defScope s_taken_out) := ⟨rfl, rfl, rfl, by decide +kernel, rfl, by decide +kernel, by decide +kernel⟩
abbrev s_text_of_number : Stmt := topS 31
abbrev n_text_of_number : List Str := ["number", "sides"]
abbrev p_text_of_number : List Str := ["number"]
theorem sc_text_of_number : FnScope n_text_of_number p_text_of_number (defScope s_text_of_number) := ⟨rfl, rfl, rfl, by decide +kernel, rfl, by decide +kernel, by decide +kernel⟩
abbrev s_number_of_text : Stmt := topS 32
abbrev n_number_of_text : List Str := ["text", "before", "dash", "behind"]
abbrev p_number_of_text : List Str := ["text"]
theorem sc_number_of_text : FnScope n_number_of_text p_number_of_text (defScope s_number_of_text) := ⟨rfl, rfl, rfl, by decide +kernel, rfl, by decide +kernel, by decide +kernel⟩
abbrev s_check_house : Stmt := topS 33
abbrev n_check_house : List Str := ["house"]
abbrev p_check_house : List Str := ["house"]
theorem sc_check_house : FnScope n_check_house p_check_house (defScope s_check_house) := ⟨rfl, rfl, rfl, by decide +kernel, rfl, by decide +kernel, by decide +kernel⟩
abbrev s_House_init : Stmt := inClass (topS 34) 1
abbrev n_House_init : List Str := ["self", "text", "number"]
abbrev p_House_init : List Str := ["self", "text"]
theorem sc_House_init : FnScope n_House_init p_House_init (defScope s_House_init) := ⟨rfl, rfl, rfl, by decide +kernel, rfl, by decide +kernel, by decide +kernel⟩
abbrev s_House_by_number : Stmt := inClass (topS 34) 2
abbrev n_House_by_number : List Str := ["cls", "number"]
abbrev p_House_by_number : List Str := ["cls", "number"]
theorem sc_House_by_number : FnScope n_House_by_number p_House_by_number (defScope s_House_by_number) := ⟨rfl, rfl, rfl, by decide +kernel, rfl, by decide +kernel, by decide +kernel⟩
abbrev s_House_every : Stmt := inClass (topS 34) 3
abbrev n_House_every : List Str := []
abbrev p_House_every : List Str := []
theorem sc_House_every : FnScope n_House_every p_House_every (defScope s_House_every) := ⟨rfl, rfl, rfl, by decide +kernel, rfl, by decide +kernel, by decide +kernel⟩
abbrev s_House_named : Stmt := inClass (topS 34) 4
abbrev n_House_named : List Str := ["self", "index", "kind"]
abbrev p_House_named : List Str := ["self"]
theorem sc_House_named : FnScope n_House_named p_House_named (defScope s_House_named) := ⟨rfl, rfl, rfl, by decide +kernel, rfl, by decide +kernel, by decide +kernel⟩
abbrev s_House_names_index : Stmt := inClass (topS 34) 5
abbrev n_House_names_index : List Str := ["self", "index"]
abbrev p_House_names_index : List Str := ["self", "index"]
theorem sc_House_names_index : FnScope n_House_names_index p_House_names_index (defScope s_House_names_index) := ⟨rfl, rfl, rfl, by decide +kernel, rfl, by decide +kernel, by decide +kernel⟩
abbrev s_House_mirrored : Stmt := inClass (topS 34) 6
abbrev n_House_mirrored : List Str := ["self"]
abbrev p_House_mirrored : List Str := ["self"]
theorem sc_House_mirrored : FnScope n_House_mirrored p_House_mirrored (defScope s_House_mirrored) := ⟨rfl, rfl, rfl, by decide +kernel, rfl, by decide +kernel, by decide +kernel⟩
abbrev s_House_flipped : Stmt := inClass (topS 34) 7
abbrev n_House_flipped : List Str := ["self"]
abbrev p_House_flipped : List Str := ["self"]
theorem sc_House_flipped : FnScope n_House_flipped p_House_flipped (defScope s_House_flipped) := ⟨rfl, rfl, rfl, by decide +kernel, rfl, by decide +kernel, by decide +kernel⟩
abbrev s_House_is_finer : Stmt := inClass (topS 34) 8
abbrev n_House_is_finer : List Str := ["self", "other"]
abbrev p_House_is_finer : List Str := ["self", "other"]
theorem sc_House_is_finer : FnScope n_House_is_finer p_House_is_finer (defScope s_House_is_finer) := ⟨rfl, rfl, rfl, by decide +kernel, rfl, by decide +kernel, by decide +kernel⟩
abbrev s_House_contains : Stmt := inClass (topS 34) 9
abbrev n_House_contains : List Str := ["self", "kind"]
abbrev p_House_contains : List Str := ["self", "kind"]
theorem sc_House_contains : FnScope n_House_contains p_House_contains (defScope s_House_contains) := ⟨rfl, rfl, rfl, by decide +kernel, rfl, by decide +kernel, by decide +kernel⟩
abbrev s_House_len : Stmt := inClass (topS 34) 10
abbrev n_House_len : List Str := ["self"]
abbrev p_House_len : List Str := ["self"]
theorem sc_House_len : FnScope n_House_len p_House_len (defScope s_House_len) := ⟨rfl, rfl, rfl, by decide +kernel, rfl, by decide +kernel, by decide +kernel⟩
abbrev s_House_eq : Stmt := inClass (topS 34) 11
abbrev n_House_eq : List Str := ["self", "other"]
abbrev p_House_eq : List Str := ["self", "other"]
theorem sc_House_eq : FnScope n_House_eq p_House_eq (defScope s_House_eq) := ⟨rfl, rfl, rfl, by decide +kernel, rfl, by decide +kernel, by decide +kernel⟩
abbrev s_House_str : Stmt := inClass (topS 34) 12
abbrev n_House_str : List Str := ["self"]
abbrev p_House_str : List Str := ["self"]
theorem sc_House_str : FnScope n_House_str p_House_str (defScope s_House_str) := ⟨rfl, rfl, rfl, by decide +kernel, rfl, by decide +kernel, by decide +kernel⟩
abbrev s_House_repr : Stmt := inClass (topS 34) 13
abbrev n_House_repr : List Str := ["self"]
abbrev p_House_repr : List Str := ["self"]
theorem sc_House_repr : FnScope n_House_repr p_House_repr (defScope s_House_repr) := ⟨rfl, rfl, rfl, by decide +kernel, rfl, by decide +kernel, by decide +kernel⟩
abbrev s_House_or : Stmt := inClass (topS 34) 14
abbrev n_House_or : List Str := ["self", "other"]
abbrev p_House_or : List Str := ["self", "other"]
theorem sc_House_or : FnScope n_House_or p_House_or (defScope s_House_or) := ⟨rfl, rfl, rfl, by decide +kernel, rfl, by decide +kernel, by decide +kernel⟩
abbrev s_House_and : Stmt := inClass (topS 34) 15
abbrev n_House_and : List Str := ["self", "other"]
abbrev p_House_and : List Str := ["self", "other"]
theorem sc_House_and : FnScope n_House_and p_House_and (defScope s_House_and) := ⟨rfl, rfl, rfl, by decide +kernel, rfl, by decide +kernel, by decide +kernel⟩
abbrev s_check_all : Stmt := topS 36
abbrev n_check_all : List Str := ["row", "place", "house"]
abbrev p_check_all : List Str := ["row", "place", "house"]
theorem sc_check_all : FnScope n_check_all p_check_all (defScope s_check_all) := ⟨rfl, rfl, rfl, by decide +kernel, rfl, by decide +kernel, by decide +kernel⟩
abbrev s_third_kinds : Stmt := topS 37
abbrev n_third_kinds : List Str := ["row", "place", "lighter", "heavier", "letters", "behind", "stone", "index"]
abbrev p_third_kinds : List Str := ["row", "place"]
theorem sc_third_kinds : FnScope n_third_kinds p_third_kinds (defScope s_third_kinds) := ⟨rfl, rfl, rfl, by decide +kernel, rfl, by decide +kernel, by decide +kernel⟩
abbrev s_helper_indexes : Stmt := topS 38
abbrev n_helper_indexes : List Str := ["row", "place", "house", "index", "kind"]
abbrev p_helper_indexes : List Str := ["row", "place", "house"]
theorem sc_helper_indexes : FnScope n_helper_indexes p_helper_indexes (defScope s_helper_indexes) := ⟨rfl, rfl, rfl, by decide +kernel, rfl, by decide +kernel, by decide +kernel⟩
abbrev s_frees : Stmt := topS 39
abbrev n_frees : List Str := ["row", "place", "house"]
abbrev p_frees : List Str := ["row", "place", "house"]
theorem sc_frees : FnScope n_frees p_frees (defScope s_frees) := ⟨rfl, rfl, rfl, by decide +kernel, rfl, by decide +kernel, by decide +kernel⟩
abbrev s_present_kinds : Stmt := topS 40
abbrev n_present_kinds : List Str := ["row", "place", "_", "kind"]
abbrev p_present_kinds : List Str := ["row", "place"]
theorem sc_present_kinds : FnScope n_present_kinds p_present_kinds (defScope s_present_kinds) := ⟨rfl, rfl, rfl, by decide +kernel, rfl, by decide +kernel, by decide +kernel⟩
abbrev s_kinds_at : Stmt := topS 41
abbrev n_kinds_at : List Str := ["row", "place", "index"]
abbrev p_kinds_at : List Str := ["row", "place"]
theorem sc_kinds_at : FnScope n_kinds_at p_kinds_at (defScope s_kinds_at) := ⟨rfl, rfl, rfl, by decide +kernel, rfl, by decide +kernel, by decide +kernel⟩
abbrev s_helpers : Stmt := topS 42
abbrev n_helpers : List Str := ["row", "place", "house", "index"]
abbrev p_helpers : List Str := ["row", "place", "house"]
theorem sc_helpers : FnScope n_helpers p_helpers (defScope s_helpers) := ⟨rfl, rfl, rfl, by decide +kernel, rfl, by decide +kernel, by decide +kernel⟩
abbrev s_keystone : Stmt := topS 43
abbrev n_keystone : List Str := ["row", "place", "house", "found"]
abbrev p_keystone : List Str := ["row", "place", "house"]
theorem sc_keystone : FnScope n_keystone p_keystone (defScope s_keystone) := ⟨rfl, rfl, rfl, by decide +kernel, rfl, by decide +kernel, by decide +kernel⟩
abbrev s_is_free : Stmt := topS 44
abbrev n_is_free : List Str := ["row", "place", "house"]
abbrev p_is_free : List Str := ["row", "place", "house"]
theorem sc_is_free : FnScope n_is_free p_is_free (defScope s_is_free) := ⟨rfl, rfl, rfl, by decide +kernel, rfl, by decide +kernel, by decide +kernel⟩
abbrev s_check_kinds : Stmt := topS 48
abbrev n_check_kinds : List Str := ["kinds", "kind"]
abbrev p_check_kinds : List Str := ["kinds"]
theorem sc_check_kinds : FnScope n_check_kinds p_check_kinds (defScope s_check_kinds) := ⟨rfl, rfl, rfl, by decide +kernel, rfl, by decide +kernel, by decide +kernel⟩
abbrev s_probe_of : Stmt := topS 49
abbrev n_probe_of : List Str := ["kinds", "held", "by_weight", "row", "part"]
abbrev p_probe_of : List Str := ["kinds"]
theorem sc_probe_of : FnScope n_probe_of p_probe_of (defScope s_probe_of) := ⟨rfl, rfl, rfl, by decide +kernel, rfl, by decide +kernel, by decide +kernel⟩
abbrev s_probe : Stmt := topS 50
abbrev n_probe : List Str := ["kinds"]
abbrev p_probe : List Str := ["kinds"]
theorem sc_probe : FnScope n_probe p_probe (defScope s_probe) := ⟨rfl, rfl, rfl, by decide +kernel, rfl, by decide +kernel, by decide +kernel⟩
abbrev s_law_integer : Stmt := topS 52
abbrev n_law_integer : List Str := ["value"]
abbrev p_law_integer : List Str := ["value"]
theorem sc_law_integer : FnScope n_law_integer p_law_integer (defScope s_law_integer) := ⟨rfl, rfl, rfl, by decide +kernel, rfl, by decide +kernel, by decide +kernel⟩
abbrev s_law_purse : Stmt := topS 53
abbrev n_law_purse : List Str := ["script", "k", "cell", "rest"]
abbrev p_law_purse : List Str := ["script", "k"]
theorem sc_law_purse : FnScope n_law_purse p_law_purse (defScope s_law_purse) := ⟨rfl, rfl, rfl, by decide +kernel, rfl, by decide +kernel, by decide +kernel⟩
abbrev s_law_draw : Stmt := topS 54
abbrev n_law_draw : List Str := ["purse", "size", "told", "mixed", "turn", "one", "two"]
abbrev p_law_draw : List Str := ["purse", "size"]
theorem sc_law_draw : FnScope n_law_draw p_law_draw (defScope s_law_draw) := ⟨rfl, rfl, rfl, by decide +kernel, rfl, by decide +kernel, by decide +kernel⟩
abbrev s_law_stones : Stmt := topS 55
abbrev n_law_stones : List Str := ["purse", "many", "style", "stones", "weight", "k", "turn"]
abbrev p_law_stones : List Str := ["purse", "many"]
theorem sc_law_stones : FnScope n_law_stones p_law_stones (defScope s_law_stones) := ⟨rfl, rfl, rfl, by decide +kernel, rfl, by decide +kernel, by decide +kernel⟩
abbrev s_law_order : Stmt := topS 56
abbrev n_law_order : List Str := ["purse", "stones", "rest", "row", "k", "pick"]
abbrev p_law_order : List Str := ["purse", "stones"]
theorem sc_law_order : FnScope n_law_order p_law_order (defScope s_law_order) := ⟨rfl, rfl, rfl, by decide +kernel, rfl, by decide +kernel, by decide +kernel⟩
abbrev s_law_house : Stmt := topS 57
abbrev n_law_house : List Str := ["purse", "firsts"]
abbrev p_law_house : List Str := ["purse"]
theorem sc_law_house : FnScope n_law_house p_law_house (defScope s_law_house) := ⟨rfl, rfl, rfl, by decide +kernel, rfl, by decide +kernel, by decide +kernel⟩
abbrev s_law_kinds : Stmt := topS 58
abbrev n_law_kinds : List Str := ["row", "place", "low", "high", "present", "index", "kind"]
abbrev p_law_kinds : List Str := ["row", "place"]
theorem sc_law_kinds : FnScope n_law_kinds p_law_kinds (defScope s_law_kinds) := ⟨rfl, rfl, rfl, by decide +kernel, rfl, by decide +kernel, by decide +kernel⟩
abbrev s_law_free : Stmt := topS 59
abbrev n_law_free : List Str := ["row", "place", "number", "present", "rest", "kind"]
abbrev p_law_free : List Str := ["row", "place", "number"]
theorem sc_law_free : FnScope n_law_free p_law_free (defScope s_law_free) := ⟨rfl, rfl, rfl, by decide +kernel, rfl, by decide +kernel, by decide +kernel⟩
abbrev s_law_exchanged : Stmt := topS 60
abbrev n_law_exchanged : List Str := ["row", "place"]
abbrev p_law_exchanged : List Str := ["row", "place"]
theorem sc_law_exchanged : FnScope n_law_exchanged p_law_exchanged (defScope s_law_exchanged) := ⟨rfl, rfl, rfl, by decide +kernel, rfl, by decide +kernel, by decide +kernel⟩
abbrev s_law_like : Stmt := topS 61
abbrev n_law_like : List Str := ["actual", "due", "k"]
abbrev p_law_like : List Str := ["actual", "due"]
theorem sc_law_like : FnScope n_law_like p_law_like (defScope s_law_like) := ⟨rfl, rfl, rfl, by decide +kernel, rfl, by decide +kernel, by decide +kernel⟩
abbrev s_law_names : Stmt := topS 62
abbrev n_law_names : List Str := ["present", "kind"]
abbrev p_law_names : List Str := ["present"]
theorem sc_law_names : FnScope n_law_names p_law_names (defScope s_law_names) := ⟨rfl, rfl, rfl, by decide +kernel, rfl, by decide +kernel, by decide +kernel⟩
abbrev s_law_named : Stmt := topS 63
abbrev n_law_named : List Str := ["number", "bits", "rest", "kind"]
abbrev p_law_named : List Str := ["number"]
theorem sc_law_named : FnScope n_law_named p_law_named (defScope s_law_named) := ⟨rfl, rfl, rfl, by decide +kernel, rfl, by decide +kernel, by decide +kernel⟩
abbrev s_law_common : Stmt := topS 64
abbrev n_law_common : List Str := ["present", "number", "named", "kind"]
abbrev p_law_common : List Str := ["present", "number"]
theorem sc_law_common : FnScope n_law_common p_law_common (defScope s_law_common) := ⟨rfl, rfl, rfl, by decide +kernel, rfl, by decide +kernel, by decide +kernel⟩
abbrev s_law_helpers : Stmt := topS 65
abbrev n_law_helpers : List Str := ["row", "place", "number", "low", "high", "named", "found", "index", "kind"]
abbrev p_law_helpers : List Str := ["row", "place", "number"]
theorem sc_law_helpers : FnScope n_law_helpers p_law_helpers (defScope s_law_helpers) := ⟨rfl, rfl, rfl, by decide +kernel, rfl, by decide +kernel, by decide +kernel⟩
abbrev s_law_place_tells : Stmt := topS 66
abbrev n_law_place_tells : List Str := ["row", "place", "number", "house", "one", "found", "key"]
abbrev p_law_place_tells : List Str := ["row", "place", "number"]
theorem sc_law_place_tells : FnScope n_law_place_tells p_law_place_tells (defScope s_law_place_tells) := ⟨rfl, rfl, rfl, by decide +kernel, rfl, by decide +kernel, by decide +kernel⟩
abbrev s_law_taken : Stmt := topS 67
abbrev n_law_taken : List Str := ["row", "place", "number", "house", "key", "before", "index", "one", "rest", "told", "at", "now"]
abbrev p_law_taken : List Str := ["row", "place", "number"]
theorem sc_law_taken : FnScope n_law_taken p_law_taken (defScope s_law_taken) := ⟨rfl, rfl, rfl, by decide +kernel, rfl, by decide +kernel, by decide +kernel⟩
abbrev s_law_put : Stmt := topS 68
abbrev n_law_put : List Str := ["purse", "row", "place", "number", "weight", "house", "indexes", "chosen", "before", "index", "longer", "told", "at", "more", "kind"]
abbrev p_law_put : List Str := ["purse", "row", "place", "number", "weight"]
theorem sc_law_put : FnScope n_law_put p_law_put (defScope s_law_put) := ⟨rfl, rfl, rfl, by decide +kernel, rfl, by decide +kernel, by decide +kernel⟩
abbrev s_law_all_houses : Stmt := topS 69
abbrev n_law_all_houses : List Str := ["row", "place", "before", "other", "at", "more", "number", "house", "one", "two"]
abbrev p_law_all_houses : List Str := ["row", "place", "before", "other", "at", "more"]
theorem sc_law_all_houses : FnScope n_law_all_houses p_law_all_houses (defScope s_law_all_houses) := ⟨rfl, rfl, rfl, by decide +kernel, rfl, by decide +kernel, by decide +kernel⟩
abbrev s_law_probed : Stmt := topS 70
abbrev n_law_probed : List Str := ["purse", "row", "place", "number", "present", "names", "mixed", "kept", "told", "common", "found", "k"]
abbrev p_law_probed : List Str := ["purse", "row", "place", "number"]
theorem sc_law_probed : FnScope n_law_probed p_law_probed (defScope s_law_probed) := ⟨rfl, rfl, rfl, by decide +kernel, rfl, by decide +kernel, by decide +kernel⟩
abbrev s_law_refused : Stmt := topS 71
abbrev n_law_refused : List Str := ["row", "weight", "index", "got", "there", "raised"]
abbrev p_law_refused : List Str := ["row", "weight", "index"]
theorem sc_law_refused : FnScope n_law_refused p_law_refused (defScope s_law_refused) := ⟨rfl, rfl, rfl, by decide +kernel, rfl, by decide +kernel, by decide +kernel⟩
abbrev s_law : Stmt := topS 72
abbrev n_law : List Str := ["script", "purse", "many", "stones", "out", "weight", "row", "number", "place"]
abbrev p_law : List Str := ["script"]
theorem sc_law : FnScope n_law p_law (defScope s_law) := ⟨rfl, rfl, rfl, by decide +kernel, rfl, by decide +kernel, by decide +kernel⟩
end IK

namespace IK
open PySem PySem.Spec PyProof.Rows L2 GV
section
variable {P : Program} {w : World} {K : PySem.W.Frag} {mg : Str → Option Value} {base : Heap}

/-! ### whole numbers -/
def isIntD : PyData → Bool
  | .int _ => true
  | _ => false
def isBoolD : PyData → Bool
  | .bool _ => true
  | _ => false
theorem kit_int (d : PyData) : kitB (tyD d) "int" = some (isIntD d || isBoolD d) := by
  cases d with
  | none => exact (by decide +kernel : kitB "NoneType" "int" = some false)
  | bool _ => exact (by decide +kernel : kitB "bool" "int" = some true)
  | int _ => exact (by decide +kernel : kitB "int" "int" = some true)
  | str _ => exact (by decide +kernel : kitB "str" "int" = some false)
  | list _ => exact (by decide +kernel : kitB "list" "int" = some false)
  | tuple _ => exact (by decide +kernel : kitB "tuple" "int" = some false)
  | dict _ => exact (by decide +kernel : kitB "dict" "int" = some false)
theorem kit_bool (d : PyData) : kitB (tyD d) "bool" = some (isBoolD d) := by
  cases d with
  | none => exact (by decide +kernel : kitB "NoneType" "bool" = some false)
  | bool _ => exact (by decide +kernel : kitB "bool" "bool" = some true)
  | int _ => exact (by decide +kernel : kitB "int" "bool" = some false)
  | str _ => exact (by decide +kernel : kitB "str" "bool" = some false)
  | list _ => exact (by decide +kernel : kitB "list" "bool" = some false)
  | tuple _ => exact (by decide +kernel : kitB "tuple" "bool" = some false)
  | dict _ => exact (by decide +kernel : kitB "dict" "bool" = some false)
def R_is_integer (ds : List PyData) (d : PyData) : Prop := ∃ a, ds = [a] ∧ d = .bool (isIntD a)
theorem cl_is_integer {f : Addr} {fd : FuncData} (F : At K mg "is_integer" s_is_integer f fd) (nb : NoB mg) : Cl P w K mg base CX0 1 "is_integer" (PureR K R_is_integer) := by
  refine cl_pure F sc_is_integer (F.fn.binds fun _ _ _ _ _ _ us hl => match us, hl with | [_], _ => rfl) (fun ds d h => ?_) (fun X cdv A outer s H Q E M vs ds d hX hr al r h q => ?_)
  · obtain ⟨a, rfl, _⟩ := h
    rfl
  · obtain ⟨a, rfl, rfl⟩ := h
    obtain ⟨v, rfl, r1⟩ := rpa1 r
    subst hX
    refine b_cons (s_ret al (PD.is (pd_and (pd_isi rfl nb.isinstance rfl nb.int PyProof.Rows.boot_int (nm 0 r1) (kit_int a)) fun _ => pd_one (pd_not (pd_isi rfl nb.isinstance rfl nb.bool PyProof.Rows.boot_bool (nm 0 r1) (kit_bool a)))) ?_) q)
    cases a <;> rfl
def isNumD (a : PyData) (lo hi : Int) : Bool := match a with
  | .int i => decide (lo ≤ i) && decide (i ≤ hi)
  | _ => false
def R_is_number (ds : List PyData) (d : PyData) : Prop := ∃ a lo hi, ds = [a, .int lo, .int hi] ∧ d = .bool (isNumD a lo hi)
theorem rpa3 {K : PySem.W.Frag} {M : Addr → Prop} {H : Hp} {vs : List V} {a b c : PyData} (r : RpAll K M H vs [a, b, c]) : ∃ u v w, vs = [u, v, w] ∧ Rp K M H u a ∧ Rp K M H v b ∧ Rp K M H w c := by
  obtain ⟨⟩ | ⟨r1, r⟩ := r
  obtain ⟨v, w, rfl, r2, r3⟩ := rpa2 r
  exact ⟨_, _, _, rfl, r1, r2, r3⟩
theorem cl_is_number {f : Addr} {fd : FuncData} (F : At K mg "is_number" s_is_number f fd) (c1 : Cl P w K mg base CX0 1 "is_integer" (PureR K R_is_integer)) : Cl P w K mg base CX0 2 "is_number" (PureR K R_is_number) := by
  refine cl_pure F sc_is_number (F.fn.binds fun _ _ _ _ _ _ us hl => match us, hl with | [_, _, _], _ => rfl) (fun ds d h => ?_) (fun X cdv A outer s H Q E M vs ds d hX hr al r h q => ?_)
  · obtain ⟨a, lo, hi, rfl, _⟩ := h
    rfl
  · obtain ⟨a, lo, hi, rfl, rfl⟩ := h
    obtain ⟨u, v, x, rfl, r1, r2, r3⟩ := rpa3 r
    subst hX
    refine b_cons (s_ret al (PD.is (pd_and (k2 := isNumD a lo hi) (pd_callC c1 hr (by decide) rfl (ad_cons (nm 0 r1) ad_nil) ⟨a, rfl, rfl⟩) fun ha => pd_one ?_) ?_) q)
    · cases a with
      | int i => exact pd_leLe (nm 1 r2) (nm 0 r1) (nm 2 r3)
      | _ => cases ha
    · cases a <;> rfl
def mostW : Int := 1000000000000
def isWeightD (a : PyData) : Bool := isNumD a (-mostW) mostW
def R_is_weight (ds : List PyData) (d : PyData) : Prop := ∃ a, ds = [a] ∧ d = .bool (isWeightD a)
theorem cl_is_weight {f : Addr} {fd : FuncData} {t : Tok} (F : At K mg "is_weight" s_is_weight f fd) (c1 : Cl P w K mg base CX0 2 "is_number" (PureR K R_is_number)) (gW : mg "MOST_WEIGHT" = some (.int mostW t)) : Cl P w K mg base CX0 3 "is_weight" (PureR K R_is_weight) := by
  refine cl_pure F sc_is_weight (F.fn.binds fun _ _ _ _ _ _ us hl => match us, hl with | [_], _ => rfl) (fun ds d h => ?_) (fun X cdv A outer s H Q E M vs ds d hX hr al r h q => ?_)
  · obtain ⟨a, rfl, _⟩ := h
    rfl
  · obtain ⟨a, rfl, rfl⟩ := h
    obtain ⟨v, rfl, r1⟩ := rpa1 r
    subst hX
    exact b_cons (s_ret al (pd_callC c1 hr (by decide) rfl (ad_cons (nm 0 r1) (ad_cons (pd_neg (pd_globI rfl gW)) (ad_cons (pd_globI rfl gW) ad_nil))) ⟨a, _, _, rfl, rfl⟩) q)
/-! ### couples -/
end
end IK

namespace GV
open PySem PySem.Spec PyProof.Rows L2
open Sem (wp)
open AutoSeq1 (wpAny_loadPart')
/-! ### enumerate(a tuple) -/
theorem meets_enumT (l : Addr) (items : Array Value) : Meets (Builtin.«enumerate.__new__» ⟨[.type "enumerate", .ref l], []⟩) (fun _ R s => s.heap.IsTuple l items ∧
      R (.ok (.ret (.ref (s.heap.push { cls := .type "tuple_iterator", data := .fields #[.ref l, .int 0 0] }).objs.size)))
        { s with heap := (s.heap.push { cls := .type "tuple_iterator", data := .fields #[.ref l, .int 0 0] }).push { cls := .type "enumerate", data := .fields #[.none, .bool false, .ref s.heap.objs.size, rawInt 0, .none, .none] } }) :=
  .of_wp fun prog w A R s h => by
    obtain ⟨hp, g, d, tk, os⟩ := s; obtain ⟨hl, h⟩ := h
    have hsub := sub_enumerate
    have q1 : ∀ {A' : Around} {E : Value → Shared → Prop} {Q : Value → Shared → Prop}, Q (.ref hp.objs.size) ⟨hp.push { cls := .type "tuple_iterator", data := .fields #[.ref l, .int 0 0] }, g, d, tk, os⟩ → wpAny (model prog w) A' (pyIter (.ref l)) Q E ⟨hp, g, d, tk, os⟩ :=
      fun q => wpAny_pyIter_tuple hl q
    wp_walk using q1
    refine wpAny_stack_any fun st => wpAny_pure ?_
    split
    · rename_i c _ _ _ _ _
      cases (c == Value.type "enumerate")
      · wp_walk using q1
        exact ⟨_, rfl, h⟩
      · wp_walk using q1
        exact ⟨_, rfl, h⟩
    · wp_walk using q1
      exact ⟨_, rfl, h⟩
theorem call_enumT {prog : Program} {w : World} {A : Around} {E : Value → Shared → Prop} {s : Shared} {l : Addr} {items : Array Value} {Q : Value → Shared → Prop} (hL : s.heap.IsTuple l items)
    (h : ∀ h', IsEnum h' (s.heap.objs.size + 1) s.heap.objs.size 0 .none → h'.IsTupleIter s.heap.objs.size l 0 → h'.objs.size = s.heap.objs.size + 2 →
      (∀ b o, s.heap.get? b = some o → h'.get? b = some o) → Q (.ref (s.heap.objs.size + 1)) { s with heap := h' }) :
    wpAny (model prog w) A (call (.type "enumerate") [.ref l]) Q E s := by
  refine callType_new F.called_enumerate (by decide) (F.typeCall_enumerate_1 _) (F.newCall_enumerate_1 _) (fun obj => F.args_object_init_2 obj _) F.entry_enumerate_new (meets_enumT l items) ⟨hL, ?_⟩
  have hz : (s.heap.push { cls := .type "tuple_iterator", data := .fields #[.ref l, .int 0 0] }).objs.size = s.heap.objs.size + 1 := Heap.size_push ..
  show _ ∧ _
  rw [hz]
  have he : IsEnum ((s.heap.push { cls := .type "tuple_iterator", data := .fields #[.ref l, .int 0 0] }).push { cls := .type "enumerate", data := .fields #[.none, .bool false, .ref s.heap.objs.size, rawInt 0, .none, .none] }) (s.heap.objs.size + 1) s.heap.objs.size 0 .none := by
    have := Heap.get?_push_size (s.heap.push { cls := .type "tuple_iterator", data := .fields #[.ref l, .int 0 0] }) (o := { cls := .type "enumerate", data := .fields #[.none, .bool false, .ref s.heap.objs.size, rawInt 0, .none, .none] }) rfl
    rw [hz] at this; exact this
  exact ⟨⟨_, he, rfl⟩, h _ he ⟨_, Heap.get?_push_of_some _ (Heap.get?_push_size _ rfl), rfl, rfl⟩ (by rw [Heap.size_push, hz]) fun b o x => Heap.get?_push_of_some _ (Heap.get?_push_of_some _ x)⟩
def IteT (K : PySem.W.Frag) (a : Addr) : It :=
  ⟨fun i H => ∃ (xs : List V) (x : V), SqT K H a xs ∧ xs[i]? = some x, fun i H v H' => ∃ T x, v = .ref T ∧ H T = none ∧ H' = upd H T (.tup [.int (i : Nat), x]) ∧ ∀ xs, SqT K H a xs → xs[i]? = some x, fun i H => ∃ xs : List V, SqT K H a xs ∧ xs.length ≤ i⟩
theorem turn_enumT {P : Program} {w : World} {K : PySem.W.Frag} {elts : List Expr} {kk : Nat} {tpos : Pos} (a e it : Addr) :
    Turn P w K (.Tuple elts kk tpos) (IteT K a) [e, it] e (fun i h => (∃ old, IsEnum h e it ((i : Nat) : Int) old) ∧ h.IsTupleIter it a i ∧ e ≠ it ∧ a ≠ e ∧ a ≠ it) where
  mem := by simp
  obj := fun i h st b hb => by
    obtain ⟨⟨old, he⟩, ⟨o, ho, hc, hd⟩, _⟩ := st
    have e' : b = e ∨ b = it := by simpa using hb
    rcases e' with z | z
    · rw [z]; exact ⟨_, he, fun v q => nomatch q⟩
    · rw [z]; exact ⟨o, ho, fun v q => by rw [hd] at q; cases q⟩
  keep := fun i h h' st k => let ⟨⟨old, he⟩, hi, hne⟩ := st; ⟨⟨old, k e (by simp) _ he⟩, hi.at fun o q => k it (by simp) o q, hne⟩
  item := by
    intro X hP hw hK hc i pins s σ H E I hf st hg
    subst hP hw hK
    obtain ⟨⟨old, he⟩, hit, hne, hae, hai⟩ := st
    obtain ⟨xs, x, hq, hx⟩ := hg
    obtain ⟨its, rv, p, hz⟩ := I.tuple hq
    obtain ⟨u, hu, ru⟩ := rv.get hx
    have hel : e < s.heap.objs.size := Heap.lt_size he
    have hil : it < s.heap.objs.size := by obtain ⟨_, q, _⟩ := hit; exact Heap.lt_size q
    have hlt : i < its.toArray.size := by
      rw [List.size_toArray]
      exact (List.getElem?_eq_some_iff.mp hu).1
    refine wpAny_pyNext_enum_itemC (Draws.tuple (A := X.A.in1) (show X.A.in1.handled = none from I.ok.hd hc) it a hai its.toArray) he ⟨hit, p⟩ hlt hne (by simp [hne, Ne.symm hae]) fun x' h' tk hP ho hit' hT hsz hk => ?_
    obtain rfl : u = x' := by
      have e1 : its[i]? = some x' := by simpa using hP
      rw [hu] at e1
      exact Option.some.inj e1
    obtain ⟨hit', _⟩ := hit'
    refine ⟨_, rfl, wpAny_letOwnedTupleGo_enum (s := { s with heap := h', toks := tk + 1 }) ho fun h'' he' sb => ?_⟩
    have hT2 : h''.get? s.heap.objs.size = some { cls := .type "tuple", data := .seq #[.int i tk, u] } := (sb.2 _ (Nat.ne_of_gt hel)).trans hT
    have new : ObjOk X.prog X.w (upd H s.heap.objs.size (.tup [.int (i : Nat), x])) h'' s.heap.objs.size (.tup [.int (i : Nat), x]) :=
      ⟨by show 2 ≤ sizeLine; decide, [.int i tk, u], .cons ⟨_, rfl⟩ (.cons ru .nil), ⟨_, hT2, rfl, _, rfl⟩⟩
    have I1 : Inv X pins σ (upd H s.heap.objs.size (.tup [.int (i : Nat), x])) { s with heap := h'', toks := tk + 1 } :=
      I.turnedNew (ch := [e, it]) (fun b ob hb q => (sb.2 b (fun z => hb (by simp [z]))).trans (hk b ob (fun z => hb (by simp [z])) (fun z => hb (by simp [z])) q)) hf (Nat.le_refl _) new
    refine ⟨.ref s.heap.objs.size, _, I1, rfl, ⟨_, x, rfl, I.hok.fresh (Nat.le_refl _), rfl, fun ys hy => by rw [I.tuple_inj hy hq]; exact hx⟩, ⟨⟨u, ?_⟩, hit'.at fun o q => (sb.2 it (Ne.symm hne)).trans q, hne, hae, hai⟩, fun b hb => ?_⟩
    · have e1 : ((i + 1 : Nat) : Int) = (i : Int) + 1 := by omega
      rw [e1]; exact he'
    · have hb' : b < s.heap.objs.size := by
        have e' : b = e ∨ b = it := by simpa using hb
        rcases e' with z | z
        · rw [z]; exact hel
        · rw [z]; exact hil
      rw [upd_ne (Nat.ne_of_lt hb')]
      exact (hf b hb).1
  done := by
    intro X hP hw hK hc i pins s σ H E I hf st hg
    subst hP hw hK
    obtain ⟨⟨old, he⟩, hit, hne, hae, hai⟩ := st
    obtain ⟨xs, hq, hx⟩ := hg
    obtain ⟨its, rv, p, hz⟩ := I.tuple hq
    obtain ⟨f0, f1, f2, f3, f4, f5⟩ := hf it (by simp)
    have hl := rv.length
    obtain ⟨hp, g, d, tk, os⟩ := s
    have hT : (⟨hp, g, d, tk, os⟩ : Shared).TypeIs (.ref e) "enumerate" := ⟨_, he, rfl⟩
    unfold pyNext
    refine wpAny_bind (wpAny_attempt (wpAny_callSpecial?_slot (name := Str.ofString "__next__") hT F.slot_enumerate_next
      (wpAny_call_entry F.slot_enumerate_next hT F.entry_enumerate_next ?_ (F.args_enumerate_next_1 _))))
    show wpAny _ _ (field (.ref e) 2 >>= _) _ _ _
    refine wpAny_bind (wpAny_field he rfl (x := .ref it) rfl ?_)
    refine wpAny_bind (wpAny_nextOf_tuple_end (I.ok.hd hc) hit p (by simp; omega) fun h' x he' hx' => ?_)
    obtain ⟨o, ho, hc'⟩ := hx'
    refine wpAny_bind (wpAny_isInstance (T := "StopIteration") (b := true) ⟨o, ho, hc'⟩ isSubtype_stop ?_)
    exact wpAny_pure ⟨rfl, I.turned (t' := tk) (fun b o hb q => he' b o hb q) f0 f1 f3 f4 f5⟩
  self := fun A i s Q E st h => let ⟨⟨_, he⟩, _⟩ := st; wpAny_pyIter_enum he h
def iEnumT (K : PySem.W.Frag) (ta : TA) : TI := fun σ H R => ta σ H fun vs H1 => ∃ a xs, vs = [.ref a] ∧ SqT K H1 a xs ∧ R (IteT K a) H1
theorem pi_enumT {X : Cx} {e : Expr} {ta : TA} {p pos tpos : Pos} {elts : List Expr} {kk : Nat} (hg : Gl X "enumerate") (hm : X.mg "enumerate" = none) (ha : PA X [e] ta) (hs : starEach [e] X.env = [(false, eval e X.env)] := by rfl) :
    PI X (.Tuple elts kk tpos) (.Call (.Name "enumerate" p) [e] [] pos) (iEnumT X.K ta) := by
  refine ⟨fun pins s σ H R I h => ?_⟩
  refine Call_ (ld_blt I hg hm boot_enumerate (PyProof.Rows.callWith_type1 (thn (ha.run pos pins s σ H _ I h) fun us s1 ⟨vs, H1, I1, r1, q1⟩ => ?_) hs rfl))
  obtain ⟨a, xs, ex, hq, q⟩ := q1
  subst ex
  cases r1 with
  | cons r rr =>
    cases rr
    cases r
    obtain ⟨its, rv, p', hz⟩ := I1.tuple hq
    refine call_enumT p' fun h' he hit hsz hk => wpAny_pyIter_enum he ?_
    have I2 : Inv X pins σ H1 { s1 with heap := h' } := I1.kept (t' := s1.toks) hk
    have hal : a < s1.heap.objs.size := by obtain ⟨_, q, _⟩ := p'; exact Heap.lt_size q
    refine ⟨s1.heap.objs.size + 1, [s1.heap.objs.size + 1, s1.heap.objs.size], _, _, H1, rfl, I2, turn_enumT a (s1.heap.objs.size + 1) s1.heap.objs.size, ⟨⟨.none, he⟩, hit, Nat.succ_ne_self _, Nat.ne_of_lt (Nat.lt_succ_of_lt hal), Nat.ne_of_lt hal⟩, fun b hb => ?_, q⟩
    have e' : b = s1.heap.objs.size + 1 ∨ b = s1.heap.objs.size := by simpa using hb
    have hle : s1.heap.objs.size ≤ b := by
      rcases e' with z | z
      · rw [z]; exact Nat.le_add_right _ _
      · rw [z]; exact Nat.le_refl _
    exact I1.fpOk hle (I1.hok.fresh hle)
section
variable {X : Cx} {K : PySem.W.Frag} {M : Addr → Prop} {σ : St} {H : Hp} {e : Expr} {ds : List PyData} {pos : Pos}
theorem wk_enumT {a : Addr} {xs : List V} (m : ¬ M a) (h : Rd H a (.tup xs)) (r : RpAll K M H xs ds) : Wk K M (IteT K a) H (enumD ds) := by
  have nm : ∀ M' : Addr → Prop, (∀ a, M' a → M a ∨ H a = none) → ¬ M' a := fun M' hm z => (hm a z).elim m (Rd.there h)
  have at_ : ∀ (M' : Addr → Prop) (H' : Hp), (∀ a, M' a → M a ∨ H a = none) → ExM M' H H' → Rd H' a (.tup xs) := fun M' H' hm e => Rd.exT (M := M') h (nm M' hm) e
  refine ⟨fun M' i H' hm e hi => ?_, fun M' H' hm e => ?_, fun M' i H' x H'' hm e al y => ?_⟩
  · have hx : i < xs.length := by rw [r.length, ← enumD_length]; exact hi
    exact ⟨xs, xs[i], .inl (at_ M' H' hm e), List.getElem?_eq_getElem hx⟩
  · exact ⟨xs, .inl (at_ M' H' hm e), by rw [r.length, enumD_length]; exact Nat.le_refl _⟩
  · obtain ⟨T, z, rfl, hT, rfl, y⟩ := y
    refine ⟨Evl.Ex.new hT, fun d hd => ?_⟩
    obtain ⟨e', he, rfl⟩ := enumD_get hd
    obtain ⟨v, hv, rv⟩ := r.get he
    have q := y xs (.inl (at_ M' _ hm e))
    rw [hv] at q
    cases q
    exact .tup (al.fresh hT) (.inl upd_same) (.cons (.int _) (.cons (((rv.wide hm).mono (fun _ z => z) e).mono (fun _ z => z) (.of (Evl.Ex.new hT))) .nil))
theorem src_enumT {p tpos : Pos} {elts : List Expr} {kk : Nat} (hg : Gl X "enumerate") (hm : X.mg "enumerate" = none) (h : PD X M e σ H (.tuple ds)) (hs : starEach [e] X.env = [(false, eval e X.env)] := by rfl)
    (hs' : starEach (e :: []) X.env = (false, eval e X.env) :: starEach [] X.env := by rfl) : Src X M (.Tuple elts kk tpos) (.Call (.Name "enumerate" p) [e] [] pos) σ H (enumD ds) :=
  ⟨_, pi_enumT hg hm wA.pa hs, fun H1 e1 al R q => (ad_cons h ad_nil hs').run H1 e1 al _ fun vs H2 x2 rs => by
    obtain ⟨v, rfl, r⟩ := rpa1 rs
    cases r with
    | tup m hr rr => exact ⟨_, _, rfl, .inl hr, q _ H2 x2 (wk_enumT m hr rr)⟩⟩
end
end GV

namespace GV
open PySem PySem.Spec PyProof.Rows L2
section
variable {X : Cx} {M : Addr → Prop} {σ : St} {H H' : Hp} {a b c e o i : Expr} {da db d : PyData} {pos : Pos} {es : List Expr} {ds : List PyData} {D : Ends}
/-- o.insert(i, e) -/
theorem ce_insert {apos cpos : Pos} {Q : VK} (h : wE X o σ H fun x H1 => ∃ l, x = .ref l ∧ (∃ ys, H1 l = some (.lst ys)) ∧ wE X i σ H1 fun n H2 => wE X e σ H2 fun y H3 => ∃ ys k, H3 l = some (.lst ys) ∧ n = .int (k : Nat) ∧ k ≤ 100000 ∧ ys.length < 100000 ∧ Q .non (upd H3 l (.lst (ys.take k ++ [y] ++ ys.drop k))))
    (h1 : attributeBase o ("insert" : Str) X.env (eval o X.env) = eval o X.env := by rfl)
    (h2 : ((((backTo cpos (starEach [i, e] X.env)).all fun x => !x.1) && (backToKw cpos (keywordEach [] X.env)).all fun x => x.1.isSome) && decide (([i, e].length + ([] : List Keyword).length + if ([] : List Keyword).isEmpty = true then 0 else 1) < 30)) = true := by rfl)
    (h3 : (apos.endLine == cpos.line) = true := by rfl) (h4 : starEach (i :: [e]) X.env = (false, eval i X.env) :: starEach [e] X.env := by rfl) (h6 : starEach (e :: []) X.env = (false, eval e X.env) :: starEach [] X.env := by rfl) (h5 : (backTo cpos (starEach [e] X.env)).any (·.1) = false := by rfl) :
    wE X (.Call (.Attribute o "insert" apos) [i, e] [] cpos) σ H Q := by
  refine ⟨_, pe_bm PySem.F.plainAttrs_list PySem.F.slot_list_insert PySem.F.type_list_insert mt_insert (wE.pe) (pa_cons wE.pe (pa_cons wE.pe pa_nil h6) h4) h1 h2 h3 h4 h5, ?_⟩
  refine wE.weak h ?_
  rintro x H1 ⟨l, rfl, ⟨ys0, hl⟩, hh⟩
  refine ⟨.inl ⟨rfl, _, SqL.of hl⟩, ?_⟩
  refine wE.weak hh ?_
  intro n H2 hh2
  refine wE.weak hh2 ?_
  rintro y H3 ⟨ys, k, hy, rfl, hk, hlen, q⟩
  refine ⟨l, ys, (k : Nat), y, rfl, rfl, hy, Nat.lt_of_lt_of_le hlen (by rw [sizeLine_eq]; decide), by omega, by omega, ?_⟩
  rw [show ((k : Nat) : Int).toNat = k by omega]
  exact q
/-- [..] * k -/
theorem ce_rep {Q : VK} (h : wE X a σ H fun x H2 => wE X b σ H2 fun y H3 => ∃ l xs k, x = .ref l ∧ y = .int (k : Nat) ∧ H3 l = some (.lst xs) ∧ xs.length * k ≤ 100000 ∧ k ≤ 100000 ∧ ∀ p, H3 p = none → Q (.ref p) (upd H3 p (.lst (List.replicate k xs).flatten))) : wE X (.BinOp a .Mult b pos) σ H Q := by
  refine ce_bin op_rep (wE.weak h fun x H2 h2 => wE.weak h2 ?_)
  rintro y H3 ⟨l, xs, k, rfl, rfl, hl, h1, h2, q⟩
  refine ⟨l, (k : Nat), xs, rfl, rfl, hl, by omega, by omega, ?_, ?_⟩
  · rw [show ((k : Nat) : Int).toNat = k by omega]
    exact Evl.sz_of h1
  · rw [show ((k : Nat) : Int).toNat = k by omega]
    exact q
theorem replicate_flat {α : Type} (k : Nat) (x : α) : (List.replicate k [x]).flatten = List.replicate k x := by
  induction k with
  | zero => rfl
  | succ k ih => rw [List.replicate_succ, List.flatten_cons, ih]; rfl
/-- list(range(n)) -/
theorem fd_listRange {p p2 p3 : Pos} {n : Int} (hc : X.calm = true) (hg : Gl X "list") (hm : X.mg "list" = none) (hg2 : Gl X "range") (hm2 : X.mg "range" = none) (h : PD X M e σ H (.int n)) (h0 : 0 ≤ n) (h1 : n ≤ 100000)
    (na : starEach [e] X.env = (false, eval e X.env) :: starEach [] X.env := by rfl) (nb : starEach [.Call (.Name "range" p2) [e] [] p3] X.env = (false, eval (.Call (.Name "range" p2) [e] [] p3) X.env) :: starEach [] X.env := by rfl) :
    FD X M (.Call (.Name "list" p) [.Call (.Name "range" p2) [e] [] p3] [] pos) σ H (((List.range n.toNat).map Int.ofNat).map PyData.int) := .mk fun H1 e1 al Q q =>
  ⟨_, pe_listRg hc hg hm (prg_1 hg2 hm2 wE.pe na) nb, h.run H1 e1 al _ fun v H2 x2 r => by
    cases r
    refine ⟨n, rfl, RgOk.of_le (by omega) (by omega) (by omega) h0, fun l hl => q l _ _ (Evl.fresh_back x2 hl) (x2.trans (Evl.Ex.new hl)) upd_same ?_⟩
    have e2 : rgV 0 n = ((List.range n.toNat).map Int.ofNat).map V.int := by
      unfold rgV
      rw [List.map_map, Int.sub_zero]
      exact List.map_congr_left fun i _ => by
        show V.int (0 + (i : Nat)) = V.int (i : Nat)
        rw [Int.zero_add]
    rw [e2]
    exact RpAll.ints _⟩
/-! ### dicts, as far as they are looked at -/
theorem ce_dict0 {Q : VK} (h : ∀ p, H p = none → Q (.ref p) (upd H p (.dK []))) : wE X (.Dict [] [] pos) σ H Q := ⟨_, pe_dnewK, h⟩
/-- {1: 2} -/
theorem ce_dict1 {i j : Int} {t t2} {p1 p2 : Pos} {Q : VK} (h : ∀ p, H p = none → Q (.ref p) (upd H p (.dK [(.inl i, .int j)]))) : wE X (.Dict [some (.Constant (.int i) t p1)] [.Constant (.int j) t2 p2] pos) σ H Q := by
  refine ⟨_, pe_disp (pps_cons pe_int pe_int pps_nil) rfl rfl (by simp) (by show 1 ≤ 15; decide), fun p hp => ?_⟩
  refine ⟨upd_same, [(.inl i, .int j)], rfl, by show 1 ≤ 15; decide, ?_⟩
  have e : upd (upd H p (.dK [])) p (.dK (mergeK [] [(Sum.inl i, V.int j)])) = upd H p (.dK [(.inl i, .int j)]) := by
    funext x
    by_cases hx : x = p
    · subst hx
      rw [upd_same, upd_same]
      rfl
    · rw [upd_ne hx, upd_ne hx, upd_ne hx]
  rw [e]
  exact h p hp
/-- isinstance(a, (S, T)) of a dict -/
theorem pd_isi2D {S T : String} {x y : Str} {p p1 p2 p3 : Pos} {n : Nat} {j k : Bool} {A : Addr} {kvs : List (Key × V)} (hg : Gl X "isinstance") (hm : X.mg "isinstance" = none) (hgS : Gl X x) (hmS : X.mg x = none) (hvS : bootBuiltins x = some (.type S)) (hgT : Gl X y) (hmT : X.mg y = none) (hvT : bootBuiltins y = some (.type T)) (ha : ∀ H1 (Q : VK), Q (.ref A) H1 → wE X a σ H1 Q) (hA : H A = some (.dK kvs)) (nM : ¬ M A) (hj : kitB "dict" S = some j) (hk : kitB "dict" T = some k)
    (nx : x ≠ "__name__" := by decide) (dx : (x == ("__debug__" : Str)) = false := by decide) (ny : y ≠ "__name__" := by decide) (dy : (y == ("__debug__" : Str)) = false := by decide)
    (h1 : starEach (a :: [.Tuple [.Name x p1, .Name y p2] n p3]) X.env = (false, eval a X.env) :: starEach [.Tuple [.Name x p1, .Name y p2] n p3] X.env := by rfl) (h2 : starEach (.Tuple [.Name x p1, .Name y p2] n p3 :: []) X.env = (false, eval (.Tuple [.Name x p1, .Name y p2] n p3) X.env) :: starEach [] X.env := by rfl)
    (h3 : starEach (.Name x p1 :: [.Name y p2]) X.env = (false, eval (.Name x p1) X.env) :: starEach [.Name y p2] X.env := by rfl) (h4 : starEach (.Name y p2 :: []) X.env = (false, eval (.Name y p2) X.env) :: starEach [] X.env := by rfl)
    (hpl : (backTo pos (starEach [.Tuple [.Name x p1, .Name y p2] n p3] X.env)).any (·.1) = false := by rfl) :
    PD X M (.Call (.Name "isinstance" p) [a, .Tuple [.Name x p1, .Name y p2] n p3] [] pos) σ H (.bool (j || k)) := .mk fun H1 e1 al Q q =>
  ⟨_, pe_callB call_isiT hg hm PyProof.Rows.boot_isinstance (pa_cons wE.pe (pa_cons (pe_tup (pa_cons (pe_bltn (v := .ty S) hgS hmS hvS rfl nx dx) (pa_cons (pe_bltn (v := .ty T) hgT hmT hvT rfl ny dy) pa_nil h4) h3)) pa_nil h2) h1) (by decide) (by decide) h1 hpl, ha _ _
    ⟨Evl.sz_of (by show 2 ≤ 100000; decide), fun t ht => ⟨.ref A, t, [.ty S, .ty T], .type "dict", [.type S, .type T], j || k, rfl, upd_same, .cons (.ty S) (.cons (.ty T) .nil), .base (.dK (Evl.Ex.new ht _ _ (e1 _ _ hA nM fun _ z => by cases z))), kitAny2 hj hk, q _ _ (Evl.Ex.new ht) (.bl _)⟩⟩⟩
/-! ### == of tuples that hold the same things -/
def sameB : V → Bool
  | .ref _ => true
  | v => flatB v
def rEqSame (K : PySem.W.Frag) : R2 := fun x y H Q => ∃ a b xs, x = .ref a ∧ y = .ref b ∧ SqT K H a xs ∧ SqT K H b xs ∧ (∀ v ∈ xs, sameB v = true) ∧ Q (.bl true) H
theorem op_eqSame (hu : X.A.units < cLine) : OpR X (compareOp .Eq) (rEqSame X.K) := by
  intro pins s σ H x y v u Q I rx ry h
  obtain ⟨a, b, xs, rfl, rfl, ha, hb, hs, q⟩ := h
  cases (show v = Value.ref a from rx)
  cases (show u = Value.ref b from ry)
  obtain ⟨us, r1, p1, _⟩ := I.tuple ha
  obtain ⟨ws, r2, p2, _⟩ := I.tuple hb
  have l1 := r1.length
  have l2 := r2.length
  refine SeqAt.RcAt.tuples (e := fun _ => true) p1 p2 hu (fun j h1 h2 => ?_) X.prog X.w X.xe _ ?_
  · have hj : j < xs.length := by
      rw [l1]
      simpa using h1
    have hx : xs[j]? = some xs[j] := List.getElem?_eq_getElem hj
    obtain ⟨v1, e1, rv1⟩ := r1.get hx
    obtain ⟨v2, e2, rv2⟩ := r2.get hx
    have f1 : us.toArray[j] = v1 := by
      have : us[j]? = some us[j] := List.getElem?_eq_getElem (by simpa using h1)
      rw [this] at e1
      simpa using e1
    have f2 : ws.toArray[j] = v2 := by
      have : ws[j]? = some ws[j] := List.getElem?_eq_getElem (by simpa using h2)
      rw [this] at e2
      simpa using e2
    rw [f1, f2]
    have hv := hs _ (List.getElem_mem hj)
    generalize xs[j] = z at rv1 rv2 hv
    cases z with
    | ref r =>
      cases (show v1 = Value.ref r from rv1)
      cases (show v2 = Value.ref r from rv2)
      exact SeqAt.EqAt.same _
    | _ => exact eqAt_same rv1 rv2 hv
  · refine ⟨.bl true, H, I, ?_, q⟩
    have e1 : us.toArray.size = ws.toArray.size := by
      rw [List.size_toArray, List.size_toArray, ← l1, ← l2]
    rw [e1, show ((List.range (min ws.toArray.size ws.toArray.size)).all fun _ => true) = true from List.all_eq_true.mpr fun _ _ => rfl]
    simp [L2.RelV]
theorem ce_eqSame {Q : VK} (hu : X.A.units + 64 < cLine) (h : wE X a σ H fun x H2 => wE X b σ H2 fun y H3 => rEqSame X.K x y H3 Q) : wE X (.Compare a [.Eq] [b] pos) σ H Q := ⟨_, pe_cmpR (op_eqSame (by omega)) wE.pe wE.pe (nomark _), h⟩
/-! ### max of a tuple -/
theorem fold_max (r : List Int) (n : Int) : (n ≤ r.foldl max n ∧ ∀ a ∈ r, a ≤ r.foldl max n) ∧ (r.foldl max n = n ∨ r.foldl max n ∈ r) := by
  induction r generalizing n with
  | nil => exact ⟨⟨Int.le_refl _, fun a h => by cases h⟩, .inl rfl⟩
  | cons y r ih =>
    obtain ⟨⟨h1, h2⟩, h3⟩ := ih (max n y)
    refine ⟨⟨Int.le_trans (Int.le_max_left _ _) h1, fun a ha => ?_⟩, ?_⟩
    · rcases List.mem_cons.mp ha with e | ha
      · subst e
        exact Int.le_trans (Int.le_max_right _ _) h1
      · exact h2 a ha
    · show (r.foldl max (max n y) = n ∨ r.foldl max (max n y) ∈ y :: r)
      rcases h3 with e | h3
      · by_cases hny : y ≤ n
        · left
          rw [e, Int.max_eq_left hny]
        · right
          rw [e, Int.max_eq_right (by omega)]
          exact List.mem_cons_self
      · exact .inr (List.mem_cons_of_mem _ h3)
def rMaxT (K : PySem.W.Frag) : List V → Hp → VK → Prop := fun vs H Q => ∃ (a : Addr) (n : Int) (r : List Int), vs = [.ref a] ∧ SqT K H a ((n :: r).map V.int) ∧ Q (.int (r.foldl max n)) H
theorem cr_maxT (hc : X.calm = true) (hu : X.A.units + 2 < cLine) : CallR X (.builtin "max") (rMaxT X.K) := by
  intro pins s σ H xs us Q I r h
  obtain ⟨a, n, ns, rfl, hs, q⟩ := h
  rw [Vals.ref1 r]
  obtain ⟨its, rv, pl, _⟩ := I.tuple hs
  obtain ⟨as, hr⟩ := Dp.readsAll I _ _ its (dpAll_ints (n :: ns)) rv
  refine PySem.W.max_tuple_data (I.ok.hd hc) pl hr (ints_alike (n :: ns)) ?_ fun i v h' tk bs hv hrd k => ?_
  · have e := ints_depth (n :: ns)
    have e2 : PyData.depthAll (PyData.int n :: ns.map PyData.int) = 0 := e
    rw [e2]
    omega
  · rw [PySem.W.maxD_ints] at hrd
    cases hrd with
    | int i t => exact ⟨.int _, H, I.kept k, ⟨t, rfl⟩, q⟩
theorem rn_maxT {ns : List Int} {m : Int} (hm : m ∈ ns) (hx : ∀ y ∈ ns, y ≤ m) : RDn X M (rMaxT X.K) [.tuple (ns.map PyData.int)] (.int m) := fun vs H1 r _ Q q => by
  obtain ⟨v, rfl, r1⟩ := rpa1 r
  cases r1 with
  | tup m' hs rs =>
    cases ns with
    | nil => cases hm
    | cons n l =>
      refine ⟨_, n, l, rfl, .inl (by rw [← rs.of_ints]; exact hs), q _ H1 (Evl.Ex.refl H1) ?_⟩
      obtain ⟨⟨h1, h2⟩, h3⟩ := fold_max l n
      have e : l.foldl max n = m := by
        apply Int.le_antisymm
        · rcases h3 with e | h3
          · rw [e]
            exact hx n List.mem_cons_self
          · exact hx _ (List.mem_cons_of_mem _ h3)
        · rcases List.mem_cons.mp hm with e | hm
          · rw [e]
            exact h1
          · exact h2 m hm
      rw [e]
      exact .int _
/-! ### sorted(set(a tuple of whole numbers)) -/
theorem fd_sortedSetT {p p2 q2 : Pos} {ns out : List Int} (hc : X.calm = true) (hg : Gl X "sorted") (hm : X.mg "sorted" = none) (hg2 : Gl X "set") (hm2 : X.mg "set" = none) (ha : PD X M a σ H (.tuple (ns.map PyData.int)))
    (hl : ns.length < 64) (ho : out.Pairwise (· < ·)) (hmem : ∀ k, k ∈ out ↔ k ∈ ns)
    (na : starEach [a] X.env = (false, eval a X.env) :: starEach [] X.env := by rfl) : FD X M (.Call (.Name "sorted" p) [.Call (.Name "set" p2) [a] [] q2] [] pos) σ H (out.map PyData.int) := .mk fun H1 e1 al Q q => by
  refine ⟨fun σ H Q => wE X a σ H fun x H1 => ∃ l, x = V.ref l ∧ SqT X.K H1 l (ns.map V.int) ∧ ∀ p, H1 p = none → Q (.ref p) (upd H1 p (.lst (out.map V.int))), ⟨fun pins s σ H Q I h => ?_⟩, ?_⟩
  · refine Call_ (ld_blt I hg hm PyProof.Rows.boot_sorted ?_)
    refine PyProof.Rows.callWith_builtin1 (PyProof.Rows.args_cons ?_ rfl) rfl rfl
    refine Call_ (ld_blt I hg2 hm2 PyProof.Rows.boot_set (PyProof.Rows.callWith_type1 (PyProof.Rows.args_cons (thn (wE.pe.run pins s σ H _ I h) fun v s1 ⟨x, H1, I1, r1, l, e2, hq, q1⟩ => PyProof.Rows.args_nil ?_) na) na rfl))
    subst e2
    cases r1
    obtain ⟨its, r, pl, hz⟩ := I1.tuple hq
    refine call_set_tupI ns (I1.ok.hd hc) pl (by simpa using r.ints) (by unfold scanBound; omega) fun g tk c R hcl k => PyProof.Rows.args_nil ?_
    have I2 : Inv X pins σ H1 { s1 with heap := g, toks := tk } := I1.kept k
    refine sorted_set R (I1.ok.hd hc) (by omega) fun s' p o c' ns' k2 g2 o2 hp hgp hi hs hm' hlen => ?_
    have en : ns' = out := up_ext hs ho fun z => by
      rw [hm' z, hmem z]
      exact decide_eq_true_iff
    subst en
    have hn : H1 p = none := I2.hok.fresh hp
    have ln : (ns'.map V.int).length ≤ sizeLine := by
      rw [List.length_map]
      refine Evl.sz_of (Nat.le_trans ?_ (show 64 ≤ 100000 by decide))
      omega
    have J : Inv X pins σ (upd H1 p (.lst (ns'.map V.int))) { ({ s1 with heap := g, toks := tk } : Shared) with heap := s'.heap, gens := s'.gens, drawn := s'.drawn, toks := s'.toks } := I2.call (ch := []) (Un.laid k2 hp hn) (I2.hok.laid k2 hp ⟨ln, o.toList, c', vals_of_ints hi, hgp⟩) (by rw [g2]; exact I2.bare) (fun _ z => nomatch z)
    obtain ⟨hp', g', d', t', os'⟩ := s'
    obtain rfl : os' = s1.os := o2
    exact ⟨.ref p, _, J, rfl, q1 p hn⟩
  · refine ha.run H1 e1 al _ fun v H2 x2 r => ?_
    cases r with
    | tup m hr rs => exact ⟨_, rfl, .inl (by rw [← rs.of_ints]; exact hr), fun p hp => q p _ _ (Evl.fresh_back x2 hp) (x2.trans (Evl.Ex.new hp)) upd_same (RpAll.ints out)⟩
end
end GV

namespace GV
open PySem PySem.Spec PyProof.Rows L2
/-! ### a list or a tuple, whichever -/
def sqD : Bool → List PyData → PyData
  | true, ds => .tuple ds
  | false, ds => .list ds
theorem items_sq (tp : Bool) (ds : List PyData) : itemsD (sqD tp ds) = some ds := by cases tp <;> rfl
theorem len_sq (tp : Bool) (ds : List PyData) : lenD (sqD tp ds) = some ds.length := by cases tp <;> rfl
theorem ix_sq {tp : Bool} {ds : List PyData} {i : Int} {d : PyData} (h : atI ds i = some d) : ixD (sqD tp ds) (.int i) = some d := by cases tp <;> exact h
theorem ix_sqI {tp : Bool} {ns : List Int} {i : Nat} {z : Int} (h : ns[i]? = some z) : ixD (sqD tp (ns.map PyData.int)) (.int (i : Nat)) = some (.int z) := ix_sq (atI_nat (by rw [List.getElem?_map, h]; rfl))
section
variable {X : Cx} {M : Addr → Prop} {σ : St} {H : Hp} {a b c e tg : Expr} {d : PyData} {pos : Pos} {ds : List PyData} {tp : Bool}
theorem src_S (h : PD X M e σ H (sqD tp ds)) : Src X M tg e σ H ds := by
  cases tp with
  | true => exact src_tup h
  | false => exact src_list h
theorem src_enumS {p tpos : Pos} {elts : List Expr} {kk : Nat} (hg : Gl X "enumerate") (hm : X.mg "enumerate" = none) (h : PD X M e σ H (sqD tp ds)) (hs : starEach [e] X.env = [(false, eval e X.env)] := by rfl)
    (hs' : starEach (e :: []) X.env = (false, eval e X.env) :: starEach [] X.env := by rfl) : Src X M (.Tuple elts kk tpos) (.Call (.Name "enumerate" p) [e] [] pos) σ H (enumD ds) := by
  cases tp with
  | true => exact src_enumT hg hm h hs hs'
  | false => exact src_enum hg hm h hs hs'
theorem pd_sliceS {lo hi : Option Expr} {l u : Option Int} {p2 : Pos} (h : PD X M e σ H (sqD tp ds)) (hl : OD X M lo σ H l) (hu : OD X M hi σ H u) : PD X M (.Subscript e (.Slice lo hi none p2) pos) σ H (sqD tp (cutD ds l u)) := by
  cases tp with
  | true => exact pd_sliceT h hl hu
  | false => exact (fd_slice h hl hu).pd
theorem pd_minDfS {p kp : Pos} {ns : List Int} (hc : X.calm = true) (hu : X.A.units + 2 < cLine) (hg : Gl X "min") (hm : X.mg "min" = none) (ha : PD X M a σ H (sqD tp (ns.map PyData.int))) (hb : PD X M b σ H d)
    (h1 : starEach (a :: []) X.env = (false, eval a X.env) :: starEach [] X.env := by rfl)
    (he : backTo pos (starEach (a :: []) X.env) = (false, eval a X.env) :: backTo pos (starEach [] X.env) := by rfl) (hpl : (backTo pos (starEach (a :: []) X.env)).any (·.1) = false := by rfl)
    (hall : (backToKw pos (keywordEach [⟨some "default", b, kp⟩] X.env)).all (·.1.isSome) = true := by rfl) (hnone : (backToKw pos (keywordEach [⟨some "default", b, kp⟩] X.env)).any (·.1.isNone) = false := by rfl)
    (hks : (backToKw pos (keywordEach [⟨some "default", b, kp⟩] X.env)).filterMap (·.1) = (["default"] : List Str) := by rfl) :
    PD X M (.Call (.Name "min" p) [a] [⟨some "default", b, kp⟩] pos) σ H (minOr d ns) := by
  cases tp with
  | true => exact pd_minDfT hc hu hg hm ha hb h1 he hpl hall hnone hks
  | false => exact pd_minDf hc hu hg hm ha hb h1 he hpl hall hnone hks
theorem pd_maxS {p : Pos} {ns : List Int} {m : Int} (hc : X.calm = true) (hu : X.A.units + 2 < cLine) (hg : Gl X "max") (hn : X.mg "max" = none) (ha : PD X M a σ H (sqD tp (ns.map PyData.int))) (hm : m ∈ ns) (hx : ∀ y ∈ ns, y ≤ m)
    (h1 : starEach (a :: []) X.env = (false, eval a X.env) :: starEach [] X.env := by rfl) (hpl : (backTo pos (starEach [] X.env)).any (·.1) = false := by rfl) : PD X M (.Call (.Name "max" p) [a] [] pos) σ H (.int m) := by
  cases tp with
  | true => exact pd_callB (cr_maxT hc hu) hg hn PyProof.Rows.boot_max (ad_cons ha ad_nil h1) (rn_maxT hm hx) (by decide) (by decide) h1 hpl
  | false => exact pd_callB (cr_max hc) hg hn PyProof.Rows.boot_max (ad_cons ha ad_nil h1) (rn_max hm hx) (by decide) (by decide) h1 hpl
theorem pd_min {p : Pos} {ns : List Int} {m : Int} (hc : X.calm = true) (hg : Gl X "min") (hn : X.mg "min" = none) (ha : PD X M a σ H (.list (ns.map PyData.int))) (hm : m ∈ ns) (hx : ∀ y ∈ ns, m ≤ y)
    (h1 : starEach (a :: []) X.env = (false, eval a X.env) :: starEach [] X.env := by rfl) (hpl : (backTo pos (starEach [] X.env)).any (·.1) = false := by rfl) : PD X M (.Call (.Name "min" p) [a] [] pos) σ H (.int m) :=
  pd_callB (cr_min hc) hg hn PyProof.Rows.boot_min (ad_cons ha ad_nil h1) (rn_min hm hx) (by decide) (by decide) h1 hpl
theorem pd_min2 {p : Pos} {i j : Int} (hg : Gl X "min") (hn : X.mg "min" = none) (ha : PD X M a σ H (.int i)) (hb : PD X M b σ H (.int j)) (hc : X.calm = true := by rfl)
    (h1 : starEach (a :: [b]) X.env = (false, eval a X.env) :: starEach [b] X.env := by rfl) (h2 : starEach (b :: []) X.env = (false, eval b X.env) :: starEach [] X.env := by rfl) (hpl : (backTo pos (starEach [b] X.env)).any (·.1) = false := by rfl) : PD X M (.Call (.Name "min" p) [a, b] [] pos) σ H (.int (min i j)) :=
  PD.is (pd_callB (call_min2 hc) hg hn PyProof.Rows.boot_min (ad_cons ha (ad_cons hb ad_nil h2) h1) rn_min2 (by decide) (by decide) h1 hpl) (by
    congr 1
    split
    · exact (Int.min_eq_right (by omega)).symm
    · exact (Int.min_eq_left (by omega)).symm)
theorem pd_max2 {p : Pos} {i j : Int} (hg : Gl X "max") (hn : X.mg "max" = none) (ha : PD X M a σ H (.int i)) (hb : PD X M b σ H (.int j)) (hc : X.calm = true := by rfl)
    (h1 : starEach (a :: [b]) X.env = (false, eval a X.env) :: starEach [b] X.env := by rfl) (h2 : starEach (b :: []) X.env = (false, eval b X.env) :: starEach [] X.env := by rfl) (hpl : (backTo pos (starEach [b] X.env)).any (·.1) = false := by rfl) : PD X M (.Call (.Name "max" p) [a, b] [] pos) σ H (.int (max i j)) :=
  PD.is (pd_callB (call_max2 hc) hg hn PyProof.Rows.boot_max (ad_cons ha (ad_cons hb ad_nil h2) h1) rn_max2 (by decide) (by decide) h1 hpl) (by
    congr 1
    split
    · exact (Int.max_eq_right (by omega)).symm
    · exact (Int.max_eq_left (by omega)).symm)
theorem fd_sortedSetS {p p2 q2 : Pos} {ns out : List Int} (hc : X.calm = true) (hg : Gl X "sorted") (hm : X.mg "sorted" = none) (hg2 : Gl X "set") (hm2 : X.mg "set" = none) (ha : PD X M a σ H (sqD tp (ns.map PyData.int)))
    (hl : ns.length < 64) (ho : out.Pairwise (· < ·)) (hmem : ∀ k, k ∈ out ↔ k ∈ ns)
    (na : starEach [a] X.env = (false, eval a X.env) :: starEach [] X.env := by rfl) : FD X M (.Call (.Name "sorted" p) [.Call (.Name "set" p2) [a] [] q2] [] pos) σ H (out.map PyData.int) := by
  cases tp with
  | true => exact fd_sortedSetT hc hg hm hg2 hm2 ha hl ho hmem na
  | false => exact fd_sortedSet hc hg hm hg2 hm2 ha hl ho hmem na
/-- list(e), tuple(e) -/
theorem fd_listOf {p : Pos} (hg : Gl X "list") (hm : X.mg "list" = none) (ha : PD X M a σ H d) (h : itemsD d = some ds)
    (h1 : starEach (a :: []) X.env = (false, eval a X.env) :: starEach [] X.env := by rfl) (hpl : (backTo pos (starEach [] X.env)).any (·.1) = false := by rfl) : FD X M (.Call (.Name "list" p) [a] [] pos) σ H ds :=
  fd_callTy call_list_of hg hm PyProof.Rows.boot_list (ad_cons ha ad_nil h1) (rf_list h) (by decide) (by decide) h1 hpl
theorem pd_tupleOf {p : Pos} (hg : Gl X "tuple") (hm : X.mg "tuple" = none) (ha : PD X M a σ H d) (h : itemsD d = some ds)
    (h1 : starEach (a :: []) X.env = (false, eval a X.env) :: starEach [] X.env := by rfl) (hpl : (backTo pos (starEach [] X.env)).any (·.1) = false := by rfl) : PD X M (.Call (.Name "tuple" p) [a] [] pos) σ H (.tuple ds) :=
  pd_callTy call_tuple_of hg hm PyProof.Rows.boot_tuple (ad_cons ha ad_nil h1) (rn_tuple h) (by decide) (by decide) h1 hpl
/-- the name in slot i, by its value -/
theorem ce_nm (i : Nat) {x : Str} {v : V} {Q : VK} (q : Q v H) (hN : X.N[i]? = some x := by rfl) (hv : Vis X.env.scope x := by first | exact .inl rfl | exact .inr (.inl rfl) | exact .inr (.inr rfl)) (hs : σ[i]? = some (some v) := by rfl)
    (hd : (x == ("__debug__" : Str)) = false := by decide) (hcd : (x == ("__classdict__" : Str)) = false := by decide) : wE X (.Name x pos) σ H Q := ce_name hN hv hs q hd hcd
end
end GV

namespace GV
open PySem PySem.Spec PyProof.Rows L2
section
variable {X : Cx} {M : Addr → Prop} {σ : St} {H H' : Hp} {a b c e tg iter : Expr} {da db d : PyData} {pos : Pos} {es : List Expr} {ds : List PyData} {tp : Bool}
/-! ### comprehensions over a heap with objects that stay -/
theorem lc_coreO {t : Tg} {elt : Expr} {ifs : List Expr} {scope : Scope} {own : List (Str × Nat)} (hc : X.calm = true) (hN : X.N.Nodup) (hi : Src X M tg iter σ H ds) (ok : BlkOk X.N X.env.scope scope own)
    (hg : ∀ s H C cl fp, PG (Cx.lc X s H scope C cl fp) tg (t.g X.K)) (hf : ∀ d ∈ ds, t.Fits d) (hw : ∀ M H d σ', t.Ok X.K M H d (wipe σ (own.map (·.2))) σ' → wipe σ' (own.map (·.2)) = wipe σ (own.map (·.2)))
    (p : PyData → Bool) (f : PyData → PyData) (hl : ds.length ≤ 100000)
    (body : ∀ s0 H0 C cl fp M' H' d σ', (∀ a, M a → M' a) → (∀ v e, Rp X.K M H v e → Rp X.K M' H' v e) → (∀ a o, ¬ M a → NT o → H a = some o → H' a = some o ∧ ¬ M' a) → d ∈ ds → t.Ok X.K M' H' d (wipe σ (own.map (·.2))) σ' →
      TsD (Cx.lc X s0 H0 scope C cl fp) M' ifs σ' H' (p d) ∧ (p d = true → PD (Cx.lc X s0 H0 scope C cl fp) M' elt σ' H' (f d))) :
    ∃ wi, PI X tg iter wi ∧ ∀ H1, ExM M H H1 → Alive M H1 → ∀ Q : VK, (∀ l ws H2, H1 l = none → Evl.Ex H1 H2 → H2 l = some (.lst ws) → RpAll X.K M H2 ws ((ds.filter p).map f) → Q (.ref l) H2) →
      tLc wi (t.g X.K) (fun σ H Q => ∀ s0 H0 C cl fp, wTs (Cx.lc X s0 H0 scope C cl fp) ifs σ H Q) (fun σ H Q => ∀ s0 H0 C cl fp, wE (Cx.lc X s0 H0 scope C cl fp) elt σ H Q) (own.map (·.2)) σ H1 Q := by
  obtain ⟨wi, pi, run⟩ := hi.ex
  refine ⟨wi, pi, fun H1 e1 al Q q => ?_⟩
  refine run H1 e1 al _ fun It Hs xs wk D hD => ?_
  have alS := al.mono xs
  -- D is mutable meanwhile
  let M' : Addr → Prop := fun a => M a ∨ a = D
  have hm : ∀ a, M' a → M a ∨ Hs a = none := fun a z => z.elim .inl fun e => .inr (by rw [e]; exact hD)
  have al2 : ∀ H', Evl.Ex Hs H' → (∃ acc, H' D = some (.lst acc)) → Alive M' H' := fun H' e ⟨acc, h⟩ a z => by
    rcases z with z | z
    · exact (alS.mono e) a z
    · subst z
      exact ⟨_, h⟩
  refine ⟨fun i m H' => m = ds.length - i ∧ i ≤ ds.length ∧ Evl.Ex Hs H' ∧ ∃ acc, H' D = some (.lst acc) ∧ acc.length ≤ i ∧ RpAll X.K M' H' acc (((ds.take i).filter p).map f), ⟨ds.length, rfl, Nat.zero_le _, Evl.Ex.new hD, [], upd_same, Nat.le_refl _, by simpa using RpAll.nil⟩, ?_⟩
  rintro i m H' ⟨rfl, hi', x, acc, hacc, hlen, racc⟩
  have eM : ExM M' Hs H' := .of x
  have al' := al2 H' x ⟨acc, hacc⟩
  by_cases hlt : i < ds.length
  · refine .inr ⟨wk.go M' i H' hm eM hlt, fun H2 => Evl.Ex Hs H2 ∧ ∃ acc, H2 D = some (.lst acc) ∧ acc.length ≤ i + 1 ∧ RpAll X.K M' H2 acc (((ds.take (i + 1)).filter p).map f), fun H2 ⟨a1, a2⟩ => ⟨ds.length - (i + 1), by omega, rfl, hlt, a1, a2⟩, fun v H2 y => ?_⟩
    obtain ⟨x2, r⟩ := wk.yld M' i H' v H2 hm eM al' y
    have hd' : ds[i]? = some ds[i] := List.getElem?_eq_getElem hlt
    have hmem := List.getElem_mem hlt
    have hacc2 : H2 D = some (.lst acc) := x2 _ _ hacc
    have lift : ∀ v e, Rp X.K M H v e → Rp X.K M' H2 v e := fun v e rv => ((rv.mono (fun _ z => z) (e1.trans (.of xs))).wide hm).mono (fun _ z => z) (.of (x.trans x2))
    have al3 := al2 H2 (x.trans x2) ⟨acc, hacc2⟩
    refine Tg.run (hf _ hmem) (r _ hd') fun σ2 okk => ⟨hw _ _ _ _ okk, ?_⟩
    have all := fun s0 H0 C cl fp => body s0 H0 C cl fp M' H2 ds[i] σ2 (fun _ z => .inl z) lift (fun a o nm nt h => ⟨x2 _ _ (x _ _ (xs _ _ (e1 _ _ h nm nt))), fun z => z.elim nm fun e => by have w := xs _ _ (e1 _ _ h nm nt); rw [e, hD] at w; cases w⟩) hmem okk
    -- the test
    have tk : (ds.take (i + 1)).filter p = (ds.take i).filter p ++ (if p ds[i] = true then [ds[i]] else []) := by
      rw [List.take_add_one, hd', List.filter_append]
      simp only [Option.toList_some, List.filter_cons, List.filter_nil]
    have fin : ∀ b, b = p ds[i] → ∀ H3, Evl.Ex H2 H3 → (if b = true then (∀ s0 H0 C cl fp, wE (Cx.lc X s0 H0 scope C cl fp) elt σ2 H3 fun y H4 => ∃ acc, H4 D = some (.lst acc) ∧ acc.length < sizeLine ∧
        (Evl.Ex Hs (upd H4 D (.lst (acc ++ [y]))) ∧ ∃ acc', (upd H4 D (.lst (acc ++ [y]))) D = some (.lst acc') ∧ acc'.length ≤ i + 1 ∧ RpAll X.K M' (upd H4 D (.lst (acc ++ [y]))) acc' (((ds.take (i + 1)).filter p).map f)))
        else (Evl.Ex Hs H3 ∧ ∃ acc, H3 D = some (.lst acc) ∧ acc.length ≤ i + 1 ∧ RpAll X.K M' H3 acc (((ds.take (i + 1)).filter p).map f))) := by
      intro b hb H3 x3
      have hacc3 := x3 _ _ hacc2
      cases b with
      | true =>
        rw [if_pos rfl]
        intro s0 H0 C cl fp
        refine ((all s0 H0 C cl fp).2 hb.symm).run H3 (.of x3) (al3.mono x3) _ fun y H4 x4 ry => ?_
        have x5 : Evl.Ex Hs H4 := ((x.trans x2).trans x3).trans x4
        refine ⟨acc, x4 _ _ hacc3, ?_, Evl.Ex.mut x5 hD, _, upd_same, ?_, ?_⟩
        · exact Nat.lt_of_lt_of_le (Nat.lt_of_le_of_lt hlen hlt) (Evl.sz_of hl)
        · rw [List.length_append, List.length_singleton]
          omega
        · rw [tk, if_pos hb.symm, List.map_append]
          have eD : ExM M' H4 (upd H4 D (.lst (acc ++ [y]))) := fun a o h nm _ => by
            rw [upd_ne (fun e => nm (.inr e))]
            exact h
          exact (racc.mono (fun _ z => z) (.of ((x2.trans x3).trans x4))).append (.cons ry .nil) |>.mono (fun _ z => z) eD
      | false =>
        rw [if_neg Bool.false_ne_true]
        refine ⟨(x.trans x2).trans x3, acc, hacc3, by omega, ?_⟩
        rw [tk, if_neg (by rw [← hb]; exact Bool.false_ne_true), List.append_nil]
        exact racc.mono (fun _ z => z) (.of (x2.trans x3))
    intro s0 H0 C cl fp
    exact (all s0 H0 C cl fp).1.run H2 (ExM.refl H2) al3 _ fun H3 x3 => fin _ rfl H3 x3
  · have e2 : i = ds.length := by omega
    subst e2
    refine .inl ⟨wk.stop M' H' hm eM, q D acc H' (Evl.fresh_back xs hD) (xs.trans x) hacc ?_⟩
    rw [List.take_length] at racc
    exact racc.mono (fun _ z => .inl z) (ExM.refl _)
theorem fd_lcO {t : Tg} {elt : Expr} {ifs : List Expr} {scope : Scope} {own : List (Str × Nat)} (hc : X.calm = true) (hN : X.N.Nodup) (hi : Src X M tg iter σ H ds) (ok : BlkOk X.N X.env.scope scope own)
    (hg : ∀ s H C cl fp, PG (Cx.lc X s H scope C cl fp) tg (t.g X.K)) (hf : ∀ d ∈ ds, t.Fits d) (hw : ∀ M H d σ', t.Ok X.K M H d (wipe σ (own.map (·.2))) σ' → wipe σ' (own.map (·.2)) = wipe σ (own.map (·.2)))
    (p : PyData → Bool) (f : PyData → PyData) (hl : ds.length ≤ 100000)
    (body : ∀ s0 H0 C cl fp M' H' d σ', (∀ a, M a → M' a) → (∀ v e, Rp X.K M H v e → Rp X.K M' H' v e) → (∀ a o, ¬ M a → NT o → H a = some o → H' a = some o ∧ ¬ M' a) → d ∈ ds → t.Ok X.K M' H' d (wipe σ (own.map (·.2))) σ' →
      TsD (Cx.lc X s0 H0 scope C cl fp) M' ifs σ' H' (p d) ∧ (p d = true → PD (Cx.lc X s0 H0 scope C cl fp) M' elt σ' H' (f d)))
    (hs : ∀ x, foldedSetIterable iter X.env x = pure x := by intro _; rfl) : FD X M (.ListComp elt [⟨tg, iter, ifs, 0⟩] scope pos) σ H ((ds.filter p).map f) := by
  obtain ⟨wi, pi, run⟩ := lc_coreO hc hN hi ok hg hf hw p f hl body
  exact .mk fun H1 e1 al Q q => ⟨_, pe_lc hc hN pi ok hg (fun s0 H0 C cl fp => ⟨fun pins s σ H Q I h => wTs.pts.run pins s σ H Q I (h s0 H0 C cl fp)⟩) (fun s0 H0 C cl fp => ⟨fun pins s σ H Q I h => wE.pe.run pins s σ H Q I (h s0 H0 C cl fp)⟩) hs, run H1 e1 al Q q⟩
theorem fd_filterO {tst : Expr} {t : Tg} {elt : Expr} {scope : Scope} {own : List (Str × Nat)} (p : PyData → Bool) (f : PyData → PyData) (hc : X.calm = true) (hN : X.N.Nodup) (hi : Src X M tg iter σ H ds) (ok : BlkOk X.N X.env.scope scope own)
    (hg : ∀ s H C cl fp, PG (Cx.lc X s H scope C cl fp) tg (t.g X.K)) (hf : ∀ d ∈ ds, t.Fits d) (hw : ∀ M H d σ', t.Ok X.K M H d (wipe σ (own.map (·.2))) σ' → wipe σ' (own.map (·.2)) = wipe σ (own.map (·.2))) (hl : ds.length ≤ 100000)
    (body : ∀ s0 H0 C cl fp M' H' d σ', (∀ a, M a → M' a) → (∀ v e, Rp X.K M H v e → Rp X.K M' H' v e) → (∀ a o, ¬ M a → NT o → H a = some o → H' a = some o ∧ ¬ M' a) → d ∈ ds → t.Ok X.K M' H' d (wipe σ (own.map (·.2))) σ' → TD (Cx.lc X s0 H0 scope C cl fp) M' tst σ' H' (p d) ∧ PD (Cx.lc X s0 H0 scope C cl fp) M' elt σ' H' (f d))
    (hs : ∀ x, foldedSetIterable iter X.env x = pure x := by intro _; rfl) : FD X M (.ListComp elt [⟨tg, iter, [tst], 0⟩] scope pos) σ H ((ds.filter p).map f) :=
  fd_lcO hc hN hi ok hg hf hw p f hl (fun s0 H0 C cl fp M' H' d σ' hM lift kp hd hok => let ⟨h1, h2⟩ := body s0 H0 C cl fp M' H' d σ' hM lift kp hd hok; ⟨tsd_one h1, fun _ => h2⟩) hs
/-- the heap behind the collecting of xs: a new list that holds them -/
abbrev heapC (h : Heap) (xs : Array Value) : Heap := (h.push (seqObj "list" #[] 0)).update h.objs.size (Obj.mapSeq (· ++ xs))
/-- collect of a list or a tuple, with the heap that it leaves (wpAny_collect_seq says only that all stays) -/
theorem collect_seqX {P : Program} {w : World} {A : Around} {E : Value → Shared → Prop} {s : Shared} {Q : List Value → Shared → Prop} (it : Addr) {T : String} {o : Obj} {xs : Array Value} {n : Nat} (hT : T = "list" ∨ T = "tuple")
    (ho : s.heap.get? it = some o) (hc : o.cls = .type T) (hd : o.data = .seq xs n) (hsz : xs.size ≤ sizeLine) (q : Q xs.toList { s with heap := heapC s.heap xs }) : wpAny (model P w) A (collect (.ref it)) Q E s := by
  have empty : (s.heap.push (seqObj "list" #[] 0)).get? s.heap.objs.size = some (seqObj "list" #[] 0) := Heap.get?_push_size _ rfl
  have full : ∃ e, (heapC s.heap xs).get? s.heap.objs.size = some (seqObj "list" xs e) := by
    have e := get?_update_seq empty (· ++ xs)
    rw [show (#[] : Array Value) ++ xs = xs by simp] at e
    exact ⟨_, e⟩
  obtain ⟨e, full⟩ := full
  -- what is done with the full list
  have read : ∀ {k : Obj → Sem (List Value)}, (∀ m, k (seqObj "list" xs m) = pure xs.toList) → wpAny (model P w) A (load s.heap.objs.size >>= k) Q E { s with heap := heapC s.heap xs } := fun hk => wpAny_bind (wpAny_load full (by rw [hk]; exact wpAny_pure q))
  have fill := wpAny_extend_seq (prog := P) (w := w) (A := A) (s := { s with heap := s.heap.push (seqObj "list" #[] 0) }) (R := fun r z => r = .ok (.ret (.ref s.heap.objs.size)) ∧ z = { s with heap := heapC s.heap xs }) s.heap.objs.size it (.ref s.heap.objs.size) 0 hT empty (Heap.get?_push_of_some _ ho) hc hd ⟨rfl, rfl⟩ hsz
  unfold collect
  refine wpAny_bind (wpAny_runValue (codeAny_builtin PyProof.Rows.entry_proto_collect' ?_))
  refine wpAny_bind (wpAny_newList (wpAny_pure ⟨Code.quiet_builtin _ (by decide +kernel), codeAny_builtin PyProof.Rows.entry_list_iadd' (wpAny_mono fill (fun r z hz => ?_) fun e z hz => ?_)⟩) (by simp))
  · cases r with
    | done f =>
      obtain ⟨e1, rfl⟩ := hz
      cases e1
      exact read fun m => rfl
    | again c' =>
      refine ⟨hz.1, codeAny_mono hz.2 fun r u hr => ?_⟩
      obtain ⟨rfl, rfl⟩ := hr
      exact read fun m => rfl
  · exact absurd hz.1 (by simp)
/-! ### sorted(a list or a tuple of whole numbers, fewer than 64) -/
def rSortQ (K : PySem.W.Frag) : List V → Hp → VK → Prop := fun vs H Q => ∃ (a : Addr) (ns : List Int), vs = [.ref a] ∧ (SqL K H a (ns.map V.int) ∨ SqT K H a (ns.map V.int)) ∧ ns.length < 64 ∧
  ∀ (ns' : List Int) (p : Addr), ns'.Perm ns → ns'.Pairwise (· ≤ ·) → H p = none → Q (.ref p) (upd H p (.lst (ns'.map V.int)))
theorem cr_sortQ : CallR X (.builtin "sorted") (rSortQ X.K) := by
  intro pins s σ H vs us Q J r h
  obtain ⟨a, ns, rfl, hs, h64, q⟩ := h
  rw [Vals.ref1 r]
  have core : ∀ (T : String) (its : List Value) (o : Obj) (n : Nat), (T = "list" ∨ T = "tuple") → Vals (ns.map V.int) its → s.heap.get? a = some o → o.cls = .type T → o.data = .seq its.toArray n →
      wpAny (model X.prog X.w) X.A (call (.builtin "sorted") [.ref a]) (EP X pins σ Q) X.xe s := by
    intro T its o n hT rv ho hcl hd
    have hI : IntsAre its ns := rv.ints
    have hln : its.length = ns.length := by rw [← rv.length, List.length_map]
    refine Calls.call_function_entry PyProof.Rows.kind_sorted PyProof.Rows.plain_sorted PyProof.Rows.entry_sorted (PyProof.Rows.args_sorted1 (.ref a)) ?_
    unfold Builtin.«sorted»
    have hzz : its.toArray.size ≤ sizeLine := by rw [List.size_toArray, hln, sizeLine_eq]; omega
    refine wpAny_bind (m := checkCount "sorted" 1 1 _) (wpAny_pure (wpAny_bind (collect_seqX a hT ho hcl hd hzz ?_)))
    rw [List.toList_toArray]
    refine wpAny_bind (wpAny_newList ?_ (by rw [← List.size_toArray]; exact hzz))
    generalize hh' : heapC s.heap its.toArray = h'
    have hsz : h'.objs.size = s.heap.objs.size + 1 := by rw [← hh', Heap.size_update, Heap.size_push]
    have kp : ∀ b o, s.heap.get? b = some o → h'.get? b = some o := fun b o e => by
      rw [← hh', Heap.get?_update_ne _ _ _ _ (Nat.ne_of_lt (Heap.lt_size e))]
      exact Heap.get?_push_of_some _ e
    have hoL : (h'.push (seqObj "list" its.toArray 0)).get? h'.objs.size = some (seqObj "list" its.toArray 0) := Heap.get?_push_size _ rfl
    refine wpAny_bind (wpAny_holding (wpAny_call_entry PyProof.Rows.slot_list_sort ⟨_, hoL, rfl⟩ PyProof.Rows.entry_list_sort (list_sort_tree hoL hI (by rw [hln]; exact h64) fun out ns' k1 k2 k3 => ⟨_, rfl, ?_⟩) (PyProof.Rows.args_list_sort _)))
    obtain ⟨c, hc⟩ := sortedHeap_at (vs := its) (out := out) hoL
    have le : s.heap.objs.size ≤ h'.objs.size := by rw [hsz]; exact Nat.le_succ _
    refine wpAny_pure ⟨_, rfl, .ref _, upd H h'.objs.size (.lst (ns'.map V.int)), ?_, rfl, q ns' _ k2 k3 (J.hok.fresh le)⟩
    refine J.laid (t' := s.toks) (fun b u e => ?_) le ⟨?_, out.toList, c, vals_of_ints k1, hc⟩
    · have e := kp b u e
      have hlt := Heap.lt_size e
      show (sortedHeap (h'.push (seqObj "list" its.toArray 0)) h'.objs.size its out).get? b = some u
      rw [sortedHeap_old (Nat.ne_of_lt hlt) (by rw [Heap.size_push]; exact Nat.lt_succ_of_lt hlt)]
      exact Heap.get?_push_of_some _ e
    · rw [List.length_map, k2.length_eq, sizeLine_eq]
      omega
  rcases hs with hs | hs
  · obtain ⟨its, rv, hl, hz⟩ := J.list hs
    obtain ⟨o, ho, hcl, n, hd⟩ := hl.isList
    exact core "list" its o n (.inl rfl) rv ho hcl hd
  · obtain ⟨its, rv, hl, hz⟩ := J.tuple hs
    obtain ⟨o, ho, hcl, n, hd⟩ := hl
    exact core "tuple" its o n (.inr rfl) rv ho hcl hd
end
end GV

namespace GV
open PySem PySem.Spec PyProof.Rows L2
section
variable {X : Cx} {M : Addr → Prop} {σ : St} {H H' : Hp} {a b c e tg iter : Expr} {da db d : PyData} {pos : Pos} {es : List Expr} {ds : List PyData} {tp : Bool} {D : Ends}
theorem two_sorted {x y : Int} {l : List Int} (h : l.Perm [x, y]) (s : l.Pairwise (· ≤ ·)) : l = [min x y, max x y] := by
  have hl := h.length_eq
  match l, hl with
  | [u, v], _ =>
    have hs : u ≤ v := by
      have := List.pairwise_cons.mp s
      exact this.1 v (by simp)
    have h1 : u ∈ [x, y] := h.mem_iff.mp (by simp)
    have h2 : v ∈ [x, y] := h.mem_iff.mp (by simp)
    have h3 : x ∈ [u, v] := h.mem_iff.mpr (by simp)
    have h4 : y ∈ [u, v] := h.mem_iff.mpr (by simp)
    simp only [List.mem_cons, List.not_mem_nil, or_false] at h1 h2 h3 h4
    have e1 : u = min x y := by omega
    have e2 : v = max x y := by omega
    rw [e1, e2]
theorem fd_sort2 {p : Pos} {x y : Int} (hg : Gl X "sorted") (hm : X.mg "sorted" = none) (ha : PD X M a σ H (sqD tp [.int x, .int y])) (hs : starEach (a :: []) X.env = (false, eval a X.env) :: starEach [] X.env := by rfl) (hpl : (backTo pos (starEach [] X.env)).any (·.1) = false := by rfl) :
    FD X M (.Call (.Name "sorted" p) [a] [] pos) σ H [.int (min x y), .int (max x y)] := by
  refine fd_callB cr_sortQ hg hm PyProof.Rows.boot_sorted (ad_cons ha ad_nil hs) (fun vs H1 r al Q q => ?_) (by decide) (by decide) hs hpl
  obtain ⟨v, rfl, r1⟩ := rpa1 r
  have fin : ∀ (ns' : List Int) (p : Addr), ns'.Perm [x, y] → ns'.Pairwise (· ≤ ·) → H1 p = none → Q (.ref p) (upd H1 p (.lst (ns'.map V.int))) := fun ns' p hp hs hn => by
    rw [two_sorted hp hs]
    exact q p _ _ hn (Evl.Ex.new hn) upd_same (.cons (.int _) (.cons (.int _) .nil))
  cases tp with
  | true =>
    cases r1 with
    | tup m hs rs =>
      obtain ⟨v1, v2, rfl, q1, q2⟩ := rpa2 rs
      cases q1
      cases q2
      exact ⟨_, [x, y], rfl, .inr (.inl hs), (by show 2 < 64; decide), fin⟩
  | false =>
    cases r1 with
    | lst m hs rs =>
      obtain ⟨v1, v2, rfl, q1, q2⟩ := rpa2 rs
      cases q1
      cases q2
      exact ⟨_, [x, y], rfl, .inl (.inl hs), (by show 2 < 64; decide), fin⟩
/-- x, y = a list of two -/
theorem s_unp2 {i j kt : Nat} {x y : Str} {px py pt : Pos} (al : Alive M H) (hc : X.calm = true) (h : FD X M e σ H [da, db]) (hx : PG X (.Name x px) (gName i)) (hy : PG X (.Name y py) (gName j))
    (q : ∀ v w H2, Evl.Ex H H2 → Rp X.K M H2 v da → Rp X.K M H2 w db → D.nx ((σ.set i (some v)).set j (some w)) H2)
    (hn : (assignEach [.Name x px, .Name y py] X.env).length = 2 := by rfl) (hst : (assignEach [.Name x px, .Name y py] X.env).findIdx? (·.1) = none := by rfl) (hs : swapsWithSole [.Tuple [.Name x px, .Name y py] kt pt] e pos.line X.env = pure false := by rfl) (hw : swappedStores [.Tuple [.Name x px, .Name y py] kt pt] e X.env = pure none := by rfl)
    (h1 : (assignEach [.Tuple [.Name x px, .Name y py] kt pt] X.env).map (·.2) = [assign (.Tuple [.Name x px, .Name y py] kt pt) X.env] := by rfl) : wS X (.Assign [.Tuple [.Name x px, .Name y py] kt pt] e pos) D σ H :=
  ⟨_, ps_asg wE.pe (pg_unl hc (pgs_cons hx (pgs_cons hy pgs_nil)) hn hst) hs hw h1, h.run H (ExM.refl H) al _ fun p ws H2 hp x2 h2 rs => by
    obtain ⟨v, w, rfl, r1, r2⟩ := rpa2 rs
    exact ⟨p, _, rfl, .inl (.inl h2), rfl, v, _, rfl, w, _, rfl, rfl, q v w H2 x2 r1 r2⟩⟩
theorem pd_catT {es fs : List PyData} (ha : PD X M a σ H (.tuple es)) (hb : PD X M b σ H (.tuple fs)) (hl : es.length + fs.length ≤ 100000) : PD X M (.BinOp a .Add b pos) σ H (.tuple (es ++ fs)) := .mk fun H1 e1 al Q q =>
  ⟨_, pe_op op_catA wE.pe wE.pe, ha.run H1 e1 al _ fun x H2 x2 rx => hb.run H2 (e1.trans (.of x2)) (al.mono x2) _ fun y H3 x3 ry => by
    have rx' := rx.mono (fun _ z => z) (.of x3)
    have al3 := (al.mono x2).mono x3
    cases rx' with
    | tup m1 h1 r1 =>
      cases ry with
      | tup m2 h2 r2 =>
        refine ⟨_, _, _, _, rfl, rfl, .inl h1, .inl h2, by rw [r1.length, r2.length]; exact Evl.sz_of hl, fun e => ?_, fun _ e => ?_, fun _ _ p hp => ?_⟩
        · subst e
          cases r1
          exact q _ _ (x2.trans x3) (.tup m2 h2 r2)
        · subst e
          cases r2
          exact q _ _ (x2.trans x3) (.tup m1 h1 (by rw [List.append_nil]; exact r1))
        · exact q _ _ ((x2.trans x3).trans (Evl.Ex.new hp)) (.tup (al3.fresh hp) (.inl upd_same) ((r1.append r2).mono (fun _ z => z) (.of (Evl.Ex.new hp))))⟩
/-! ### x in a list of whole numbers -/
theorem inV_ints (x : Int) (ns : List Int) : inV (.int x) (ns.map V.int) = decide (x ∈ ns) := by
  unfold inV
  rw [List.any_map, Bool.eq_iff_iff, decide_eq_true_eq, List.any_eq_true]
  constructor
  · rintro ⟨y, hy, e⟩
    have e : (y == x) = true := e
    rw [← beq_iff_eq.mp e]
    exact hy
  · intro h
    exact ⟨x, h, (by show (x == x) = true; simp)⟩
theorem flat_ints (ns : List Int) : (ns.map V.int).all flatV = true := by
  rw [List.all_map, List.all_eq_true]
  exact fun _ _ => rfl
theorem td_in {x : Int} {ns : List Int} (ha : PD X M a σ H (.int x)) (hb : PD X M b σ H (.list (ns.map PyData.int))) (hk : behindInMarks .In b = false := by rfl) : TD X M (.Compare a [.In] [b] pos) σ H (decide (x ∈ ns)) :=
  td_cmpR op_in_seq hk (fun u v H1 ru rv _ Q q => by
    cases ru
    cases rv with
    | lst m hs rs =>
      refine ⟨_, _, rfl, .inl (.inl hs), rfl, by rw [rs.of_ints]; exact flat_ints ns, ?_⟩
      rw [rs.of_ints]
      show Q (.bl (inV (.int x) (ns.map V.int))) H1
      rw [inV_ints]
      exact q _ H1 (Evl.Ex.refl H1) (.bl _)) ha hb
theorem td_nin {x : Int} {ns : List Int} (ha : PD X M a σ H (.int x)) (hb : PD X M b σ H (.list (ns.map PyData.int))) (hk : behindInMarks .NotIn b = false := by rfl) : TD X M (.Compare a [.NotIn] [b] pos) σ H (!decide (x ∈ ns)) :=
  td_cmpR op_notIn_seq hk (fun u v H1 ru rv _ Q q => by
    cases ru
    cases rv with
    | lst m hs rs =>
      refine ⟨_, _, rfl, .inl (.inl hs), rfl, by rw [rs.of_ints]; exact flat_ints ns, ?_⟩
      rw [rs.of_ints]
      show Q (.bl (!inV (.int x) (ns.map V.int))) H1
      rw [inV_ints]
      exact q _ H1 (Evl.Ex.refl H1) (.bl _)) ha hb
/-! ### is True, is False -/
theorem ce_isnB {Q : VK} {k j : Bool} {jj p2} (h : wE X a σ H fun x H2 => x = .bl k ∧ Q (.bl (!decide (k = j))) H2) : wE X (.Compare a [.IsNot] [.Constant (.bool j) jj p2] pos) σ H Q :=
  ⟨_, pe_cmpR op_isnot_bl wE.pe pe_bl (nomark _), wE.weak h fun x H2 ⟨e, q⟩ => (by exact ⟨k, j, e, rfl, q⟩)⟩
theorem ct_isnB {Q : Bool → Hp → Prop} {k j : Bool} {jj p2} (h : wE X a σ H fun x H2 => x = .bl k ∧ Q (!decide (k = j)) H2) : wT X (.Compare a [.IsNot] [.Constant (.bool j) jj p2] pos) σ H Q :=
  ⟨_, pt_cmpR op_isnot_bl wE.pe pe_bl (nomark _), wE.weak h fun x H2 ⟨e, q⟩ => (by exact ⟨k, j, e, rfl, _, rfl, q⟩)⟩
/-! ### len(set(..)) -/
def dd : List Int → List Int
  | [] => []
  | x :: t => if x ∈ t then dd t else x :: dd t
theorem mem_dd {l : List Int} {k : Int} : k ∈ dd l ↔ k ∈ l := by
  induction l with
  | nil => exact Iff.rfl
  | cons x t ih =>
    unfold dd
    split
    · rename_i h
      rw [ih, List.mem_cons]
      exact ⟨.inr, fun z => z.elim (fun e => e ▸ h) id⟩
    · rw [List.mem_cons, List.mem_cons, ih]
theorem nd_dd (l : List Int) : (dd l).Nodup := by
  induction l with
  | nil => exact List.nodup_nil
  | cons x t ih =>
    unfold dd
    split
    · exact ih
    · rename_i h
      exact List.nodup_cons.mpr ⟨fun z => h (mem_dd.mp z), ih⟩
theorem dd_le (l : List Int) : (dd l).length ≤ l.length := by
  induction l with
  | nil => exact Nat.le_refl _
  | cons x t ih =>
    unfold dd
    split
    · exact Nat.le_succ_of_le ih
    · exact Nat.succ_le_succ ih
theorem dd_eq {l : List Int} : (dd l).length = l.length ↔ l.Nodup := by
  induction l with
  | nil => exact ⟨fun _ => List.nodup_nil, fun _ => rfl⟩
  | cons x t ih =>
    unfold dd
    rw [List.nodup_cons]
    split
    · rename_i h
      constructor
      · intro e
        have := dd_le t
        rw [List.length_cons] at e
        omega
      · exact fun z => absurd h z.1
    · rename_i h
      rw [List.length_cons, List.length_cons]
      exact ⟨fun e => ⟨h, ih.mp (by omega)⟩, fun z => by rw [ih.mpr z.2]⟩
theorem pd_lenSet {p p2 q2 : Pos} {ns : List Int} (hc : X.calm = true) (hg : Gl X "len") (hm : X.mg "len" = none) (hg2 : Gl X "set") (hm2 : X.mg "set" = none) (ha : PD X M a σ H (sqD tp (ns.map PyData.int))) (hl : ns.length < 64)
    (na : starEach [a] X.env = (false, eval a X.env) :: starEach [] X.env := by rfl) : PD X M (.Call (.Name "len" p) [.Call (.Name "set" p2) [a] [] q2] [] pos) σ H (.int ((dd ns).length : Nat)) := .mk fun H1 e1 al Q q => by
  refine ⟨fun σ H Q => wE X a σ H fun x H1 => ∃ l, x = V.ref l ∧ (SqL X.K H1 l (ns.map V.int) ∨ SqT X.K H1 l (ns.map V.int)) ∧ Q (.int ((dd ns).length : Nat)) H1, ⟨fun pins s σ H Q J h => ?_⟩, ?_⟩
  · refine Call_ (ld_blt J hg hm PySem.boot_len (PyProof.Rows.callWith_builtin1 (PyProof.Rows.args_cons ?_ rfl) rfl rfl))
    refine Call_ (ld_blt J hg2 hm2 PyProof.Rows.boot_set (PyProof.Rows.callWith_type1 (PyProof.Rows.args_cons (thn (wE.pe.run pins s σ H _ J h) fun v s1 ⟨x, H1, J1, r1, l, e2, hq, q1⟩ => PyProof.Rows.args_nil ?_) na) na rfl))
    subst e2
    cases r1
    have fin : ∀ (g : Heap) (tk c : Nat), SetR X.w g s1.heap.objs.size (fun j => decide (j ∈ ns)) c → c ≤ ns.length → (∀ b o, s1.heap.get? b = some o → g.get? b = some o) →
        wpAny (model X.prog X.w) X.A (spliced (backTo pos (starEach [] X.env))) (fun vs s₂ => wpAny (model X.prog X.w) X.A (call (.builtin "len") (Value.ref s1.heap.objs.size :: vs)) (EP X pins σ Q) X.xe s₂) X.xe { s1 with heap := g, toks := tk } := by
      intro g tk c R hcl k
      refine PyProof.Rows.args_nil ?_
      obtain ⟨o, es, ep, t, ho, hex, hd, _, hnd, hmem, hsz, hf, hn, _⟩ := R
      have J2 : Inv X pins σ H1 { s1 with heap := g, toks := tk } := J1.kept k
      have hc' : c = (dd ns).length := by
        have pm : (es.toList.map keyOf).Perm (dd ns) := (List.perm_ext_iff_of_nodup hnd (nd_dd ns)).mpr fun k => by
          rw [← hmem k, mem_dd]
          exact decide_eq_true_iff
        have := pm.length_eq
        rw [List.length_map, Array.length_toList, hn] at this
        exact this
      refine call_len_set ho hex hd hf (by rw [hn] <;> omega) ⟨.int ((dd ns).length : Nat), H1, J2.tok _, ⟨_, by rw [hn, hc']⟩, q1⟩
    rcases hq with hq | hq
    · obtain ⟨its, r, pl, hz⟩ := J1.list hq
      exact set_ofL ns (J1.ok.hd hc) pl.isList (by simpa using r.ints) (by unfold scanBound; omega) fun g tk c R hcl k => fin g tk c R hcl k
    · obtain ⟨its, r, pl, hz⟩ := J1.tuple hq
      exact call_set_tupI ns (J1.ok.hd hc) pl (by simpa using r.ints) (by unfold scanBound; omega) fun g tk c R hcl k => fin g tk c R hcl k
  · refine ha.run H1 e1 al _ fun v H2 x2 r => ?_
    cases tp with
    | true =>
      cases r with
      | tup m hr rs => exact ⟨_, rfl, .inr (.inl (by rw [← rs.of_ints]; exact hr)), q _ H2 x2 (.int _)⟩
    | false =>
      cases r with
      | lst m hr rs => exact ⟨_, rfl, .inl (.inl (by rw [← rs.of_ints]; exact hr)), q _ H2 x2 (.int _)⟩
end
end GV

namespace IK
open PySem PySem.Spec PyProof.Rows L2 GV
section
variable {P : Program} {w : World} {K : PySem.W.Frag} {mg : Str → Option Value} {base : Heap}
abbrev intsD (ns : List Int) : PyData := .list (ns.map PyData.int)
abbrev tintsD (ns : List Int) : PyData := .tuple (ns.map PyData.int)
theorem kit_list (d : PyData) : kitB (tyD d) "list" = some (match d with | .list _ => true | _ => false) := by
  cases d with
  | none => exact (by decide +kernel : kitB "NoneType" "list" = some false)
  | bool _ => exact (by decide +kernel : kitB "bool" "list" = some false)
  | int _ => exact (by decide +kernel : kitB "int" "list" = some false)
  | str _ => exact (by decide +kernel : kitB "str" "list" = some false)
  | list _ => exact (by decide +kernel : kitB "list" "list" = some true)
  | tuple _ => exact (by decide +kernel : kitB "tuple" "list" = some false)
  | dict _ => exact (by decide +kernel : kitB "dict" "list" = some false)
theorem kit_tup (ds : List PyData) : kitB (tyD (.tuple ds)) "tuple" = some true := (by decide +kernel : kitB "tuple" "tuple" = some true)
theorem get_i {ns : List Int} {i : Nat} (h : i < ns.length) : ∃ z, ns[i]? = some z := ⟨_, List.getElem?_eq_getElem h⟩
def isSeqD : PyData → Bool
  | .list _ => true
  | .tuple _ => true
  | _ => false
def partsD : PyData → List PyData
  | .list ds => ds
  | .tuple ds => ds
  | _ => []
def isListD : PyData → Bool
  | .list _ => true
  | _ => false
def isTupD : PyData → Bool
  | .tuple _ => true
  | _ => false
theorem kit_l (d : PyData) : kitB (tyD d) "list" = some (isListD d) := by
  cases d with
  | none => exact (by decide +kernel : kitB "NoneType" "list" = some false)
  | bool _ => exact (by decide +kernel : kitB "bool" "list" = some false)
  | int _ => exact (by decide +kernel : kitB "int" "list" = some false)
  | str _ => exact (by decide +kernel : kitB "str" "list" = some false)
  | list _ => exact (by decide +kernel : kitB "list" "list" = some true)
  | tuple _ => exact (by decide +kernel : kitB "tuple" "list" = some false)
  | dict _ => exact (by decide +kernel : kitB "dict" "list" = some false)
theorem kit_t (d : PyData) : kitB (tyD d) "tuple" = some (isTupD d) := by
  cases d with
  | none => exact (by decide +kernel : kitB "NoneType" "tuple" = some false)
  | bool _ => exact (by decide +kernel : kitB "bool" "tuple" = some false)
  | int _ => exact (by decide +kernel : kitB "int" "tuple" = some false)
  | str _ => exact (by decide +kernel : kitB "str" "tuple" = some false)
  | list _ => exact (by decide +kernel : kitB "list" "tuple" = some false)
  | tuple _ => exact (by decide +kernel : kitB "tuple" "tuple" = some true)
  | dict _ => exact (by decide +kernel : kitB "dict" "tuple" = some false)
def bagB (d : PyData) : Bool := isSeqD d && decide ((partsD d).length ≤ 40) && (partsD d).all isWeightD
def R_bag (ds : List PyData) (d : PyData) : Prop := ∃ a, ds = [a] ∧ (partsD a).length ≤ 1000 ∧ d = .bool (bagB a)
theorem cl_is_bag_row {f : Addr} {fd : FuncData} {t : Tok} (F : At K mg "is_bag_row" s_is_bag_row f fd) (nb : NoB mg) (c1 : Cl P w K mg base CX0 3 "is_weight" (PureR K R_is_weight)) (gS : mg "MOST_STONES" = some (.int 40 t)) : Cl P w K mg base CX0 4 "is_bag_row" (PureR K R_bag) := by
  refine cl_pure F sc_is_bag_row (F.fn.binds fun _ _ _ _ _ _ us hl => match us, hl with | [_], _ => rfl) (fun ds d h => ?_) (fun X cdv A outer s H Q E M vs ds d hX hr al r h q => ?_)
  · obtain ⟨a, rfl, _⟩ := h
    rfl
  · obtain ⟨a, rfl, hlen, rfl⟩ := h
    obtain ⟨v, rfl, r1⟩ := rpa1 r
    subst hX
    -- the parts are walked
    have last : ∀ H2, Evl.Ex H H2 → isSeqD a = true → (∀ {X : Cx} {σ' : L2.St} {tg e}, PD X M e σ' H2 a → Src X M tg e σ' H2 (partsD a)) → (partsD a).length ≤ 40 → wB (cxOf CX0 P w K mg base n_is_bag_row "is_bag_row" (defScope s_is_bag_row) f cdv A outer s H E).nox ((defBody s_is_bag_row).drop 1) { nx := fun _ H' => Q .non H', rt := Q } (L2.start n_is_bag_row [v]) H2 := by
      intro H2 x2 hq src hl
      have r2 := r1.mono (fun _ z => z) (ExM.of x2)
      refine b_cons (s_ret (al.mono x2) (PD.is (pd_callB (cr_all rfl) rfl nb.all PyProof.Rows.boot_all (ad_cons (PD.is (d' := .list (((partsD a).map isWeightD).map PyData.bool)) (FD.pd
        (fd_map (t := .one 1) (own := [("item", 1)]) (fun d => .bool (isWeightD d)) rfl sc_is_bag_row.nd (src (nm 0 r2)) (blkOk_by (N := n_is_bag_row) (sc := defScope s_is_bag_row) (by decide +kernel)) (fun _ _ _ _ _ => pg_name (i := 1) sc_is_bag_row.nd rfl (.inl rfl)) (fun _ _ => trivial) ?_ ?_ ?_)) ?_) ad_nil) rn_all) ?_) fun v H3 x3 rv => q v H3 (x2.trans x3) rv)
      · rintro M H d σ' ⟨v, _, rfl⟩
        rfl
      · omega
      · rintro s0 H0 C cl fp M' H' d σ' hM lift hd ⟨v, rv, rfl⟩
        exact pd_callC c1 hr (by decide) rfl (ad_cons (nm 1 rv) ad_nil) ⟨d, rfl, rfl⟩
      · rw [List.map_map]
        rfl
      · unfold bagB
        rw [hq, decide_eq_true hl, Bool.true_and, Bool.true_and, List.all_map]
        rfl
    have lenA : ∀ {n}, isSeqD a = true → n = (partsD a).length → lenD a = some n := fun hq hn => by
      cases a <;> first | (cases hq; done) | (subst hn; rfl)
    refine b_cons (s_if (k := !(isListD a || isTupD a) || decide ((40 : Int) < ((partsD a).length : Nat))) al (WD.td (wd_or (td_not (td_val (pd_isi2 rfl nb.isinstance rfl nb.list PyProof.Rows.boot_list rfl nb.tuple PyProof.Rows.boot_tuple (nm 0 r1) (kit_l a) (kit_t a)))) fun hq => wd_or1 (td_gt (pd_len nb rfl (nm 0 r1) (lenA ?_ rfl)) (pd_globI rfl gS)))) (fun k H2 x2 => ?_) (fun k H2 x2 => ?_))
    · cases a <;> first | rfl | (cases hq; done)
    · have hb : bagB a = false := by
        unfold bagB
        cases a <;> first | rfl | skip
        all_goals
          simp only [isListD, isTupD, Bool.or_true, Bool.true_or, Bool.not_true, Bool.false_or, decide_eq_true_eq] at k
          rw [decide_eq_false (by omega), Bool.and_false, Bool.false_and]
      exact b_cons (s_ret (al.mono x2) (PD.is pd_bl (by rw [hb])) fun v H3 x3 rv => q v H3 (x2.trans x3) rv)
    · have hs : isSeqD a = true ∧ (partsD a).length ≤ 40 := by
        cases a <;> simp [isListD, isTupD] at k <;> exact ⟨rfl, by omega⟩
      refine b_nil (last H2 x2 hs.1 (fun h => ?_) hs.2)
      cases a with
      | list ds => exact src_list h
      | tuple ds => exact src_tup h
      | _ => cases hs.1
end
end IK

namespace IK
open PySem PySem.Spec PyProof.Rows L2 GV
section
variable {P : Program} {w : World} {K : PySem.W.Frag} {mg : Str → Option Value} {base : Heap}
def ExB (b : Addr) (H H' : Hp) : Prop := ∀ a o, a ≠ b → H a = some o → H' a = some o
theorem ExB.of {b : Addr} {H H' : Hp} (e : Evl.Ex H H') : ExB b H H' := fun a o _ h => e a o h
theorem ExB.trans {b : Addr} {H H1 H2 : Hp} (e : ExB b H H1) (f : ExB b H1 H2) : ExB b H H2 := fun a o n h => f a o n (e a o n h)
theorem ExB.upd {b : Addr} {H : Hp} {o : HO} : ExB b H (upd H b o) := fun a u n h => by
  rw [upd_ne n]
  exact h
theorem emod_lt' (a : Int) {m : Int} (h : 0 < m) : 0 ≤ a % m ∧ a % m < m := ⟨Int.emod_nonneg _ (by omega), Int.emod_lt_of_pos _ h⟩
theorem small_mul {i : Int} (h0 : 0 ≤ i) (h1 : i < 2147483648) : CMul i i := .inl ⟨by omega, by omega⟩
end
end IK

namespace IK
open PySem PySem.Spec PyProof.Rows L2 GV
def okW (z : Int) : Prop := -1000000000000 ≤ z ∧ z ≤ 1000000000000
theorem okW.is {z : Int} (h : okW z) : isWeightD (.int z) = true := by
  show (decide (-mostW ≤ z) && decide (z ≤ mostW)) = true
  rw [decide_eq_true (by unfold mostW; exact h.1), decide_eq_true (by unfold mostW; exact h.2)]
  rfl
section
variable {P : Program} {w : World} {K : PySem.W.Frag} {mg : Str → Option Value} {base : Heap}
/-! ### a weight -/
end
end IK

namespace IK
open PySem PySem.Spec PyProof.Rows L2 GV
def RowL (ns : List Int) : Prop := ns.length ≤ 40 ∧ (∀ z ∈ ns, okW z) ∧ ns.Nodup
section
variable {P : Program} {w : World} {K : PySem.W.Frag} {mg : Str → Option Value} {base : Heap}
end
end IK

/-! A list of lambdas, given to a name: their closures are pinned for the rest of the block. -/
namespace GV
open PySem PySem.Spec PyProof.Rows L2
structure Lm where
  ps : Arguments
  bd : Expr
  sc : Scope
  po : Pos
def Lm.e (l : Lm) : Expr := .Lambda l.ps l.bd l.sc l.po
def lmsOf : List Expr → List Lm
  | .Lambda a b c d :: es => ⟨a, b, c, d⟩ :: lmsOf es
  | _ => []
abbrev cloO (X : Cx) (l : Lm) (pm : Value) (c' : Addr) (ctv : Value) : Obj := PySem.W.kla_obj "<lambda>" (X.env.qual ++ "<lambda>") l.ps l.bd l.sc (cloFrom X.env.cells l.sc.names []) pm c' ctv
abbrev qlam (X : Cx) : Str := X.env.qual ++ "<lambda>"
/-- the closure of l stands at f -/
def CloAt (X : Cx) (pn : List (Addr × Obj)) (H : Hp) (l : Lm) (f : Addr) : Prop := ∃ pm c' ctv, (f, cloO X l pm c' ctv) ∈ pn ∧ H c' = some (LamX.CodeO c' (qlam X))
structure LmOk (X : Cx) (l : Lm) : Prop where
  sc : LamX.LamS X.env.scope l.sc
  df : defaultsOf l.ps X.env = ([], [])
  bi : ∀ (q : Str) (cl : List (Str × Addr)) (pm cv ctv : Value), bindArgs (PySem.W.kla_fn "<lambda>" q l.ps l.bd l.sc cl pm cv ctv) ⟨[], []⟩ = pure []
section
variable {X : Cx} {pins : List (Addr × Obj)} {σ : St} {H : Hp} {s : Shared}
theorem inv_pinF {f : Addr} {l : Lm} {pm ctv : Value} {c' : Addr} (I : Inv X pins σ H s) (hf : s.heap.get? f = some (cloO X l pm c' ctv)) (hn : H f = none) (hfr : f ∉ frs X.stack) : Inv X ((f, cloO X l pm c' ctv) :: pins) σ H s := by
  refine ⟨I.ok, I.os, I.bare, I.base, I.loc, I.cell, I.free, I.freeC, fun p hp => ?_, I.hok, I.len⟩
  rcases List.mem_append.mp hp with h | h
  · exact I.pin p (List.mem_append_left _ h)
  rcases List.mem_cons.mp h with e | h
  · subst e
    refine ⟨hf, hn, fun e => ?_, fun z => hfr ?_, fun v z => ?_⟩
    · obtain ⟨m, hns, _⟩ := I.loc
      obtain ⟨ob, es, ep, ho, r⟩ := hns
      have e : f = X.env.locals := e
      rw [← e, hf] at ho
      cases ho
      simp at r
    · rcases I.ok.stk with e | ⟨e, _⟩
      · rw [e]
        exact z
      · rw [e]
        show f ∈ List.filterMap (fun x : Env => x.frame) (X.env :: X.outer)
        rw [List.filterMap_cons]
        split
        · exact z
        · exact List.mem_cons_of_mem _ z
    · have z : (cloO X l pm c' ctv).data = .cell v := z
      cases z
  · exact I.pin p (List.mem_append_right _ h)
theorem inv_fewer {pn : List (Addr × Obj)} (I : Inv X (pn ++ pins) σ H s) : Inv X pins σ H s :=
  ⟨I.ok, I.os, I.bare, I.base, I.loc, I.cell, I.free, I.freeC, fun p hp => I.pin p ((List.mem_append.mp hp).elim (List.mem_append_left _) fun h => List.mem_append_right _ (List.mem_append_right _ h)), I.hok, I.len⟩
/-- all of them, one after another -/
theorem lams_eval {T : List (Addr × Str)} {c P : Addr} {pos : Pos} (TB : LamX.TabB X.base X.mg c P) (hcode : X.env.code = .ref c) (hm : (P, qlam X) ∈ T) (hu : ∀ p ∈ T, p.1 = P → p.2 = qlam X) :
    ∀ (ls : List Lm) {pins : List (Addr × Obj)} {H : Hp} {s : Shared} {Q : List Value → Shared → Prop}, (∀ l ∈ ls, LmOk X l) → Inv X pins σ H s → LamX.Tabs T H →
      (∀ (fs : List Addr) (pn : List (Addr × Obj)) (H1 : Hp) (s1 : Shared), Inv X (pn ++ pins) σ H1 s1 → LamX.ExtN H H1 → LamX.Tabs T H1 → fs.length = ls.length → (∀ (j : Nat) (l : Lm) (f : Addr), ls[j]? = some l → fs[j]? = some f → CloAt X (pn ++ pins) H1 l f) → Q (fs.map Value.ref) s1) →
      wpAny (model X.prog X.w) X.A (spliced (backTo pos (starEach (ls.map Lm.e) X.env))) Q X.xe s
  | [], pins, H, s, Q, _, I, hT, h => Calls.spliced_nil (h [] [] H s I (LamX.ExtN.refl H) hT rfl fun j l f h => by cases h)
  | l :: ls, pins, H, s, Q, ok, I, hT, h => by
    have okl := ok l (List.mem_cons_self ..)
    show wpAny _ _ (spliced ((false, eval (.Lambda l.ps l.bd l.sc l.po) X.env) :: backTo pos (starEach (ls.map Lm.e) X.env))) _ _ s
    refine Calls.spliced_cons (LamX.lam_make2 I TB hcode hm hu hT okl.df (LamX.LamS.has okl.sc I.ok) fun f c' pm ctv H1 s1 I1 eN T1 hf hfn hfr hco => ?_)
    refine lams_eval TB hcode hm hu ls (fun k hk => ok k (List.mem_cons_of_mem _ hk)) (inv_pinF I1 hf hfn hfr) T1 fun fs pn H2 s2 I2 e2 T2 hl hc => ?_
    have ea : pn ++ (f, cloO X l pm c' ctv) :: pins = (pn ++ [(f, cloO X l pm c' ctv)]) ++ pins := by simp
    rw [ea] at I2 hc
    refine h (f :: fs) (pn ++ [(f, cloO X l pm c' ctv)]) H2 s2 I2 (eN.trans e2) T2 (by simp [hl]) fun j k g hj hg => ?_
    cases j with
    | zero =>
      cases hj
      cases hg
      exact ⟨pm, c', ctv, by simp, e2 _ _ hco LamX.codeO_ne⟩
    | succ j => exact hc j k g hj hg
theorem b_lams {T : List (Addr × Str)} {c P : Addr} {i : Nat} {x : Str} {es : List Expr} {p1 p2 p3 : Pos} {rest : List Stmt} {D : Ends} (TB : LamX.TabB X.base X.mg c P) (hcode : X.env.code = .ref c) (hm : (P, qlam X) ∈ T) (hu : ∀ p ∈ T, p.1 = P → p.2 = qlam X)
    (hN : X.N.Nodup) (hi : X.N[i]? = some x) (hx : Loc X.env.scope x) (ok : ∀ l ∈ lmsOf es, LmOk X l) (hT : LamX.Tabs T H) (hl : (lmsOf es).length ≤ 100)
    (h : ∀ (pn : List (Addr × Obj)) (fs : List Addr) (H1 : Hp) (p : Addr), LamX.ExtN H H1 → LamX.Tabs T H1 → H1 p = none → fs.length = (lmsOf es).length → (∀ (j : Nat) (l : Lm) (f : Addr), (lmsOf es)[j]? = some l → fs[j]? = some f → CloAt X pn H1 l f) →
      wB (X.tr pn X.xe) rest D (σ.set i (some (.ref p))) (upd H1 p (.lst (fs.map V.ref))))
    (he : es = (lmsOf es).map Lm.e := by rfl) (hs : swapsWith (.List es p2) (some (.Name x p1)) p3.line X.env = pure false := by rfl) (hf : X.fn x = true ∨ X.env.scope.names.lookup x = some .local := by first | exact .inl rfl | exact .inr rfl | assumption) :
    wB X (.Assign [.Name x p1] (.List es p2) p3 :: rest) D σ H := by
  refine ⟨fun D σ H => LamX.Tabs T H ∧ ∀ (pn : List (Addr × Obj)) (fs : List Addr) (H1 : Hp) (p : Addr), LamX.ExtN H H1 → LamX.Tabs T H1 → H1 p = none → fs.length = (lmsOf es).length → (∀ (j : Nat) (l : Lm) (f : Addr), (lmsOf es)[j]? = some l → fs[j]? = some f → CloAt X pn H1 l f) →
      wB (X.tr pn X.xe) rest D (σ.set i (some (.ref p))) (upd H1 p (.lst (fs.map V.ref))), ⟨fun pins s σ H D I hq => ?_⟩, hT, h⟩
  obtain ⟨hT, hq⟩ := hq
  refine wpAny_execs_cons (wpAny_Assign_Name (wpAny_List_spliced ?_) hs)
  rw [he]
  refine lams_eval TB hcode hm hu (lmsOf es) ok I hT fun fs pn H1 s1 I1 e1 T1 hlen hc => ⟨?_, ?_⟩
  · rw [List.length_map, hlen]
    exact Nat.le_trans hl (by decide)
  have hp : H1 s1.heap.objs.size = none := I1.hok.fresh (Nat.le_refl _)
  have rv : Vals (fs.map V.ref) (fs.map Value.ref) := by
    clear hlen hc
    induction fs with
    | nil => exact .nil
    | cons f t ih => exact .cons rfl ih
  have I2 : Inv X (pn ++ pins) σ (upd H1 s1.heap.objs.size (.lst (fs.map V.ref))) { s1 with heap := s1.heap.push { cls := .type "list", data := .seq (fs.map Value.ref).toArray } } :=
    I1.laid (t' := s1.toks) (fun b u e => Heap.get?_push_of_some _ e) (Nat.le_refl _) ⟨by rw [List.length_map, hlen]; exact Nat.le_trans hl (by decide), _, 0, rv, Heap.get?_push_size _ rfl⟩
  refine store_ok I2 hN hi hx (v := .ref s1.heap.objs.size) rfl (fun s2 I3 => ?_) hf
  have hr := hq (X.pn ++ (pn ++ pins)) fs H1 s1.heap.objs.size e1 T1 hp hlen fun j l f hj hf => by
    obtain ⟨pm, c', ctv, h1, h2⟩ := hc j l f hj hf
    exact ⟨pm, c', ctv, List.mem_append_right _ h1, h2⟩
  refine thn ((wB.ps (X := X.tr (X.pn ++ (pn ++ pins)) X.xe)).run [] s2 _ _ D (I3.toTry X.xe) hr) fun f s3 q => ?_
  cases f with
  | next =>
    obtain ⟨σ', H', I', q⟩ := q
    exact ⟨σ', H', inv_fewer (I'.ofTry I.ok), q⟩
  | ret v =>
    obtain ⟨v, σ', H', I', q⟩ := q
    exact ⟨v, σ', H', inv_fewer (I'.ofTry I.ok), q⟩
  | brk =>
    obtain ⟨σ', H', I', q⟩ := q
    exact ⟨σ', H', inv_fewer (I'.ofTry I.ok), q⟩
  | cont =>
    obtain ⟨σ', H', I', q⟩ := q
    exact ⟨σ', H', inv_fewer (I'.ofTry I.ok), q⟩
/-- a walk over a list of whatever -/
theorem s_forL {e : Expr} {pos p2 : Pos} {slot : Nat} {x : Str} {body : List Stmt} {D : Ends} (hp : PassesOwn (model X.prog X.w) X.A X.env X.xe) (hc : X.calm = true) (hN : X.N.Nodup) (hx : X.N[slot]? = some x) (hl : Loc X.env.scope x)
    (h : wE X e σ H fun v H1 => ∃ (l : Addr) (xs : List V) (J : Nat → St → Hp → Prop), v = .ref l ∧ J 0 σ H1 ∧ (∀ i σ' H', J i σ' H' → H' l = some (.lst xs)) ∧
      (∀ i σ' H' y, xs[i]? = some y → J i σ' H' → wB X body { D with nx := J (i + 1), ct := J (i + 1), bk := D.nx } (σ'.set slot (some y)) H') ∧ ∀ σ' H', J xs.length σ' H' → D.nx σ' H')
    (hf : ∀ x, foldedSetIterable e X.env x = pure x := by intro _; rfl) (hfn : X.fn x = true ∨ X.env.scope.names.lookup x = some .local := by first | exact .inl rfl | exact .inr rfl | assumption) : wS X (.For (.Name x p2) e body [] pos) D σ H := by
  refine ⟨_, ps_for hp hc (pi_list wE.pe) (pg_name hN hx hl hfn) wB.ps hf, wE.weak h ?_⟩
  rintro v H1 ⟨l, xs, J, rfl, h0, hk, ht, hd⟩
  refine ⟨l, rfl, ⟨xs, .inl (.inl (hk _ _ _ h0))⟩, fun i m σ' H' => m = xs.length - i ∧ i ≤ xs.length ∧ J i σ' H', ⟨xs.length, rfl, Nat.zero_le _, h0⟩, ?_⟩
  rintro i m σ' H' ⟨rfl, hi', j⟩
  have hl := hk _ _ _ j
  by_cases hlt : i < xs.length
  · refine .inr ⟨⟨xs, xs[i], .inl (.inl hl), List.getElem?_eq_getElem hlt⟩, J (i + 1), fun σ2 H2 j2 => ⟨xs.length - (i + 1), by omega, rfl, hlt, j2⟩, fun y H2 q => ?_⟩
    obtain ⟨rfl, q⟩ := q
    exact ht i σ' _ y (q xs (.inl (.inl hl))) j
  · have e2 : i = xs.length := by omega
    subst e2
    exact .inl ⟨⟨xs, .inl (.inl hl), Nat.le_refl _⟩, hd σ' H' j⟩
end
end GV

/-! min(e, key=lambda a: ..), e a list of whole numbers: the first of those with the least key -/
namespace GV
open PySem PySem.Spec PyProof.Rows L2
/-- a list's iterator at turn i, whatever the tokens of its whole numbers -/
def ItS (I l : Addr) (ns : List Int) (i : Nat) (s : Shared) : Prop := s.heap.IsListIter I l i ∧ ∃ xs : Array Value, s.heap.IsList l xs ∧ IntsAre xs.toList ns
def IntP (ns : List Int) (i : Nat) (v : Value) : Prop := ∃ t, v = .int (ns.getD i 0) t
theorem walk_ints {prog : Program} {w : World} {A : Around} (hh : A.handled = none) (I l : Addr) (ne : l ≠ I) (ns : List Int) : WalksS prog w A I [I, l] [I] (fun a b => b = a) ns.length (IntP ns) (ItS I l ns) where
  sub := fun b hb => by
    rw [List.mem_singleton.mp hb]
    exact List.mem_cons_self ..
  grefl := fun _ => rfl
  gtrans := fun _ _ _ p q => q.trans p
  frame := fun i s h' tk ⟨si, xs, sl, sn⟩ _ hk => by
    obtain ⟨o1, a1, r1⟩ := si
    obtain ⟨o2, a2, r2⟩ := sl
    exact ⟨⟨o1, hk I (by simp) o1 a1, r1⟩, xs, ⟨o2, hk l (by simp) o2 a2, r2⟩, sn⟩
  item := fun i s Q E hi ⟨si, xs, sl, sn⟩ hQ => by
    have hx : i < xs.size := by
      rw [← Array.length_toList, IntsAre.length sn]
      exact hi
    obtain ⟨t, e⟩ := IntsAre.int_at sn i xs[i] (by simp [hx])
    refine wpAny_pyNext_list_item si sl (x := xs[i]) (by simp [hx]) fun g si' sb => ?_
    refine hQ _ { s with heap := g } ⟨t, ?_⟩ ⟨si', xs, sl.extBut sb.extBut ne, sn⟩ ⟨fun b o nb q => sb.extBut b o (fun z => nb (by simp [z])) q, rfl, rfl, rfl, Nat.le_refl _⟩
    rw [e]
  done := fun s Q E ⟨si, xs, sl, sn⟩ hQ => by
    have hx : xs[ns.length]? = none := by
      rw [← IntsAre.length sn, Array.length_toList]
      simp
    exact wpAny_pyNext_list_end hh si sl hx fun g xb => hQ { s with heap := g } ⟨fun b o nb q => xb b o (fun z => nb (by simp [z])) q, rfl, rfl, rfl, Nat.le_refl _⟩
  self := fun i s Q E st q => wpAny_pyIter_listiter st.1 q
/-- a lambda of one parameter: captured names, globals, and the parameter -/
structure Lam1S (sc scope : Scope) (a : Str) : Prop where
  kind : scope.kind = .function
  co : scope.isCoroutine = false
  gen : scope.isGenerator = false
  cell : ∀ y ∈ scope.names, y.2 ≠ .cell
  loc : ∀ y ∈ scope.names, y.2 = .local → y.1 = a
  par : scope.names.lookup a = some .local
  free : ∀ y ∈ scope.names, y.2 = .free → sc.names.lookup y.1 = some .cell ∨ sc.names.lookup y.1 = some .free
def lam1B (sc scope : Scope) (a : Str) : Bool :=
  decide (scope.kind = .function) && !scope.isCoroutine && !scope.isGenerator && decide (scope.names.lookup a = some .local) && scope.names.all fun y => !decide (y.2 = .cell) && (!decide (y.2 = .local) || decide (y.1 = a)) && (!decide (y.2 = .free) || (decide (sc.names.lookup y.1 = some .cell) || decide (sc.names.lookup y.1 = some .free)))
theorem lam1_by {sc scope : Scope} {a : Str} (h : lam1B sc scope a = true) : Lam1S sc scope a := by
  unfold lam1B at h
  simp only [Bool.and_eq_true, Bool.or_eq_true, Bool.not_eq_true', decide_eq_true_eq, decide_eq_false_iff_not, List.all_eq_true] at h
  obtain ⟨⟨⟨⟨k1, k2⟩, k3⟩, k4⟩, k5⟩ := h
  exact ⟨k1, k2, k3, fun y m => (k5 y m).1.1, fun y m e => (k5 y m).1.2.resolve_left (fun z => z e), k4, fun y m e => (k5 y m).2.resolve_left (fun z => z e)⟩
section
variable {X : Cx} {pins : List (Addr × Obj)} {σ : L2.St} {H HZ : Hp} {s s1 : Shared}
theorem Lam1S.has {a : Str} {scope : Scope} (L : Lam1S X.env.scope scope a) (ok : X.Ok) : ∀ y ∈ scope.names, y.2 = .free → ∃ c, X.env.cells.lookup y.1 = some c := fun y m e => (L.free y m e).elim (fun z => ok.has _ (.inl z)) fun z => ok.has _ (.inr z)
/-- the lambda's body is entered: its parameter stands in slot i -/
theorem lam1_start {A : Around} {outer : List Env} {E : XK} {scope : Scope} {f c' : Addr} {g : Heap} {tk i : Nat} {a : Str} {v : V} {u : Value} (I : Inv X pins σ H s) (L : Lam1S X.env.scope scope a) (hN : X.N.Nodup) (hi : X.N[i]? = some a) (rv : RelV v u) (e0 : Env0 X.prog X.w X.K X.mg X.base A outer s1 HZ) (hd : A.handled = none)
    (un : Un (frs X.stack) [] H HZ s.heap s1.heap) (hns : g.Ns s1.heap.objs.size fun y => ([(a, u)] : List (Str × Value)).reverse.lookup y) (kp : ∀ b o, s1.heap.get? b = some o → g.get? b = some o) :
    Inv (LamX.lamCx X A outer s1 HZ E scope f c') [] (σ.set i (some v)) HZ { s1 with heap := g, toks := tk } := by
  have has := L.has I.ok
  have up : ∀ {y c}, (cloFrom X.env.cells scope.names []).lookup y = some c → X.env.cells.lookup y = some c := fun {y c} e => by
    rcases cloFrom_mem (PySem.mem_of_lookup e) with z | ⟨z1, z2⟩
    · cases z
    · obtain ⟨d, hd⟩ := has _ z1 rfl
      have hd : X.env.cells.lookup y = some d := hd
      rw [z2, hd] <;> rfl
  have low : ∀ {y}, scope.names.lookup y = some .free → ∃ c, (cloFrom X.env.cells scope.names []).lookup y = some c := fun {y} e => mem_lookup (cloFrom_has (cells := X.env.cells) (acc := []) (show (y, NameKind.free) ∈ scope.names from PySem.mem_of_lookup e))
  have ck : ∀ {c : Addr} {z : Option Value}, H c = none → s.heap.IsCell c z → g.IsCell c z := fun {c z} n ⟨o, ho, hz⟩ => by
    obtain ⟨sl, q⟩ := un.any ho n (by simp)
    exact ⟨_, kp _ _ q, hz⟩
  have nx : ∀ b : Addr, ¬ b ∈ (LamX.lamCx X A outer s1 HZ E scope f c').ex := fun b z => by
    have z : b ∈ ([] : List Addr) := z
    cases z
  refine ⟨⟨e0.mod, L.kind, rfl, rfl, Nat.le_refl _, fun y z c p q => I.ok.inj y z c (up p) (up q), fun y hy => ?_, fun y c z _ => ?_, fun _ => hd, Around.frames_deeper e0.frames, .inr ⟨rfl, rfl⟩, fun b z => (nx b z).elim, e0.bs, e0.bsz, fun b _ _ => nx b, fun b z => (nx b z).elim, e0.funs, e0.frf⟩, rfl, e0.bare, Un.kept kp, ⟨_, hns, fun j y w p q k => ?_⟩, fun y c e => ?_, e0.hok.fresh (Nat.le_refl _), fun y c e => ?_, fun q hq => ?_, e0.hok.kept kp, by rw [List.length_set]; exact I.len⟩
  · have hy : scope.names.lookup y = some .cell ∨ scope.names.lookup y = some .free := hy
    rcases hy with hy | hy
    · exact (L.cell _ (PySem.mem_of_lookup hy) rfl).elim
    · exact low hy
  · have z : false = true := z
    cases z
  · have k : Vis scope y := k
    rcases k with k | k | k
    · have e : y = a := L.loc _ (PySem.mem_of_lookup k) rfl
      subst e
      have hj := (List.getElem?_eq_some_iff.mp p).1
      have ji : j = i := (List.getElem?_inj hj hN).mp (p.trans hi.symm)
      subst ji
      rw [List.getElem?_set_self (by rw [I.len]; exact hj)] at q
      cases q
      exact ⟨u, rv, .inl ⟨k, by simp⟩⟩
    · exact (L.cell _ (PySem.mem_of_lookup k) rfl).elim
    · have ji : i ≠ j := fun e => by
        subst e
        have p : X.N[i]? = some y := p
        rw [hi] at p
        cases p
        rw [L.par] at k
        cases k
      rw [List.getElem?_set_ne ji] at q
      obtain ⟨m, hn, look⟩ := I.loc
      have fr := L.free _ (PySem.mem_of_lookup k) rfl
      have vis : Vis X.env.scope y := fr.elim (fun z => .inr (.inl z)) fun z => .inr (.inr z)
      obtain ⟨x, r, z⟩ := look j y w p q vis
      obtain ⟨d, hd⟩ := low k
      refine ⟨x, r, .inr ⟨.inr k, d, hd, ?_⟩⟩
      rcases z with ⟨z, _⟩ | ⟨_, d', e', z⟩
      · have z : X.env.scope.names.lookup y = some .local := z
        rcases fr with e | e <;> (have e : X.env.scope.names.lookup y = _ := e; rw [z] at e; cases e)
      · rw [up hd] at e'
        cases e'
        exact ck (I.freeC y _ (up hd)) z
  · obtain ⟨x, z⟩ := I.cell y c (up e)
    exact ⟨x, ck (I.freeC y c (up e)) z⟩
  · obtain ⟨x, o, ho, hz⟩ := I.cell y c (up e)
    exact un.free c o ho (I.freeC y c (up e)) (by simp)
  · have hq : q ∈ ([] : List (Addr × Obj)) ++ [] := hq
    cases hq
end
end GV

namespace GV
open PySem PySem.Spec PyProof.Rows L2
/-- item i of ns has the lesser key -/
def keyB (key : Int → Int) (ns : List Int) (i j : Nat) : Bool := decide (key (ns.getD i 0) < key (ns.getD j 0))
def firstK (key : Int → Int) (ns : List Int) : Int := ns.getD (argBest (keyB key ns) (ns.length - 1)) 0
section
variable {X : Cx} {σ : L2.St} {H : Hp} {e : Expr}
def rMinKey (X : Cx) (T : List (Addr × Str)) (k i : Nat) (body : Expr) (scope : Scope) (σ : L2.St) (key : Int → Int) (v : V) (H1 : Hp) (Q : VK) : Prop :=
  ∃ l ns, v = .ref l ∧ SqL X.K H1 l (ns.map V.int) ∧ ns ≠ [] ∧ LamX.Tabs T H1 ∧ ∀ H2, LamX.ExtN H1 H2 → LamX.Tabs T H2 →
    (∀ z ∈ ns, ∀ A outer s H0 f c' H3, Room k (A.deeper (LamX.lamEnv X scope s.heap.objs.size f c')) → Evl.Ex H2 H3 → wE (LamX.lamCx X A outer s H0 C8.E0 scope f c') body (σ.set i (some (.int z))) H3 fun u H4 => u = .int (key z) ∧ Evl.Ex H3 H4) ∧
    ∀ H4, Evl.Ex H2 H4 → Q (.int (firstK key ns)) H4
theorem ce_minKey {T : List (Addr × Str)} {c P : Addr} {k i : Nat} {a : Str} {params : Arguments} {body : Expr} {scope : Scope} {p lpos kp pos : Pos} {Q : VK} (key : Int → Int)
    (hc : X.calm = true) (hN : X.N.Nodup) (hi : X.N[i]? = some a) (hg : Gl X "min") (hm : X.mg "min" = none) (hr : Room (k + 2) X.A)
    (TB : LamX.TabB X.base X.mg c P) (hcode : X.env.code = .ref c) (hmT : (P, X.env.qual ++ "<lambda>") ∈ T) (hu : ∀ p ∈ T, p.1 = P → p.2 = X.env.qual ++ "<lambda>")
    (L : Lam1S X.env.scope scope a) (hdef : defaultsOf params X.env = ([], [])) (hbind : ∀ (q : Str) (cl : List (Str × Addr)) (pm cv ctv v : Value), bindArgs (PySem.W.kla_fn "<lambda>" q params body scope cl pm cv ctv) ⟨[v], []⟩ = pure [(a, v)])
    (h : wE X e σ H fun v H1 => rMinKey X T k i body scope σ key v H1 Q)
    (h1 : starEach (e :: []) X.env = (false, eval e X.env) :: starEach [] X.env := by rfl) (he : backTo pos (starEach (e :: []) X.env) = (false, eval e X.env) :: backTo pos (starEach [] X.env) := by rfl) (hpl : (backTo pos (starEach (e :: []) X.env)).any (·.1) = false := by rfl)
    (hall : (backToKw pos (keywordEach [⟨some "key", .Lambda params body scope lpos, kp⟩] X.env)).all (·.1.isSome) = true := by rfl) (hnone : (backToKw pos (keywordEach [⟨some "key", .Lambda params body scope lpos, kp⟩] X.env)).any (·.1.isNone) = false := by rfl)
    (hks : (backToKw pos (keywordEach [⟨some "key", .Lambda params body scope lpos, kp⟩] X.env)).filterMap (·.1) = (["key"] : List Str) := by rfl) :
    wE X (.Call (.Name "min" p) [e] [⟨some "key", .Lambda params body scope lpos, kp⟩] pos) σ H Q := by
  refine ⟨fun σ' H' Q' => σ' = σ ∧ wE X e σ H' fun v H1 => rMinKey X T k i body scope σ key v H1 Q', ⟨fun pins s σ' H' Q' I hq => ?_⟩, rfl, h⟩
  obtain ⟨e1, hq⟩ := hq
  subst e1
  refine wpAny_Call_Name_kw (ld_blt I hg hm PyProof.Rows.boot_min ?_ (by decide) (by decide))
  refine PyProof.Rows.callWith_kw (thn ((pa_cons wE.pe pa_nil h1).run pos pins s σ' H' (fun vs H1 => ∃ v, vs = [v] ∧ rMinKey X T k i body scope σ' key v H1 Q') I (wE.weak hq fun v H1 z => ⟨v, rfl, z⟩)) fun us s1 ⟨vs, H1, I1, r1, v, ev, q1⟩ => ?_) he hpl hall hnone
  subst ev
  obtain ⟨l, ns, ev, hs, hne, hT, q1⟩ := q1
  subst ev
  rw [Vals.ref1 r1, hks]
  show wpAny _ _ (evalAll ((do let v ← eval (.Lambda params body scope lpos) X.env; standAt pos; pure v) :: (backToKw pos (keywordEach [] X.env)).map (·.2))) _ _ s1
  refine wpAny_evalAll_cons (wpAny_bind (LamX.lam_make2 I1 TB hcode hmT hu hT hdef (L.has I1.ok) fun f c' pm ctv H2 s2 I2 eN T2 hf hfn hfr hco => wpAny_bind (wpAny_standAt (wpAny_pure (wpAny_evalAll_nil ?_)))))
  show wpAny _ _ (call (.builtin "min") [.ref l] [(Str.ofString "key", .ref f)]) _ _ s2
  obtain ⟨hb, hQ⟩ := q1 H2 eN T2
  have hs2 : SqL X.K H2 l (ns.map V.int) := hs.imp (fun z => z.imp (fun z => eN _ _ z fun _ z => by cases z) fun ⟨o, z⟩ => ⟨o, eN _ _ z fun _ z => by cases z⟩) id
  obtain ⟨its, rvs, pl, _⟩ := I2.list hs2
  have hd := I2.ok.hd hc
  have lt : l < s2.heap.objs.size := let ⟨_, q, _⟩ := pl.isList; Heap.lt_size q
  have ltf := Heap.lt_size hf
  refine call_min_walkK (wpAny_pyIter_list pl.isList ?_)
  have szI : ∀ ob : Obj, (s2.heap.push ob).objs.size = s2.heap.objs.size + 1 := fun ob => Heap.size_push ..
  refine ⟨s2.heap.objs.size, [s2.heap.objs.size, l], [s2.heap.objs.size], fun a b => b = a, ns.length, IntP ns, ItS s2.heap.objs.size l ns,
    fun s => ∃ H', Evl.Ex H2 H' ∧ Inv X pins σ' H' s ∧ H' s2.heap.objs.size = none ∧ H' (s2.heap.objs.size + 1) = none ∧ s.heap.get? f = some (PySem.W.kla_obj "<lambda>" (X.env.qual ++ "<lambda>") params body scope (cloFrom X.env.cells scope.names []) pm c' ctv) ∧ H' f = none,
    fun j u _ => ∃ t, u = .int (key (ns.getD j 0)) t, keyB key ns, rfl, walk_ints (by exact hd) _ l (Nat.ne_of_lt lt) ns, ⟨⟨_, Heap.get?_push_size _ rfl, rfl, rfl⟩, its.toArray, pl.isList.push _, by simpa using rvs.ints⟩, ?_, List.length_pos_iff.mpr hne, ?_, ?_, ?_⟩
  · intro b hb
    rw [szI]
    rcases List.mem_cons.mp hb with e | hb
    · rw [e]
      exact Nat.lt_succ_self _
    · rw [List.mem_singleton.mp hb]
      exact Nat.lt_succ_of_lt lt
  · rw [szI]
    refine ⟨fun s s' ⟨H', x, J, n1, n2, hf', n3⟩ mv => ?_, fun _ _ _ _ z _ => z, fun j v s o Q E hj hP hJ hst hS kk => ?_, fun i j ki kj s Q E _ ⟨t, e1⟩ ⟨u, e2⟩ q => ?_⟩
    · obtain ⟨g, gn, dr, tk, os⟩ := s'
      obtain rfl : gn = s.gens := mv.gens
      obtain rfl : dr = s.drawn := mv.drawn
      obtain rfl : os = s.os := mv.os
      refine ⟨H', x, J.turnedL (ch := [s2.heap.objs.size + 1, s2.heap.objs.size]) (fun b o nb e => mv.heap b o nb e) (fun b hb => ?_), n1, n2, mv.heap _ _ ?_ hf', n3⟩
      · rcases List.mem_cons.mp hb with e | hb
        · rw [e]
          exact I2.fpOk (Nat.le_succ _) n2
        · rw [List.mem_singleton.mp hb]
          exact I2.fpOk (Nat.le_refl _) n1
      · simp only [List.mem_cons, List.not_mem_nil, or_false, not_or]
        exact ⟨Nat.ne_of_lt (Nat.lt_succ_of_lt ltf), Nat.ne_of_lt ltf⟩
    · obtain ⟨H', x, J, n1, n2, hf', hfn'⟩ := hJ
      obtain ⟨t, ev⟩ := hP
      obtain ⟨si, _⟩ := hst
      subst ev
      generalize hz : ns.getD j 0 = z at *
      have zm : z ∈ ns := by
        rw [← hz, List.getD_eq_getElem?_getD, List.getElem?_eq_getElem hj, Option.getD_some]
        exact List.getElem_mem _
      obtain ⟨⟨oc, vs, tt, hoc, hdc, hvc⟩, _, _⟩ := J.hok c' _ (x _ _ hco)
      have r1 : Room (k + 1) X.A.in1 := hr.in1
      have rc : codeAny (model X.prog X.w) X.A.in1 (.call (.ref f) ⟨[.int z t], []⟩) (L2.CR (L2.CX X.prog X.w) X.stack X.prog X.w H' s (fun u H4 => u = .int (key z) ∧ Evl.Ex H' H4) C8.E0) s := by
        refine PySem.W.kla_callFunE r1.depth hf' rfl L.co L.gen rfl ⟨c', oc, vs, tt, rfl, hoc, hdc, hvc⟩ ?_
        rw [hbind]
        refine wpAny_pure (wpAny_newFunctionEnv L.cell (fun y hy => by rw [List.mem_singleton.mp hy]; exact L.par) (fun g hns hsb => ⟨J.nolimit.fresh _ hsb, ?_⟩) L.kind)
        show codeAny _ _ (.expr body (LamX.lamEnv X scope s.heap.objs.size f c')) _ _
        have Jn : Inv (LamX.lamCx X X.A.in1 X.stack s H' C8.E0 scope f c') [] (σ'.set i (some (.int z))) H' { s with heap := g, toks := s.toks + ([(a, Value.int z t)] : List (Str × Value)).length } :=
          lam1_start J L hN hi ⟨t, rfl⟩ J.env0.in1 r1.hd Un.refl hns fun b o e => hsb.extBut b o (Nat.ne_of_lt (Heap.lt_size e)) (Heap.get?_push_of_some _ e)
        refine PySem.W.kla_codeExpr (wpAny_mono (wE.pe.run [] _ _ H' _ Jn (hb z zm _ _ _ _ f c' H' (r1.deeper _) x)) (fun v s' hq => ?_) fun e s' hq => hq)
        obtain ⟨w', H'', J', rv, q⟩ := hq
        exact ⟨w', H'', J'.os, J'.bare, J'.base, J'.hok, rv, q⟩
      refine wpAny_call (codeAny_mono rc fun r s' hr' => ?_)
      rcases r with er | fl
      · obtain ⟨_, _, _, _, _, _, _, _, _, _, _, _, z⟩ := hr'
        exact z.elim
      rcases fl with _ | _ | _ | u
      iterate 3 exact hr'.elim
      obtain ⟨v, H4, os, bare, un, hok, rv, ev, x4⟩ := hr'
      subst ev
      obtain ⟨t', eu⟩ := rv
      subst eu
      have J4 : Inv X pins σ' H4 s' := J.call' (ch := []) os un hok bare fun _ z => by cases z
      have hS' : s.heap.get? (s2.heap.objs.size + 1) = some o := hS
      obtain ⟨oi, ai, ri⟩ := si
      have nf : ∀ b, s2.heap.objs.size ≤ b → b ∉ frs X.stack := fun b hb z => by
        rcases List.mem_cons.mp (I2.stkSub _ z) with e | e
        · exact absurd (Nat.lt_of_le_of_lt hb (by rw [e]; exact I2.lt)) (Nat.lt_irrefl _)
        · exact I2.nofs hb e
      have ki := un.keep _ _ ai n1 (nf _ (Nat.le_refl _)) (by simp)
      have kS := un.keep _ _ hS' n2 (nf _ (Nat.le_succ _)) (by simp)
      have kf := un.keep _ _ hf' hfn' hfr (by simp)
      obtain ⟨its4, rv4, pl4, _⟩ := J4.list (show SqL X.K H4 l (ns.map V.int) from hs2.imp (fun z => z.imp (fun z => x4 _ _ (x _ _ z)) fun ⟨o, z⟩ => ⟨o, x4 _ _ (x _ _ z)⟩) id)
      refine kk _ _ ⟨H4, x.trans x4, J4, un.free _ _ ai n1 (by simp), un.free _ _ hS' n2 (by simp), kf, un.free _ _ hf' hfn' (by simp)⟩ ⟨⟨oi, ki, ri⟩, its4.toArray, pl4.isList, by simpa using rv4.ints⟩ kS ⟨t', rfl⟩ fun _ _ z => z
    · subst e1
      subst e2
      exact wpAny_lt_int q
  · exact ⟨H2, Evl.Ex.refl H2, I2.kept fun b o e => Heap.get?_push_of_some _ e, I2.hok.fresh (Nat.le_refl _), I2.hok.fresh (Nat.le_succ _), Heap.get?_push_of_some _ hf, hfn⟩
  · rintro v s' ⟨t, ev⟩ ⟨H', x, J, _, _, _, _⟩
    exact ⟨.int (firstK key ns), H', J, ⟨t, ev⟩, hQ H' x⟩
end
end GV

/-! isinstance of an exception that has attributes: the library's kitx_exc, carried to the suite of an except clause -/
namespace GV
open PySem PySem.Spec PyProof.Rows L2
theorem call_isEd {X : Cx} {a D dd : Addr} {oe : Obj} {fs : List (Str × V)} {pn : List (Addr × Obj)} (C : ExcC X.K D) (hz : Zc (.ref D) (some dd) oe) (hf : ∃ vs, oe.data = .fields vs) :
    CallR (X.suite a ((a, oe) :: pn)) (.builtin "isinstance") (fun xs H Q => H dd = some (.xd fs) ∧ rIsE X.K D a xs H Q) := by
  intro pins s σ H xs us Q J r h
  obtain ⟨hdd, c, cv, b, rfl, hcv, e, q⟩ := h
  obtain ⟨u1, u2, rfl, rx, rt⟩ : ∃ u1 u2, us = [u1, u2] ∧ L2.RelV (.ref a) u1 ∧ L2.RelV c u2 := by
    rcases r with _ | ⟨rx, _ | ⟨rt, _ | _⟩⟩
    exact ⟨_, _, rfl, rx, rt⟩
  cases rx
  have ec := hcv _ rt
  subst ec
  have ha := (J.pin (a, oe) (List.mem_append.mpr (.inl (List.mem_cons_self ..)))).1
  obtain ⟨mA, hns, _⟩ := (show ObjOk X.prog X.w H s.heap dd (.xd fs) from J.hok dd _ hdd)
  obtain ⟨od, ho, _⟩ := lookIn_ns hns
  obtain ⟨vs, hv⟩ := hf
  have no : PySem.W.notCls oe = true := by
    unfold PySem.W.notCls
    rw [hv] <;> rfl
  have at_ : PySem.W.InstAt s.heap a oe D (some od) := ⟨ha, hz.1, no, by rw [hz.2]; exact ho⟩
  have hcl : (PySem.W.clsIn X.K D).isSome = true := by
    obtain ⟨cd, hc, _⟩ := PySem.W.any_some C.hd
    rw [hc]
    rfl
  exact PySem.W.kia_one (PySem.W.kitx_exc hcl C.hg C.hk C.hs C.ha C.hn C.ht C.hm) J.kIn at_ e (fun z => nomatch z) fun tk => ⟨.bl b, H, J.kept (t' := tk) fun _ _ z => z, rfl, q⟩
end GV

namespace GV
open PySem PySem.Spec PyProof.Rows L2
section
variable {X : Cx} {M : Addr → Prop} {σ : St} {H H' : Hp} {a b c e : Expr} {da db d : PyData} {pos : Pos} {es : List Expr} {ds : List PyData}
/-! ### != of tuples that hold the same things -/
def rNeSame (K : PySem.W.Frag) : R2 := fun x y H Q => ∃ a b xs, x = .ref a ∧ y = .ref b ∧ SqT K H a xs ∧ SqT K H b xs ∧ (∀ v ∈ xs, sameB v = true) ∧ Q (.bl false) H
theorem op_neSame (hu : X.A.units < cLine) : OpR X (compareOp .NotEq) (rNeSame X.K) := by
  intro pins s σ H x y v u Q I rx ry h
  obtain ⟨a, b, xs, rfl, rfl, ha, hb, hs, q⟩ := h
  cases (show v = Value.ref a from rx)
  cases (show u = Value.ref b from ry)
  obtain ⟨us, r1, p1, _⟩ := I.tuple ha
  obtain ⟨ws, r2, p2, _⟩ := I.tuple hb
  have l1 := r1.length
  have l2 := r2.length
  refine SeqAt.RcNeAt.tuples (e := fun _ => true) p1 p2 hu (fun j h1 h2 => ?_) X.prog X.w X.xe _ ?_
  · have hj : j < xs.length := by
      rw [l1]
      simpa using h1
    have hx : xs[j]? = some xs[j] := List.getElem?_eq_getElem hj
    obtain ⟨v1, e1, rv1⟩ := r1.get hx
    obtain ⟨v2, e2, rv2⟩ := r2.get hx
    have f1 : us.toArray[j] = v1 := by
      have : us[j]? = some us[j] := List.getElem?_eq_getElem (by simpa using h1)
      rw [this] at e1
      simpa using e1
    have f2 : ws.toArray[j] = v2 := by
      have : ws[j]? = some ws[j] := List.getElem?_eq_getElem (by simpa using h2)
      rw [this] at e2
      simpa using e2
    rw [f1, f2]
    have hv := hs _ (List.getElem_mem hj)
    generalize xs[j] = z at rv1 rv2 hv
    cases z with
    | ref r =>
      cases (show v1 = Value.ref r from rv1)
      cases (show v2 = Value.ref r from rv2)
      exact SeqAt.EqAt.same _
    | _ => exact eqAt_same rv1 rv2 hv
  · refine ⟨.bl false, H, I, ?_, q⟩
    have e1 : us.toArray.size = ws.toArray.size := by
      rw [List.size_toArray, List.size_toArray, ← l1, ← l2]
    rw [e1, show ((List.range (min ws.toArray.size ws.toArray.size)).all fun _ => true) = true from List.all_eq_true.mpr fun _ _ => rfl]
    simp [L2.RelV]
theorem ct_neSame {Q : Bool → Hp → Prop} (hu : X.A.units + 64 < cLine) (h : wE X a σ H fun x H2 => wE X b σ H2 fun y H3 => rNeSame X.K x y H3 fun v H4 => v = .bl false ∧ Q false H4) : wT X (.Compare a [.NotEq] [b] pos) σ H Q :=
  ⟨_, pt_cmpR (op_neSame (by omega)) wE.pe wE.pe (nomark _), wE.weak h fun x H2 h2 => wE.weak h2 fun y H3 ⟨a, b, xs, e1, e2, s1, s2, hs, _, q⟩ => ⟨a, b, xs, e1, e2, s1, s2, hs, _, rfl, q⟩⟩
theorem ct_ne {Q : Bool → Hp → Prop} (hu : X.A.units + 64 < cLine) (h : wE X a σ H fun x H2 => wE X b σ H2 fun y H3 => ∃ da db, Dp X.K H3 x da ∧ Dp X.K H3 y db ∧ SeqAt.shaped da = true ∧ SeqAt.shaped db = true ∧ Q (!PyData.eqv da db) H3) : wT X (.Compare a [.NotEq] [b] pos) σ H Q :=
  ⟨_, pt_cmpR (op_neD hu) wE.pe wE.pe (nomark _), wE.weak h fun x H2 h2 => wE.weak h2 fun y H3 ⟨da, db, h1, h2, h3, h4, q⟩ => ⟨da, db, h1, h2, h3, h4, _, rfl, q⟩⟩
/-- e == ("..", name), where e gives just that -/
theorem ce_same2 {s : Str} {i n m : Nat} {cn : Str} {vb : V} {p1 p2 p3 : Pos} {Q : VK} (hu : X.A.units + 64 < cLine) (hs : sameB vb = true) (hi : X.N[i]? = some cn) (hv : Vis X.env.scope cn) (hσ : σ[i]? = some (some vb))
    (h : wE X a σ H fun x H2 => ∃ p, x = .ref p ∧ H2 p = some (.tup [.str s, vb]) ∧ ∀ H3, Evl.Ex H2 H3 → Q (.bl true) H3)
    (hd : (cn == ("__debug__" : Str)) = false := by decide) (hcd : (cn == ("__classdict__" : Str)) = false := by decide) (h1 : starEach (.Constant (.str s) n p1 :: [.Name cn p2]) X.env = (false, eval (.Constant (.str s) n p1) X.env) :: starEach [.Name cn p2] X.env := by rfl) (h2 : starEach (.Name cn p2 :: []) X.env = (false, eval (.Name cn p2) X.env) :: starEach [] X.env := by rfl) :
    wE X (.Compare a [.Eq] [.Tuple [.Constant (.str s) n p1, .Name cn p2] m p3] pos) σ H Q := by
  refine ce_eqSame hu (wE.weak h ?_)
  rintro x H2 ⟨p, rfl, hp, q⟩
  refine ce_tup (ca_cons (ce_str (ca_cons (ce_name hi hv hσ (ca_nil ⟨(by show 2 ≤ 1000; decide), fun t ht => ?_⟩) hd hcd) h2)) h1)
  refine ⟨p, t, _, rfl, rfl, .inl (.inl (Evl.Ex.new ht _ _ hp)), .inl (.inl upd_same), fun v hv => ?_, q _ (Evl.Ex.new ht)⟩
  simp only [List.mem_cons, List.not_mem_nil, or_false] at hv
  rcases hv with rfl | rfl
  · rfl
  · exact hs
theorem ct_same2 {s : Str} {i n m : Nat} {cn : Str} {vb : V} {p1 p2 p3 : Pos} {Q : Bool → Hp → Prop} (hu : X.A.units + 64 < cLine) (hs : sameB vb = true) (hi : X.N[i]? = some cn) (hv : Vis X.env.scope cn) (hσ : σ[i]? = some (some vb))
    (h : wE X a σ H fun x H2 => ∃ p, x = .ref p ∧ H2 p = some (.tup [.str s, vb]) ∧ ∀ H3, Evl.Ex H2 H3 → Q false H3)
    (hd : (cn == ("__debug__" : Str)) = false := by decide) (hcd : (cn == ("__classdict__" : Str)) = false := by decide) (h1 : starEach (.Constant (.str s) n p1 :: [.Name cn p2]) X.env = (false, eval (.Constant (.str s) n p1) X.env) :: starEach [.Name cn p2] X.env := by rfl) (h2 : starEach (.Name cn p2 :: []) X.env = (false, eval (.Name cn p2) X.env) :: starEach [] X.env := by rfl) :
    wT X (.Compare a [.NotEq] [.Tuple [.Constant (.str s) n p1, .Name cn p2] m p3] pos) σ H Q := by
  refine ct_neSame hu (wE.weak h ?_)
  rintro x H2 ⟨p, rfl, hp, q⟩
  refine ce_tup (ca_cons (ce_str (ca_cons (ce_name hi hv hσ (ca_nil ⟨(by show 2 ≤ 1000; decide), fun t ht => ?_⟩) hd hcd) h2)) h1)
  refine ⟨p, t, _, rfl, rfl, .inl (.inl (Evl.Ex.new ht _ _ hp)), .inl (.inl upd_same), fun v hv => ?_, rfl, q _ (Evl.Ex.new ht)⟩
  simp only [List.mem_cons, List.not_mem_nil, or_false] at hv
  rcases hv with rfl | rfl
  · rfl
  · exact hs
end
end GV

namespace GV
open PySem PySem.Spec PyProof.Rows L2
section
variable {X : Cx} {σ : St} {H : Hp} {e elt : Expr} {pos : Pos}
theorem s_setLcR {iy : Nat} {yn : Str} {py spos : Pos} {D0 : Ends} {slot : Nat} {x : Str} {p p1 p2 : Pos} {scope : Scope} {own : List (Str × Nat)} (hc : X.calm = true) (hN : X.N.Nodup) (hg : Gl X "range") (hm : X.mg "range" = none) (ok : BlkOk X.N X.env.scope scope own)
    (hx : ∀ s H C cl fp, PG (Cx.lc X s H scope C cl fp) (.Name x p2) (gName slot)) (hw : ∀ v, wipe ((wipe σ (own.map (·.2))).set slot (some v)) (own.map (·.2)) = wipe σ (own.map (·.2)))
    (h : wE X e σ H fun v H1 => ∃ n : Nat, v = .int (n : Nat) ∧ n ≤ 1000000 ∧ ∀ D, H1 D = none → ∃ J : Nat → Hp → Prop, J 0 (upd H1 D (.lst [])) ∧
      (∀ i H', i < n → J i H' → ∀ s0 H0 C cl fp, wE (Cx.lc X s0 H0 scope C cl fp) elt ((wipe σ (own.map (·.2))).set slot (some (.int (i : Nat)))) H' fun y H4 => ∃ acc, H4 D = some (.lst acc) ∧ acc.length < 100000 ∧ J (i + 1) (upd H4 D (.lst (acc ++ [y])))) ∧ ∀ H', J n H' → D0.nx (σ.set iy (some (.ref D))) H')
    (hy : X.N[iy]? = some yn) (hyl : X.env.scope.names.lookup yn = some .local) (hsw : swapsWith (.ListComp elt [⟨.Name x p2, .Call (.Name "range" p) [e] [] p1, [], 0⟩] scope pos) (some (.Name yn py)) spos.line X.env = pure true) (hs : starEach [e] X.env = [(false, eval e X.env)] := by rfl) (hs' : starEach (e :: []) X.env = (false, eval e X.env) :: starEach [] X.env := by rfl)
    (hf : ∀ x, foldedSetIterable (.Call (.Name "range" p) [e] [] p1) X.env x = pure x := by intro _; rfl) : wS X (.Assign [.Name yn py] (.ListComp elt [⟨.Name x p2, .Call (.Name "range" p) [e] [] p1, [], 0⟩] scope pos) spos) D0 σ H := by
  refine ⟨_, ps_setLc (tt := fun σ H Q => Q true H) (te := fun σ H Q => ∀ s0 H0 C cl fp, wE (Cx.lc X s0 H0 scope C cl fp) elt σ H Q) hc hN hy hyl hsw (pi_range1 hg hm wA.pa hs) ok hx (fun _ _ _ _ _ => ⟨fun pins s σ H Q I h => pts_nil.run pins s σ H Q I h⟩)
    (fun s0 H0 C cl fp => ⟨fun pins s σ H Q I h => wE.pe.run pins s σ H Q I (h s0 H0 C cl fp)⟩) hf, ca_cons (wE.weak h ?_) hs'⟩
  rintro v H1 ⟨n, rfl, hn, run⟩
  refine ca_nil ⟨(n : Nat), rfl, by omega, by omega, ?_⟩
  rw [show ((n : Nat) : Int).toNat = n by omega]
  intro D hD
  obtain ⟨J, h0, ht, hd⟩ := run D hD
  refine ⟨fun i m H' => m = n - i ∧ i ≤ n ∧ J i H', ⟨n, rfl, Nat.zero_le _, h0⟩, ?_⟩
  rintro i m H' ⟨rfl, hi', j⟩
  have wk := wk_range (K := X.K) (M := M0) (H := H') 0 n
  have ln : ((List.range n).map fun i => PyData.int (0 + (i : Nat))).length = n := by simp
  by_cases hlt : i < n
  · refine .inr ⟨wk.go M0 i H' (fun _ z => z.elim) (ExM.refl _) (by rw [ln]; exact hlt), J (i + 1), fun H2 j2 => ⟨n - (i + 1), by omega, rfl, hlt, j2⟩, fun x H2 y => ?_⟩
    obtain ⟨rfl, rfl⟩ := y
    rw [Int.zero_add]
    refine ⟨hw _, ?_⟩
    show if true = true then _ else _
    rw [if_pos rfl]
    intro s0 H0 C cl fp
    refine wE.weak (ht i _ hlt j s0 H0 C cl fp) ?_
    rintro y H4 ⟨acc, h1, h2, h3⟩
    exact ⟨acc, h1, Nat.lt_of_lt_of_le h2 (by rw [sizeLine_eq]; decide), h3⟩
  · have e2 : i = n := by omega
    subst e2
    have := wk.stop M0 H' (fun _ z => z.elim) (ExM.refl _)
    rw [ln] at this
    exact .inl ⟨this, hd H' j⟩
end
end GV

namespace GV
open PySem PySem.Spec PyProof.Rows L2
/-! ### the first of the least keys -/
theorem argB_spec (key : Int → Int) (ns : List Int) : ∀ j, argBest (keyB key ns) j ≤ j ∧ (∀ i, i ≤ j → key (ns.getD (argBest (keyB key ns) j) 0) ≤ key (ns.getD i 0)) ∧ ∀ i, i < argBest (keyB key ns) j → key (ns.getD (argBest (keyB key ns) j) 0) < key (ns.getD i 0)
  | 0 => ⟨Nat.le_refl _, fun i h => by
      rw [Nat.le_zero.mp h]
      exact Int.le_refl _, fun i h => absurd h (Nat.not_lt_zero _)⟩
  | j + 1 => by
    obtain ⟨h1, h2, h3⟩ := argB_spec key ns j
    generalize hb : argBest (keyB key ns) j = b at h1 h2 h3
    have e : argBest (keyB key ns) (j + 1) = if keyB key ns (j + 1) b = true then j + 1 else b := by rw [← hb]; rfl
    by_cases hk : keyB key ns (j + 1) b = true
    · rw [e, if_pos hk]
      have hk := of_decide_eq_true hk
      refine ⟨Nat.le_refl _, fun i hi => ?_, fun i hi => ?_⟩
      · rcases Nat.lt_or_ge i (j + 1) with z | z
        · have := h2 i (by omega)
          omega
        · rw [show i = j + 1 by omega]
          exact Int.le_refl _
      · have := h2 i (by omega)
        omega
    · rw [e, if_neg hk]
      have hk := of_decide_eq_false (Bool.not_eq_true _ ▸ hk)
      refine ⟨by omega, fun i hi => ?_, h3⟩
      rcases Nat.lt_or_ge i (j + 1) with z | z
      · exact h2 i (by omega)
      · rw [show i = j + 1 by omega]
        omega
/-- of an ascending list: the one with the least key, and of these the least -/
theorem firstK_eq {key : Int → Int} {ns : List Int} {m : Int} (up : ns.Pairwise (· < ·)) (hm : m ∈ ns) (h : ∀ y ∈ ns, key m < key y ∨ (key m = key y ∧ m ≤ y)) : firstK key ns = m := by
  obtain ⟨i, hi⟩ := List.mem_iff_getElem?.mp hm
  have hil := (List.getElem?_eq_some_iff.mp hi).1
  obtain ⟨h1, h2, h3⟩ := argB_spec key ns (ns.length - 1)
  unfold firstK
  generalize argBest (keyB key ns) (ns.length - 1) = b at h1 h2 h3 ⊢
  have hbl : b < ns.length := by omega
  have eb : ns.getD b 0 = ns[b] := by rw [List.getD_eq_getElem?_getD, List.getElem?_eq_getElem hbl]; rfl
  have ei : ns.getD i 0 = m := by rw [List.getD_eq_getElem?_getD, hi]; rfl
  have hb := h (ns.getD b 0) (by rw [eb]; exact List.getElem_mem _)
  have k2 := h2 i (by omega)
  rw [ei] at k2
  rcases hb with hb | ⟨hb, hle⟩
  · omega
  · rcases Nat.lt_trichotomy i b with z | z | z
    · have := h3 i z
      rw [ei] at this
      omega
    · rw [← z, ei]
    · have := List.pairwise_iff_getElem.mp up b i hbl hil z
      rw [(List.getElem?_eq_some_iff.mp hi).2, ← eb] at this
      omega
/-! ### texts -/
theorem RpAll.of_strs {K : PySem.W.Frag} {M : Addr → Prop} {H : Hp} : ∀ {vs : List V} {ns : List Str}, RpAll K M H vs (ns.map PyData.str) → vs = ns.map V.str
  | [], [], .nil => rfl
  | _ :: _, n :: r, .cons h hs => by
    cases h
    rw [RpAll.of_strs hs]
    rfl
theorem eqv_str (a b : Str) : PyData.eqv (.str a) (.str b) = decide (a = b) := by
  rw [Bool.eq_iff_iff, decide_eq_true_eq]
  simp [PyData.eqv]
theorem inV_strs (x : Str) (ns : List Str) : inV (.str x) (ns.map V.str) = decide (x ∈ ns) := by
  unfold inV
  rw [List.any_map, Bool.eq_iff_iff, decide_eq_true_eq, List.any_eq_true]
  constructor
  · rintro ⟨y, hy, e⟩
    have e : (y == x) = true := e
    rw [← beq_iff_eq.mp e]
    exact hy
  · intro h
    exact ⟨x, h, (by show (x == x) = true; simp)⟩
section
variable {X : Cx} {M : Addr → Prop} {σ : St} {H H' : Hp} {a b c e o : Expr} {da db d : PyData} {pos : Pos}
theorem td_inS {x : Str} {ns : List Str} (ha : PD X M a σ H (.str x)) (hb : PD X M b σ H (.list (ns.map PyData.str))) (hk : behindInMarks .In b = false := by rfl) : TD X M (.Compare a [.In] [b] pos) σ H (decide (x ∈ ns)) :=
  td_cmpR op_in_seq hk (fun u v H1 ru rv _ Q q => by
    cases ru
    cases rv with
    | lst m hs rs =>
      have all : (ns.map V.str).all flatV = true := by
        rw [List.all_map, List.all_eq_true]
        exact fun _ _ => rfl
      rw [rs.of_strs] at hs
      refine ⟨_, _, rfl, .inl (.inl hs), rfl, all, ?_⟩
      show Q (.bl (inV (.str x) (ns.map V.str))) H1
      rw [inV_strs]
      exact q _ H1 (Evl.Ex.refl H1) (.bl _)) ha hb
theorem pd_addS {x y : Str} (ha : PD X M a σ H (.str x)) (hb : PD X M b σ H (.str y)) (hl : x.length + y.length ≤ 100000) : PD X M (.BinOp a .Add b pos) σ H (.str (x ++ y)) :=
  pd_binR op_add_str (fun u v H1 ru rv _ Q q => by
    cases ru
    cases rv
    exact ⟨x, y, rfl, rfl, Evl.sz_of hl, q _ H1 (Evl.Ex.refl H1) (.str _)⟩) ha hb
theorem pd_shr {i : Int} {k : Nat} (ha : PD X M a σ H (.int i)) (hb : PD X M b σ H (.int (k : Nat))) : PD X M (.BinOp a .RShift b pos) σ H (.int (i / 2 ^ k)) :=
  PD.is (pd_binR op_shr (rd_I (C := fun _ j => (0 : Int) ≤ j) (i := i) (j := (k : Nat)) (by omega)) ha hb) (by rw [Int.toNat_natCast])
theorem pd_join {apos : Pos} {z : Str} {ys : List Str} (ho : PD X M o σ H (.str z)) (he : PD X M e σ H (.list (ys.map PyData.str))) (hl : (ys.map (·.length)).sum + ys.length * z.length ≤ 16777216)
    (hs : starEach [e] X.env = [(false, eval e X.env)] := by rfl) (hbase : attributeBase o "join" X.env (eval o X.env) = eval o X.env := by rfl) (hline : (apos.endLine == pos.line) = true := by rfl) :
    PD X M (.Call (.Attribute o "join" apos) [e] [] pos) σ H (.str (Txt.join z ys)) := .mk fun H1 e1 al Q q =>
  ⟨_, pe_join wE.pe wE.pe hs hbase hline, ho.run H1 e1 al _ fun u H2 x2 ru => by
    cases ru
    refine ⟨⟨_, rfl⟩, he.run H2 (e1.trans (.of x2)) (al.mono x2) _ fun v H3 x3 rv => ?_⟩
    cases rv with
    | lst m hr rs =>
      rw [rs.of_strs] at hr
      exact ⟨z, _, ys, rfl, rfl, .inl (.inl hr), hl, q _ H3 (x2.trans x3) (.str _)⟩⟩
end
end GV

namespace IK
open PySem PySem.Spec PyProof.Rows L2 GV
/-! ### the texts of the houses -/
def sideT : Nat → Str
  | 0 => ""
  | 1 => "l"
  | 2 => "b"
  | 3 => "lb"
  | 4 => "h"
  | 5 => "lh"
  | 6 => "bh"
  | _ => "lbh"
def txN (n : Nat) : Str := sideT (n % 8) ++ "-" ++ sideT (n / 8)
def ordK : List Str := ["l-", "b-", "h-", "-l", "-b", "-h"]
def bitN (n k : Nat) : Bool := decide ((n : Int) / 2 ^ k % 2 = 1)
def kindsL (n : Nat) : List Str := ((List.range 6).filter (bitN n)).map fun i => ordK.getD i ""
theorem all63 {p : Nat → Prop} [DecidablePred p] (h : (List.range 64).all (fun n => decide (p n)) = true) {n : Nat} (hn : n < 64) : p n := of_decide_eq_true (List.all_eq_true.mp h n (List.mem_range.mpr hn))
theorem part_tx {n : Nat} (hn : n < 64) : Txt.partition (txN n) (Str.ofString "-") = (sideT (n % 8), Str.ofString "-", sideT (n / 8)) :=
  all63 (p := fun n => Txt.partition (txN n) (Str.ofString "-") = (sideT (n % 8), Str.ofString "-", sideT (n / 8))) (by decide +kernel) hn
theorem len_tx {n : Nat} (hn : n < 64) : (txN n).length ≤ 7 := all63 (p := fun n => (txN n).length ≤ 7) (by decide +kernel) hn
theorem side_len {i : Nat} (hi : i < 64) : (sideT i).length ≤ 3 := all63 (p := fun n => (sideT n).length ≤ 3) (by decide +kernel) hi
structure Sides (K : PySem.W.Frag) (mg : Str → Option Value) (w : World) : Prop where
  ex : ∃ d es n, mg "_SIDES" = some (.ref d) ∧ KDict K w d es n ∧ ∀ i, i < 8 → ∃ t, PySem.W.nsIn K d (sideT i) = some (some (.int i t))
section
variable {X : Cx} {M : Addr → Prop} {σ : St} {H : Hp} {a : Expr}
theorem td_ninS {i : Nat} {p pos : Pos} (hi : i < 8) (S : Sides X.K X.mg X.w) (hg : Gl X "_SIDES") (ha : PD X M a σ H (.str (sideT i))) : TD X M (.Compare a [.NotIn] [.Name "_SIDES" p] pos) σ H false := by
  obtain ⟨d, es, n, hm, D, ns⟩ := S.ex
  obtain ⟨t, n1⟩ := ns i hi
  refine .mk fun H1 e1 al Q q => ⟨_, pt_cmpR (op_notIn_kd D) wE.pe (pe_glob hg hm (v := .ref d) rfl (by decide)) rfl, ha.run H1 e1 al _ fun v H2 x2 r => ?_⟩
  cases r
  exact ⟨_, _, rfl, rfl, n1, _, rfl, q H2 x2⟩
theorem pd_ixS {i : Nat} {p pos : Pos} (hi : i < 8) (S : Sides X.K X.mg X.w) (hg : Gl X "_SIDES") (ha : PD X M a σ H (.str (sideT i))) (hs : PlainIx a := by exact fun _ _ => rfl) : PD X M (.Subscript (.Name "_SIDES" p) a pos) σ H (.int (i : Nat)) := by
  obtain ⟨d, es, n, hm, D, ns⟩ := S.ex
  obtain ⟨t, n1⟩ := ns i hi
  refine .mk fun H1 e1 al Q q => ⟨_, pe_ix ix_kdict (pe_glob hg hm (v := .ref d) rfl (by decide)) wE.pe hs, ha.run H1 e1 al _ fun v H2 x2 r => ?_⟩
  cases r
  exact ⟨d, _, .int (i : Nat), rfl, rfl, ⟨es, n, _, D.at_, D.lit, n1, ⟨t, rfl⟩⟩, q _ H2 x2 (.int _)⟩
theorem cs_unp3 {e : Expr} {pos px py pz pt : Pos} {i j l kt : Nat} {x y z : Str} {D : Ends} {u v w : Str} (hx : PG X (.Name x px) (gName i)) (hy : PG X (.Name y py) (gName j)) (hz : PG X (.Name z pz) (gName l))
    (h : wE X e σ H fun r H2 => ∃ p, r = .ref p ∧ H2 p = some (.tup [.str u, .str v, .str w]) ∧ D.nx (((σ.set i (some (.str u))).set j (some (.str v))).set l (some (.str w))) H2)
    (ht : PG X (.Tuple [.Name x px, .Name y py, .Name z pz] kt pt) (gTup X.K 3 (gCons (gName i) (gCons (gName j) (gCons (gName l) gNil))))) (hs : swapsWithSole [.Tuple [.Name x px, .Name y py, .Name z pz] kt pt] e pos.line X.env = pure false := by rfl) (hw : swappedStores [.Tuple [.Name x px, .Name y py, .Name z pz] kt pt] e X.env = pure none := by rfl)
    (h1 : (assignEach [.Tuple [.Name x px, .Name y py, .Name z pz] kt pt] X.env).map (·.2) = [assign (.Tuple [.Name x px, .Name y py, .Name z pz] kt pt) X.env] := by rfl) : wS X (.Assign [.Tuple [.Name x px, .Name y py, .Name z pz] kt pt] e pos) D σ H :=
  ⟨_, ps_asg wE.pe ht hs hw h1, wE.weak h fun r H2 ⟨p, e, hp, q⟩ => ⟨p, _, e, .inl (.inl hp), rfl, _, _, rfl, _, _, rfl, _, _, rfl, rfl, q⟩⟩
end
section
variable {P : Program} {w : World} {K : PySem.W.Frag} {mg : Str → Option Value} {base : Heap}
theorem eqv_int (i j : Int) : PyData.eqv (.int i) (.int j) = decide (i = j) := by
  rw [Bool.eq_iff_iff, decide_eq_true_eq]
  simp [PyData.eqv]
def R_not (ds : List PyData) (d : PyData) : Prop := ∃ n : Nat, n < 64 ∧ ds = [.str (txN n)] ∧ d = .int (n : Nat)
theorem cl_number_of_text {f : Addr} {fd : FuncData} (F : At K mg "number_of_text" s_number_of_text f fd) (nb : NoB mg) (S : Sides K mg w) : Cl P w K mg base CX0 1 "number_of_text" (PureR K R_not) := by
  refine cl_pure F sc_number_of_text (F.fn.binds fun _ _ _ _ _ _ us hl => match us, hl with | [_], _ => rfl) (fun ds d h => ?_) (fun X cdv A outer s H Q E M vs ds d hX hr al r h q => ?_)
  · obtain ⟨n, _, rfl, _⟩ := h
    rfl
  · obtain ⟨n, hn, rfl, rfl⟩ := h
    obtain ⟨v, rfl, r1⟩ := rpa1 r
    cases r1
    subst hX
    have h1 : n % 8 < 8 := Nat.mod_lt _ (by decide)
    have h2 : n / 8 < 8 := by omega
    refine b_cons (s_if (k := false) al (td_not (k := true) (td_val (pd_isi rfl nb.isinstance rfl nb.str PyProof.Rows.boot_str (nm 0 (.str (txN n))) (by decide +kernel : kitB "str" "str" = some true)))) (fun k => by cases k) (fun _ H2 x2 => ?_))
    refine b_nil (b_cons (cs_unp3 (i := 1) (j := 2) (l := 3) (u := sideT (n % 8)) (v := "-") (w := sideT (n / 8)) (pg_name (i := 1) sc_number_of_text.nd rfl (.inl rfl)) (pg_name (i := 2) sc_number_of_text.nd rfl (.inl rfl)) (pg_name (i := 3) sc_number_of_text.nd rfl (.inl rfl)) ⟨_, pe_partition wE.pe wE.pe, ce_nm 0 ⟨⟨txN n, rfl⟩, ce_str ⟨txN n, "-", rfl, rfl, by decide +kernel, Evl.sz_of (Nat.le_trans (len_tx hn) (by decide)), fun p hp => ⟨p, rfl, (by rw [part_tx hn]; exact upd_same), ?_⟩⟩⟩⟩ (pg_tup rfl (pgs_cons (pg_name (i := 1) sc_number_of_text.nd rfl (.inl rfl)) (pgs_cons (pg_name (i := 2) sc_number_of_text.nd rfl (.inl rfl)) (pgs_cons (pg_name (i := 3) sc_number_of_text.nd rfl (.inl rfl)) pgs_nil))))))
    refine b_cons (s_if (k := false) (al.mono (x2.trans (Evl.Ex.new hp))) (WD.td (wd_or (k1 := false) (k2 := false) (TD.is (td_eq hr.units (nm 2 (.str "-")) pd_str (by decide +kernel) (by decide +kernel)) (by decide +kernel)) fun _ => wd_or (k1 := false) (k2 := false) (td_ninS h1 S rfl (nm 1 (.str _))) fun _ => wd_or1 (td_ninS h2 S rfl (nm 3 (.str _))))) (fun k => by cases k) (fun _ H4 x4 => ?_))
    exact b_nil (b_cons (s_ret ((al.mono (x2.trans (Evl.Ex.new hp))).mono x4) (PD.is (pd_add (pd_ixS h1 S rfl (nm 1 (.str _))) (pd_mul pd_int (pd_ixS h2 S rfl (nm 3 (.str _))) (.inl (by decide)))) (congrArg PyData.int (by omega))) fun v H5 x5 rv => q v H5 (((x2.trans (Evl.Ex.new hp)).trans x4).trans x5) rv))
structure HouC (K : PySem.W.Frag) (CH : Addr) : Prop where
  ins : C8.InsC K CH
  nT : NoAttr K CH "text"
  nN : NoAttr K CH "number"
def HAt (CH : Addr) (n : Nat) (H : Hp) (h : Addr) : Prop := ∃ dx, H h = some (.ins CH dx [("text", .str (txN n)), ("number", .int (n : Nat))])
theorem HAt.ex {CH h : Addr} {n : Nat} {H H' : Hp} (a : HAt CH n H h) (x : ∀ o, H h = some o → H' h = some o) : HAt CH n H' h := let ⟨dx, e⟩ := a; ⟨dx, x _ e⟩
theorem HAt.exM {CH h : Addr} {n : Nat} {M : Addr → Prop} {H H' : Hp} (a : HAt CH n H h) (x : ExM M H H') (m : ¬ M h) : HAt CH n H' h := let ⟨dx, e⟩ := a; ⟨dx, x _ _ e m fun _ z => by cases z⟩
def spHInit (CH : Addr) : Sp := fun vs H Q _ => ∃ (b dx : Addr) (n : Nat), vs = [.ref b, .str (txN n)] ∧ 1 ≤ n ∧ n < 64 ∧ H b = some (.ins CH dx []) ∧ ∀ H', (∀ a o, H a = some o → a ≠ b → H' a = some o) → HAt CH n H' b → Q .non H'
theorem ok_hinit {f CH : Addr} {fd : FuncData} (F : Fun K "__init__" "House.__init__" s_House_init f fd) (B : HouC K CH) (c1 : Cl P w K mg base CX0 1 "number_of_text" (PureR K R_not)) : FnOk P w K mg base CX0 2 f fd ["self", "text"] (spHInit CH) := by
  refine F.ok sc_House_init (fun vs H Q E h => ?_) (fun cdv A outer sh H vs Q E hr h => ⟨_, wB.ps, ?_⟩)
  · obtain ⟨b, dx, n, rfl, _⟩ := h
    rfl
  · obtain ⟨b, dx, n, rfl, hn0, hn, hb, q⟩ := h
    refine b_cons (s_set (M := M0) (i := 2) (d := .int (n : Nat)) alive0 sc_House_init.nd rfl (.inl rfl) (pd_callC c1 hr (by decide) rfl (ad_cons (nm 1 (.str (txN n))) ad_nil) ⟨n, hn, rfl, rfl⟩) fun v H2 x2 r2 => ?_)
    cases r2
    refine b_cons (s_if (M := M0) (k := false) alive0 (TD.is (td_eq hr.units (nm 2 (.int (n : Nat))) pd_int rfl rfl) (by rw [eqv_int]; exact decide_eq_false (by omega))) (fun k => by cases k) (fun _ H3 x3 => ?_))
    refine b_nil (b_cons (cs_fld (ce_nm 1 (ce_nm 0 ⟨b, CH, dx, [], rfl, x3 _ _ (x2 _ _ hb), B.ins.cl, B.nT, (by show 0 < 1000; decide), ?_⟩))))
    refine b_cons (cs_fld (ce_nm 2 (ce_nm 0 ⟨b, CH, dx, _, rfl, upd_same, B.ins.cl, B.nN, (by show 1 < 1000; decide), b_nil (q _ (fun a o ha na => ?_) ⟨dx, ?_⟩)⟩)))
    · rw [upd_ne na, upd_ne na]
      exact x3 _ _ (x2 _ _ ha)
    · rw [upd_same]
      rfl
def spBit (CH : Addr) : Sp := fun vs H Q _ => ∃ (h : Addr) (n k : Nat), vs = [.ref h, .int (k : Nat)] ∧ HAt CH n H h ∧ ∀ H', Evl.Ex H H' → Q (.bl (bitN n k)) H'
theorem ok_bit {f CH : Addr} {fd : FuncData} (F : Fun K "names_index" "House.names_index" s_House_names_index f fd) (B : HouC K CH) : FnOk P w K mg base CX0 1 f fd ["self", "index"] (spBit CH) := by
  refine F.ok sc_House_names_index (fun vs H Q E h => ?_) (fun cdv A outer sh H vs Q E hr h => ⟨_, wB.ps, ?_⟩)
  · obtain ⟨b, n, k, rfl, _⟩ := h
    rfl
  · obtain ⟨b, n, k, rfl, ⟨dx, hb⟩, q⟩ := h
    refine b_cons (s_ret (M := M0) (d := .bool (bitN n k)) alive0 (PD.is (pd_eq hr.units (pd_binR (d := .int ((n : Int) / 2 ^ k % 2 ^ 1)) op_andM (fun x y H1 rx ry _ Q q => ?_) (pd_shr (pd_fld (AtN.name (i := 0) rfl (.inl rfl) rfl) (fun z => z) hb B.ins.cl B.nN rfl (.int (n : Nat))) (nm 1 (.int (k : Nat)))) (pd_int (i := 1))) pd_int rfl rfl) ?_) fun v H2 x2 r2 => ?_)
    · cases rx
      cases ry
      exact ⟨_, 1, rfl, rfl, q _ H1 (Evl.Ex.refl H1) (.int _)⟩
    · show PyData.bool (PyData.eqv _ _) = PyData.bool (bitN n k)
      rw [eqv_int]
      rfl
    · cases r2
      exact q H2 x2
end
end IK

namespace IK
open PySem PySem.Spec PyProof.Rows L2 GV
theorem getD_of {ns : List Int} {i : Nat} {z : Int} (h : ns[i]? = some z) : ns.getD i 0 = z := by
  rw [List.getD_eq_getElem?_getD, h]
  rfl
theorem cut_pair {ns : List Int} {p : Nat} {x y : Int} (hx : ns[p]? = some x) (hy : ns[p + 1]? = some y) : cutD (ns.map PyData.int) (some (p : Int)) (some ((p : Int) + 2)) = [.int x, .int y] := by
  have hp := (List.getElem?_eq_some_iff.mp hy).1
  obtain ⟨hx', ex⟩ := List.getElem?_eq_some_iff.mp hx
  obtain ⟨_, ey⟩ := List.getElem?_eq_some_iff.mp hy
  unfold GV.cutD
  rw [show (p : Int) + 2 = ((p + 2 : Nat) : Int) by omega, HT.sIx_nat, HT.sIx_nat, List.length_map, Nat.min_eq_left (by omega : p ≤ ns.length), Nat.min_eq_left (by omega : p + 2 ≤ ns.length), show p + 2 - p = 2 by omega, ← List.map_drop, ← List.map_take, List.drop_eq_getElem_cons hx', List.drop_eq_getElem_cons hp]
  simp [ex, ey]
def letZ (lo hi z : Int) : Int := if z < lo then 0 else if z < hi then 1 else 2
abbrev ikD (i : Nat) (k : Int) : PyData := .tuple [.int (i : Nat), .int k]
def lo2 (ns : List Int) (p : Nat) : Int := min (ns.getD p 0) (ns.getD (p + 1) 0)
def hi2 (ns : List Int) (p : Nat) : Int := max (ns.getD p 0) (ns.getD (p + 1) 0)
def letL (ns : List Int) (p : Nat) : List Int := ns.map (letZ (lo2 ns p) (hi2 ns p))
def befL (ns : List Int) (p : Nat) : List PyData := (List.range p).map fun i => ikD i ((letL ns p).getD i 0)
def behL (ns : List Int) (p : Nat) : List PyData := (List.range (ns.length - (p + 2))).map fun j => ikD (p + 2 + j) ((letL ns p).getD (p + 2 + j) 0 + 3)
theorem letL_len (ns : List Int) (p : Nat) : (letL ns p).length = ns.length := by
  unfold letL
  rw [List.length_map]
def lD (lo hi : Int) : PyData → PyData
  | .int z => .int (letZ lo hi z)
  | d => d
def beD (l : List Int) : PyData → PyData
  | .int i => ikD i.toNat (l.getD i.toNat 0)
  | d => d
def bhD (l : List Int) : PyData → PyData
  | .int i => ikD i.toNat (l.getD i.toNat 0 + 3)
  | d => d
section
variable {P : Program} {w : World} {K : PySem.W.Frag} {mg : Str → Option Value} {base : Heap}
def R_third (ds es : List PyData) : Prop := ∃ (tp : Bool) (ns : List Int) (p : Nat), p + 1 < ns.length ∧ ns.length ≤ 900 ∧ ds = [sqD tp (ns.map PyData.int), .int (p : Nat)] ∧ es = befL ns p ++ behL ns p
theorem cl_third_kinds {f : Addr} {fd : FuncData} (F : At K mg "_third_kinds" s_third_kinds f fd) (nb : NoB mg) : Cl P w K mg base CX0 1 "_third_kinds" (FreshR K R_third) := by
  refine ⟨f, fd, _, F.fn.ok sc_third_kinds (fun vs H Q E h => ?_) (fun cdv A outer sh H vs Q E hr h => ⟨_, wB.ps, ?_⟩), F.gl, F.fn.kp, F.fn.binds fun _ _ _ _ _ _ us hl => match us, hl with | [_, _], _ => rfl⟩
  · obtain ⟨M, ds, es, al, r, ⟨_, _, _, _, _, rfl, _⟩, _⟩ := h
    rw [r.length]
    rfl
  · obtain ⟨M, ds, es, al, r, ⟨tp, ns, p, hp, hl, rfl, rfl⟩, q⟩ := h
    obtain ⟨u, v, rfl, r1, r2⟩ := rpa2 r
    obtain ⟨x, hx⟩ := get_i (ns := ns) (i := p) (by omega)
    obtain ⟨y, hy⟩ := get_i (ns := ns) (i := p + 1) hp
    have elo : lo2 ns p = min x y := by
      unfold lo2
      rw [getD_of hx, getD_of hy]
    have ehi : hi2 ns p = max x y := by
      unfold hi2
      rw [getD_of hx, getD_of hy]
    refine b_cons (s_unp2 (i := 2) (j := 3) al rfl (fd_sort2 rfl nb.sorted (PD.is (pd_sliceS (nm 0 r1) (od_some (nm 1 r2)) (od_some (pd_add (nm 1 r2) pd_int))) (congrArg (sqD tp) (cut_pair hx hy)))) (pg_name (i := 2) sc_third_kinds.nd rfl (by first | exact .inl rfl | exact .inr rfl)) (pg_name (i := 3) sc_third_kinds.nd rfl (by first | exact .inl rfl | exact .inr rfl)) fun v2 v3 H2 x2 q2 q3 => ?_)
    cases q2
    cases q3
    have al2 := al.mono x2
    have r1a := r1.mono (fun _ z => z) (ExM.of x2)
    have r2a := r2.mono (fun _ z => z) (ExM.of x2)
    refine b_cons (cs_set (i := 4) sc_third_kinds.nd rfl (by first | exact .inl rfl | exact .inr rfl) (ce_fd al2 (fd_map (t := .one 6) (own := [("stone", 6)]) (lD (min x y) (max x y)) rfl sc_third_kinds.nd (src_S (nm 0 r1a)) (blkOk_by (N := n_third_kinds) (sc := defScope s_third_kinds) (by decide +kernel)) (fun _ _ _ _ _ => pg_name (i := 6) sc_third_kinds.nd rfl (.inl rfl)) (fun _ _ => trivial) ?_ ?_ ?_) fun l ws H3 hl3 x3 h3 rw3 => ?_))
    · rintro M H d σ' ⟨v, _, rfl⟩
      rfl
    · rw [List.length_map]
      omega
    · rintro s0 H0 C cl fp M' H' d σ' hM lift hd ⟨v', rv, rfl⟩
      obtain ⟨z, _, rfl⟩ := List.mem_map.mp hd
      refine pd_if (k := decide (z < min x y)) (td_lt (nm 6 rv) (nm 2 (.int (min x y)))) (fun k => PD.is pd_int ?_) (fun k => pd_if (k := decide (z < max x y)) (td_lt (nm 6 rv) (nm 3 (.int (max x y)))) (fun k2 => PD.is pd_int ?_) (fun k2 => PD.is pd_int ?_))
      · show PyData.int 0 = .int (letZ _ _ _)
        unfold letZ
        rw [if_pos (of_decide_eq_true k)]
      · show PyData.int 1 = .int (letZ _ _ _)
        unfold letZ
        rw [if_neg (of_decide_eq_false k), if_pos (of_decide_eq_true k2)]
      · show PyData.int 2 = .int (letZ _ _ _)
        unfold letZ
        rw [if_neg (of_decide_eq_false k), if_neg (of_decide_eq_false k2)]
    have ew : (ns.map PyData.int).map (lD (min x y) (max x y)) = (letL ns p).map PyData.int := by
      unfold letL
      rw [elo, ehi, List.map_map, List.map_map]
      rfl
    rw [ew] at rw3
    have al3 := al2.mono x3
    have rl : Rp K M H3 (.ref l) (intsD (letL ns p)) := .lst (al2.fresh hl3) (.inl h3) rw3
    have r1b := r1a.mono (fun _ z => z) (ExM.of x3)
    have r2b := r2a.mono (fun _ z => z) (ExM.of x3)
    have ll := letL_len ns p
    have i2 : ((p : Nat) : Int) + 2 = ((p + 2 : Nat) : Int) := by omega
    refine b_cons (s_setLc (i := 5) (t := .one 7) (own := [("index", 7)]) (ds := (List.range ((ns.length : Int) - (((p : Nat) : Int) + 2)).toNat).map fun k => PyData.int (((p : Nat) : Int) + 2 + (k : Nat))) rfl sc_third_kinds.nd ?_ (blkOk_by (N := n_third_kinds) (sc := defScope s_third_kinds) (by decide +kernel)) (fun _ _ _ _ _ => pg_name (i := 7) sc_third_kinds.nd rfl (.inl rfl)) (fun _ _ => trivial) ?_ (fun _ => true) (bhD (letL ns p)) ?_ ?_ al3 rfl rfl rfl fun l2 ws2 H4 hl4 x4 h4 rw4 => ?_)
    · exact src_range2 rfl nb.range (pd_add (nm 1 r2b) pd_int) (pd_len nb rfl (nm 0 r1b) (n := ns.length) (by rw [len_sq, List.length_map])) (by omega) (by omega)
    · rintro M H d σ' ⟨v, _, rfl⟩
      rfl
    · rw [List.length_map, List.length_range]
      omega
    · rintro s0 H0 C cl fp M' H' d σ' hM lift hd ⟨v', rv, rfl⟩
      obtain ⟨j, hj, rfl⟩ := List.mem_map.mp hd
      have hj := List.mem_range.mp hj
      have ej : ((p : Nat) : Int) + 2 + (j : Nat) = ((p + 2 + j : Nat) : Int) := by omega
      rw [ej] at rv ⊢
      obtain ⟨z, hz⟩ := get_i (ns := letL ns p) (i := p + 2 + j) (by omega)
      refine ⟨tsd_nil, fun _ => PD.is (pd_tup (ad_cons (nm 7 rv) (ad_cons (pd_add (pd_ix (nm 4 (lift _ _ rl)) (nm 7 rv) (ixD_ints hz)) pd_int) ad_nil)) (by show 2 ≤ 100000; decide)) ?_⟩
      show PyData.tuple [_, _] = ikD _ _
      rw [Int.toNat_natCast, getD_of hz]
    rw [filt_all] at rw4
    have al4 := al3.mono x4
    have rl4 := rl.mono (fun _ z => z) (ExM.of x4)
    have rb4 : Rp K M H4 (.ref l2) (.list (behL ns p)) := by
      have e : ((List.range ((ns.length : Int) - (((p : Nat) : Int) + 2)).toNat).map fun k => PyData.int (((p : Nat) : Int) + 2 + (k : Nat))).map (bhD (letL ns p)) = behL ns p := by
        unfold behL
        rw [show ((ns.length : Int) - (((p : Nat) : Int) + 2)).toNat = ns.length - (p + 2) by omega, List.map_map]
        refine List.map_congr_left fun j _ => ?_
        show ikD _ _ = ikD _ _
        rw [show (((p : Nat) : Int) + 2 + (j : Nat)).toNat = p + 2 + j by omega]
      rw [e] at rw4
      exact .lst (al3.fresh hl4) (.inl h4) rw4
    have lb : (befL ns p).length = p := by
      unfold befL
      rw [List.length_map, List.length_range]
    have lh : (behL ns p).length ≤ 900 := by
      unfold behL
      rw [List.length_map, List.length_range]
      omega
    refine b_cons (cs_ret (ce_fd al4 (fd_cat (es := befL ns p) (fs := behL ns p) (PD.is (FD.pd (fd_map (t := .one 7) (own := [("index", 7)]) (beD (letL ns p)) rfl sc_third_kinds.nd (src_range1 rfl nb.range (nm 1 (r2b.mono (fun _ z => z) (ExM.of x4))) (by omega) (by omega)) (blkOk_by (N := n_third_kinds) (sc := defScope s_third_kinds) (by decide +kernel)) (fun _ _ _ _ _ => pg_name (i := 7) sc_third_kinds.nd rfl (.inl rfl)) (fun _ _ => trivial) ?_ ?_ ?_)) ?_) (nm 5 rb4) (by omega)) fun l5 ws5 H5 hl5 x5 h5 rw5 => q l5 ws5 H5 (Evl.fresh_back ((x2.trans x3).trans x4) hl5) (((x2.trans x3).trans x4).trans x5) h5 rw5))
    · rintro M H d σ' ⟨v, _, rfl⟩
      rfl
    · rw [List.length_map, List.length_range]
      omega
    · rintro s0 H0 C cl fp M' H' d σ' hM lift hd ⟨v', rv, rfl⟩
      obtain ⟨j, hj, rfl⟩ := List.mem_map.mp hd
      have hj := List.mem_range.mp hj
      rw [Int.zero_add] at rv ⊢
      obtain ⟨z, hz⟩ := get_i (ns := letL ns p) (i := j) (by omega)
      refine PD.is (pd_tup (ad_cons (nm 7 rv) (ad_cons (pd_ix (nm 4 (lift _ _ rl4)) (nm 7 rv) (ixD_ints hz)) ad_nil)) (by show 2 ≤ 100000; decide)) ?_
      show PyData.tuple [_, _] = ikD _ _
      rw [Int.toNat_natCast, getD_of hz]
    · congr 1
      unfold befL
      rw [Int.toNat_natCast, List.map_map]
      refine List.map_congr_left fun j _ => ?_
      show ikD _ _ = ikD _ _
      rw [Int.zero_add, Int.toNat_natCast]
end
end IK

namespace IK
open PySem PySem.Spec PyProof.Rows L2 GV
section
variable {P : Program} {w : World} {K : PySem.W.Frag} {mg : Str → Option Value} {base : Heap}
theorem rowW {ns : List Int} (h : RowL ns) : ∀ z ∈ ns, isWeightD (.int z) = true := fun z hz => (h.2.1 z hz).is
def spRowOk (K : PySem.W.Frag) (g : Hp → VK → Prop) : Sp := fun vs H Q _ => ∃ (M : Addr → Prop) (v : V) (tp : Bool) (ns : List Int), vs = [v] ∧ Alive M H ∧ Rp K M H v (sqD tp (ns.map PyData.int)) ∧ RowL ns ∧ g H Q
theorem bagB_of {tp : Bool} {ns : List Int} (hl : ns.length ≤ 40) (hw : ∀ z ∈ ns, isWeightD (.int z) = true) : bagB (sqD tp (ns.map PyData.int)) = true := by
  have e : (ns.map PyData.int).all isWeightD = true := List.all_eq_true.mpr fun d hd => by
    obtain ⟨z, hz, rfl⟩ := List.mem_map.mp hd
    exact hw z hz
  have e2 : decide ((ns.map PyData.int).length ≤ 40) = true := decide_eq_true (by rw [List.length_map]; exact hl)
  cases tp <;> (show (true && decide ((ns.map PyData.int).length ≤ 40) && (ns.map PyData.int).all isWeightD) = true; rw [e, e2]; rfl)
theorem parts_sq' (tp : Bool) (ds : List PyData) : (partsD (sqD tp ds)).length = ds.length := by cases tp <;> rfl
abbrev toB (b : Bool) (H : Hp) (Q : VK) : Prop := ∀ H', Evl.Ex H H' → Q (.bl b) H'
abbrev toN (H : Hp) (Q : VK) : Prop := ∀ H', Evl.Ex H H' → Q .non H'
theorem cl_is_row {f : Addr} {fd : FuncData} (F : At K mg "is_row" s_is_row f fd) (nb : NoB mg) (c1 : Cl P w K mg base CX0 4 "is_bag_row" (PureR K R_bag)) : Cl P w K mg base CX0 5 "is_row" (spRowOk K (toB true)) := by
  refine ⟨f, fd, _, F.fn.ok sc_is_row (fun vs H Q E h => ?_) (fun cdv A outer s H vs Q E hr h => ⟨_, wB.ps, ?_⟩), F.gl, F.fn.kp, F.fn.binds fun _ _ _ _ _ _ us hl => match us, hl with | [_], _ => rfl⟩
  · obtain ⟨M, v, tp, ns, rfl, _⟩ := h
    rfl
  · obtain ⟨M, v, tp, ns, rfl, al, r1, hrow, q⟩ := h
    have hb := bagB_of (tp := tp) hrow.1 (rowW hrow)
    have hl := hrow.1
    refine b_cons (s_ret al (pd_and (k1 := true) (k2 := true) (PD.is (pd_callC c1 hr (by decide) rfl (ad_cons (nm 0 r1) ad_nil) ⟨_, rfl, (by rw [parts_sq', List.length_map]; omega), rfl⟩) (by rw [hb])) fun _ => pd_one (PD.is (pd_eq hr.units (pd_lenSet rfl rfl nb.len rfl nb.set (nm 0 r1) (by omega)) (pd_len nb rfl (nm 0 r1) (n := ns.length) (by rw [len_sq, List.length_map])) rfl rfl) ?_)) fun v2 H2 x2 r2 => ?_)
    · rw [dd_eq.mpr hrow.2.2, eqv_int]
      simp
    · cases r2
      exact q H2 x2
theorem cl_check_row {f : Addr} {fd : FuncData} (F : At K mg "check_row" s_check_row f fd) (c1 : Cl P w K mg base CX0 5 "is_row" (spRowOk K (toB true))) : Cl P w K mg base CX0 6 "check_row" (spRowOk K toN) := by
  refine ⟨f, fd, _, F.fn.ok sc_check_row (fun vs H Q E h => ?_) (fun cdv A outer s H vs Q E hr h => ⟨_, wB.ps, ?_⟩), F.gl, F.fn.kp, F.fn.binds fun _ _ _ _ _ _ us hl => match us, hl with | [_], _ => rfl⟩
  · obtain ⟨M, v, tp, ns, rfl, _⟩ := h
    rfl
  · obtain ⟨M, v, tp, ns, rfl, al, bg, hn, q⟩ := h
    exact b_cons (cs_if (ct_not (ct_val (ce_call c1 hr (by decide) rfl (ca_cons (ce_nm 0 (ca_nil ⟨M, v, tp, ns, rfl, al, bg, hn, fun H2 x2 => ⟨true, rfl, b_nil (b_nil (q H2 x2))⟩⟩)))))))
def R_place (ds : List PyData) (d : PyData) : Prop := ∃ (tp : Bool) (ns : List Int) (p : Nat), p + 1 < ns.length ∧ ds = [sqD tp (ns.map PyData.int), .int (p : Nat)] ∧ d = .bool true
theorem cl_is_place {f : Addr} {fd : FuncData} (F : At K mg "is_place" s_is_place f fd) (nb : NoB mg) (c1 : Cl P w K mg base CX0 2 "is_number" (PureR K R_is_number)) : Cl P w K mg base CX0 3 "is_place" (PureR K R_place) := by
  refine cl_pure F sc_is_place (F.fn.binds fun _ _ _ _ _ _ us hl => match us, hl with | [_, _], _ => rfl) (fun ds d h => ?_) (fun X cdv A outer s H Q E M vs ds d hX hr al r h q => ?_)
  · obtain ⟨_, _, _, _, rfl, _⟩ := h
    rfl
  · obtain ⟨tp, ns, p, hp, rfl, rfl⟩ := h
    obtain ⟨u, v, rfl, r1, r2⟩ := rpa2 r
    subst hX
    refine b_cons (s_ret al (pd_callC c1 hr (by decide) rfl (ad_cons (nm 1 r2) (ad_cons pd_int (ad_cons (pd_sub (pd_len nb rfl (nm 0 r1) (n := ns.length) (by rw [len_sq, List.length_map])) pd_int) ad_nil))) ⟨_, _, _, rfl, ?_⟩) q)
    show PyData.bool true = .bool (decide ((0 : Int) ≤ (p : Nat)) && decide (((p : Nat) : Int) ≤ (ns.length : Nat) - 2))
    rw [decide_eq_true (by omega), decide_eq_true (by omega)]
    rfl
def spPlOk (K : PySem.W.Frag) : Sp := fun vs H Q _ => ∃ (M : Addr → Prop) (u v : V) (tp : Bool) (ns : List Int) (p : Nat), vs = [u, v] ∧ Alive M H ∧ Rp K M H u (sqD tp (ns.map PyData.int)) ∧ Rp K M H v (.int (p : Nat)) ∧ p + 1 < ns.length ∧ toN H Q
theorem cl_check_place {f : Addr} {fd : FuncData} (F : At K mg "check_place" s_check_place f fd) (c1 : Cl P w K mg base CX0 3 "is_place" (PureR K R_place)) : Cl P w K mg base CX0 4 "check_place" (spPlOk K) := by
  refine ⟨f, fd, _, F.fn.ok sc_check_place (fun vs H Q E h => ?_) (fun cdv A outer s H vs Q E hr h => ⟨_, wB.ps, ?_⟩), F.gl, F.fn.kp, F.fn.binds fun _ _ _ _ _ _ us hl => match us, hl with | [_, _], _ => rfl⟩
  · obtain ⟨M, u, v, tp, ns, p, rfl, _⟩ := h
    rfl
  · obtain ⟨M, u, v, tp, ns, p, rfl, al, r1, r2, hp, q⟩ := h
    exact b_cons (s_if (k := false) al (td_not (k := true) (td_val (pd_callC c1 hr (by decide) rfl (ad_cons (nm 0 r1) (ad_cons (nm 1 r2) ad_nil)) ⟨tp, ns, p, hp, rfl, rfl⟩))) (fun k => by cases k) (fun _ H2 x2 => b_nil (b_nil (q H2 x2))))
/-! ### the functions that the law asks -/
end
end IK

namespace IK
open PySem PySem.Spec PyProof.Rows L2 GV
abbrev MkH (P : Program) (w : World) (K : PySem.W.Frag) (mg : Str → Option Value) (base : Heap) (CH : Addr) : Prop := ∃ fI fdI, Mk K CH fI ∧ FnOk P w K mg base CX0 2 fI fdI ["self", "text"] (spHInit CH) ∧ Binds K fdI ["self", "text"] []
theorem ce_houseE {X : Cx} {σ : St} {H : Hp} {CH : Addr} {e : Expr} {p pos : Pos} {j n : Nat} {Q : VK} (mk : MkH X.prog X.w X.K X.mg X.base CH) (gH : X.mg "House" = some (.ref CH)) (hr : Room j X.A) (hj : 3 ≤ j) (hg : Gl X "House") (h1 : 1 ≤ n) (h2 : n < 64) (ha : PD X M0 e σ H (.str (txN n)))
    (q : ∀ h H', H h = none → Evl.Ex H H' → HAt CH n H' h → Q (.ref h) H') (he : starEach (e :: []) X.env = (false, eval e X.env) :: starEach [] X.env := by rfl) (hpl : (backTo pos (starEach [] X.env)).any (·.1) = false := by rfl) : wE X (.Call (.Name "House" p) [e] [] pos) σ H Q := by
  obtain ⟨fI, fdI, m, ok, bi⟩ := mk
  refine ⟨_, pe_make m ok (hr.mono hj) hg gH bi .nil pass0 wA.pa (by decide) he hpl, ca_cons (ce_pd alive0 ha fun v H1 x1 r1 => ca_nil fun x dx hx hdx ne => ?_) he⟩
  cases r1
  refine ⟨x, dx, n, rfl, h1, h2, upd_same, fun H' k a => ⟨rfl, q x H' (Evl.fresh_back x1 hx) (x1.trans fun b o hb => ?_) a⟩⟩
  have nx : b ≠ x := ne_of_none hb hx
  exact k b o (by rw [upd_ne nx, upd_ne (ne_of_none hb hdx)]; exact hb) nx
section
variable {P : Program} {w : World} {K : PySem.W.Frag} {mg : Str → Option Value} {base : Heap}
/-! ### the law -/
end
end IK

namespace GV
open PySem PySem.Spec PyProof.Rows L2
section
variable {X : Cx} {M : Addr → Prop} {σ : St} {H H' : Hp} {a b c e o : Expr} {da db d : PyData} {pos : Pos}
/-- min(a, b), max(a, b), step by step -/
theorem ce_min2 {p : Pos} {Q : VK} (hg : Gl X "min") (hn : X.mg "min" = none) (h : wA X [a, b] σ H fun vs H2 => ∃ i j, vs = [.int i, .int j] ∧ Q (.int (min i j)) H2) (hc : X.calm = true := by rfl)
    (h1 : starEach (a :: [b]) X.env = (false, eval a X.env) :: starEach [b] X.env := by rfl) (hpl : (backTo pos (starEach [b] X.env)).any (·.1) = false := by rfl) : wE X (.Call (.Name "min" p) [a, b] [] pos) σ H Q := by
  obtain ⟨t, ht, q⟩ := h
  refine ⟨_, pe_callB (call_min2 hc) hg hn PyProof.Rows.boot_min wA.pa (by decide) (by decide) h1 hpl, ⟨fun σ' H' Q' => σ' = σ ∧ H' = H ∧ ∀ vs H2, (∃ i j, vs = [.int i, .int j] ∧ Q (.int (min i j)) H2) → Q' vs H2, ⟨fun ps pins s σ' H' Q' I ⟨e1, e2, k⟩ => ?_⟩, rfl, rfl, fun vs H2 ⟨i, j, e, z⟩ => ⟨i, j, e, ?_⟩⟩⟩
  · subst e1
    subst e2
    exact thn (ht.run ps pins s σ' H' _ I q) fun us s' ⟨vs, H2, I2, r, z⟩ => ⟨vs, H2, I2, r, k vs H2 z⟩
  · rw [show (if j < i then j else i) = min i j by split <;> omega]
    exact z
theorem ce_max2 {p : Pos} {Q : VK} (hg : Gl X "max") (hn : X.mg "max" = none) (h : wA X [a, b] σ H fun vs H2 => ∃ i j, vs = [.int i, .int j] ∧ Q (.int (max i j)) H2) (hc : X.calm = true := by rfl)
    (h1 : starEach (a :: [b]) X.env = (false, eval a X.env) :: starEach [b] X.env := by rfl) (hpl : (backTo pos (starEach [b] X.env)).any (·.1) = false := by rfl) : wE X (.Call (.Name "max" p) [a, b] [] pos) σ H Q := by
  obtain ⟨t, ht, q⟩ := h
  refine ⟨_, pe_callB (call_max2 hc) hg hn PyProof.Rows.boot_max wA.pa (by decide) (by decide) h1 hpl, ⟨fun σ' H' Q' => σ' = σ ∧ H' = H ∧ ∀ vs H2, (∃ i j, vs = [.int i, .int j] ∧ Q (.int (max i j)) H2) → Q' vs H2, ⟨fun ps pins s σ' H' Q' I ⟨e1, e2, k⟩ => ?_⟩, rfl, rfl, fun vs H2 ⟨i, j, e, z⟩ => ⟨i, j, e, ?_⟩⟩⟩
  · subst e1
    subst e2
    exact thn (ht.run ps pins s σ' H' _ I q) fun us s' ⟨vs, H2, I2, r, z⟩ => ⟨vs, H2, I2, r, k vs H2 z⟩
  · rw [show (if j > i then j else i) = max i j by split <;> omega]
    exact z
theorem ce_mul {Q : VK} (h : wE X a σ H fun x H2 => wE X b σ H2 fun y H3 => ∃ i j, x = .int i ∧ y = .int j ∧ CMul i j ∧ Q (.int (i * j)) H3) : wE X (.BinOp a .Mult b pos) σ H Q := ce_bin op_mul h
theorem ce_shl {Q : VK} (h : wE X a σ H fun x H2 => wE X b σ H2 fun y H3 => ∃ i j, x = .int i ∧ y = .int j ∧ CPow i j ∧ Q (.int (i * 2 ^ j.toNat)) H3) : wE X (.BinOp a .LShift b pos) σ H Q := ce_bin op_shl h
end
end GV

/-! objects: methods of whatever object, own operators, own == and own len, calls without arguments -/
namespace PySem.W
open PySem PySem.Calls PyProof.Rows
section
variable {K : Frag} {x C L f : Addr} {h₀ : Heap} {m : Str → Option Value} {ox : Obj} {od : Option Obj} {A : Around} {E : Value → Shared → Prop} {s : Shared} {T : String}
/-- a op b, a of a class with its own op, b of a built-in type: the left one's method -/
theorem gv_right {prog : Program} {w : World} {op : Operator} {b : Value} {p1 p2 p3 : Option Value} {Q : Value → Shared → Prop} (F : Fr h₀ L s.heap m) (X₀ : K.In h₀) (I : InstAt s.heap x ox C od) (hb : ∀ M : Model, Looks M s.heap (typeOf b) (.type T)) (hc : selfFirst K C = true)
    (g0 : findIn K (.ref C) (PySem.dunder op.info.2) = some (some (.ref f))) (gf : isFn K (.ref f) = true) (g1 : findIn K (.ref C) (dunderR op.info.2) = some p3) (gp : p3 = none ∨ ∃ g : Addr, p3 = some (.ref g))
    (g2 : findIn K (.type T) (PySem.dunder op.info.2) = some p1) (g3 : findIn K (.type T) (dunderR op.info.2) = some p2) (g4 : subIn K (.type T) (.ref C) = some false)
    (h : wpAny (model prog w) A (call (.ref f) [.ref x, b]) (CmpBack Q) E s) : wpAny (model prog w) A (binaryOp op (.ref x) b) Q E s := by
  have KX := X₀.keeps F.keep
  obtain ⟨cdC, more, hC, eC⟩ := ksp_first hc
  have tried := ksp_try KX I g0 gf h
  generalize hi : op.info = info at g0 g1 g2 g3 tried
  obtain ⟨sign, nm⟩ := info
  obtain ⟨hp, gs, ds, tk, os⟩ := s
  have a1 : Looks (model prog w) hp (typeOf (.ref x)) (.ref C) := I.type
  have a2 : Looks (model prog w) hp (typeOf b) (.type T) := hb _
  have a3 : Looks (model prog w) hp (fillsNumberSlot (.ref C) nm) true := fills_K KX hC eC g0
  have a4 : Looks (model prog w) hp (fillsNumberSlot (.type T) nm) ((p1.isSome && !isSeqSlot p1) || (p2.isSome && !isSeqSlot p2)) := ksp_fillsT KX g2 g3
  have a5 : Looks (model prog w) hp (isSubtype (.type T) (.ref C)) false := looks_subIn KX g4
  have a6 : Looks (model prog w) hp (numberSlotInPython (.ref C) nm) true := ksp_inPy KX g0 g1 gp
  have a7 : Looks (model prog w) hp (numberSlotInPython (.type T) nm) false := Looks.of_pure rfl
  have a8 : Looks (model prog w) hp (typeLookup (.type T) (dunderR nm)) p2 := looks_findIn KX g3
  have other : (Value.ref C == Value.type T) = false := Bool.eq_false_iff.mpr (fun q => nomatch beq_iff_eq.mp q)
  generalize ((p1.isSome && !isSeqSlot p1) || (p2.isSome && !isSeqSlot p2)) = both at a4
  simp only [binaryOp, hi]
  refine wpAny_holding (wpAny_bind (show wpAny _ _ (binaryOp1 nm (.ref x) b) _ _ _ from ?_))
  unfold binaryOp1
  refine wpAny_bind (a1.at (wpAny_bind (a2.at (wpAny_bind (a3.at (?_ : wpAny _ _ _ _ _ _))))))
  simp only [other, Bool.false_eq_true, if_false]
  cases both <;> (ksp_lk; exact wpAny_mono tried (fun r s' ⟨v, er, hq⟩ => by subst er; ksp_lk; exact hq) fun _ _ e => e)
end
end PySem.W
namespace GV
open PySem PySem.Spec PyProof.Rows L2
/-- a method (or an own operator) of the class at C, with what it promises -/
def MethS (P : Program) (w : World) (K : PySem.W.Frag) (mg : Str → Option Value) (base : Heap) (CX : CXT) (C : Addr) (m : Str) (k : Nat) (ps : List Str) (sp : Sp) : Prop := ∃ f fd, Meth K C m f ∧ FnOk P w K mg base CX k f fd ps sp ∧ Binds K fd ps []
theorem vback {Q : Value → Shared → Prop} {v : V} {u : Value} {s : Shared} (r : RelV v u) (q : Q u s) : PySem.W.CmpBack Q u s := by
  cases v <;> first | (cases r; exact q) | (obtain ⟨t, z⟩ := r; subst z; exact q)
/-- what an operator of the class's own wants of the right side: its type -/
structure RightT (K : PySem.W.Frag) (C : Addr) (op : Operator) (T : String) : Prop where
  ex : ∃ p1 p2 p3, PySem.W.findIn K (.ref C) (PySem.dunderR op.info.2) = some p3 ∧ (p3 = none ∨ ∃ g : Addr, p3 = some (.ref g)) ∧ PySem.W.findIn K (.type T) (PySem.dunder op.info.2) = some p1 ∧ PySem.W.findIn K (.type T) (PySem.dunderR op.info.2) = some p2
  sub : PySem.W.subIn K (.type T) (.ref C) = some false
section
variable {X : Cx} {M : Addr → Prop} {σ : St} {H : Hp} {a b e o : Expr} {es : List Expr} {pos : Pos}
/-- f() -/
theorem ce_call0 {sp : Sp} {Q : VK} {j k : Nat} {x : Str} {p : Pos} (cl : Cl X.prog X.w X.K X.mg X.base CX0 k x sp) (hr : Room j X.A) (hkj : k ≤ j) (hg : Gl X x) (h : sp [] H Q E0) (hdb : (x == ("__debug__" : Str)) = false := by decide) : wE X (.Call (.Name x p) [] [] pos) σ H Q := by
  obtain ⟨f, fd, ps, F, hm, hk, hb⟩ := cl.ex
  exact ⟨_, pe_call0 F (hr.mono hkj) hg hm hk hb .nil pass0 hdb, h⟩
theorem fd_call0 {R : List PyData → List PyData → Prop} {fs : List PyData} {j k : Nat} {x : Str} {p : Pos} (cl : Cl X.prog X.w X.K X.mg X.base CX0 k x (FreshR X.K R)) (hr : Room j X.A) (hkj : k ≤ j) (hg : Gl X x) (hR : R [] fs) (hdb : (x == ("__debug__" : Str)) = false := by decide) : FD X M (.Call (.Name x p) [] [] pos) σ H fs :=
  .mk fun H1 e1 al Q q => ce_call0 cl hr hkj hg ⟨M, [], fs, al, .nil, hR, q⟩ hdb
/-- o.m(e, ..), whatever o is -/
theorem ce_methH {sp : Sp} {Q : VK} {j k : Nat} {C : Addr} {m : Str} {ps : List Str} {apos : Pos} {pl : Sem Bool} (c : Cls X.K C) (mt : MethS X.prog X.w X.K X.mg X.base CX0 C m k ps sp) (hr : Room j X.A) (hkj : k ≤ j)
    (h : wE X o σ H fun x H1 => ∃ a dx fs, x = .ref a ∧ H1 a = some (.ins C dx fs) ∧ fs.lookup m = none ∧ wA X (e :: es) σ H1 fun vs H2 => sp (.ref a :: vs) H2 Q E0)
    (he : starEach (e :: es) X.env = (false, eval e X.env) :: starEach es X.env := by rfl) (hpl : (backTo pos (starEach es X.env)).any (·.1) = false := by rfl)
    (hev : eval (.Call (.Attribute o m apos) (e :: es) [] pos) X.env = (do
      let ov ← eval o X.env
      standAt apos.atName
      let (f, first) ← holding [ov] (getMethod ov m pl)
      callWith pos f first (backTo pos (starEach (e :: es) X.env)) (backToKw pos (keywordEach [] X.env))) := by rfl) : wE X (.Call (.Attribute o m apos) (e :: es) [] pos) σ H Q := by
  obtain ⟨f, fd, hm, F, hb⟩ := mt
  refine ⟨_, pe_meth wE.pe c hm F (hr.mono hkj) hb .nil pass0 wA.pa he hpl hev, wE.weak h ?_⟩
  rintro x H1 ⟨p, dx, fs, rfl, hp, hf, hA⟩
  refine ⟨p, dx, fs, rfl, hp, hf, ?_⟩
  simp only [List.append_nil]
  exact hA
theorem ce_methH0 {sp : Sp} {Q : VK} {j k : Nat} {C : Addr} {m : Str} {ps : List Str} {apos : Pos} {pl : Sem Bool} (c : Cls X.K C) (mt : MethS X.prog X.w X.K X.mg X.base CX0 C m k ps sp) (hr : Room j X.A) (hkj : k ≤ j)
    (h : wE X o σ H fun x H1 => ∃ a dx fs, x = .ref a ∧ H1 a = some (.ins C dx fs) ∧ fs.lookup m = none ∧ sp [.ref a] H1 Q E0)
    (hev : eval (.Call (.Attribute o m apos) [] [] pos) X.env = (do
      let ov ← eval o X.env
      standAt apos.atName
      let (f, first) ← holding [ov] (getMethod ov m pl)
      callWith pos f first (backTo pos (starEach [] X.env)) (backToKw pos (keywordEach [] X.env))) := by rfl) : wE X (.Call (.Attribute o m apos) [] [] pos) σ H Q := by
  obtain ⟨f, fd, hm, F, hb⟩ := mt
  refine ⟨_, pe_meth0 wE.pe c hm F (hr.mono hkj) hb .nil pass0 hev, wE.weak h ?_⟩
  rintro x H1 ⟨p, dx, fs, rfl, hp, hf, hA⟩
  exact ⟨p, dx, fs, rfl, hp, hf, hA⟩
/-- .. that may raise -/
theorem ce_methX {sp : Sp} {W : WX} {Q : VK} {j k : Nat} {C : Addr} {m : Str} {ps : List Str} {apos : Pos} {pl : Sem Bool} (c : Cls X.K C) (mt : MethS X.prog X.w X.K X.mg X.base (L2.CX X.prog X.w) C m k ps sp) (hr : Room j X.A) (hkj : k ≤ j) (tk : Takes X W)
    (h : wE X o σ H fun x H1 => ∃ a dx fs, x = .ref a ∧ H1 a = some (.ins C dx fs) ∧ fs.lookup m = none ∧ wA X (e :: es) σ H1 fun vs H2 => sp (.ref a :: vs) H2 Q fun cls d H' => W cls d σ H')
    (he : starEach (e :: es) X.env = (false, eval e X.env) :: starEach es X.env := by rfl) (hpl : (backTo pos (starEach es X.env)).any (·.1) = false := by rfl)
    (hev : eval (.Call (.Attribute o m apos) (e :: es) [] pos) X.env = (do
      let ov ← eval o X.env
      standAt apos.atName
      let (f, first) ← holding [ov] (getMethod ov m pl)
      callWith pos f first (backTo pos (starEach (e :: es) X.env)) (backToKw pos (keywordEach [] X.env))) := by rfl) : wE X (.Call (.Attribute o m apos) (e :: es) [] pos) σ H Q := by
  obtain ⟨f, fd, hm, F, hb⟩ := mt
  refine ⟨fun σ H Q => wE X o σ H fun x H1 => ∃ a dx fs, x = .ref a ∧ H1 a = some (.ins C dx fs) ∧ fs.lookup m = none ∧ wA X (e :: es) σ H1 fun vs H2 => sp (.ref a :: vs) H2 Q fun cls d H' => W cls d σ H', ⟨fun pins s σ H Q I h => ?_⟩, h⟩
  refine PySem.W.methodCall_KW (pl := pl) (thn (wE.pe.run pins s σ H _ I h) fun u s1 ⟨x, H1, I1, rx, g, dx, fs, ex, eg, l, q⟩ => ?_) hev
  cases ex
  cases (show u = Value.ref g from rx)
  refine getmeth_ok I1 eg c hm l (PySem.W.callWith_K (first := [.ref g]) (h₀ := X.base) I1.ok.mod.kin hm.kp (thn (wA.pa.run pos pins s1 σ H1 _ I1 q) fun us s2 ⟨vs, H2, I2, r, q2⟩ => ⟨I2.kIn, ?_⟩) he hpl)
  exact run_fnS (us := .ref g :: us) (vs := .ref g :: vs) (E := fun σ cls d H' => W cls d σ H') F (hr.mono hkj) hb (passAt tk σ) I2 (.cons rfl r) q2
/-- a op b by the left side's own method: an object of the same class, or a value of a built-in type, on the right -/
def OwnR (X : Cx) (C : Addr) (op : Operator) (sp : Sp) (W : WX) (σ : St) (x y : V) (H : Hp) (Q : VK) : Prop := ∃ (a dx : Addr) (fs : List (Str × V)), x = .ref a ∧ H a = some (.ins C dx fs) ∧
  ((∃ (b dy : Addr) (gs : List (Str × V)), y = .ref b ∧ H b = some (.ins C dy gs)) ∨ ∃ T : String, TyX X.K H y (.type T) ∧ RightT X.K C op T) ∧ sp [x, y] H Q fun cls d H' => W cls d σ H'
theorem ce_own {op : Operator} {CX : CXT} {sp : Sp} {W : WX} {Q : VK} {j k : Nat} {C : Addr} {m : Str} {ps : List Str} (mt : MethS X.prog X.w X.K X.mg X.base CX C m k ps sp) (hm : m = PySem.dunder op.info.2) (hc : PySem.W.selfFirst X.K C = true) (hr : Room j X.A) (hkj : k ≤ j) (hx : ∀ σ, PassesAt CX X σ (WE W σ))
    (h : wE X a σ H fun x H1 => wE X b σ H1 fun y H2 => OwnR X C op sp W σ x y H2 Q) : wE X (.BinOp a op b pos) σ H Q := by
  subst hm
  obtain ⟨f, fd, hm, F, hb⟩ := mt
  refine ⟨fun σ H Q => wE X a σ H fun x H1 => wE X b σ H1 fun y H2 => OwnR X C op sp W σ x y H2 Q, ⟨fun pins s σ H Q I h => ?_⟩, h⟩
  refine wpAny_BinOp (binT (R := fun x y H2 => OwnR X C op sp W σ x y H2 Q) wE.pe wE.pe I h fun v u s2 x y H2 I2 rx ry ⟨a, dx, fs, ex, ea, right, q⟩ => ?_)
  subst ex
  cases (show v = Value.ref a from rx)
  obtain ⟨mA, J, _⟩ := ins_get I2.hok ea
  obtain ⟨od, J, _⟩ := J.look
  obtain ⟨mm, hF⟩ := I2.fr
  have run := run_fnS (us := [.ref a, u]) (vs := [.ref a, y]) (E := fun σ cls d H' => W cls d σ H') F (hr.mono hkj) hb (hx σ) I2 (.cons rfl (.cons ry .nil)) q
  have back : wpAny (model X.prog X.w) X.A (call (.ref f) [.ref a, u]) (PySem.W.CmpBack (EP X pins σ Q)) X.xe s2 := wpAny_mono run (fun r s' ⟨v, H', I', rv, q⟩ => vback rv ⟨v, H', I', rv, q⟩) fun _ _ z => z
  rcases right with ⟨b, dy, gs, ey, eb⟩ | ⟨T, ty, rt⟩
  · subst ey
    cases (show u = Value.ref b from ry)
    obtain ⟨mB, J', _⟩ := ins_get I2.hok eb
    obtain ⟨od', J', _⟩ := J'.look
    exact PySem.W.binop_K hF I2.ok.mod.kin J J'.type hc hm.at_ hm.fn back
  · obtain ⟨Pz, Z, pz, _⟩ := kit_of I2 ry ty
    obtain ⟨p1, p2, p3, r1, r2, r3, r4⟩ := rt.ex
    exact PySem.W.gv_right hF I2.ok.mod.kin J (fun M => Z.ty M _ I2.kIn pz) hc hm.at_ hm.fn r1 r2 r3 r4 rt.sub back
/-- a == b of objects, by the class's own == -/
def OwnE (C : Addr) (sp : Sp) : R2 := fun x y H Q => ∃ (a dx : Addr) (fs : List (Str × V)) (b dy : Addr) (gs : List (Str × V)), x = .ref a ∧ H a = some (.ins C dx fs) ∧ y = .ref b ∧ H b = some (.ins C dy gs) ∧ sp [x, y] H Q E0
theorem op_ownEq {sp : Sp} {j k : Nat} {C : Addr} {ps : List Str} (mt : MethS X.prog X.w X.K X.mg X.base CX0 C "__eq__" k ps sp) (hr : Room j X.A) (hkj : k ≤ j) : OpR X (compareOp .Eq) (OwnE C sp) := by
  intro pins s σ H x y v u Q I rx ry ⟨a, dx, fs, b, dy, gs, ex, ea, ey, eb, q⟩
  obtain ⟨f, fd, hm, F, hb⟩ := mt
  subst ex
  subst ey
  cases (show v = Value.ref a from rx)
  cases (show u = Value.ref b from ry)
  obtain ⟨mA, J, _⟩ := ins_get I.hok ea
  obtain ⟨mB, J', _⟩ := ins_get I.hok eb
  obtain ⟨od, J, _⟩ := J.look
  obtain ⟨od', J', _⟩ := J'.look
  obtain ⟨mm, hF⟩ := I.fr
  have run := run_fn (us := [.ref a, .ref b]) (vs := [.ref a, .ref b]) (dvs := []) (ds := []) F (hr.mono hkj) hb .nil pass0 I (.cons rfl (.cons rfl .nil)) q
  refine PySem.W.cmp_K (op := .Eq) (tb := .ref C) hr.units0 hF I.ok.mod.kin J J'.type (by simp [PySem.W.notFirst]) hm.at_ hm.fn (wpAny_mono run (fun r s' ⟨v, H', I', rv, q⟩ => vback rv ⟨v, H', I', rv, q⟩) fun _ _ z => z)
theorem ce_ownEq {sp : Sp} {Q : VK} {j k : Nat} {C : Addr} {ps : List Str} (mt : MethS X.prog X.w X.K X.mg X.base CX0 C "__eq__" k ps sp) (hr : Room j X.A) (hkj : k ≤ j) (h : wE X a σ H fun x H2 => wE X b σ H2 fun y H3 => OwnE C sp x y H3 Q) : wE X (.Compare a [.Eq] [b] pos) σ H Q :=
  ⟨_, pe_cmpR (op_ownEq mt hr hkj) wE.pe wE.pe (nomark _), h⟩
/-- len(o) of an object, by the class's own len -/
theorem call_ownLen {sp : Sp} {j k : Nat} {C : Addr} {ps : List Str} (mt : MethS X.prog X.w X.K X.mg X.base CX0 C "__len__" k ps sp) (hr : Room (j + 1) X.A) (hkj : k ≤ j) :
    CallR X (.builtin "len") (fun xs H Q => ∃ (a dx : Addr) (fs : List (Str × V)), xs = [.ref a] ∧ H a = some (.ins C dx fs) ∧ sp xs H (fun v H' => ∃ n : Nat, v = .int n ∧ n < 2 ^ 62 ∧ Q v H') E0) := by
  intro pins s σ H xs us Q I r ⟨a, dx, fs, ex, ea, q⟩
  obtain ⟨f, fd, hm, F, hb⟩ := mt
  subst ex
  cases r with
  | cons rx rt =>
    cases rt
    rename_i u
    cases (show u = Value.ref a from rx)
    obtain ⟨mA, J, _⟩ := ins_get I.hok ea
    obtain ⟨od, J, _⟩ := J.look
    obtain ⟨mm, hF⟩ := I.fr
    have hl := F.len _ _ _ _ q
    have bt := hb s [.ref a] I.kIn hl
    refine PySem.W.len_K hF I.ok.mod.kin J hm.at_ hm.fn (wpAny_call (codeAny_mono (F.run X.A.in1 X.stack s H ⟨[.ref a], []⟩ [.ref a] [.ref a] _ E0 (hr.in1.mono hkj) I.env0.in1 bt (.cons rfl .nil) q) fun r s' hq => ?_))
    cases r with
    | error e => exact hq.elim
    | ok fl =>
      cases fl with
      | ret u =>
        obtain ⟨v, H', I', rv, n, ev, hn, q'⟩ := I.after hq
        subst ev
        obtain ⟨t, et⟩ := (show ∃ t, u = Value.int n t from rv)
        subst et
        exact ⟨⟨by omega, by omega⟩, .int n, H', I'.tok _, ⟨_, rfl⟩, q'⟩
      | next => exact False.elim hq
      | brk => exact False.elim hq
      | cont => exact False.elim hq
end
end GV

/-! what the top wrote: list(a dict of texts), items of a tuple, enumerate(a tuple), a class's constant -/
namespace GV
open PySem PySem.Spec PyProof.Rows L2
/-- the keys of a written dict, in their order -/
inductive KeysT : List DictEntry → List Str → Prop
  | nil : KeysT [] []
  | cons {e : DictEntry} {x : Str} {es : List DictEntry} {xs : List Str} : (∃ t, e.key = .str x t) → KeysT es xs → KeysT (e :: es) (x :: xs)
theorem KeysT.pairs {prog : Program} {w : World} : ∀ {es : List DictEntry} {xs : List Str}, KeysT es xs → ∃ kvs : List (Str × Value), kvs.map (·.1) = xs ∧ PySem.Pairs (PySem.strKind prog w) es kvs
  | _, _, .nil => ⟨[], rfl, .nil⟩
  | _, _, .cons (e := e) (x := x) ⟨t, h⟩ r => by
    obtain ⟨kvs, h1, h2⟩ := r.pairs (prog := prog) (w := w)
    refine ⟨(x, e.val) :: kvs, by rw [List.map_cons, h1], .cons ?_ rfl h2⟩
    rw [h]
    show Value.isStrOf x (.str x t) = true
    simp [Value.isStrOf]
section
variable {X : Cx} {M : Addr → Prop} {σ : St} {H : Hp} {a b e : Expr} {pos : Pos}
theorem call_listKD {d : Addr} {es : Array DictEntry} {n : Nat} {ks : List Str} (hcalm : X.calm = true) (D : KDict X.K X.w d es n) (kt : KeysT es.toList ks) (nd : ks.Nodup) (hz : ks.length ≤ 1000) :
    CallR X (.type "list") (fun xs H Q => xs = [.ref d] ∧ ∀ p, H p = none → Q (.ref p) (upd H p (.lst (ks.map V.str)))) := by
  intro pins s σ H xs us Q I r ⟨ex, q⟩
  subst ex
  obtain ⟨u, eu, rx⟩ := vals1 r
  subst eu
  cases rx
  obtain ⟨kvs, hk1, hk2⟩ := kt.pairs (prog := X.prog) (w := X.w)
  have mo := PySem.W.mapOf_K (prog := X.prog) (w := X.w) I.kIn D.at_ D.lit
  obtain ⟨o, es', ep, ho, hx, hd, hko, _⟩ := mo
  have ho2 := I.kIn _ _ D.at_
  rw [ho] at ho2
  cases ho2
  have hat : s.heap.DictAt (PySem.strKind X.prog X.w) d kvs n := by
    cases hd
    exact ⟨_, es, ho, hx, rfl, hko, hk2, by rw [hk1]; exact nd⟩
  have hlen : kvs.length = ks.length := by rw [← hk1, List.length_map]
  refine PySem.W.kdl_call (PySem.W.kdl_dict (knd := PySem.strKind X.prog X.w) (kvs := kvs) (ep := n) D.low) (I.ok.hd hcalm) hat (by rw [hlen, sizeLine_eq]; omega) fun h' tk acc c' hk hD hacc => ?_
  have hv : Vals (ks.map V.str) acc.toList := by
    have gen : ∀ (zs : List (Str × Value)) (us : List Value), us.length = zs.length → (∀ (j : Nat) (v : Value), us[j]? = some v → ∃ k x, zs[j]? = some (k, x) ∧ (PySem.strKind X.prog X.w).is k v = true) → Vals ((zs.map (·.1)).map V.str) us := by
      intro zs
      induction zs with
      | nil =>
        intro us hl _
        cases us with
        | nil => exact .nil
        | cons _ _ => cases hl
      | cons z zs ih =>
        intro us hl h
        cases us with
        | nil => cases hl
        | cons v us =>
          obtain ⟨k, x, e1, e2⟩ := h 0 v rfl
          cases e1
          obtain ⟨t, et⟩ := Value.isStrOf_shape (show Value.isStrOf k v = true from e2)
          exact .cons ⟨t, et⟩ (ih us (Nat.succ.inj hl) fun j v hj => h (j + 1) v hj)
    rw [← hk1]
    exact gen kvs acc.toList (by rw [Array.length_toList]; exact hacc.1) fun j v e => hacc.2 j v (by rw [← Array.getElem?_toList]; exact e)
  refine ⟨.ref s.heap.objs.size, upd H s.heap.objs.size (.lst (ks.map V.str)), I.laid (t' := tk) hk (Nat.le_refl _)
    (show ObjOk X.prog X.w _ _ _ (.lst (ks.map V.str)) from ⟨by rw [List.length_map, sizeLine_eq]; omega, acc.toList, c', hv, by rw [Array.toArray_toList]; exact hD⟩), rfl, q _ (I.hok.fresh (Nat.le_refl _))⟩
/-- list(D), D a dict of texts that the top wrote -/
theorem fd_listKD {d : Addr} {es : Array DictEntry} {n : Nat} {ks : List Str} {x : Str} {p p2 : Pos} (hcalm : X.calm = true) (hg : Gl X "list") (hm : X.mg "list" = none) (hgD : Gl X x) (hmD : X.mg x = some (.ref d)) (D : KDict X.K X.w d es n) (kt : KeysT es.toList ks) (nd : ks.Nodup) (hz : ks.length ≤ 1000)
    (hdb : (x == ("__debug__" : Str)) = false := by decide) (hs : starEach (.Name x p2 :: []) X.env = (false, eval (.Name x p2) X.env) :: starEach [] X.env := by rfl) (hpl : (backTo pos (starEach [] X.env)).any (·.1) = false := by rfl) :
    FD X M (.Call (.Name "list" p) [.Name x p2] [] pos) σ H (ks.map PyData.str) := .mk fun H1 e1 al Q q =>
  ⟨_, pe_callTy (call_listKD hcalm D kt nd hz) hg hm PyProof.Rows.boot_list wA.pa (by decide) (by decide) hs hpl, ca_cons ⟨_, pe_glob hgD hmD (v := .ref d) rfl hdb, ca_nil ⟨rfl, fun p hp => q p _ _ hp (Evl.Ex.new hp) upd_same (.strs ks)⟩⟩ hs⟩
/-- a tuple that the top wrote -/
def KTup (K : PySem.W.Frag) (a : Addr) (xs : List V) : Prop := ∃ (o : Obj) (its : Array Value) (n : Nat), K.lookup a = some o ∧ o.cls = .type "tuple" ∧ o.data = .seq its n ∧ its.size ≤ sizeLine ∧ Vals xs its.toList
theorem pd_ixK {t : Addr} {ks : List Str} {x z : Str} {i : Nat} {p : Pos} (h : KTup X.K t (ks.map V.str)) (hg : Gl X x) (hm : X.mg x = some (.ref t)) (hb : PD X M b σ H (.int (i : Nat))) (hz : ks[i]? = some z) (hdb : (x == ("__debug__" : Str)) = false := by decide) (hs : PlainIx b := by exact fun _ _ => rfl) :
    PD X M (.Subscript (.Name x p) b pos) σ H (.str z) := .mk fun H1 e1 al Q q =>
  ⟨_, pe_ix ix_seq (pe_glob hg hm (v := .ref t) rfl hdb) wE.pe hs, hb.run H1 e1 al _ fun v H2 x2 r => by
    cases r
    refine .inr (.inl ⟨t, ks.map V.str, (i : Nat), .str z, rfl, rfl, .inr h, ?_, q _ H2 x2 (.str z)⟩)
    exact atI_nat (by rw [List.getElem?_map, hz]; rfl)⟩
theorem wk_enumK {K : PySem.W.Frag} {t : Addr} {xs : List V} {ds : List PyData} (h : KTup K t xs) (r : RpAll K M H xs ds) : Wk K M (IteT K t) H (enumD ds) := by
  refine ⟨fun M' i H' hm e hi => ?_, fun M' H' hm e => ⟨xs, .inr h, by rw [r.length, enumD_length]; exact Nat.le_refl _⟩, fun M' i H' x H'' hm e al y => ?_⟩
  · have hx : i < xs.length := by rw [r.length, ← enumD_length]; exact hi
    exact ⟨xs, xs[i], .inr h, List.getElem?_eq_getElem hx⟩
  · obtain ⟨T, z, rfl, hT, rfl, y⟩ := y
    refine ⟨Evl.Ex.new hT, fun d hd => ?_⟩
    obtain ⟨e', he, rfl⟩ := enumD_get hd
    obtain ⟨v, hv, rv⟩ := r.get he
    have q := y xs (.inr h)
    rw [hv] at q
    cases q
    exact .tup (al.fresh hT) (.inl upd_same) (.cons (.int _) (.cons (((rv.wide hm).mono (fun _ z => z) e).mono (fun _ z => z) (.of (Evl.Ex.new hT))) .nil))
theorem src_enumK {p tpos : Pos} {elts : List Expr} {kk : Nat} {t : Addr} {xs : List V} {ds : List PyData} (hg : Gl X "enumerate") (hm : X.mg "enumerate" = none) (h : KTup X.K t xs) (r : ∀ H, RpAll X.K M H xs ds) (he : ∀ H1 (Q : VK), Q (.ref t) H1 → wE X e σ H1 Q) (hs : starEach [e] X.env = [(false, eval e X.env)] := by rfl)
    (hs' : starEach (e :: []) X.env = (false, eval e X.env) :: starEach [] X.env := by rfl) : Src X M (.Tuple elts kk tpos) (.Call (.Name "enumerate" p) [e] [] pos) σ H (enumD ds) :=
  ⟨_, pi_enumT hg hm wA.pa hs, fun H1 e1 al R q => ca_cons (he _ _ (ca_nil ⟨t, xs, rfl, .inr h, q _ H1 (Evl.Ex.refl H1) (wk_enumK h (r H1))⟩)) hs'⟩
/-- C.f, a constant of the class at C -/
theorem ce_cval {C : Addr} {mc u : Value} {x f : Str} {v : V} {p : Pos} {Q : VK} (hg : Gl X x) (hm : X.mg x = some (.ref C)) (r : ClX.CRead X.K C mc) (k : ClX.CVal X.K C mc f v u) (q : Q v H) (hdb : (x == ("__debug__" : Str)) = false := by decide) (hb : attributeBase (.Name x p) f X.env (eval (.Name x p) X.env) = eval (.Name x p) X.env := by rfl) :
    wE X (.Attribute (.Name x p) f pos) σ H Q := ⟨_, ClX.pe_cval (pe_glob hg hm (v := .ref C) rfl hdb) hb, C, mc, v, u, rfl, r, k, q⟩
end
end GV

namespace IK
open PySem PySem.Spec PyProof.Rows L2 GV
/-! ### houses as values -/
def flS (i : Nat) : Nat := 4 * (i % 2) + 2 * (i / 2 % 2) + i / 4
def mirN (n : Nat) : Nat := n / 8 + 8 * (n % 8)
def flN (n : Nat) : Nat := flS (n % 8) + 8 * flS (n / 8)
theorem mir_lt {n : Nat} (hn : n < 64) : mirN n < 64 := by unfold mirN; omega
theorem fl_lt {n : Nat} (hn : n < 64) : flN n < 64 := all63 (p := fun n => flN n < 64) (by decide +kernel) hn
theorem mir_pos {n : Nat} (hn : n < 64) (h : 1 ≤ n) : 1 ≤ mirN n := by unfold mirN; omega
theorem fl_pos {n : Nat} (hn : n < 64) (h : 1 ≤ n) : 1 ≤ flN n := by
  have := all63 (p := fun n => 1 ≤ n → 1 ≤ flN n) (by decide +kernel) hn
  exact this h
def sidesL : List Str := ["", "l", "b", "lb", "h", "lh", "bh", "lbh"]
def flipL : List Str := ["", "h", "b", "bh", "l", "lh", "lb", "lbh"]
theorem sides_get {i : Nat} (h : i < 8) : sidesL[i]? = some (sideT i) := by
  match i, h with
  | 0, _ => rfl
  | 1, _ => rfl
  | 2, _ => rfl
  | 3, _ => rfl
  | 4, _ => rfl
  | 5, _ => rfl
  | 6, _ => rfl
  | 7, _ => rfl
theorem flip_get {i : Nat} (h : i < 8) : flipL[i]? = some (sideT (flS i)) := by
  match i, h with
  | 0, _ => rfl
  | 1, _ => rfl
  | 2, _ => rfl
  | 3, _ => rfl
  | 4, _ => rfl
  | 5, _ => rfl
  | 6, _ => rfl
  | 7, _ => rfl
theorem fl_tx {n : Nat} (hn : n < 64) : sideT (flS (n % 8)) ++ "-" ++ sideT (flS (n / 8)) = txN (flN n) := all63 (p := fun n => sideT (flS (n % 8)) ++ "-" ++ sideT (flS (n / 8)) = txN (flN n)) (by decide +kernel) hn
theorem fls_lt {i : Nat} (h : i < 8) : flS i < 8 := by unfold flS; omega
structure SidesK (K : PySem.W.Frag) (mg : Str → Option Value) (w : World) : Prop where
  ex : ∃ d es n, mg "_SIDES" = some (.ref d) ∧ KDict K w d es n ∧ KeysT es.toList sidesL
structure FlipK (K : PySem.W.Frag) (mg : Str → Option Value) : Prop where
  ex : ∃ t, mg "_FLIPPED_SIDES" = some (.ref t) ∧ KTup K t (flipL.map V.str)
structure KindsK (K : PySem.W.Frag) (CH : Addr) : Prop where
  ex : ∃ (t : Addr) (mc : Value), ClX.CRead K CH mc ∧ ClX.CVal K CH mc "KINDS" (.ref t) (.ref t) ∧ KTup K t (ordK.map V.str)
structure HD (X : Cx) (CH : Addr) (e : Expr) (σ : St) (H : Hp) (n : Nat) : Prop where
  run : ∀ H1, ExM M0 H H1 → ∀ Q : VK, (∀ h H2, Evl.Ex H1 H2 → HAt CH n H2 h → Q (.ref h) H2) → wE X e σ H1 Q
section
variable {X : Cx} {CH : Addr} {σ : St} {H H' : Hp} {a b e : Expr} {n m : Nat} {pos : Pos}
theorem HD.mono (h : HD X CH e σ H n) (x : ExM M0 H H') : HD X CH e σ H' n := ⟨fun H1 e1 Q q => h.run H1 (x.trans e1) Q q⟩
theorem HD.is (h : HD X CH e σ H n) (q : n = m) : HD X CH e σ H m := q ▸ h
theorem HAt.ex' {h : Addr} (a : HAt CH n H h) (x : Evl.Ex H H') : HAt CH n H' h := a.ex fun o => x _ _
theorem HAt.m0 {h : Addr} (a : HAt CH n H h) (x : ExM M0 H H') : HAt CH n H' h := a.exM x fun z => z
theorem ce_hd {Q : VK} (h : HD X CH e σ H n) (q : ∀ h H2, Evl.Ex H H2 → HAt CH n H2 h → Q (.ref h) H2) : wE X e σ H Q := h.run H (ExM.refl H) Q q
theorem hnm (i : Nat) {x : Str} {h : Addr} (r : HAt CH n H h) (hN : X.N[i]? = some x := by rfl) (hv : Vis X.env.scope x := by first | exact .inl rfl | exact .inr (.inl rfl) | exact .inr (.inr rfl)) (hs : σ[i]? = some (some (.ref h)) := by rfl) (hd : (x == ("__debug__" : Str)) = false := by decide)
    (hcd : (x == ("__classdict__" : Str)) = false := by decide) : HD X CH (.Name x pos) σ H n := ⟨fun H1 e1 Q q => ce_nm i (q h H1 (Evl.Ex.refl H1) (r.m0 e1)) hN hv hs hd hcd⟩
theorem pd_numH (B : HouC X.K CH) (h : HD X CH e σ H n) (hb : attributeBase e "number" X.env (eval e X.env) = eval e X.env := by rfl) : PD X M0 (.Attribute e "number" pos) σ H (.int (n : Nat)) := .mk fun H1 e1 al Q q => by
  refine ce_fld (h.run H1 e1 _ fun hh H2 x2 ho => ?_) hb
  obtain ⟨dx, e2⟩ := ho
  exact ⟨hh, CH, dx, _, _, rfl, e2, B.ins.cl, B.nN, rfl, q _ H2 x2 (.int _)⟩
theorem pd_txtH (B : HouC X.K CH) (h : HD X CH e σ H n) (hb : attributeBase e "text" X.env (eval e X.env) = eval e X.env := by rfl) : PD X M0 (.Attribute e "text" pos) σ H (.str (txN n)) := .mk fun H1 e1 al Q q => by
  refine ce_fld (h.run H1 e1 _ fun hh H2 x2 ho => ?_) hb
  obtain ⟨dx, e2⟩ := ho
  exact ⟨hh, CH, dx, _, _, rfl, e2, B.ins.cl, B.nT, rfl, q _ H2 x2 (.str _)⟩
end
section
variable {P : Program} {w : World} {K : PySem.W.Frag} {mg : Str → Option Value} {base : Heap}
/-! ### text_of_number -/
def R_ton (ds : List PyData) (d : PyData) : Prop := ∃ n : Nat, n < 64 ∧ ds = [.int (n : Nat)] ∧ d = .str (txN n)
theorem cl_text_of_number {f : Addr} {fd : FuncData} (F : At K mg "text_of_number" s_text_of_number f fd) (nb : NoB mg) (S : SidesK K mg w) : Cl P w K mg base CX0 1 "text_of_number" (PureR K R_ton) := by
  refine cl_pure F sc_text_of_number (F.fn.binds fun _ _ _ _ _ _ us hl => match us, hl with | [_], _ => rfl) (fun ds d h => ?_) (fun X cdv A outer s H Q E M vs ds d hX hr al r h q => ?_)
  · obtain ⟨n, _, rfl, _⟩ := h
    rfl
  · obtain ⟨n, hn, rfl, rfl⟩ := h
    obtain ⟨v, rfl, r1⟩ := rpa1 r
    cases r1
    subst hX
    obtain ⟨d, es, k, hm, D, kt⟩ := S.ex
    have h1 : n % 8 < 8 := Nat.mod_lt _ (by decide)
    have h2 : n / 8 < 8 := by omega
    refine b_cons (cs_set (i := 1) sc_text_of_number.nd rfl (.inl rfl) (ce_fd al (fd_listKD rfl rfl nb.list rfl hm D kt (by decide) (by decide)) fun l ws H2 hl x2 hl2 rl => ?_))
    have rl2 : Rp K M H2 (.ref l) (.list (sidesL.map PyData.str)) := .lst (al.fresh hl) (.inl hl2) rl
    have ixs : ∀ i, i < 8 → ixD (.list (sidesL.map PyData.str)) (.int (i : Nat)) = some (.str (sideT i)) := fun i hi => ixD_list (by rw [List.getElem?_map, sides_get hi]; rfl)
    have hl8 : ∀ i, i < 8 → (sideT i).length ≤ 3 := fun i hi => side_len (by omega)
    refine b_cons (s_ret (al.mono x2) (pd_addS (pd_addS (pd_ix (nm 1 rl2) (PD.is (pd_mod (nm 0 (.int (n : Nat))) (pd_int (i := 8)) (by decide)) (congrArg PyData.int (show (n : Int) % 8 = ((n % 8 : Nat) : Int) by omega))) (ixs _ h1)) pd_str ?_) (pd_ix (nm 1 rl2) (PD.is (pd_div (nm 0 (.int (n : Nat))) (pd_int (i := 8)) ⟨by decide, by decide⟩) (congrArg PyData.int (show (n : Int) / 8 = ((n / 8 : Nat) : Int) by omega))) (ixs _ h2)) ?_) fun v H3 x3 r3 => q v H3 (x2.trans x3) r3)
    · have := hl8 _ h1
      have e : ("-" : Str).length = 1 := by decide +kernel
      omega
    · have a1 := hl8 _ h1
      have a2 := hl8 _ h2
      have e : (sideT (n % 8) ++ "-").length ≤ 4 := all63 (p := fun n => (sideT (n % 8) ++ "-").length ≤ 4) (by decide +kernel) hn
      omega
end
end IK

namespace IK
open PySem PySem.Spec PyProof.Rows L2 GV
/-! ### the methods of a house -/
section
variable {X : Cx} {CH : Addr} {σ : St} {H H' : Hp} {a b e : Expr} {n m : Nat} {pos : Pos}
end
abbrev toFr (K : PySem.W.Frag) (ds : List PyData) (H : Hp) (Q : VK) : Prop := ∀ p ws H', H p = none → Evl.Ex H H' → H' p = some (.lst ws) → RpAll K M0 H' ws ds → Q (.ref p) H'
abbrev toHo (CH : Addr) (n : Nat) (H : Hp) (Q : VK) : Prop := ∀ h H', Evl.Ex H H' → HAt CH n H' h → Q (.ref h) H'
section
variable {P : Program} {w : World} {K : PySem.W.Frag} {mg : Str → Option Value} {base : Heap}
end
end IK

/-! lists of texts walked by comprehensions, a dict of four texts, the index of a text -/
namespace GV
open PySem PySem.Spec PyProof.Rows L2
def strP (p : Str → Bool) : PyData → Bool
  | .str x => p x
  | _ => false
def strF (g : Str → PyData) : PyData → PyData
  | .str x => g x
  | d => d
theorem strs_filter (p : Str → Bool) (g : Str → PyData) (l : List Str) : ((l.map PyData.str).filter (strP p)).map (strF g) = (l.filter p).map g := by
  rw [List.filter_map, List.map_map]
  rfl
section
variable {X : Cx} {M : Addr → Prop} {σ : St} {H : Hp} {a b e o tg iter tst : Expr} {pos : Pos}
/-- [elt for x in a list of texts if test] -/
theorem fd_filterS {i : Nat} {elt : Expr} {scope : Scope} {own : List (Str × Nat)} {l : List Str} (p : Str → Bool) (g : Str → PyData) (hc : X.calm = true) (hN : X.N.Nodup) (hi : PD X M iter σ H (.list (l.map PyData.str))) (ok : BlkOk X.N X.env.scope scope own)
    (hg : ∀ s H C cl fp, PG (Cx.lc X s H scope C cl fp) tg (gName i)) (hl : l.length ≤ 100000)
    (body : ∀ s0 H0 C cl fp M' H' y, (∀ a, M a → M' a) → (∀ v e, Rp X.K M H v e → Rp X.K M' H' v e) → (∀ a o, ¬ M a → NT o → H a = some o → H' a = some o ∧ ¬ M' a) → y ∈ l →
      TD (Cx.lc X s0 H0 scope C cl fp) M' tst ((wipe σ (own.map (·.2))).set i (some (.str y))) H' (p y) ∧ PD (Cx.lc X s0 H0 scope C cl fp) M' elt ((wipe σ (own.map (·.2))).set i (some (.str y))) H' (g y))
    (hw : ∀ v, wipe ((wipe σ (own.map (·.2))).set i v) (own.map (·.2)) = wipe σ (own.map (·.2)) := by intro _; rfl) (hs : ∀ x, foldedSetIterable iter X.env x = pure x := by intro _; rfl) : FD X M (.ListComp elt [⟨tg, iter, [tst], 0⟩] scope pos) σ H ((l.filter p).map g) := by
  rw [← strs_filter p g l]
  refine fd_filterO (t := .one i) (strP p) (strF g) hc hN (src_list hi) ok hg (fun _ _ => trivial) ?_ (by rw [List.length_map]; exact hl) ?_ hs
  · rintro M H d σ' ⟨v, _, rfl⟩
    exact hw _
  · rintro s0 H0 C cl fp M' H' d σ' hM lift kp hd ⟨v, rv, rfl⟩
    obtain ⟨y, hy, rfl⟩ := List.mem_map.mp hd
    cases rv
    exact body s0 H0 C cl fp M' H' y hM lift kp hy
/-- [elt for x in a list of texts] -/
theorem fd_mapS {i : Nat} {elt : Expr} {scope : Scope} {own : List (Str × Nat)} {l : List Str} (g : Str → PyData) (hc : X.calm = true) (hN : X.N.Nodup) (hi : PD X M iter σ H (.list (l.map PyData.str))) (ok : BlkOk X.N X.env.scope scope own)
    (hg : ∀ s H C cl fp, PG (Cx.lc X s H scope C cl fp) tg (gName i)) (hl : l.length ≤ 100000)
    (body : ∀ s0 H0 C cl fp M' H' y, (∀ a, M a → M' a) → (∀ v e, Rp X.K M H v e → Rp X.K M' H' v e) → (∀ a o, ¬ M a → NT o → H a = some o → H' a = some o ∧ ¬ M' a) → y ∈ l →
      PD (Cx.lc X s0 H0 scope C cl fp) M' elt ((wipe σ (own.map (·.2))).set i (some (.str y))) H' (g y))
    (hw : ∀ v, wipe ((wipe σ (own.map (·.2))).set i v) (own.map (·.2)) = wipe σ (own.map (·.2)) := by intro _; rfl) (hs : ∀ x, foldedSetIterable iter X.env x = pure x := by intro _; rfl) : FD X M (.ListComp elt [⟨tg, iter, [], 0⟩] scope pos) σ H (l.map g) := by
  have e : l.map g = ((l.map PyData.str).filter fun _ => true).map (strF g) := by
    rw [filt_all, List.map_map]
    rfl
  rw [e]
  refine fd_lcO (t := .one i) hc hN (src_list hi) ok hg (fun _ _ => trivial) ?_ (fun _ => true) (strF g) (by rw [List.length_map]; exact hl) ?_ hs
  · rintro M H d σ' ⟨v, _, rfl⟩
    exact hw _
  · rintro s0 H0 C cl fp M' H' d σ' hM lift kp hd ⟨v, rv, rfl⟩
    obtain ⟨y, hy, rfl⟩ := List.mem_map.mp hd
    cases rv
    exact ⟨tsd_nil, fun _ => body s0 H0 C cl fp M' H' y hM lift kp hy⟩
theorem td_ninS {x : Str} {ns : List Str} (ha : PD X M a σ H (.str x)) (hb : PD X M b σ H (.list (ns.map PyData.str))) (hk : behindInMarks .NotIn b = false := by rfl) : TD X M (.Compare a [.NotIn] [b] pos) σ H (!decide (x ∈ ns)) :=
  td_cmpR op_notIn_seq hk (fun u v H1 ru rv _ Q q => by
    cases ru
    cases rv with
    | lst m hs rs =>
      have all : (ns.map V.str).all flatV = true := by
        rw [List.all_map, List.all_eq_true]
        exact fun _ _ => rfl
      rw [rs.of_strs] at hs
      refine ⟨_, _, rfl, .inl (.inl hs), rfl, all, ?_⟩
      show Q (.bl (!inV (.str x) (ns.map V.str))) H1
      rw [inV_strs]
      exact q _ H1 (Evl.Ex.refl H1) (.bl _)) ha hb
/-- o.index(e), a text that is there -/
theorem pd_indexS {apos cpos : Pos} {ns : List Str} {k : Str} {j : Nat} (ho : PD X M o σ H (.list (ns.map PyData.str))) (he : PD X M e σ H (.str k)) (hj : ns[j]? = some k) (hf : ∀ m z, m < j → ns[m]? = some z → z ≠ k)
    (h1 : attributeBase o ("index" : Str) X.env (eval o X.env) = eval o X.env := by rfl)
    (h2 : ((((backTo cpos (starEach (e :: []) X.env)).all fun x => !x.1) && (backToKw cpos (keywordEach [] X.env)).all fun x => x.1.isSome) && decide (((e :: []).length + ([] : List Keyword).length + if ([] : List Keyword).isEmpty = true then 0 else 1) < 30)) = true := by rfl)
    (h3 : (apos.endLine == cpos.line) = true := by rfl) (h4 : starEach (e :: []) X.env = (false, eval e X.env) :: starEach [] X.env := by rfl) (h5 : (backTo cpos (starEach [] X.env)).any (·.1) = false := by rfl) :
    PD X M (.Call (.Attribute o "index" apos) [e] [] cpos) σ H (.int (j : Nat)) := .mk fun H1 e1 al Q q => by
  refine ⟨_, pe_bm PySem.F.plainAttrs_list PySem.F.slot_list_index PySem.F.type_list_index mt_index wE.pe (pa_cons wE.pe pa_nil h4) h1 h2 h3 h4 h5, ?_⟩
  refine ho.run H1 e1 al _ fun x H2 x2 r => ?_
  cases r with
  | lst m hs rs =>
    refine ⟨.inl ⟨rfl, _, .inl hs⟩, he.run H2 (e1.trans (.of x2)) (al.mono x2) _ fun y H3 x3 ry => ?_⟩
    cases ry
    have hs3 := GV.Rd.exM hs m (.of x3)
    have ev := rs.of_strs
    subst ev
    refine ⟨_, _, _, j, .str k, rfl, rfl, .inl hs3, rfl, ?_, ?_, ?_, ?_, q _ H3 (x2.trans x3) (.int _)⟩
    · rw [List.all_eq_true]
      intro v hv
      obtain ⟨z, _, rfl⟩ := List.mem_map.mp hv
      rfl
    · rw [List.getElem?_map, hj]
      rfl
    · simp [eqV]
    · intro m z hm hz
      rw [List.getElem?_map] at hz
      obtain ⟨u, hu, rfl⟩ := Option.map_eq_some_iff.mp hz
      simpa [eqV] using hf m u hm hu
/-- {k: v, ..} of four texts -/
theorem ce_dict4 {k1 k2 k3 k4 v1 v2 v3 v4 : Str} {t1 t2 t3 t4 u1 u2 u3 u4} {p1 p2 p3 p4 q1 q2 q3 q4 : Pos} {kvs : List (Key × V)} {Q : VK} (hk : kvs = mergeK [] [(.inr k1, .str v1), (.inr k2, .str v2), (.inr k3, .str v3), (.inr k4, .str v4)]) (h : ∀ p, H p = none → Q (.ref p) (upd H p (.dK kvs))) :
    wE X (.Dict [some (.Constant (.str k1) t1 p1), some (.Constant (.str k2) t2 p2), some (.Constant (.str k3) t3 p3), some (.Constant (.str k4) t4 p4)] [.Constant (.str v1) u1 q1, .Constant (.str v2) u2 q2, .Constant (.str v3) u3 q3, .Constant (.str v4) u4 q4] pos) σ H Q := by
  refine ⟨_, pe_disp (pps_cons pe_str pe_str (pps_cons pe_str pe_str (pps_cons pe_str pe_str (pps_cons pe_str pe_str pps_nil)))) rfl rfl (by simp) (by show 4 ≤ 15; decide), fun p hp => ?_⟩
  refine ⟨upd_same, [(.inr k1, .str v1), (.inr k2, .str v2), (.inr k3, .str v3), (.inr k4, .str v4)], rfl, by show 4 ≤ 15; decide, ?_⟩
  rw [← hk]
  have e : upd (upd H p (.dK [])) p (.dK kvs) = upd H p (.dK kvs) := by
    funext x
    by_cases hx : x = p
    · subst hx
      rw [upd_same, upd_same]
    · rw [upd_ne hx, upd_ne hx, upd_ne hx]
  rw [e]
  exact h p hp
/-- d[e], d a dict of texts in slot i -/
theorem pd_ixD {i : Nat} {x k z : Str} {d : Addr} {kvs : List (Key × V)} {p : Pos} (hu : X.A.units + 1 < cLine) (hd : H d = some (.dK kvs)) (m : ¬ M d) (hb : PD X M b σ H (.str k)) (hv : valV kvs (Sum.inr k) = some (.str z)) (hN : X.N[i]? = some x := by rfl)
    (hvis : Vis X.env.scope x := by first | exact .inl rfl | exact .inr (.inl rfl) | exact .inr (.inr rfl)) (hs : σ[i]? = some (some (.ref d)) := by rfl) (hdb : (x == ("__debug__" : Str)) = false := by decide) (hcd : (x == ("__classdict__" : Str)) = false := by decide) (hsl : NoSl b := by exact fun _ _ => rfl) :
    PD X M (.Subscript (.Name x p) b pos) σ H (.str z) := .mk fun H1 e1 al Q q =>
  ⟨_, pe_dget hu wE.pe wE.pe hsl, ce_nm i (hb.run H1 e1 al _ fun v H2 x2 r => by
    cases r
    have h2 : H2 d = some (.dK kvs) := x2 _ _ (e1 _ _ hd m fun _ z => by cases z)
    exact ⟨d, .str z, rfl, .inl ⟨kvs, .inr k, .inl h2, rfl, hv.symm⟩, q _ H2 x2 (.str z)⟩) hN hvis hs hdb hcd⟩
end
end GV

/-! isinstance of an error with attributes, of one of two classes -/
namespace GV
open PySem PySem.Spec PyProof.Rows L2
theorem call_isEdT {X : Cx} {a D dd : Addr} {oe : Obj} {fs : List (Str × V)} {pn : List (Addr × Obj)} (C : ExcC X.K D) (hz : Zc (.ref D) (some dd) oe) (hf : ∃ vs, oe.data = .fields vs) :
    CallR (X.suite a ((a, oe) :: pn)) (.builtin "isinstance") (fun xs H Q => ∃ (tp c1 c2 : Addr) (b : Bool), xs = [.ref a, .ref tp] ∧ H dd = some (.xd fs) ∧ H tp = some (.tup [.ref c1, .ref c2]) ∧ PySem.W.kitAny X.K (.ref D) [.ref c1, .ref c2] = some b ∧ Q (.bl b) H) := by
  intro pins s σ H xs us Q J r h
  obtain ⟨tp, c1, c2, b, rfl, hdd, htp, e, q⟩ := h
  obtain ⟨u1, u2, rfl, rx, rt⟩ := vals2 r
  cases rx
  cases rt
  have ha := (J.pin (a, oe) (List.mem_append.mpr (.inl (List.mem_cons_self ..)))).1
  obtain ⟨mA, hns, _⟩ := (show ObjOk X.prog X.w H s.heap dd (.xd fs) from J.hok dd _ hdd)
  obtain ⟨od, ho, _⟩ := lookIn_ns hns
  obtain ⟨vs, hv⟩ := hf
  have no : PySem.W.notCls oe = true := by
    unfold PySem.W.notCls
    rw [hv] <;> rfl
  have at_ : PySem.W.InstAt s.heap a oe D (some od) := ⟨ha, hz.1, no, by rw [hz.2]; exact ho⟩
  have hcl : (PySem.W.clsIn X.K D).isSome = true := by
    obtain ⟨cd, hc, _⟩ := PySem.W.any_some C.hd
    rw [hc]
    rfl
  obtain ⟨_, its, rv, o, h1, h2, n, h3⟩ := (show ObjOk X.prog X.w H s.heap tp (.tup [.ref c1, .ref c2]) from J.hok tp _ htp)
  have e3 := ClsV.all (.cons (.own c1) (.cons (.own c2) .nil)) rv
  subst e3
  obtain ⟨oc, od', dt, sl⟩ := o
  simp only at h2 h3
  subst h2 h3
  exact PySem.W.kia_tup (PySem.W.kitx_exc hcl C.hg C.hk C.hs C.ha C.hn C.ht C.hm) J.kIn at_ h1 e (fun z => nomatch z) fun tk => ⟨.bl b, H, J.kept (t' := tk) fun _ _ z => z, rfl, q⟩
end GV

/-! a name of its own for a comprehension over texts -/
namespace GV
open PySem PySem.Spec PyProof.Rows L2
section
variable {X : Cx} {M : Addr → Prop} {σ : St} {H : Hp} {a b e o tg iter tst : Expr} {pos : Pos}
/-- y = [elt for x in a list of texts if test] -/
theorem s_filterS {i j : Nat} {y : Str} {py spos : Pos} {D : Ends} {elt : Expr} {scope : Scope} {own : List (Str × Nat)} {l : List Str} (p : Str → Bool) (g : Str → PyData) (al : Alive M H) (hc : X.calm = true) (hN : X.N.Nodup) (hy : X.N[j]? = some y) (hyl : X.env.scope.names.lookup y = some .local) (hi : PD X M iter σ H (.list (l.map PyData.str))) (ok : BlkOk X.N X.env.scope scope own)
    (hg : ∀ s H C cl fp, PG (Cx.lc X s H scope C cl fp) tg (gName i)) (hl : l.length ≤ 100000)
    (body : ∀ s0 H0 C cl fp M' H' y, (∀ a, M a → M' a) → (∀ v e, Rp X.K M H v e → Rp X.K M' H' v e) → y ∈ l →
      TD (Cx.lc X s0 H0 scope C cl fp) M' tst ((wipe σ (own.map (·.2))).set i (some (.str y))) H' (p y) ∧ PD (Cx.lc X s0 H0 scope C cl fp) M' elt ((wipe σ (own.map (·.2))).set i (some (.str y))) H' (g y))
    (q : ∀ l' ws H2, H l' = none → Evl.Ex H H2 → H2 l' = some (.lst ws) → RpAll X.K M H2 ws ((l.filter p).map g) → D.nx (σ.set j (some (.ref l'))) H2)
    (hsw : swapsWith (.ListComp elt [⟨tg, iter, [tst], 0⟩] scope pos) (some (.Name y py)) spos.line X.env = pure true := by rfl) (hw : ∀ v, wipe ((wipe σ (own.map (·.2))).set i v) (own.map (·.2)) = wipe σ (own.map (·.2)) := by intro _; rfl) (hs : ∀ x, foldedSetIterable iter X.env x = pure x := by intro _; rfl) :
    wS X (.Assign [.Name y py] (.ListComp elt [⟨tg, iter, [tst], 0⟩] scope pos) spos) D σ H := by
  refine s_setLc (t := .one i) hc hN (src_list hi) ok hg (fun _ _ => trivial) ?_ (strP p) (strF g) (by rw [List.length_map]; exact hl) ?_ al hy hyl hsw (fun l' ws H2 h1 h2 h3 h4 => q l' ws H2 h1 h2 h3 (by rw [← strs_filter p g l]; exact h4)) hs
  · rintro M H d σ' ⟨v, _, rfl⟩
    exact hw _
  · rintro s0 H0 C cl fp M' H' d σ' hM lift hd ⟨v, rv, rfl⟩
    obtain ⟨y, hy, rfl⟩ := List.mem_map.mp hd
    cases rv
    obtain ⟨h1, h2⟩ := body s0 H0 C cl fp M' H' y hM lift hy
    exact ⟨tsd_one h1, fun _ => h2⟩
end
end GV

/-! defs that are told what reprs are under way: the guards of the frame, whatever they are -/
namespace GV
open PySem PySem.Spec PyProof.Rows L2
/-- what holds whatever is under way -/
theorem codeAny_G {M : Model} {A : Around} {c : Code} {R : Result → Shared → Prop} {s : Shared} (h : ∀ G, codeAny M { A with guards := some G } c R s) : codeAny M A c R s :=
  fun Γ p hc hb => h (guardsOf Γ.below) Γ p hc ⟨hb.1, hb.2.1, hb.2.2.1, fun g e => Option.some.inj e, hb.2.2.2.2⟩
/-- a def that is told what is under way -/
structure FnG (G : List Code) (P : Program) (w : World) (K : PySem.W.Frag) (mg : Str → Option Value) (base : Heap) (CX : CXT) (k : Nat) (f : Addr) (fd : FuncData) (ps : List Str) (sp : Sp) : Prop where
  len : ∀ vs H Q E, sp vs H Q E → vs.length = ps.length
  run : ∀ (A : Around) (outer : List Env) (s : Shared) (H : Hp) (args : Args) (us : List Value) (vs : List V) (Q : VK) (E : XK), A.guards = some G → Room k A → Env0 P w K mg base A outer s H → BindsTo s fd args (ps.zip us) → Vals vs us → sp vs H Q E →
    codeAny (model P w) A (.call (.ref f) args) (CR CX outer P w H s Q E) s
section
variable {P : Program} {w : World} {K : PySem.W.Frag} {mg : Str → Option Value} {base : Heap}
theorem fnOk_ofG {CX : CXT} {k : Nat} {f : Addr} {fd : FuncData} {ps : List Str} {sp : Sp} (h : ∀ G, FnG G P w K mg base CX k f fd ps sp) : FnOk P w K mg base CX k f fd ps sp :=
  ⟨(h []).len, fun A outer s H args us vs Q E hr e0 hb hv hs => codeAny_G fun G => (h G).run { A with guards := some G } outer s H args us vs Q E rfl ⟨hr.hd, hr.dp, hr.un⟩ ⟨e0.frames, e0.mod, e0.bs, e0.bsz, e0.funs, e0.frf, e0.hok, e0.bare⟩ hb hv hs⟩
theorem fn_ofG {G : List Code} {CX : CXT} {k : Nat} {f : Addr} {name qual : Str} {params : Arguments} {rows : List Stmt} {scope : Scope} {dV kV doc pm cdv ct oc : Value} {an od : Option Addr} {osl : Array (Option Value)} {N ps : List Str} {sp : Sp}
    (lk : K.lookup f = some ⟨oc, od, .func (PySem.W.fnOf name qual params rows scope dV kV doc pm an cdv ct), osl⟩) (hcd : PySem.W.codeIn K cdv qual = true) (S : FnScope N ps scope) (len : ∀ vs H Q E, sp vs H Q E → vs.length = ps.length)
    (body : ∀ (A : Around) (outer : List Env) (s : Shared) (H : Hp) (vs : List V) (Q : VK) (E : XK), A.guards = some G → Room k (A.deeper (envOfC qual scope s.heap.objs.size f cdv)) → sp vs H Q E →
      ∃ t, PSs (cxOf CX P w K mg base N qual scope f cdv A outer s H E) rows t ∧ t { nx := fun _ H' => Q .non H', rt := Q } (L2.start N vs) H) : FnG G P w K mg base CX (k + 1) f (PySem.W.fnOf name qual params rows scope dV kV doc pm an cdv ct) ps sp := by
  refine ⟨len, fun A outer s H args us vs Q E hG room env bind vals promise => ?_⟩
  have kept : ∀ b o, base.get? b = some o → s.heap.get? b = some o := fun b o z => (env.bs b o z).1
  have inK : K.In s.heap := env.mod.kin.keeps kept
  have sorts : ∀ y ∈ ps.zip us, scope.names.lookup y.1 = some .local ∨ (scope.names.lookup y.1 = some .cell ∧ ((cellsFrom (s.heap.objs.size + 1) scope.names []).lookup y.1).isSome = true) := by
    rintro ⟨n, v⟩ hy
    cases S.par n (List.of_mem_zip hy).1 with
    | inl z => exact .inl z
    | inr z => exact .inr ⟨z, PySem.W.cellsFrom_some _ _ _ (.inl z)⟩
  refine codeAny_call_function room.depth (inK _ _ lk) rfl S.co S.gen rfl (PySem.W.codeRec_of inK hcd) (bind _ _ _ _ ?_)
  refine wpAny_newFunctionEnv_cells S.kind sorts fun en e1 s1 made => ?_
  subst e1
  refine ⟨(env.mod.nolimit.keeps kept).keeps made.toInCall.keep, codeAny_func ?_⟩
  obtain ⟨t, reads, holds⟩ := body A outer s H vs Q E hG (room.deeper _) promise
  refine wpAny_mono (reads.run [] s1 (L2.start N vs) H _ (inv_start S room.hd env (len _ _ _ _ promise) vals made) holds) (fun fl s2 got => ?_) fun _ _ z => z
  cases fl with
  | ret u =>
    obtain ⟨v, τ, H2, J, rv, q⟩ := got
    exact ⟨v, H2, J.os, J.bare, J.base, J.hok, rv, q⟩
  | next =>
    obtain ⟨τ, H2, J, q⟩ := got
    exact ⟨V.non, H2, J.os, J.bare, J.base, J.hok, rfl, q⟩
  | brk =>
    obtain ⟨_, _, _, no⟩ := got
    exact no.elim
  | cont =>
    obtain ⟨_, _, _, no⟩ := got
    exact no.elim
theorem okG {G : List Code} {x qual : Str} {st : Stmt} {f : Addr} {fd : FuncData} {N ps : List Str} {k : Nat} {sp : Sp} (F : Fun K x qual st f fd) (S : FnScope N ps (defScope st)) (len : ∀ vs H Q E, sp vs H Q E → vs.length = ps.length)
    (body : ∀ (cdv : Value) (A : Around) (outer : List Env) (s : Shared) (H : Hp) (vs : List V) (Q : VK) (E : XK), A.guards = some G → Room k (A.deeper (envOfC qual (defScope st) s.heap.objs.size f cdv)) → sp vs H Q E →
      wB (cxOf CX0 P w K mg base N qual (defScope st) f cdv A outer s H E).nox (defBody st) { nx := fun _ H' => Q .non H', rt := Q } (L2.start N vs) H) : FnG G P w K mg base CX0 (k + 1) f fd ps sp := by
  obtain ⟨oc, od, kV, doc, pm, an, cdv, ct, osl, rfl, lk, hcd⟩ := F.ex
  exact fn_ofG lk hcd S len fun A outer s H vs Q E hG hr hs => ⟨_, PSs.nox wB.ps, body cdv A outer s H vs Q E hG hr hs⟩
structure ClG (G : List Code) (P : Program) (w : World) (K : PySem.W.Frag) (mg : Str → Option Value) (base : Heap) (k : Nat) (x : Str) (sp : Sp) : Prop where
  ex : ∃ (f : Addr) (fd : FuncData) (ps : List Str), FnG G P w K mg base CX0 k f fd ps sp ∧ mg x = some (.ref f) ∧ PySem.W.keepIn K (.ref f) = true ∧ Binds K fd ps []
end
section
variable {X : Cx} {σ : St} {H : Hp} {e : Expr} {es : List Expr} {pos : Pos}
theorem ce_callG {G : List Code} {sp : Sp} {Q : VK} {j k : Nat} {x : Str} {p : Pos} (cl : ClG G X.prog X.w X.K X.mg X.base k x sp) (hG : X.A.guards = some G) (hr : Room j X.A) (hkj : k ≤ j) (hg : Gl X x) (h : wA X (e :: es) σ H fun vs H2 => sp vs H2 Q E0)
    (hdb : (x == ("__debug__" : Str)) = false := by decide) (he : starEach (e :: es) X.env = (false, eval e X.env) :: starEach es X.env := by rfl) (hpl : (backTo pos (starEach es X.env)).any (·.1) = false := by rfl) : wE X (.Call (.Name x p) (e :: es) [] pos) σ H Q := by
  obtain ⟨f, fd, ps, F, hm, hk, hb⟩ := cl.ex
  refine ⟨fun σ H Q => wA X (e :: es) σ H fun vs H2 => sp vs H2 Q E0, ⟨fun pins s σ H Q I h => ?_⟩, h⟩
  refine wpAny_Call_Name_kw (ld_glob I hg hm ?_ hdb)
  refine PySem.W.callWith_K (h₀ := X.base) I.ok.mod.kin hk (thn (wA.pa.run pos pins s σ H _ I h) fun us s2 ⟨vs, H2, I2, rv, q2⟩ => ⟨I2.kIn, ?_⟩) he hpl
  have same : us.length = ps.length := rv.length.symm.trans (F.len _ _ _ _ q2)
  have bt := hb s2 us I2.kIn (by rw [List.append_nil]; exact same)
  rw [List.append_nil] at bt
  refine wpAny_call (codeAny_mono (F.run X.A X.stack s2 H2 ⟨us, []⟩ us vs Q E0 hG (hr.mono hkj) I2.env0 bt rv q2) fun r s' got => ?_)
  cases r with
  | error _ => exact got.elim
  | ok fl =>
    cases fl with
    | ret u => exact I2.after got
    | next => exact False.elim got
    | brk => exact False.elim got
    | cont => exact False.elim got
end
end GV

/-! repr of lists, tuples, dicts, whatever is under way -/
namespace PySem
open Sem
/-- list.__repr__'s question -/
def gvLstWay (self : Value) : Code × Pos → Bool := fun
  | (.builtin "list.__repr__.loop" ⟨v :: _, _⟩, _) => Builtin.List.listSameRef v self
  | _ => false
theorem gvLstWay_pos (self : Value) (c : Code) (p : Pos) : gvLstWay self (c, p) = gvLstWay self (c, default) := by
  unfold gvLstWay
  split
  · next v rest kw q heq =>
    cases heq
    rfl
  · next hne =>
    split
    · next v rest kw q heq =>
      cases heq
      exact (hne _ _ _ _ rfl).elim
    · rfl
theorem gvLstWay_off (self : Value) (c : Code) (p : Pos) (hc : c.isGuard = false) : gvLstWay self (c, p) = false := by
  unfold gvLstWay
  split
  · next v rest kw _ heq =>
    cases heq
    simp [Code.isGuard, guardIds] at hc
  · rfl
section
variable {prog : Program} {w : World} {A : Around} {E : Value → Shared → Prop} {s : Shared} {a : Addr} {o : Obj} {n : Nat} {g : List Code}
theorem gv_lst_own {M : Model} {c : Code} {x : Value} {l : List Value} {Q : Fin → Shared → Prop} (hg : A.guards = some g) (ha : s.heap.get? a = some o) (hd : o.data = .seq (x :: l).toArray n) (hw : (g.any fun c => gvLstWay (.ref a) (c, default)) = true)
    (h : Q (.done (.ret (.str "[...]" s.toks))) { s with toks := s.toks + 1 }) : wpOwn M A c (Builtin.listReprAt 0 ⟨[.ref a], []⟩) Q E s := by
  intro Γ p hc hΓ
  have hb : Γ.below.any (gvLstWay (.ref a)) = true := by
    rw [any_eq_guards (gvLstWay_off _) (gvLstWay_pos _), hΓ.2.2.2.1 g hg]
    exact hw
  unfold Builtin.listReprAt
  simp [slotArgs, Builtin.List.listItems, seqItems?, wp_load_of (h := ha), hd, stack]
  show wp M Γ (if Γ.below.any (gvLstWay (.ref a)) = true then _ else _) _ _ p s
  rw [if_pos hb]
  simp [rule, retStr, ret]
  exact h
/-- repr of a list of one text -/
theorem gv_repr_lst {x : Str} {t : Tok} {Q : Value → Shared → Prop} (hu : A.units + 1 < cLine) (hg : A.guards = some g) (ha : s.heap.get? a = some o) (hc : o.cls = .type "list") (hd : o.data = .seq [Value.str x t].toArray n) (hz : (listText [reprText x]).length ≤ sizeLine) (hz1 : (reprText x).length ≤ sizeLine)
    (h : ∀ h' u tk, (∀ b o, s.heap.get? b = some o → h'.get? b = some o) → Q (.str (if (g.any fun c => gvLstWay (.ref a) (c, default)) = true then "[...]" else listText [reprText x]) u) { s with heap := h', toks := tk }) : wpAny (model prog w) A (call (.builtin "repr") [.ref a]) Q E s := by
  have hTy : s.TypeIs (.ref a) "list" := ⟨o, ha, hc⟩
  refine call_repr_slot hu hTy F.slot_list_repr.toG ?_
  by_cases hw : (g.any fun c => gvLstWay (.ref a) (c, default)) = true
  · refine wpAny_call (codeAny_call_builtin_own (Code.quiet_builtin _ (by decide +kernel)) F.entry_list_repr (F.slot_list_repr.check _ _ _ _ _ _ _ _ hTy (F.args_list_repr_1 _) (gv_lst_own (A := A.in1) hg ha hd hw ⟨_, _, rfl, ?_⟩)))
    have := h s.heap s.toks (s.toks + 1) fun b o z => z
    rw [if_pos hw] at this
    exact this
  · refine call_list_repr (ts := [reprText x]) hTy hg (fun v rest kw hm => ?_) ha hd rfl (fun i y hy => ?_) (fun h' u tk hk => ⟨_, _, rfl, ?_⟩) hz
    · cases hv : Builtin.List.listSameRef v (.ref a) with
      | false => rfl
      | true => exact absurd (List.any_eq_true.mpr ⟨_, hm, hv⟩) hw
    · match i, hy with
      | 0, hy =>
        cases hy
        exact ⟨_, rfl, ReprIs.str x t hz1⟩
    · have := h h' u tk hk
      rw [if_neg hw] at this
      exact this
/-- repr of a tuple of one text -/
theorem gv_repr_tup {x : Str} {t : Tok} {Q : Value → Shared → Prop} (hu : A.units + 1 < cLine) (hg : A.guards = some g) (ha : s.heap.get? a = some o) (hc : o.cls = .type "tuple") (hd : o.data = .seq [Value.str x t].toArray n) (hz : (tupleText [reprText x]).length ≤ sizeLine) (hz1 : (reprText x).length ≤ sizeLine)
    (h : ∀ u tk, Q (.str (if (g.any fun c => tupGuardF (.ref a) (c, default)) = true then "(...)" else tupleText [reprText x]) u) { s with toks := tk }) : wpAny (model prog w) A (call (.builtin "repr") [.ref a]) Q E s := by
  have hTy : s.TypeIs (.ref a) "tuple" := ⟨o, ha, hc⟩
  refine call_repr_slot hu hTy F.slot_tuple_repr ?_
  by_cases hw : (g.any fun c => tupGuardF (.ref a) (c, default)) = true
  · refine wpAny_call (codeAny_call_builtin_own (Code.quiet_builtin _ (by decide +kernel)) F.entry_tuple_repr (F.slot_tuple_repr.check _ _ _ _ _ _ _ _ hTy (F.args_tuple_repr_1 _) ?_))
    show wpOwn _ _ _ (Builtin.tupleReprAt 0 ⟨[.ref a], []⟩) _ _ s
    rw [tuple_repr_tree, tupleReprUnderWay_eq]
    refine wpOwn_bind (wpOwn_stackTailAny (A := A.in1) hg (tupGuardF_off _) (tupGuardF_pos _) ?_)
    rw [hw]
    refine wpOwn_of_wpAny (PySem.W.KFB.if_so rfl ?_)
    refine wpAny_bind (wpAny_rule (wpAny_bind (wpAny_mkStr (wpAny_pure ⟨_, _, rfl, ?_⟩) (by decide +kernel))))
    have := h s.toks (s.toks + 1)
    rw [if_pos hw] at this
    exact this
  · refine call_tuple_repr (ts := [reprText x]) hTy hg (fun c hm => ?_) ha hd (.cons (ReprIs.str x t hz1) .nil) (fun u tk => ⟨_, _, rfl, ?_⟩) hz
    · cases hv : tupGuardF (.ref a) (c, default) with
      | false => rfl
      | true => exact absurd (List.any_eq_true.mpr ⟨c, hm, hv⟩) hw
    · have := h u tk
      rw [if_neg hw] at this
      exact this
/-- repr of an empty dict -/
theorem gv_repr_dict0 {Q : Value → Shared → Prop} (hu : A.units + 2 < cLine) (hg : A.guards = some g) (ha : s.heap.get? a = some o) (hc : o.cls = .type "dict") (hd : o.data = .dict #[] n) (hs : (a == sysModules) = false)
    (h : ∀ u tk, Q (.str (if (g.any fun c => dictGuardF (.ref a) (c, default)) = true then "{...}" else "{}") u) { s with toks := tk }) : wpAny (model prog w) A (call (.builtin "repr") [.ref a]) Q E s := by
  have hTy : s.TypeIs (.ref a) "dict" := ⟨o, ha, hc⟩
  refine call_repr_slot (by omega) hTy F.slot_dict_repr ?_
  refine wpAny_call (codeAny_call_builtin_own (Code.quiet_builtin _ (by decide +kernel)) F.entry_dict_repr (F.slot_dict_repr.check _ _ _ _ _ _ _ _ hTy (F.args_dict_repr_1 _) ?_))
  show wpOwn _ _ _ (Builtin.dictReprAt 0 ⟨[.ref a], []⟩) _ _ s
  unfold Builtin.dictReprAt
  refine wpOwn_bind (wpOwn_of_wpAny ?_)
  unfold Builtin.Dict.dictSlotNone
  refine wpAny_bind (wpAny_notOrdered_dict hTy ?_)
  show wpAny _ _ (Pure.pure (Value.ref a)) _ _ s
  refine wpAny_pure ?_
  rw [dictReprRunning_eq]
  refine wpOwn_bind (wpOwn_stackTailAny (A := A.in1) hg (dictGuardF_off _) (dictGuardF_pos _) ?_)
  by_cases hw : (g.any fun c => dictGuardF (.ref a) (c, default)) = true
  · rw [hw]
    refine wpOwn_of_wpAny (PySem.W.KFB.if_so rfl ?_)
    refine wpAny_bind (wpAny_rule (wpAny_bind (wpAny_mkStr (wpAny_pure ⟨_, _, rfl, ?_⟩) (by decide +kernel))))
    have := h s.toks (s.toks + 1)
    rw [if_pos hw] at this
    exact this
  · rw [Bool.eq_false_iff.mpr hw]
    refine wpOwn_of_wpAny (PySem.W.KFB.if_not rfl ?_)
    refine wpAny_bind (m := Builtin.Dict.addrOf (.ref a)) (wpAny_pure ?_)
    refine wpAny_bind (m := Builtin.Dict.showsAll a) ?_
    unfold Builtin.Dict.showsAll
    rw [if_neg (by rw [hs]; exact Bool.false_ne_true)]
    refine wpAny_pure (wpAny_bind (wpAny_dictEpoch ha hd (wpAny_bind (wpAny_dictEntries ha hd (wpAny_bind ?_)))))
    rw [Std.Legacy.Range.forIn_eq_forIn_range']
    refine wpAny_pure (wpAny_bind (wpAny_mkStr (wpAny_pure ⟨_, _, rfl, ?_⟩) (by decide +kernel)))
    have := h s.toks (s.toks + 1)
    rw [if_neg hw] at this
    exact this
end
end PySem

namespace GV
open PySem PySem.Spec PyProof.Rows L2
/-- what repr of a plain value gives where G is under way -/
inductive RepG (G : List Code) (H : Hp) : V → Str → Prop
  | non : RepG G H .non "None"
  | bl (b : Bool) : RepG G H (.bl b) (if b then ("True" : Str) else ("False" : Str))
  | int {i : Int} (h : i.natAbs.log2 < 1920) : RepG G H (.int i) (toString i)
  | str {x : Str} (h : (reprText x).length ≤ sizeLine) : RepG G H (.str x) (reprText x)
  | lst {a : Addr} {x : Str} (e : H a = some (.lst [.str x])) (h : (reprText x).length ≤ sizeLine) (h2 : (listText [reprText x]).length ≤ sizeLine) : RepG G H (.ref a) (if (G.any fun c => gvLstWay (.ref a) (c, default)) = true then "[...]" else listText [reprText x])
  | tup {a : Addr} {x : Str} (e : H a = some (.tup [.str x])) (h : (reprText x).length ≤ sizeLine) (h2 : (tupleText [reprText x]).length ≤ sizeLine) : RepG G H (.ref a) (if (G.any fun c => tupGuardF (.ref a) (c, default)) = true then "(...)" else tupleText [reprText x])
  | dict {a : Addr} (e : H a = some (.dK [])) : RepG G H (.ref a) (if (G.any fun c => dictGuardF (.ref a) (c, default)) = true then "{...}" else "{}")
theorem RepG.ext {G : List Code} {H H' : Hp} {v : V} {T : Str} (r : RepG G H v T) (x : Evl.Ex H H') : RepG G H' v T := by
  cases r with
  | non => exact .non
  | bl b => exact .bl b
  | int h => exact .int h
  | str h => exact .str h
  | lst e h h2 => exact .lst (x _ _ e) h h2
  | tup e h h2 => exact .tup (x _ _ e) h h2
  | dict e => exact .dict (x _ _ e)
section
variable {X : Cx} {σ : St} {H : Hp} {e : Expr} {pos : Pos}
theorem call_reprG {G : List Code} (hG : X.A.guards = some G) (hu : X.A.units + 2 < cLine) : CallR X (.builtin "repr") (fun xs H Q => ∃ v T, xs = [v] ∧ RepG G H v T ∧ Q (.str T) H) := by
  intro pins s σ H xs us Q I r h
  obtain ⟨v, T, rfl, rp, q⟩ := h
  cases r with
  | cons rv rt =>
    cases rt
    cases rp with
    | non =>
      cases rv
      exact P.repr_of_none ⟨.str _, H, I.tok _, ⟨_, rfl⟩, q⟩
    | bl b =>
      cases rv
      exact P.repr_of_bool ⟨.str _, H, I.tok _, ⟨_, rfl⟩, q⟩
    | int hi =>
      obtain ⟨t, rfl⟩ := rv
      exact P.repr_of_int hi ⟨.str _, H, I.tok _, ⟨_, rfl⟩, q⟩
    | str hx =>
      obtain ⟨t, rfl⟩ := rv
      exact P.repr_of_str ⟨.str _, H, I.tok _, ⟨_, rfl⟩, q⟩ hx
    | lst e h1 h2 =>
      rename_i u a x
      cases (show u = Value.ref a from rv)
      obtain ⟨_, its, n, rw1, e2⟩ := I.hok a _ e
      cases rw1 with
      | cons rx rn =>
        cases rn
        obtain ⟨t, rfl⟩ := rx
        exact gv_repr_lst (by omega) hG e2 rfl rfl h2 h1 fun h' u tk hk => ⟨.str _, H, I.kept hk, ⟨_, rfl⟩, q⟩
    | tup e h1 h2 =>
      rename_i u a x
      cases (show u = Value.ref a from rv)
      obtain ⟨_, its, rw1, o, e2, hc, n, hd⟩ := I.hok a _ e
      cases rw1 with
      | cons rx rn =>
        cases rn
        obtain ⟨t, rfl⟩ := rx
        exact gv_repr_tup (by omega) hG e2 hc hd h2 h1 fun u tk => ⟨.str _, H, I.tok _, ⟨_, rfl⟩, q⟩
    | dict e =>
      rename_i u a
      cases (show u = Value.ref a from rv)
      obtain ⟨_, hs, vs, kv, o, es, ep, e2, hx, hd, _, hp, _⟩ := I.hok a _ e
      cases kv
      obtain ⟨l⟩ := es
      cases hp
      exact gv_repr_dict0 hu hG e2 hx.1 hd hs fun u tk => ⟨.str _, H, I.tok _, ⟨_, rfl⟩, q⟩
/-- repr(e) -/
theorem ce_repr {G : List Code} {p : Pos} {Q : VK} (hG : X.A.guards = some G) (hu : X.A.units + 2 < cLine) (hg : Gl X "repr") (hm : X.mg "repr" = none) (h : wE X e σ H fun v H1 => ∃ T, RepG G H1 v T ∧ Q (.str T) H1)
    (hs : starEach (e :: []) X.env = (false, eval e X.env) :: starEach [] X.env := by rfl) (hpl : (backTo pos (starEach [] X.env)).any (·.1) = false := by rfl) : wE X (.Call (.Name "repr" p) [e] [] pos) σ H Q :=
  ⟨_, pe_callB (call_reprG hG hu) hg hm (by decide +kernel) wA.pa (by decide) (by decide) hs hpl, ca_cons (wE.weak h fun v H1 ⟨T, r, q⟩ => ca_nil ⟨v, T, rfl, r, q⟩) hs⟩
end
end GV

namespace GV
open PySem PySem.Spec PyProof.Rows L2
section
variable {X : Cx} {σ : St} {H : Hp} {a b : Expr} {pos : Pos}
theorem cw_or1 {Q : Bool → Hp → Prop} (h : wT X a σ H Q) : wW X (.BoolOp .Or [a] pos) σ H Q := ⟨_, pw_or1 wT.pt, h⟩
theorem cw_or {rest : List Expr} {Q : Bool → Hp → Prop} (h : wT X a σ H fun k H2 => (k = false → wW X (.BoolOp .Or (b :: rest) pos) σ H2 Q) ∧ (k = true → Q true H2)) : wW X (.BoolOp .Or (a :: b :: rest) pos) σ H Q :=
  ⟨_, pw_or wT.pt wW.pw, wT.weak h fun k H2 ⟨h1, h2⟩ => by
    cases k with
    | false => exact h1 rfl
    | true => exact h2 rfl⟩
theorem ce_intC {i : Int} {j} {Q : VK} (q : Q (.int i) H) : wE X (.Constant (.int i) j pos) σ H Q := ⟨_, pe_int, q⟩
theorem ce_blC {k : Bool} {j} {Q : VK} (q : Q (.bl k) H) : wE X (.Constant (.bool k) j pos) σ H Q := ⟨_, pe_bl, q⟩
theorem ce_nonC {j} {Q : VK} (q : Q .non H) : wE X (.Constant .none j pos) σ H Q := ⟨_, pe_non, q⟩
end
end GV

/-! objects: a static method, a class method, a class held by a name; own repr, str, in; own == against a built-in type -/
namespace GV
open PySem PySem.Spec PyProof.Rows L2
section
variable {X : Cx} {M : Addr → Prop} {σ : St} {H : Hp} {a b e o : Expr} {es : List Expr} {pos : Pos}
/-- a static method of the class at C -/
structure StatS (P : Program) (w : World) (K : PySem.W.Frag) (mg : Str → Option Value) (base : Heap) (C : Addr) (m : Str) (k : Nat) (sp : Sp) : Prop where
  ex : ∃ (f : Addr) (fd : FuncData) (ps : List Str) (p : Addr) (mc : Value) (rest : List Value), ClX.CRead K C mc ∧ PySem.W.findCls K (.ref C) mc m = some (.get (.builtin "staticmethod.__get__") (.ref p) .none (.ref C)) ∧ PySem.W.recIn K p "staticmethod" = some (.ref f :: rest) ∧ PySem.W.keepIn K (.ref f) = true ∧
    FnOk P w K mg base CX0 k f fd ps sp ∧ Binds K fd ps []
/-- C.m() -/
theorem ce_stat0 {C : Addr} {m x : Str} {k j : Nat} {sp : Sp} {Q : VK} {p apos : Pos} {pl : Sem Bool} (t : StatS X.prog X.w X.K X.mg X.base C m k sp) (hr : Room j X.A) (hkj : k ≤ j) (hg : Gl X x) (hm : X.mg x = some (.ref C)) (h : sp [] H Q E0) (hdb : (x == ("__debug__" : Str)) = false := by decide)
    (hev : eval (.Call (.Attribute (.Name x p) m apos) [] [] pos) X.env = (do
      let ov ← eval (.Name x p) X.env
      standAt apos.atName
      let (f, first) ← holding [ov] (getMethod ov m pl)
      callWith pos f first (backTo pos (starEach [] X.env)) (backToKw pos (keywordEach [] X.env))) := by rfl) : wE X (.Call (.Attribute (.Name x p) m apos) [] [] pos) σ H Q := by
  obtain ⟨f, fd, ps, q, mc, rest, r, fc, hp, hk, F, hb⟩ := t.ex
  refine ⟨fun σ H Q => sp [] H Q E0, ⟨fun pins s σ H Q I h => ?_⟩, h⟩
  refine PySem.W.methodCall_KW (pl := pl) (ld_glob I hg hm ?_ hdb) hev
  refine PySem.W.method_cls I.kIn r.ga (PySem.W.cls_bind I.kIn r.rd fc (wpAny_call (PySem.W.sm_get (s := { s with toks := s.toks + 1 }) (I.tok _).kIn hp (PySem.W.handed_on rfl ?_))))
  exact PySem.W.callWith_K0 (first := []) (I.tok _).kIn hk (run_fn (us := []) F (hr.mono hkj) hb .nil pass0 (I.tok _) .nil h)
/-- a class method of the class at C -/
structure ClsS (P : Program) (w : World) (K : PySem.W.Frag) (mg : Str → Option Value) (base : Heap) (CX : CXT) (C : Addr) (m : Str) (k : Nat) (sp : Sp) : Prop where
  ex : ∃ (f : Addr) (fd : FuncData) (ps : List Str) (p : Addr) (mc : Value), ClX.CRead K C mc ∧ ClX.CMet K C mc m p f ∧ FnOk P w K mg base CX k f fd ps sp ∧ Binds K fd ps []
/-- C.m(e, ..), that may raise -/
theorem ce_clsX {C : Addr} {m x : Str} {k j : Nat} {CX : CXT} {sp : Sp} {W : WX} {Q : VK} {p apos : Pos} {pl : Sem Bool} (t : ClsS X.prog X.w X.K X.mg X.base CX C m k sp) (hr : Room j X.A) (hkj : k ≤ j) (hx : ∀ σ, PassesAt CX X σ (WE W σ)) (hg : Gl X x) (hm : X.mg x = some (.ref C))
    (h : wA X (e :: es) σ H fun vs H2 => sp (.ref C :: vs) H2 Q fun cls d H' => W cls d σ H') (hdb : (x == ("__debug__" : Str)) = false := by decide)
    (he : starEach (e :: es) X.env = (false, eval e X.env) :: starEach es X.env := by rfl) (hpl : (backTo pos (starEach es X.env)).any (·.1) = false := by rfl)
    (hev : eval (.Call (.Attribute (.Name x p) m apos) (e :: es) [] pos) X.env = (do
      let ov ← eval (.Name x p) X.env
      standAt apos.atName
      let (f, first) ← holding [ov] (getMethod ov m pl)
      callWith pos f first (backTo pos (starEach (e :: es) X.env)) (backToKw pos (keywordEach [] X.env))) := by rfl) : wE X (.Call (.Attribute (.Name x p) m apos) (e :: es) [] pos) σ H Q := by
  obtain ⟨f, fd, ps, q, mc, r, c, F, hb⟩ := t.ex
  refine ⟨fun σ H Q => wA X (e :: es) σ H fun vs H2 => sp (.ref C :: vs) H2 Q fun cls d H' => W cls d σ H', ⟨fun pins s σ H Q I h => ?_⟩, h⟩
  refine PySem.W.methodCall_KW (pl := pl) (ld_glob I hg hm ?_ hdb) hev
  refine ClX.getmethcm_ok I r c fun s2 I2 => ?_
  refine ClX.callwith_cm I2 (ClX.base_none I (Nat.le_refl _)) c.fi (thn (wA.pa.run pos _ s2 σ H _ I2 h) fun us s3 ⟨vs, H3, I3, rv, q3⟩ => ⟨⟨ClX.pin_at I3, I3.kIn⟩, ?_⟩) he hpl
  have rv2 : Vals (V.ref C :: vs) (Value.ref C :: us) := .cons rfl rv
  have hl : (Value.ref C :: us).length = ps.length := rv2.length.symm.trans (F.len _ _ _ _ q3)
  have bt := hb s3 (Value.ref C :: us) I3.kIn (by rw [List.append_nil]; exact hl)
  rw [List.append_nil] at bt
  have ran : wpAny (model X.prog X.w) X.A (call (.ref s.heap.objs.size) us) (EP X ((s.heap.objs.size, PySem.W.methodObj (.ref f) (.ref C)) :: pins) σ Q) X.xe s3 := by
    refine wpAny_call (PySem.W.method_call (ClX.pin_at I3) (codeAny_mono (F.run X.A X.stack s3 H3 ⟨Value.ref C :: us, []⟩ (Value.ref C :: us) (V.ref C :: vs) Q _ (hr.mono hkj) I3.env0 bt rv2 q3) fun r s' got => ?_))
    cases r with
    | error z => exact hx σ _ H3 s3 z s' I3 got
    | ok fl =>
      cases fl with
      | ret u => exact I3.after got
      | next => exact False.elim got
      | brk => exact False.elim got
      | cont => exact False.elim got
  exact thn ran fun _ _ y => ClX.unpinE y
/-- x(e, ..), x a name that holds the class at C -/
theorem ce_makeN {C f : Addr} {fd : FuncData} {ps : List Str} {x : Str} {k j : Nat} {CX : CXT} {sp : Sp} {E : XK} {Q : VK} {p : Pos} (Mk_ : Mk X.K C f) (F : FnOk X.prog X.w X.K X.mg X.base CX k f fd ps sp) (hr : Room j X.A) (hkj : k + 1 ≤ j) (hb : Binds X.K fd ps []) (hx : Passes CX X E)
    (h : wE X (.Name x p) σ H fun v H1 => v = .ref C ∧ wA X (e :: es) σ H1 fun vs H2 => ∀ x dx, H2 x = none → H2 dx = none → dx ≠ x → sp (.ref x :: vs) (upd (upd H2 dx (.own x)) x (.ins C dx [])) (fun v H3 => v = .non ∧ Q (.ref x) H3) E)
    (he : starEach (e :: es) X.env = (false, eval e X.env) :: starEach es X.env := by rfl) (hpl : (backTo pos (starEach es X.env)).any (·.1) = false := by rfl) : wE X (.Call (.Name x p) (e :: es) [] pos) σ H Q := by
  refine ⟨fun σ H Q => wE X (.Name x p) σ H fun v H1 => v = .ref C ∧ wA X (e :: es) σ H1 fun vs H2 => ∀ x dx, H2 x = none → H2 dx = none → dx ≠ x → sp (.ref x :: vs) (upd (upd H2 dx (.own x)) x (.ins C dx [])) (fun v H3 => v = .non ∧ Q (.ref x) H3) E, ⟨fun pins s σ H Q I h => ?_⟩, h⟩
  refine wpAny_Call_Name_kw (thn (wE.pe.run pins s σ H _ I h) fun u s1 ⟨v, H1, I1, rx, ev, q⟩ => ?_)
  subst ev
  cases (show u = Value.ref C from rx)
  refine PySem.W.callWith_K (h₀ := X.base) I1.ok.mod.kin Mk_.kp (thn (wA.pa.run pos pins s1 σ H1 _ I1 q) fun us s2 ⟨vs, H2, I2, rv, q2⟩ => ⟨I2.kIn, ?_⟩) he hpl
  exact run_make Mk_ F (hr.mono hkj) hb .nil hx I2 rv (by simp only [List.append_nil]; exact q2)
theorem strBack {Q : Value → Shared → Prop} {m : Str} {u : Value} {s : Shared} (r : RelV (.str m) u) (q : Q u s) : PySem.W.StrBack Q u s := by
  obtain ⟨t, rfl⟩ := r
  exact q
/-- repr(o) of an object, by the class's own -/
theorem call_ownRepr {sp : Sp} {j k : Nat} {C : Addr} {ps : List Str} (mt : MethS X.prog X.w X.K X.mg X.base CX0 C "__repr__" k ps sp) (hr : Room (j + 1) X.A) (hkj : k ≤ j) :
    CallR X (.builtin "repr") (fun xs H Q => ∃ (a dx : Addr) (fs : List (Str × V)), xs = [.ref a] ∧ H a = some (.ins C dx fs) ∧ sp xs H (fun v H' => ∃ m : Str, v = .str m ∧ Q v H') E0) := by
  intro pins s σ H xs us Q I r ⟨a, dx, fs, ex, ea, q⟩
  obtain ⟨f, fd, hm, F, hb⟩ := mt
  subst ex
  obtain ⟨u, eu, rx⟩ := vals1 r
  subst eu
  cases (show u = Value.ref a from rx)
  obtain ⟨mA, J, _⟩ := ins_get I.hok ea
  obtain ⟨od, J, _⟩ := J.look
  obtain ⟨mm, hF⟩ := I.fr
  have bt := hb s [.ref a] I.kIn (F.len _ _ _ _ q)
  refine PySem.W.repr_K (Nat.lt_of_le_of_lt (Nat.add_le_add_left (by decide : 1 ≤ 64) _) hr.units) hF I.ok.mod.kin J hm.at_ hm.fn (wpAny_call (codeAny_mono (F.run X.A.in1 X.stack s H ⟨[.ref a], []⟩ [.ref a] [.ref a] _ E0 (hr.in1.mono hkj) I.env0.in1 bt (.cons rfl .nil) q) fun r s' hq => ?_))
  cases r with
  | error _ => exact hq.elim
  | ok fl =>
    cases fl with
    | ret u =>
      obtain ⟨v, H', I', rv, m, ev, q'⟩ := I.after hq
      subst ev
      exact strBack rv ⟨_, H', I', rv, q'⟩
    | next => exact False.elim hq
    | brk => exact False.elim hq
    | cont => exact False.elim hq
/-- str(o) -/
theorem call_ownStr {sp : Sp} {j k : Nat} {C : Addr} {ps : List Str} (mt : MethS X.prog X.w X.K X.mg X.base CX0 C "__str__" k ps sp) (hr : Room (j + 2) X.A) (hkj : k ≤ j) :
    CallR X (.type "str") (fun xs H Q => ∃ (a dx : Addr) (fs : List (Str × V)), xs = [.ref a] ∧ H a = some (.ins C dx fs) ∧ sp xs H (fun v H' => ∃ m : Str, v = .str m ∧ Q v H') E0) := by
  intro pins s σ H xs us Q I r ⟨a, dx, fs, ex, ea, q⟩
  obtain ⟨f, fd, hm, F, hb⟩ := mt
  subst ex
  obtain ⟨u, eu, rx⟩ := vals1 r
  subst eu
  cases (show u = Value.ref a from rx)
  obtain ⟨mA, J, _⟩ := ins_get I.hok ea
  obtain ⟨od, J, _⟩ := J.look
  have bt := hb s [.ref a] I.kIn (F.len _ _ _ _ q)
  refine PySem.W.kso_call (Nat.lt_of_le_of_lt (Nat.add_le_add_left (by decide : 2 ≤ 64) _) hr.units) I.kIn J hm.at_ hm.fn (wpAny_call (codeAny_mono (F.run X.A.in1.in1 X.stack s H ⟨[.ref a], []⟩ [.ref a] [.ref a] _ E0 (hr.in1.in1.mono hkj) I.env0.in1.in1 bt (.cons rfl .nil) q) fun r s' hq => ?_))
  cases r with
  | error _ => exact hq.elim
  | ok fl =>
    cases fl with
    | ret u =>
      obtain ⟨v, H', I', rv, m, ev, q'⟩ := I.after hq
      subst ev
      exact strBack rv ⟨_, H', I', rv, q'⟩
    | next => exact False.elim hq
    | brk => exact False.elim hq
    | cont => exact False.elim hq
/-- x in o -/
theorem op_ownIn {sp : Sp} {j k : Nat} {C : Addr} {ps : List Str} (mt : MethS X.prog X.w X.K X.mg X.base CX0 C "__contains__" k ps sp) (hr : Room j X.A) (hkj : k ≤ j) :
    OpR X (compareOp .In) (fun x y H Q => ∃ (a dx : Addr) (fs : List (Str × V)), y = .ref a ∧ H a = some (.ins C dx fs) ∧ sp [y, x] H (fun v H' => ∃ k : Bool, v = .bl k ∧ Q v H') E0) := by
  intro pins s σ H x y v u Q I rx ry ⟨a, dx, fs, ey, ea, q⟩
  obtain ⟨f, fd, hm, F, hb⟩ := mt
  subst ey
  cases (show u = Value.ref a from ry)
  obtain ⟨mA, J, _⟩ := ins_get I.hok ea
  obtain ⟨od, J, _⟩ := J.look
  obtain ⟨mm, hF⟩ := I.fr
  have run := run_fn (us := [.ref a, v]) (vs := [.ref a, x]) (dvs := []) (ds := []) F (hr.mono hkj) hb .nil pass0 I (.cons rfl (.cons rx .nil)) q
  refine PySem.W.in_K hF I.ok.mod.kin J hm.at_ hm.fn (thn run fun r s' ⟨z, H', I', rz, kk, ez, q'⟩ => ?_)
  subst ez
  cases (show r = Value.bool kk from rz)
  exact wpAny_pure ⟨.bl kk, H', I', rfl, q'⟩
theorem ce_ownIn {sp : Sp} {Q : VK} {j k : Nat} {C : Addr} {ps : List Str} (mt : MethS X.prog X.w X.K X.mg X.base CX0 C "__contains__" k ps sp) (hr : Room j X.A) (hkj : k ≤ j) (h : wE X a σ H fun x H2 => wE X b σ H2 fun y H3 => ∃ (a dx : Addr) (fs : List (Str × V)), y = .ref a ∧ H3 a = some (.ins C dx fs) ∧ sp [y, x] H3 (fun v H' => ∃ k : Bool, v = .bl k ∧ Q v H') E0)
    (hm : behindInMarks .In b = false := by with_unfolding_all rfl) : wE X (.Compare a [.In] [b] pos) σ H Q := ⟨_, pe_cmpR (op_ownIn mt hr hkj) wE.pe wE.pe hm, h⟩
/-- o == x, x of a built-in type -/
theorem op_ownEqT {sp : Sp} {j k : Nat} {C : Addr} {ps : List Str} (mt : MethS X.prog X.w X.K X.mg X.base CX0 C "__eq__" k ps sp) (hr : Room j X.A) (hkj : k ≤ j) :
    OpR X (compareOp .Eq) (fun x y H Q => ∃ (a dx : Addr) (fs : List (Str × V)) (T : String), x = .ref a ∧ H a = some (.ins C dx fs) ∧ TyX X.K H y (.type T) ∧ PySem.W.subIn X.K (.type T) (.ref C) = some false ∧ sp [x, y] H Q E0) := by
  intro pins s σ H x y v u Q I rx ry ⟨a, dx, fs, T, ex, ea, ty, su, q⟩
  obtain ⟨f, fd, hm, F, hb⟩ := mt
  subst ex
  cases (show v = Value.ref a from rx)
  obtain ⟨mA, J, _⟩ := ins_get I.hok ea
  obtain ⟨od, J, _⟩ := J.look
  obtain ⟨mm, hF⟩ := I.fr
  obtain ⟨Pz, Z, pz, _⟩ := kit_of I ry ty
  have run := run_fn (us := [.ref a, u]) (vs := [.ref a, y]) (dvs := []) (ds := []) F (hr.mono hkj) hb .nil pass0 I (.cons rfl (.cons ry .nil)) q
  refine PySem.W.cmp_K (op := .Eq) (tb := .type T) hr.units0 hF I.ok.mod.kin J (Z.ty _ _ I.kIn pz) (by simp [PySem.W.notFirst, su]) hm.at_ hm.fn (wpAny_mono run (fun r s' ⟨v, H', I', rv, q⟩ => vback rv ⟨v, H', I', rv, q⟩) fun _ _ z => z)
theorem ce_ownEqT {sp : Sp} {Q : VK} {j k : Nat} {C : Addr} {ps : List Str} (mt : MethS X.prog X.w X.K X.mg X.base CX0 C "__eq__" k ps sp) (hr : Room j X.A) (hkj : k ≤ j)
    (h : wE X a σ H fun x H2 => wE X b σ H2 fun y H3 => ∃ (a dx : Addr) (fs : List (Str × V)) (T : String), x = .ref a ∧ H3 a = some (.ins C dx fs) ∧ TyX X.K H3 y (.type T) ∧ PySem.W.subIn X.K (.type T) (.ref C) = some false ∧ sp [x, y] H3 Q E0) : wE X (.Compare a [.Eq] [b] pos) σ H Q :=
  ⟨_, pe_cmpR (op_ownEqT mt hr hkj) wE.pe wE.pe (nomark _), h⟩
end
end GV

namespace IK
open PySem PySem.Spec PyProof.Rows L2 GV
/-! ### texts that are no houses -/
section
variable {X : Cx} {M : Addr → Prop} {σ : St} {H : Hp} {a b e : Expr} {pos : Pos}
end
/-! ### values that are no houses -/
inductive OddV (K : PySem.W.Frag) (H : Hp) : V → String → Prop
  | data {v : V} {d : PyData} (r : Rp K M0 H v d) : OddV K H v (tyD d)
  | dict {a : Addr} {kvs : List (Key × V)} (h : H a = some (.dK kvs)) : OddV K H (.ref a) "dict"
section
variable {P : Program} {w : World} {K : PySem.W.Frag} {mg : Str → Option Value} {base : Heap}
end
section
variable {X : Cx} {CX : CXT} {k : Nat} {f C : Addr} {fd : FuncData} {ps : List Str} {sp : Sp} {σ : St}
end
section
variable {X : Cx} {CH CE : Addr} {σ : St} {H H' : Hp} {a b e : Expr} {n m : Nat} {pos : Pos}
theorem hd_house {p : Pos} {j : Nat} (mk : MkH X.prog X.w X.K X.mg X.base CH) (gH : X.mg "House" = some (.ref CH)) (hr : Room j X.A) (hj : 3 ≤ j) (hg : Gl X "House") (h1 : 1 ≤ n) (h2 : n < 64) (ha : PD X M0 e σ H (.str (txN n)))
    (he : starEach (e :: []) X.env = (false, eval e X.env) :: starEach [] X.env := by rfl) (hpl : (backTo pos (starEach [] X.env)).any (·.1) = false := by rfl) : HD X CH (.Call (.Name "House" p) [e] [] pos) σ H n :=
  ⟨fun H1 e1 Q q => ce_houseE mk gH hr hj hg h1 h2 (ha.mono e1) (fun h H' _ x a => q h H' x a) he hpl⟩
end
end IK

namespace GV
open PySem PySem.Spec PyProof.Rows L2
section
variable {X : Cx} {σ : St} {H : Hp} {a b e elt : Expr} {pos : Pos}
/-- [elt for x in range(1, e)], where elt may change things -/
theorem ce_lcR1 {slot : Nat} {x : Str} {p p1 p2 : Pos} {scope : Scope} {own : List (Str × Nat)} {Q : VK} (hc : X.calm = true) (hN : X.N.Nodup) (hg : Gl X "range") (hm : X.mg "range" = none) (ok : BlkOk X.N X.env.scope scope own)
    (hx : ∀ s H C cl fp, PG (Cx.lc X s H scope C cl fp) (.Name x p2) (gName slot)) (hw : ∀ v, wipe ((wipe σ (own.map (·.2))).set slot (some v)) (own.map (·.2)) = wipe σ (own.map (·.2)))
    (h : wE X a σ H fun v H0 => wE X b σ H0 fun u H1 => v = .int 1 ∧ ∃ n : Nat, u = .int ((n + 1 : Nat) : Int) ∧ n ≤ 1000000 ∧ ∀ D, H1 D = none → ∃ J : Nat → Hp → Prop, J 0 (upd H1 D (.lst [])) ∧
      (∀ i H', i < n → J i H' → ∀ s0 H0 C cl fp, wE (Cx.lc X s0 H0 scope C cl fp) elt ((wipe σ (own.map (·.2))).set slot (some (.int ((i + 1 : Nat) : Int)))) H' fun y H4 => ∃ acc, H4 D = some (.lst acc) ∧ acc.length < 100000 ∧ J (i + 1) (upd H4 D (.lst (acc ++ [y])))) ∧ ∀ H', J n H' → Q (.ref D) H')
    (hs : starEach [a, b] X.env = [(false, eval a X.env), (false, eval b X.env)] := by rfl) (hs2 : starEach [b] X.env = [(false, eval b X.env)] := by rfl)
    (hsa : starEach (a :: [b]) X.env = (false, eval a X.env) :: starEach [b] X.env := by rfl) (hsb : starEach (b :: []) X.env = (false, eval b X.env) :: starEach [] X.env := by rfl)
    (hf : ∀ x, foldedSetIterable (.Call (.Name "range" p) [a, b] [] p1) X.env x = pure x := by intro _; rfl) : wE X (.ListComp elt [⟨.Name x p2, .Call (.Name "range" p) [a, b] [] p1, [], 0⟩] scope pos) σ H Q := by
  refine ⟨_, pe_lc (tt := fun σ H Q => Q true H) (te := fun σ H Q => ∀ s0 H0 C cl fp, wE (Cx.lc X s0 H0 scope C cl fp) elt σ H Q) hc hN (pi_range2 hg hm wA.pa hs hs2) ok hx (fun _ _ _ _ _ => ⟨fun pins s σ H Q I h => pts_nil.run pins s σ H Q I h⟩)
    (fun s0 H0 C cl fp => ⟨fun pins s σ H Q I h => wE.pe.run pins s σ H Q I (h s0 H0 C cl fp)⟩) hf, ca_cons (wE.weak h fun v H0 h => ca_cons (wE.weak h ?_) hsb) hsa⟩
  rintro u H1 ⟨rfl, n, rfl, hn, run⟩
  refine ca_nil ⟨1, ((n + 1 : Nat) : Int), rfl, ⟨by omega, by omega, by omega, by omega⟩, ?_⟩
  rw [show (((n + 1 : Nat) : Int) - 1).toNat = n by omega]
  intro D hD
  obtain ⟨J, h0, ht, hd⟩ := run D hD
  refine ⟨fun i m H' => m = n - i ∧ i ≤ n ∧ J i H', ⟨n, rfl, Nat.zero_le _, h0⟩, ?_⟩
  rintro i m H' ⟨rfl, hi', j⟩
  have wk := wk_range (K := X.K) (M := M0) (H := H') 1 n
  have ln : ((List.range n).map fun i => PyData.int (1 + (i : Nat))).length = n := by simp
  by_cases hlt : i < n
  · refine .inr ⟨wk.go M0 i H' (fun _ z => z.elim) (ExM.refl _) (by rw [ln]; exact hlt), J (i + 1), fun H2 j2 => ⟨n - (i + 1), by omega, rfl, hlt, j2⟩, fun x H2 y => ?_⟩
    obtain ⟨rfl, rfl⟩ := y
    rw [show (1 : Int) + (i : Nat) = ((i + 1 : Nat) : Int) by omega]
    refine ⟨hw _, ?_⟩
    show if true = true then _ else _
    rw [if_pos rfl]
    intro s0 H0 C cl fp
    refine wE.weak (ht i _ hlt j s0 H0 C cl fp) ?_
    rintro y H4 ⟨acc, h1, h2, h3⟩
    exact ⟨acc, h1, Nat.lt_of_lt_of_le h2 (by rw [sizeLine_eq]; decide), h3⟩
  · have e2 : i = n := by omega
    subst e2
    have := wk.stop M0 H' (fun _ z => z.elim) (ExM.refl _)
    rw [ln] at this
    exact .inl ⟨this, hd H' j⟩
end
end GV

namespace IK
open PySem PySem.Spec PyProof.Rows L2 GV
/-! ### numbers -/
section
variable {P : Program} {w : World} {K : PySem.W.Frag} {mg : Str → Option Value} {base : Heap} {CH CE CN : Addr}
def MostK (mg : Str → Option Value) : Prop := ∃ t, mg "_MOST_HOUSES" = some (.int 63 t)
def HsL (CH : Addr) (n : Nat) (H : Hp) (xs : List V) : Prop := xs.length = n ∧ ∀ i, i < n → ∃ h, xs[i]? = some (.ref h) ∧ HAt CH (i + 1) H h
theorem HsL.ext {n : Nat} {H H' : Hp} {xs : List V} (h : HsL CH n H xs) (x : Evl.Ex H H') : HsL CH n H' xs := ⟨h.1, fun i hi => let ⟨g, e, a⟩ := h.2 i hi; ⟨g, e, a.ex' x⟩⟩
end
end IK

/-! {elt for tg in iter if ..} of ints -/
namespace GV
open PySem PySem.Spec PyProof.Rows L2 PpSet
section
variable {X : Cx}
/-- what a set comprehension of ints asks: D the new set, V what holds at its turns -/
def tScI (w : World) (wi : TI) (g : TG) (tt : TT) (te : TE) (vs : List Nat) : TE := fun σ H Q => wi σ H fun J Ha => ∀ D, Ha D = none → ∃ V : Nat → Nat → Hp → Prop, (∃ m, V 0 m (upd Ha D (SetO w D (fun _ => false) 0))) ∧ ∀ i m Hb, V i m Hb →
  (J.stop i Hb ∧ Q (.ref D) Hb) ∨ (J.go i Hb ∧ ∃ next : Hp → Prop, (∀ Hc, next Hc → ∃ k, k < m ∧ V (i + 1) k Hc) ∧ ∀ x Hc, J.yld i Hb x Hc → g x (wipe σ vs) Hc fun σ2 Hd => wipe σ2 vs = wipe σ vs ∧ tt σ2 Hd fun b He =>
    if b = true then te σ2 He fun y Hf => ∃ (z : Int) (S : Int → Bool) (n : Nat), y = .int z ∧ Hf D = some (SetO w D S n) ∧ n + 1 < scanBound ∧ next (upd Hf D (SetO w D (fun j => S j || decide (j = z)) (if S z = true then n else n + 1))) else next He)
theorem pe_scI {elt tg iter : Expr} {ifs : List Expr} {scope : Scope} {own : List (Str × Nat)} {pos : Pos} {wi : TI} {g : TG} {tt : TT} {te : TE} (calm : X.calm = true) (nd : X.N.Nodup) (hi : PI X tg iter wi) (ok : BlkOk X.N X.env.scope scope own)
    (hg : ∀ s H C cl fp, PG (X.blk s H scope (compEnvC scope cl C X.env) fp) tg g) (ht : ∀ s H C cl fp, PTs (X.blk s H scope (compEnvC scope cl C X.env) fp) ifs tt) (he : ∀ s H C cl fp, PE (X.blk s H scope (compEnvC scope cl C X.env) fp) elt te)
    (hs : ∀ x, foldedSetIterable iter X.env x = pure x := by intro _; rfl) : PE X (.SetComp elt [⟨tg, iter, ifs, 0⟩] scope pos) (tScI X.w wi g tt te (own.map (·.2))) := ⟨by
  intro pins s0 σ H0 Q I0 asks
  have closed : ∀ y ∈ scope.names, y.2 = .free → ∃ c, X.env.cells.lookup y.1 = some c := fun y hy e => (ok.free y hy e).elim (fun k => I0.ok.has _ (.inl k)) fun k => I0.ok.has _ (.inr k)
  rw [eval_SetComp]
  refine wpAny_comprehension_free (use := none) rfl hs (closure_ok closed) ok.kind (fun y hy e => by rw [ok.uniq y hy, e]) (thn (hi.run pins s0 σ H0 _ I0 asks) fun xv sa ha => thn ha fun itv sb ⟨it, fp, tn, J, Hb, e, Ib, T, stb, fb, q⟩ => ?_)
  subst e
  refine newSet_ok (newEnv_comp ?_)
  obtain ⟨D, hD⟩ : ∃ D, D = sb.heap.objs.size := ⟨_, rfl⟩
  rw [← hD]
  obtain ⟨V, ⟨m0, v0⟩, turn⟩ := q D (Ib.hok.fresh (by rw [hD]; exact Nat.le_refl _))
  generalize hO : ({ cls := .type "set", dict := none, data := .set #[] 0 (.fresh 0 0 (!X.w.params.followText "set-order")) } : Obj) = O
  have put : (sb.heap.push O).get? D = some O := by
    rw [hD]
    exact Heap.get?_push_size _ (by rw [← hO]; rfl)
  have new : SetR X.w (sb.heap.push O) D (fun _ => false) 0 := by
    have z := setR_new_at (w := X.w) (h := sb.heap.push O) (a := D) (ns := []) (by rw [hO]; exact put)
    simpa using z
  generalize hHc : upd Hb D (SetO X.w D (fun _ => false) 0) = Hc at v0
  generalize hsc : ({ sb with heap := sb.heap.push O } : Shared) = sc
  have sch : sc.heap = sb.heap.push O := by rw [← hsc]
  have Ic : Inv X pins σ Hc sc := by
    rw [← hHc, ← hsc]
    exact Ib.laid (t' := sb.toks) (fun b o z => Heap.get?_push_of_some _ z) (Nat.le_of_eq hD.symm) (setO_new new)
  have fc : ∀ b ∈ fp, FpOk X pins Hc b ∧ b < sc.heap.objs.size := fun b hb => by
    obtain ⟨o, z, _⟩ := T.obj _ _ stb b hb
    have lt := Heap.lt_size z
    refine ⟨⟨?_, (fb b hb).2⟩, by rw [sch, Heap.size_push]; exact Nat.lt_succ_of_lt lt⟩
    rw [← hHc, upd_ne (by rw [hD]; exact Nat.ne_of_lt lt)]
    exact (fb b hb).1
  have I4 := block_start Ic ok nd fc
  have st4 : tn 0 (pushCells (sc.heap.push { cls := .type "dict", data := .dict #[] }) scope.names) := T.keep _ _ _ stb fun b _ o z => pushCells_keeps _ _ _ _ (Heap.get?_push_of_some _ (by rw [sch]; exact Heap.get?_push_of_some _ z))
  obtain ⟨ce, hce⟩ : ∃ ce, ce = compEnvC scope (cellsFrom (sc.heap.objs.size + 1) scope.names (cloFrom X.env.cells scope.names [])) sc.heap.objs.size X.env := ⟨_, rfl⟩
  have pg := hg sc Hc sc.heap.objs.size (cellsFrom (sc.heap.objs.size + 1) scope.names (cloFrom X.env.cells scope.names [])) fp
  have pt := ht sc Hc sc.heap.objs.size (cellsFrom (sc.heap.objs.size + 1) scope.names (cloFrom X.env.cells scope.names [])) fp
  have pe := he sc Hc sc.heap.objs.size (cellsFrom (sc.heap.objs.size + 1) scope.names (cloFrom X.env.cells scope.names [])) fp
  rw [← hce] at I4 pg pt pe
  generalize hsd : ({ sc with heap := pushCells (sc.heap.push { cls := .type "dict", data := .dict #[] }) scope.names } : Shared) = sd at I4
  have std : tn 0 sd.heap := by rw [← hsd]; exact st4
  have at_ : ∀ {σ' : St} {H' : Hp} {s' : Shared}, Inv (X.blk sc Hc scope ce fp) [] σ' H' s' → (∀ b ∈ fp, H' b = none) → ∀ b ∈ fp, FpOk (X.blk sc Hc scope ce fp) [] H' b := fun {σ' H' s'} J' hn b hb =>
    ⟨hn b hb, (J'.ok.exf b hb).1, J'.ok.exfs b hb, .inl hb, fun x c z => (J'.ok.exf b hb).2 x c z, fun p hp => by simp at hp⟩
  have walk : codeAny (model X.prog X.w) X.A (.compLoop (.SetComp elt [⟨tg, iter, ifs, 0⟩] scope pos) 0 (.ref it) (.ref D) ce) (compPost (model X.prog X.w) X.A X.xe none (EP X pins σ Q) (.ref D) sc.heap.objs.size) sd := by
    refine compLoopS_any (fun m s' => ∃ i H', Inv (X.blk sc Hc scope ce fp) [] (wipe σ (own.map (·.2))) H' s' ∧ tn i s'.heap ∧ (∀ b ∈ fp, H' b = none) ∧ V i m H') ?_ m0 ⟨0, Hc, I4, std, fun b hb => (fc b hb).1.1, v0⟩
    intro m s5 ⟨i, H5, I5, st5, n5, v5⟩
    rcases turn i m H5 v5 with ⟨ends, fin⟩ | ⟨goes, next, hnext, step⟩
    · refine thnF (T.done (X.blk sc Hc scope ce fp) rfl rfl rfl calm i [] s5 _ H5 (fun _ _ => False) I5 (at_ I5 n5) st5 ends) fun r s6 ⟨hr, I6⟩ => ?_
      subst hr
      have I7 : Inv X pins σ H5 s6 := Ic.call' (ch := fp) I6.os I6.base I6.hok I6.bare fun b hb => let z := (fc b hb).1.2; ⟨z.2.2.1, z.1, z.2.2.2.1, z.2.2.2.2⟩
      have free : H5 sc.heap.objs.size = none := by
        have z : H5 ce.locals = none := I6.free
        rwa [hce] at z
      obtain ⟨mm, hn, _⟩ := I6.loc
      have hn : s6.heap.Ns ce.locals mm := hn
      rw [hce] at hn
      obtain ⟨f0, f1, f2, f3, f4, f5⟩ := Ic.fpOk (Nat.le_refl _) free
      exact ⟨mm, hn, fun h'' keep => ⟨.ref D, H5, I7.turned (t' := s6.toks) (fun b o hb z => (keep.2 b hb).trans z) f0 f1 f3 f4 f5, rfl, fin⟩⟩
    · refine thnF (T.item (X.blk sc Hc scope ce fp) rfl rfl rfl calm i [] s5 _ H5 (fun _ _ => False) I5 (at_ I5 n5) st5 goes) fun r s6 ⟨u, hr, h6⟩ => ?_
      subst hr
      refine thnF h6 fun _ s7 ⟨x, H7, I7, r7, y7, st7, n7⟩ => ?_
      refine thnF (pg.run _ s7 _ H7 x u _ (I7.pinned (at_ I7 n7) (T.obj _ _ st7)) r7 (step x H7 y7)) fun _ s8 ⟨σ8, H8, I8, wiped, q8⟩ => ?_
      refine thnF (pt.run _ s8 σ8 H8 _ I8 q8) fun b s9 ⟨H9, I9, q9⟩ => ?_
      have over : ∀ {s' : Shared} {H' : Hp}, Inv (X.blk sc Hc scope ce fp) ([] ++ pinsAt fp s7.heap) σ8 H' s' → next H' → ∃ k, k < m ∧ ∃ i H', Inv (X.blk sc Hc scope ce fp) [] (wipe σ (own.map (·.2))) H' s' ∧ tn i s'.heap ∧ (∀ b ∈ fp, H' b = none) ∧ V i k H' := fun {s' H'} J' nx => by
        obtain ⟨k, lt, v'⟩ := hnext H' nx
        have pinned : ∀ b ∈ fp, ∀ o, s7.heap.get? b = some o → s'.heap.get? b = some o ∧ H' b = none := fun b hb o z => let y := J'.pin (b, o) (List.mem_append_right _ (List.mem_append_right _ (mem_pinsAt hb z))); ⟨y.1, y.2.1⟩
        refine ⟨k, lt, i + 1, H', (J'.unpinned (pins := [])).weak (by rw [← wiped, wipe_length]) (fun j v z => ?_), T.keep _ _ _ st7 fun b hb o z => (pinned b hb o z).1, fun b hb => ?_, v'⟩
        · rw [← wiped] at z
          exact (wipe_some z).1
        · obtain ⟨o, z, _⟩ := T.obj _ _ st7 b hb
          exact (pinned b hb o z).2
      cases b with
      | false => exact over I9 q9
      | true =>
        show wpAny _ _ _ _ _ s9
        refine thnF (pe.run _ s9 σ8 H9 _ I9 q9) fun z s10 ⟨yv, H10, I10, r10, k, S, n, ey, hDk, room, nx⟩ => ?_
        subst ey
        have added := mt_sadd (X := X.blk sc Hc scope ce fp) _ s10 σ8 H10 (.ref D) [.int k] (.ref D) [z] (fun v H' => v = .non ∧ next H') I10 rfl (.cons r10 .nil) ⟨D, k, S, n, rfl, rfl, hDk, room, rfl, nx⟩
        exact thnF added fun _ s11 ⟨_, H11, I11, _, _, nx⟩ => over I11 nx
  subst hce hsd
  exact codeAny_compStart_set walk (T.self X.A 0 _ _ _ std walk)⟩
end
section
variable {X : Cx} {M : Addr → Prop} {σ : St} {H : Hp} {tg iter elt : Expr} {ds : List PyData}
/-- sorted({elt for tg in iter}) of ints, fewer than 64 -/
theorem fd_sortedScI {t : Tg} {scope : Scope} {own : List (Str × Nat)} {pos p pos2 : Pos} (f : PyData → Int) (out : List Int) (ho : out.Pairwise (· < ·)) (hc : X.calm = true) (hN : X.N.Nodup) (hgs : Gl X "sorted") (hms : X.mg "sorted" = none) (hi : Src X M tg iter σ H ds) (ok : BlkOk X.N X.env.scope scope own)
    (hg : ∀ s H C cl fp, PG (Cx.lc X s H scope C cl fp) tg (t.g X.K)) (hf : ∀ d ∈ ds, t.Fits d) (hw : ∀ M H d σ', t.Ok X.K M H d (wipe σ (own.map (·.2))) σ' → wipe σ' (own.map (·.2)) = wipe σ (own.map (·.2)))
    (hl : ds.length < 64) (hmem : ∀ k, k ∈ out ↔ ∃ d ∈ ds, f d = k)
    (body : ∀ s0 H0 C cl fp M' H' d σ', (∀ a, M a → M' a) → (∀ v e, Rp X.K M H v e → Rp X.K M' H' v e) → d ∈ ds → t.Ok X.K M' H' d (wipe σ (own.map (·.2))) σ' → PD (Cx.lc X s0 H0 scope C cl fp) M' elt σ' H' (.int (f d)))
    (hs : ∀ x, foldedSetIterable iter X.env x = pure x := by intro _; rfl) (h1 : starEach (.SetComp elt [⟨tg, iter, [], 0⟩] scope pos2 :: []) X.env = (false, eval (.SetComp elt [⟨tg, iter, [], 0⟩] scope pos2) X.env) :: starEach [] X.env := by rfl)
    (hpl : (backTo pos (starEach [] X.env)).any (·.1) = false := by rfl) : FD X M (.Call (.Name "sorted" p) [.SetComp elt [⟨tg, iter, [], 0⟩] scope pos2] [] pos) σ H (out.map PyData.int) := .mk fun H1 e1 al Q q => by
  obtain ⟨wi, pi, run⟩ := hi.ex
  refine ⟨_, pe_callB (cr_sortedSet hc) hgs hms PyProof.Rows.boot_sorted wA.pa (by decide) (by decide) h1 hpl, ca_cons ⟨_, pe_scI (te := fun σ H Q => ∀ s0 H0 C cl fp, wE (Cx.lc X s0 H0 scope C cl fp) elt σ H Q) (tt := fun σ H Q => Q true H) hc hN pi ok hg (fun _ _ _ _ _ => ⟨fun pins s σ H Q I h => pts_nil.run pins s σ H Q I h⟩) (fun s0 H0 C cl fp => ⟨fun pins s σ H Q I h => wE.pe.run pins s σ H Q I (h s0 H0 C cl fp)⟩) hs, run H1 e1 al _ fun It Hs xs wk D hD => ?_⟩ h1⟩
  have alS := al.mono xs
  have hm : ∀ a, (M a ∨ a = D) → M a ∨ Hs a = none := fun a z => z.elim .inl fun e => .inr (by rw [e]; exact hD)
  have al2 : ∀ H', Evl.Ex Hs H' → (∃ S n, H' D = some (SetO X.w D S n)) → Alive (fun a => M a ∨ a = D) H' := fun H' e ⟨S, n, h⟩ a z => by
    rcases z with z | z
    · exact (alS.mono e) a z
    · subst z
      exact ⟨_, h⟩
  refine ⟨fun i m H' => m = ds.length - i ∧ i ≤ ds.length ∧ Evl.Ex Hs H' ∧ ∃ S n, H' D = some (SetO X.w D S n) ∧ n ≤ i ∧ ∀ k, S k = true ↔ ∃ d ∈ ds.take i, f d = k, ⟨ds.length, rfl, Nat.zero_le _, Evl.Ex.new hD, _, 0, upd_same, Nat.le_refl _, fun k => by simp⟩, ?_⟩
  rintro i m H' ⟨rfl, hi', x, S, n, hS, hn, hk⟩
  have eM : ExM (fun a => M a ∨ a = D) Hs H' := .of x
  by_cases hlt : i < ds.length
  · refine .inr ⟨wk.go _ i H' hm eM hlt, fun H2 => Evl.Ex Hs H2 ∧ ∃ S n, H2 D = some (SetO X.w D S n) ∧ n ≤ i + 1 ∧ ∀ k, S k = true ↔ ∃ d ∈ ds.take (i + 1), f d = k, fun H2 ⟨a1, a2⟩ => ⟨ds.length - (i + 1), by omega, rfl, hlt, a1, a2⟩, fun v H2 y => ?_⟩
    obtain ⟨x2, r⟩ := wk.yld _ i H' v H2 hm eM (al2 H' x ⟨S, n, hS⟩) y
    have hd' : ds[i]? = some ds[i] := List.getElem?_eq_getElem hlt
    have hS2 : H2 D = some (SetO X.w D S n) := x2 _ _ hS
    have lift : ∀ v e, Rp X.K M H v e → Rp X.K (fun a => M a ∨ a = D) H2 v e := fun v e rv => ((rv.mono (fun _ z => z) (e1.trans (.of xs))).wide hm).mono (fun _ z => z) (.of (x.trans x2))
    refine Tg.run (hf _ (List.getElem_mem hlt)) (r _ hd') fun σ2 okk => ⟨hw _ _ _ _ okk, ?_⟩
    show if true = true then _ else _
    rw [if_pos rfl]
    intro s0 H0 C cl fp
    refine (body s0 H0 C cl fp _ H2 ds[i] σ2 (fun _ z => .inl z) lift (List.getElem_mem hlt) okk).run H2 (.of (Evl.Ex.refl _)) (al2 H2 (x.trans x2) ⟨S, n, hS2⟩) _ fun w H4 x4 rw4 => ?_
    cases rw4
    refine ⟨f ds[i], S, n, rfl, x4 _ _ hS2, Nat.lt_trans (show n + 1 < 100 by omega) (by decide), fun a o ha => ?_, _, _, upd_same, ?_, fun k => ?_⟩
    · rw [upd_ne (ne_of_none ha hD)]
      exact x4 _ _ (x2 _ _ (x _ _ ha))
    · split <;> omega
    · rw [List.take_add_one, hd', Bool.or_eq_true, hk, decide_eq_true_eq]
      constructor
      · rintro (⟨d, h1, h2⟩ | e)
        · exact ⟨d, List.mem_append_left _ h1, h2⟩
        · exact ⟨ds[i], List.mem_append_right _ (by simp), e.symm⟩
      · rintro ⟨d, h1, h2⟩
        rcases List.mem_append.mp h1 with h | h
        · exact .inl ⟨d, h, h2⟩
        · have : d = ds[i] := by simpa using h
          rw [this] at h2
          exact .inr h2.symm
  · have e2 : i = ds.length := by omega
    subst e2
    refine .inl ⟨wk.stop _ H' hm eM, ca_nil ⟨D, S, n, rfl, hS, by omega, fun ns p hns hm2 _ hp => ?_⟩⟩
    have en : ns = out := up_ext hns ho fun k => by
      rw [hm2, hk, hmem, List.take_length]
    subst en
    have xx : Evl.Ex H1 (upd H' p (.lst (ns.map V.int))) := fun a o ha => by
      rw [upd_ne (ne_of_none (x _ _ (xs _ _ ha)) hp)]
      exact x _ _ (xs _ _ ha)
    exact q p _ _ (Evl.fresh_back (xs.trans x) hp) xx upd_same (RpAll.ints ns)
end
end GV

/-! comprehensions over data of one kind -/
namespace GV
open PySem PySem.Spec PyProof.Rows L2
section
variable {α : Type} {β : Type} (e : α → PyData)
open Classical in
/-- what is asked of e y is asked of y -/
noncomputable def backA (b : β) (g : α → β) (d : PyData) : β := if h : ∃ y, e y = d then g h.choose else b
theorem backA_of {e : α → PyData} (inj : ∀ a b, e a = e b → a = b) (b : β) (g : α → β) (y : α) : backA e b g (e y) = g y := by
  unfold backA
  have h : ∃ z, e z = e y := ⟨y, rfl⟩
  rw [dif_pos h, inj _ _ h.choose_spec]
theorem filter_back {e : α → PyData} (inj : ∀ a b, e a = e b → a = b) (p : α → Bool) (g : α → PyData) (l : List α) : ((l.map e).filter (backA e false p)).map (backA e .none g) = (l.filter p).map g := by
  have e1 : (backA e false p ∘ e) = p := funext fun y => backA_of inj false p y
  rw [List.filter_map, e1, List.map_map]
  exact List.map_congr_left fun y _ => (show backA e .none g (e y) = g y from backA_of inj .none g y)
end
section
variable {X : Cx} {M : Addr → Prop} {σ : St} {H : Hp} {tg iter tst elt : Expr} {pos : Pos} {α : Type}
theorem fd_filterA {e : α → PyData} (inj : ∀ a b, e a = e b → a = b) {l : List α} (p : α → Bool) (g : α → PyData) {t : Tg} {scope : Scope} {own : List (Str × Nat)} (hc : X.calm = true) (hN : X.N.Nodup) (hi : Src X M tg iter σ H (l.map e)) (ok : BlkOk X.N X.env.scope scope own)
    (hg : ∀ s H C cl fp, PG (Cx.lc X s H scope C cl fp) tg (t.g X.K)) (hf : ∀ d ∈ l.map e, t.Fits d) (hw : ∀ M H d σ', t.Ok X.K M H d (wipe σ (own.map (·.2))) σ' → wipe σ' (own.map (·.2)) = wipe σ (own.map (·.2))) (hl : l.length ≤ 100000)
    (body : ∀ s0 H0 C cl fp M' H' y σ', (∀ a, M a → M' a) → (∀ v e, Rp X.K M H v e → Rp X.K M' H' v e) → (∀ a o, ¬ M a → NT o → H a = some o → H' a = some o ∧ ¬ M' a) → y ∈ l → t.Ok X.K M' H' (e y) (wipe σ (own.map (·.2))) σ' → TD (Cx.lc X s0 H0 scope C cl fp) M' tst σ' H' (p y) ∧ PD (Cx.lc X s0 H0 scope C cl fp) M' elt σ' H' (g y))
    (hs : ∀ x, foldedSetIterable iter X.env x = pure x := by intro _; rfl) : FD X M (.ListComp elt [⟨tg, iter, [tst], 0⟩] scope pos) σ H ((l.filter p).map g) := by
  rw [← filter_back inj p g l]
  refine fd_filterO _ _ hc hN hi ok hg hf hw (by rw [List.length_map]; exact hl) (fun s0 H0 C cl fp M' H' d σ' hM lift kp hd hok => ?_) hs
  obtain ⟨y, hy, rfl⟩ := List.mem_map.mp hd
  rw [backA_of inj, backA_of inj]
  exact body s0 H0 C cl fp M' H' y σ' hM lift kp hy hok
theorem fd_mapA {e : α → PyData} (inj : ∀ a b, e a = e b → a = b) {l : List α} (g : α → PyData) {t : Tg} {scope : Scope} {own : List (Str × Nat)} (hc : X.calm = true) (hN : X.N.Nodup) (hi : Src X M tg iter σ H (l.map e)) (ok : BlkOk X.N X.env.scope scope own)
    (hg : ∀ s H C cl fp, PG (Cx.lc X s H scope C cl fp) tg (t.g X.K)) (hf : ∀ d ∈ l.map e, t.Fits d) (hw : ∀ M H d σ', t.Ok X.K M H d (wipe σ (own.map (·.2))) σ' → wipe σ' (own.map (·.2)) = wipe σ (own.map (·.2))) (hl : l.length ≤ 100000)
    (body : ∀ s0 H0 C cl fp M' H' y σ', (∀ a, M a → M' a) → (∀ v e, Rp X.K M H v e → Rp X.K M' H' v e) → (∀ a o, ¬ M a → NT o → H a = some o → H' a = some o ∧ ¬ M' a) → y ∈ l → t.Ok X.K M' H' (e y) (wipe σ (own.map (·.2))) σ' → PD (Cx.lc X s0 H0 scope C cl fp) M' elt σ' H' (g y))
    (hs : ∀ x, foldedSetIterable iter X.env x = pure x := by intro _; rfl) : FD X M (.ListComp elt [⟨tg, iter, [], 0⟩] scope pos) σ H (l.map g) := by
  have h := filter_back inj (fun _ => true) g l
  rw [filt_all] at h
  rw [← h]
  refine fd_lcO hc hN hi ok hg hf hw _ _ (by rw [List.length_map]; exact hl) (fun s0 H0 C cl fp M' H' d σ' hM lift kp hd hok => ?_) hs
  obtain ⟨y, hy, rfl⟩ := List.mem_map.mp hd
  rw [backA_of inj, backA_of inj]
  exact ⟨tsd_nil, fun _ => body s0 H0 C cl fp M' H' y σ' hM lift kp hy hok⟩
end
/-- naturals as data -/
abbrev natD (n : Nat) : PyData := .int (n : Nat)
theorem natD_inj : ∀ a b : Nat, natD a = natD b → a = b := fun a b h => by
  have := PyData.int.inj h
  omega
abbrev natsD (l : List Nat) : PyData := .list (l.map natD)
theorem nats_ints (l : List Nat) : l.map natD = (l.map fun n => ((n : Nat) : Int)).map PyData.int := by
  rw [List.map_map]
  rfl
section
variable {X : Cx} {M : Addr → Prop} {σ : St} {H : Hp} {a b e : Expr} {pos : Pos} {n m : Nat}
theorem src_rangeN {tg : Expr} {p : Pos} (hg : Gl X "range") (hm : X.mg "range" = none) (hb : PD X M b σ H (.int (n : Nat))) (hn : n < 1000000) (hs : starEach [b] X.env = [(false, eval b X.env)] := by rfl) (hs' : starEach (b :: []) X.env = (false, eval b X.env) :: starEach [] X.env := by rfl) : Src X M tg (.Call (.Name "range" p) [b] [] pos) σ H ((List.range n).map natD) := by
  have h := src_range1 (tg := tg) (p := p) (pos := pos) hg hm hb (by omega) (by omega) hs hs'
  have e2 : ((List.range ((n : Nat) : Int).toNat).map fun k => PyData.int (0 + (k : Nat))) = (List.range n).map natD := by
    rw [Int.toNat_natCast]
    exact List.map_congr_left fun k _ => by rw [Int.zero_add]
  rwa [e2] at h
theorem bor_nat (a b : Nat) : Builtin.bitOr (a : Int) (b : Int) = ((a ||| b : Nat) : Int) := by
  have n1 : ¬ 0 ≤ Builtin.bitNot (a : Int) := by unfold Builtin.bitNot; omega
  have n2 : ¬ 0 ≤ Builtin.bitNot (b : Int) := by unfold Builtin.bitNot; omega
  have e : ∀ x : Int, Builtin.bitNot (Builtin.bitNot x) = x := fun x => by unfold Builtin.bitNot; omega
  unfold Builtin.bitOr
  simp only [Builtin.bitAnd, n1, n2, decide_false]
  rw [e, e, e]
  simp
theorem band_nat (a b : Nat) : Builtin.bitAnd (a : Int) (b : Int) = ((a &&& b : Nat) : Int) := by simp [Builtin.bitAnd]
theorem pd_orN (ha : PD X M a σ H (natD n)) (hb : PD X M b σ H (natD m)) : PD X M (.BinOp a .BitOr b pos) σ H (natD (n ||| m)) := PD.is (pd_binR op_or rd_I0 ha hb) (by rw [bor_nat])
theorem pd_andN (ha : PD X M a σ H (natD n)) (hb : PD X M b σ H (natD m)) : PD X M (.BinOp a .BitAnd b pos) σ H (natD (n &&& m)) := PD.is (pd_binR op_and rd_I0 ha hb) (by rw [band_nat])
theorem pd_shlN {k : Nat} (ha : PD X M a σ H (natD n)) (hb : PD X M b σ H (natD k)) (hc : CPow n k) : PD X M (.BinOp a .LShift b pos) σ H (natD (n * 2 ^ k)) := .mk fun H1 e1 al Q q =>
  ce_shl (ha.run H1 e1 al _ fun x H2 x2 r2 => hb.run H2 (e1.trans (.of x2)) (al.mono x2) _ fun y H3 x3 r3 => by
    cases r2
    cases r3
    refine ⟨_, _, rfl, rfl, hc, ?_⟩
    have e : ((n : Nat) : Int) * 2 ^ ((k : Nat) : Int).toNat = ((n * 2 ^ k : Nat) : Int) := by
      rw [Int.toNat_natCast, Int.natCast_mul, Int.natCast_pow]
      rfl
    rw [e]
    exact q _ H3 (x2.trans x3) (.int _))
end
end GV

namespace IK
open PySem PySem.Spec PyProof.Rows L2 GV
/-! ### checks -/
def spCN (K : PySem.W.Frag) (CN : Addr) : Sp := fun vs H Q E => ∃ v d lo hi, vs = [v, .int lo, .int hi] ∧ Rp K M0 H v d ∧ ((isNumD d lo hi = true ∧ ∀ H', Evl.Ex H H' → Q .non H') ∨ (isNumD d lo hi = false ∧ Raised CN [("number", v)] H E))
theorem raised_ex {C : Addr} {fs : List (Str × V)} {H H1 : Hp} {E : XK} (r : Raised C fs H E) (x : Evl.Ex H H1) : Raised C fs H1 E := fun d H' hd x2 h => r d H' (Evl.fresh_back x hd) (x.trans x2) h
/-! ### kinds -/
def kd (z lo hi : Int) (late : Bool) : Nat := (if z < lo then 0 else if z < hi then 1 else 2) + (if late then 3 else 0)
def kAt (ns : List Int) (p i : Nat) : Nat := kd (ns.getD i 0) (lo2 ns p) (hi2 ns p) (decide (p < i))
def thirds (n p : Nat) : List Nat := (List.range n).filter fun i => decide (i ≠ p) && decide (i ≠ p + 1)
def kLs (ns : List Int) (p : Nat) : List Nat := (thirds ns.length p).map (kAt ns p)
def mOf (l : List Nat) : Nat := (((List.range 6).filter fun k => decide (k ∈ l)).map (2 ^ ·)).sum
def msk (ns : List Int) (p : Nat) : Nat := mOf (kLs ns p)
def presL (ns : List Int) (p : Nat) : List Nat := (List.range 6).filter fun k => decide (k ∈ kLs ns p)
def secI : PyData → Int
  | .tuple [_, .int k] => k
  | _ => 0
theorem kAt_lt (ns : List Int) (p i : Nat) : kAt ns p i < 6 := by
  unfold kAt kd
  refine Nat.lt_of_le_of_lt (Nat.add_le_add (?_ : _ ≤ 2) (?_ : _ ≤ 3)) (by decide)
  · split
    · decide
    · split <;> decide
  · split <;> decide
theorem kLs_lt {ns : List Int} {p k : Nat} (h : k ∈ kLs ns p) : k < 6 := by
  obtain ⟨i, _, rfl⟩ := List.mem_map.mp h
  exact kAt_lt ns p i
theorem letL_get {ns : List Int} {p i : Nat} (h : i < ns.length) : (letL ns p).getD i 0 = letZ (lo2 ns p) (hi2 ns p) (ns.getD i 0) := by
  have e : ns[i]? = some ns[i] := List.getElem?_eq_getElem h
  unfold letL
  rw [List.getD_eq_getElem?_getD, List.getElem?_map, e, List.getD_eq_getElem?_getD, e]
  rfl
theorem letZ_kd (z lo hi : Int) : letZ lo hi z = ((kd z lo hi false : Nat) : Int) := by
  unfold letZ kd
  split
  · rfl
  · split <;> rfl
theorem kd_late (z lo hi : Int) : ((kd z lo hi true : Nat) : Int) = letZ lo hi z + 3 := by
  rw [letZ_kd]
  unfold kd
  split
  · rfl
  · split <;> rfl
theorem mem_third {ns : List Int} {p : Nat} (hp : p + 1 < ns.length) (k : Int) : (∃ d ∈ befL ns p ++ behL ns p, secI d = k) ↔ ∃ n : Nat, k = (n : Nat) ∧ n ∈ kLs ns p := by
  have lt {i : Nat} (h : i < p) : ((kAt ns p i : Nat) : Int) = (letL ns p).getD i 0 := by
    rw [letL_get (by omega), letZ_kd]
    unfold kAt
    rw [decide_eq_false (by omega)]
  have gt {i : Nat} (h : p < i) (h2 : i < ns.length) : ((kAt ns p i : Nat) : Int) = (letL ns p).getD i 0 + 3 := by
    rw [letL_get h2, ← kd_late]
    unfold kAt
    rw [decide_eq_true h]
  constructor
  · rintro ⟨d, hd, rfl⟩
    rcases List.mem_append.mp hd with h | h
    · obtain ⟨i, hi, rfl⟩ := List.mem_map.mp h
      have hi := List.mem_range.mp hi
      exact ⟨kAt ns p i, (lt hi).symm, List.mem_map.mpr ⟨i, List.mem_filter.mpr ⟨List.mem_range.mpr (by omega), by simp; omega⟩, rfl⟩⟩
    · obtain ⟨j, hj, rfl⟩ := List.mem_map.mp h
      have hj := List.mem_range.mp hj
      exact ⟨kAt ns p (p + 2 + j), (gt (by omega) (by omega)).symm, List.mem_map.mpr ⟨p + 2 + j, List.mem_filter.mpr ⟨List.mem_range.mpr (by omega), by simp; omega⟩, rfl⟩⟩
  · rintro ⟨n, rfl, hn⟩
    obtain ⟨i, hi, rfl⟩ := List.mem_map.mp hn
    obtain ⟨h1, h2⟩ := List.mem_filter.mp hi
    have h1 := List.mem_range.mp h1
    rw [Bool.and_eq_true, decide_eq_true_eq, decide_eq_true_eq] at h2
    by_cases hlt : i < p
    · exact ⟨_, List.mem_append_left _ (List.mem_map.mpr ⟨i, List.mem_range.mpr hlt, rfl⟩), (lt hlt).symm⟩
    · refine ⟨_, List.mem_append_right _ (List.mem_map.mpr ⟨i - (p + 2), List.mem_range.mpr (by omega), rfl⟩), ?_⟩
      show (letL ns p).getD (p + 2 + (i - (p + 2))) 0 + 3 = _
      rw [show p + 2 + (i - (p + 2)) = i by omega, gt (by omega) h1]
theorem pres_up (ns : List Int) (p : Nat) : ((presL ns p).map fun k => ((k : Nat) : Int)).Pairwise (· < ·) := by
  unfold presL
  rw [List.pairwise_map]
  exact (List.Pairwise.filter _ List.pairwise_lt_range).imp fun h => by omega
def R_pres (ds es : List PyData) : Prop := ∃ (tp : Bool) (ns : List Int) (p : Nat), p + 1 < ns.length ∧ ns.length ≤ 60 ∧ ds = [sqD tp (ns.map PyData.int), .int (p : Nat)] ∧ es = ((presL ns p).map fun k => ((k : Nat) : Int)).map PyData.int
theorem eqvN (a b : Nat) : PyData.eqv (natD a) (natD b) = decide (a = b) := by
  rw [eqv_int]
  exact decide_eq_decide.mpr (by omega)
section
variable {P : Program} {w : World} {K : PySem.W.Frag} {mg : Str → Option Value} {base : Heap} {CN : Addr}
theorem cl_check_number {f : Addr} {fd : FuncData} (F : At K mg "check_number" s_check_number f fd) (c1 : Cl P w K mg base CX0 2 "is_number" (PureR K R_is_number)) (er : ErrC P w K mg base "InvalidNumber" CN ["number"]) : Cl P w K mg base (L2.CX P w) 3 "check_number" (spCN K CN) := by
  refine ⟨f, fd, _, F.fn.okX sc_check_number (fun vs H Q E h => ?_) (fun cdv A outer s H vs Q E hr h => ⟨_, wB.ps, ?_⟩), F.gl, F.fn.kp, F.fn.binds fun _ _ _ _ _ _ us hl => match us, hl with | [_, _, _], _ => rfl⟩
  · obtain ⟨v, d, lo, hi, rfl, _⟩ := h
    rfl
  obtain ⟨v, d, lo, hi, rfl, r, h⟩ := h
  have tk : Takes _ (fun cls d (_ : St) H' => E cls d H') := takes_of (X := cxOf (L2.CX P w) P w K mg base n_check_number "check_number" (defScope s_check_number) f cdv A outer s H E) rfl rfl rfl rfl
  refine b_cons (s_if (M := M0) (k := !isNumD d lo hi) alive0 (td_not (td_val (pd_callC c1 hr (by decide) rfl (ad_cons (nm 0 r) (ad_cons (nm 1 (.int lo)) (ad_cons (nm 2 (.int hi)) ad_nil))) ⟨d, lo, hi, rfl, rfl⟩))) (fun k H2 x2 => ?_) (fun k H2 x2 => b_nil ?_))
  · rcases h with ⟨h, q⟩ | ⟨h, q⟩
    · rw [h] at k
      cases k
    · exact b_cons (s_raise rfl er (hr.mono (by decide)) tk rfl (ca_cons (ce_nm 0 (ca_nil ⟨rfl, (by show 1 ≤ 1000; decide), raised_ex q x2⟩))))
  · rcases h with ⟨h, q⟩ | ⟨h, q⟩
    · exact b_nil (q H2 x2)
    · rw [h] at k
      cases k
theorem cl_present_kinds {f : Addr} {fd : FuncData} (F : At K mg "present_kinds" s_present_kinds f fd) (nb : NoB mg) (c1 : Cl P w K mg base CX0 1 "_third_kinds" (FreshR K R_third)) : Cl P w K mg base CX0 2 "present_kinds" (FreshR K R_pres) := by
  refine ⟨f, fd, _, F.fn.ok sc_present_kinds (fun vs H Q E h => ?_) (fun cdv A outer sh H vs Q E hr h => ⟨_, wB.ps, ?_⟩), F.gl, F.fn.kp, F.fn.binds fun _ _ _ _ _ _ us hl => match us, hl with | [_, _], _ => rfl⟩
  · obtain ⟨M, ds, es, al, r, ⟨_, _, _, _, _, rfl, _⟩, _⟩ := h
    rw [r.length]
    rfl
  · obtain ⟨M, ds, es, al, r, ⟨tp, ns, p, hp, hl, rfl, rfl⟩, q⟩ := h
    obtain ⟨u, v, rfl, r1, r2⟩ := rpa2 r
    refine b_cons (cs_ret (ce_fd al (fd_sortedScI secI _ (pres_up ns p) (t := .two 2 3) (own := [("_", 2), ("kind", 3)]) rfl sc_present_kinds.nd rfl nb.sorted (src_list (FD.pd (fd_callC c1 hr (by decide) rfl (ad_cons (nm 0 r1) (ad_cons (nm 1 r2) ad_nil)) ⟨tp, ns, p, hp, by omega, rfl, rfl⟩))) (blkOk_by (N := n_present_kinds) (sc := defScope s_present_kinds) (by decide +kernel)) (fun _ _ _ _ _ => pg_tup rfl (pgs_cons (pg_name (i := 2) sc_present_kinds.nd rfl (.inl rfl)) (pgs_cons (pg_name (i := 3) sc_present_kinds.nd rfl (.inl rfl)) pgs_nil))) ?_ ?_ ?_ (fun k => ?_) ?_) q))
    · intro d hd
      rcases List.mem_append.mp hd with h | h
      · obtain ⟨i, _, rfl⟩ := List.mem_map.mp h
        exact ⟨_, _, rfl⟩
      · obtain ⟨i, _, rfl⟩ := List.mem_map.mp h
        exact ⟨_, _, rfl⟩
    · rintro M H d σ' ⟨_, _, _, _, _, _, _, rfl⟩
      rfl
    · unfold befL behL
      rw [List.length_append, List.length_map, List.length_map, List.length_range, List.length_range]
      omega
    · rw [mem_third hp, List.mem_map]
      unfold presL
      constructor
      · rintro ⟨n, hn, rfl⟩
        exact ⟨n, rfl, of_decide_eq_true (List.mem_filter.mp hn).2⟩
      · rintro ⟨n, rfl, hn⟩
        exact ⟨n, List.mem_filter.mpr ⟨List.mem_range.mpr (kLs_lt hn), decide_eq_true hn⟩, rfl⟩
    · rintro s0 H0 C cl fp M' H' d σ' hM lift hd ⟨da, db, v1, v2, e, q1, q2, rfl⟩
      have hk : db = .int (secI d) := by
        rcases List.mem_append.mp hd with h | h
        · obtain ⟨i, _, rfl⟩ := List.mem_map.mp h
          cases e
          rfl
        · obtain ⟨i, _, rfl⟩ := List.mem_map.mp h
          cases e
          rfl
      rw [hk] at q2
      exact nm 3 q2
end
end IK

/-! methods with keyword-only parameters; comprehensions over a list of whatever -/
namespace GV
open PySem PySem.Spec PyProof.Rows L2
def wK (X : Cx) (kws : List Keyword) : TA := fun σ H Q => ∃ t, PK X kws t ∧ t σ H Q
theorem wK.pk {X : Cx} {kws : List Keyword} : PK X kws (wK X kws) := ⟨fun pos pins s σ H Q I ⟨_, h, q⟩ => h.run pos pins s σ H Q I q⟩
section
variable {X : Cx} {M : Addr → Prop} {σ : St} {H : Hp} {a b e o elt tst : Expr} {es : List Expr} {pos : Pos}
theorem ck_nil {Q : List V → Hp → Prop} (q : Q [] H) : wK X [] σ H Q := ⟨_, pk_nil, q⟩
theorem ck_one {nm : Option Str} {kpos : Pos} {Q : List V → Hp → Prop} (h : wE X e σ H fun v H1 => Q [v] H1) : wK X [⟨nm, e, kpos⟩] σ H Q := ⟨_, pk_cons wE.pe pk_nil, h⟩
/-- a method that may be told some of its parameters by name -/
structure MethK (P : Program) (w : World) (K : PySem.W.Frag) (mg : Str → Option Value) (base : Heap) (CX : CXT) (C : Addr) (m : Str) (k : Nat) (ks : List Str) (gV : List V → List V → List V) (sp : Sp) : Prop where
  ex : ∃ (f : Addr) (fd : FuncData) (ps : List Str) (g : List Value → List Value → List Value), Meth K C m f ∧ FnOk P w K mg base CX k f fd ps sp ∧ KBn K fd ps 1 ks g gV
/-- o.m(k = e, ..) -/
theorem ce_methK {C : Addr} {m : Str} {k j : Nat} {ks : List Str} {gV : List V → List V → List V} {CX : CXT} {sp : Sp} {W : WX} {Q : VK} {apos : Pos} {kws : List Keyword} {pl : Sem Bool} (c : Cls X.K C) (t : MethK X.prog X.w X.K X.mg X.base CX C m k ks gV sp) (hr : Room j X.A) (hkj : k ≤ j) (hx : ∀ σ, PassesAt CX X σ (WE W σ))
    (h : wE X o σ H fun x H1 => ∃ a dx fs, x = .ref a ∧ H1 a = some (.ins C dx fs) ∧ fs.lookup m = none ∧ wK X kws σ H1 fun zs H2 => zs.length = ks.length ∧ sp (gV [.ref a] zs) H2 Q fun cls d H' => W cls d σ H')
    (hall : (backToKw pos (keywordEach kws X.env)).all (·.1.isSome) = true := by rfl) (hks : (backToKw pos (keywordEach kws X.env)).filterMap (·.1) = ks := by rfl)
    (hpl : ((backTo pos (starEach [] X.env)).any (·.1) || (backToKw pos (keywordEach kws X.env)).any (·.1.isNone)) = false := by rfl)
    (hev : eval (.Call (.Attribute o m apos) [] kws pos) X.env = (do
      let ov ← eval o X.env
      standAt apos.atName
      let (f, first) ← holding [ov] (getMethod ov m pl)
      callWith pos f first (backTo pos (starEach [] X.env)) (backToKw pos (keywordEach kws X.env))) := by rfl) : wE X (.Call (.Attribute o m apos) [] kws pos) σ H Q := by
  obtain ⟨f, fd, ps, g, hm, F, hb⟩ := t.ex
  refine ⟨fun σ H Q => wE X o σ H fun x H1 => ∃ a dx fs, x = .ref a ∧ H1 a = some (.ins C dx fs) ∧ fs.lookup m = none ∧ wK X kws σ H1 fun zs H2 => zs.length = ks.length ∧ sp (gV [.ref a] zs) H2 Q fun cls d H' => W cls d σ H', ⟨fun pins s σ H Q I h => ?_⟩, h⟩
  refine PySem.W.methodCall_KW (pl := pl) (thn (wE.pe.run pins s σ H _ I h) fun u s1 ⟨x, H1, I1, rx, y, dx, fs, ex, eg, l, q⟩ => ?_) hev
  cases ex
  cases (show u = Value.ref y from rx)
  refine getmeth_ok I1 eg c hm l (PySem.W.callWith_KW0 (first := [.ref y]) (h₀ := X.base) I1.ok.mod.kin hm.kp hall (thn (wK.pk.run pos pins s1 σ H1 _ I1 q) fun ws s2 ⟨zs, H2, I2, rz, hl, q2⟩ => ⟨I2.kIn, ?_⟩) hpl)
  rw [hks]
  have r1 : Vals [V.ref y] [Value.ref y] := .cons rfl .nil
  have r2 := hb.rel r1 rz
  have bt := hb.to s2 [.ref y] ws I2.kIn rfl (by rw [← rz.length, hl])
  refine wpAny_call (codeAny_mono (F.run X.A X.stack s2 H2 ⟨[.ref y], ks.zip ws⟩ _ _ Q _ (hr.mono hkj) I2.env0 bt r2 q2) fun r s' got => ?_)
  match r, got with
  | .error z, got => exact hx σ _ H2 s2 z s' I2 got
  | .ok (.ret u), got => exact I2.after got
  | .ok .next, got => exact (show False from got).elim
  | .ok .brk, got => exact (show False from got).elim
  | .ok .cont, got => exact (show False from got).elim
/-- [elt for x in e if tst], e a list of whatever; the heap is named at each turn -/
theorem ce_lcL {slot : Nat} {x : Str} {p2 : Pos} {scope : Scope} {own : List (Str × Nat)} {Q : VK} (hc : X.calm = true) (hN : X.N.Nodup) (ok : BlkOk X.N X.env.scope scope own)
    (hx : ∀ s H C cl fp, PG (Cx.lc X s H scope C cl fp) (.Name x p2) (gName slot)) (hw : ∀ v, wipe ((wipe σ (own.map (·.2))).set slot (some v)) (own.map (·.2)) = wipe σ (own.map (·.2)))
    (h : wE X e σ H fun v H1 => ∃ (l : Addr) (xs : List V), v = .ref l ∧ H1 l = some (.lst xs) ∧ ∀ D, H1 D = none → ∃ J : Nat → Hp → Prop, J 0 (upd H1 D (.lst [])) ∧ (∀ i H', J i H' → H' l = some (.lst xs)) ∧
      (∀ i H' y, xs[i]? = some y → J i H' → ∀ s0 H0 C cl fp, wT (Cx.lc X s0 H0 scope C cl fp) tst ((wipe σ (own.map (·.2))).set slot (some y)) H' fun b H3 => if b = true then ∀ s0 H0 C cl fp, wE (Cx.lc X s0 H0 scope C cl fp) elt ((wipe σ (own.map (·.2))).set slot (some y)) H3 fun z H4 => ∃ acc, H4 D = some (.lst acc) ∧ acc.length < 100000 ∧ J (i + 1) (upd H4 D (.lst (acc ++ [z]))) else J (i + 1) H3) ∧ ∀ H', J xs.length H' → Q (.ref D) H')
    (hf : ∀ x, foldedSetIterable e X.env x = pure x := by intro _; rfl) : wE X (.ListComp elt [⟨.Name x p2, e, [tst], 0⟩] scope pos) σ H Q := by
  refine ⟨_, pe_lc (tt := fun σ H Q => ∀ s0 H0 C cl fp, wT (Cx.lc X s0 H0 scope C cl fp) tst σ H Q) (te := fun σ H Q => ∀ s0 H0 C cl fp, wE (Cx.lc X s0 H0 scope C cl fp) elt σ H Q) hc hN (pi_list wE.pe) ok hx (fun s0 H0 C cl fp => ⟨fun pins s σ H Q I h => (pts_one wT.pt).run pins s σ H Q I (h s0 H0 C cl fp)⟩)
    (fun s0 H0 C cl fp => ⟨fun pins s σ H Q I h => wE.pe.run pins s σ H Q I (h s0 H0 C cl fp)⟩) hf, wE.weak h ?_⟩
  rintro v H1 ⟨l, xs, rfl, h1, run⟩
  refine ⟨l, rfl, ⟨xs, SqL.of h1⟩, ?_⟩
  intro D hD
  obtain ⟨J, h0, hk, ht, hd⟩ := run D hD
  refine ⟨fun i m H' => m = xs.length - i ∧ i ≤ xs.length ∧ J i H', ⟨xs.length, rfl, Nat.zero_le _, h0⟩, ?_⟩
  rintro i m H' ⟨rfl, hi', j⟩
  have hl := hk _ _ j
  by_cases hlt : i < xs.length
  · refine .inr ⟨⟨xs, xs[i], .inl (.inl hl), List.getElem?_eq_getElem hlt⟩, J (i + 1), fun H2 j2 => ⟨xs.length - (i + 1), by omega, rfl, hlt, j2⟩, fun y H2 q => ?_⟩
    obtain ⟨rfl, q⟩ := q
    refine ⟨hw _, fun s0 H0 C cl fp => wT.weak (ht i _ y (q xs (.inl (.inl hl))) j s0 H0 C cl fp) fun b H3 => ?_⟩
    cases b with
    | false => exact id
    | true =>
      intro hh s1 H1 C1 cl1 fp1
      refine wE.weak (hh s1 H1 C1 cl1 fp1) ?_
      rintro z H4 ⟨acc, a1, a2, a3⟩
      exact ⟨acc, a1, Nat.lt_of_lt_of_le a2 (by rw [sizeLine_eq]; decide), a3⟩
  · have e2 : i = xs.length := by omega
    subst e2
    exact .inl ⟨⟨xs, .inl (.inl hl), Nat.le_refl _⟩, hd H' j⟩
end
end GV

namespace IK
open PySem PySem.Spec PyProof.Rows L2 GV
def spHoOk (CH : Addr) : Sp := fun vs H Q _ => ∃ h n, vs = [.ref h] ∧ HAt CH n H h ∧ toN H Q
section
variable {P : Program} {w : World} {K : PySem.W.Frag} {mg : Str → Option Value} {base : Heap} {CL CH CN : Addr}
theorem cl_check_house {f : Addr} {fd : FuncData} (F : At K mg "check_house" s_check_house f fd) (nb : NoB mg) (B : HouC K CH) (gH : mg "House" = some (.ref CH)) : Cl P w K mg base CX0 1 "check_house" (spHoOk CH) := by
  refine ⟨f, fd, _, F.fn.ok sc_check_house (fun vs H Q E h => ?_) (fun cdv A outer s H vs Q E hr h => ⟨_, wB.ps, ?_⟩), F.gl, F.fn.kp, F.fn.binds fun _ _ _ _ _ _ us hl => match us, hl with | [_], _ => rfl⟩
  · obtain ⟨h, n, rfl, _⟩ := h
    rfl
  · obtain ⟨h, n, rfl, ⟨dx, hh⟩, q⟩ := h
    exact b_cons (cs_if (ct_not (ct_val ⟨_, pe_callB (C8.call_isC B.ins) rfl nb.isinstance PyProof.Rows.boot_isinstance (pa_cons wE.pe (pa_cons (pe_glob rfl gH (v := .ref CH) rfl (by decide)) pa_nil)) (by decide) (by decide), ce_nm 0 ⟨h, dx, _, rfl, hh, ⟨true, rfl, b_nil (b_nil (q H (Evl.Ex.refl H)))⟩⟩⟩)))
end
end IK

namespace IK
open PySem PySem.Spec PyProof.Rows L2 GV
/-! ### the helpers, as indexes and as stones -/
def ltN (lo hi z : Int) : Nat := if z < lo then 0 else if z < hi then 1 else 2
theorem letZ_nat (lo hi z : Int) : letZ lo hi z = ((ltN lo hi z : Nat) : Int) := by
  unfold letZ ltN
  split
  · rfl
  · split <;> rfl
theorem ltN_le (lo hi z : Int) : ltN lo hi z ≤ 2 := by
  unfold ltN
  split
  · decide
  · split <;> decide
def kdN (ns : List Int) (p i : Nat) : Nat := ltN (lo2 ns p) (hi2 ns p) (ns.getD i 0) + (if i < p then 0 else 3)
def kb (n : Nat) (ns : List Int) (p i : Nat) : Bool := bitN n (kdN ns p i)
def behI (ns : List Int) (p : Nat) : List Nat := (List.range (ns.length - (p + 2))).map (p + 2 + ·)
def hIx (n : Nat) (ns : List Int) (p : Nat) : List Nat := (List.range p).filter (kb n ns p) ++ (behI ns p).filter (kb n ns p)
def natL (ns : List Nat) : List PyData := ns.map fun i => PyData.int (i : Nat)
theorem let_get {ns : List Int} {p i : Nat} {z : Int} (h : ns[i]? = some z) : (letL ns p).getD i 0 = ((ltN (lo2 ns p) (hi2 ns p) z : Nat) : Int) := by
  rw [← letZ_nat]
  refine getD_of ?_
  unfold letL
  rw [List.getElem?_map, h]
  rfl
theorem befL_eq {ns : List Int} {p : Nat} (hp : p + 1 < ns.length) : befL ns p = (List.range p).map fun i => ikD i ((kdN ns p i : Nat) : Int) := by
  unfold befL
  refine List.map_congr_left fun i hi => ?_
  have hi := List.mem_range.mp hi
  obtain ⟨z, hz⟩ := get_i (ns := ns) (i := i) (by omega)
  rw [let_get hz]
  unfold kdN
  rw [if_pos hi, getD_of hz]
  rfl
theorem behL_eq {ns : List Int} {p : Nat} (hp : p + 1 < ns.length) : behL ns p = (behI ns p).map fun i => ikD i ((kdN ns p i : Nat) : Int) := by
  unfold behL behI
  rw [List.map_map]
  refine List.map_congr_left fun j hj => ?_
  have hj := List.mem_range.mp hj
  obtain ⟨z, hz⟩ := get_i (ns := ns) (i := p + 2 + j) (by omega)
  show ikD _ _ = ikD (p + 2 + j) ((kdN ns p (p + 2 + j) : Nat) : Int)
  rw [let_get hz]
  unfold kdN
  rw [if_neg (by omega), getD_of hz]
  rfl
def bkD (n : Nat) : PyData → Bool
  | .tuple [_, .int k] => bitN n k.toNat
  | _ => false
def fD : PyData → PyData
  | .tuple [i, _] => i
  | d => d
theorem help_eq {n : Nat} {ns : List Int} {p : Nat} (hp : p + 1 < ns.length) : ((befL ns p ++ behL ns p).filter (bkD n)).map fD = natL (hIx n ns p) := by
  have one : ∀ l : List Nat, ((l.map fun i => ikD i ((kdN ns p i : Nat) : Int)).filter (bkD n)).map fD = natL (l.filter (kb n ns p)) := fun l => by
    unfold natL
    rw [List.filter_map, List.map_map]
    rfl
  unfold hIx natL
  rw [befL_eq hp, behL_eq hp, List.filter_append, List.map_append, one, one, List.map_append]
  rfl
theorem hIx_ok {n : Nat} {ns : List Int} {p i : Nat} (hp : p + 1 < ns.length) : i ∈ hIx n ns p ↔ i < ns.length ∧ i ≠ p ∧ i ≠ p + 1 ∧ kb n ns p i = true := by
  unfold hIx behI
  rw [List.mem_append, List.mem_filter, List.mem_filter, List.mem_range, List.mem_map]
  constructor
  · rintro (⟨h, k⟩ | ⟨⟨j, hj, rfl⟩, k⟩)
    · exact ⟨by omega, by omega, by omega, k⟩
    · have hj := List.mem_range.mp hj
      exact ⟨by omega, by omega, by omega, k⟩
  · rintro ⟨h1, h2, h3, k⟩
    by_cases hi : i < p
    · exact .inl ⟨hi, k⟩
    · exact .inr ⟨⟨i - (p + 2), List.mem_range.mpr (by omega), by omega⟩, k⟩
theorem hIx_up (n : Nat) (ns : List Int) (p : Nat) : (hIx n ns p).Pairwise (· < ·) := by
  unfold hIx behI
  refine List.pairwise_append.mpr ⟨(List.pairwise_lt_range).filter _, ?_, fun x hx y hy => ?_⟩
  · exact (List.pairwise_map.mpr ((List.pairwise_lt_range).imp fun h => by omega)).filter _
  · have hx := List.mem_range.mp (List.mem_filter.mp hx).1
    obtain ⟨j, _, rfl⟩ := List.mem_map.mp (List.mem_filter.mp hy).1
    omega
section
variable {P : Program} {w : World} {K : PySem.W.Frag} {mg : Str → Option Value} {base : Heap}
def BitM (P : Program) (w : World) (K : PySem.W.Frag) (mg : Str → Option Value) (base : Heap) (CH : Addr) : Prop := ∃ f fd, Meth K CH "names_index" f ∧ FnOk P w K mg base CX0 1 f fd ["self", "index"] (spBit CH) ∧ Binds K fd ["self", "index"] []
def spHP (K : PySem.W.Frag) (CH : Addr) (then_ : (Addr → Prop) → Nat → List Int → Nat → Hp → VK → Prop) : Sp := fun vs H Q _ => ∃ (M : Addr → Prop) (u v : V) (h : Addr) (n : Nat) (tp : Bool) (ns : List Int) (p : Nat), vs = [u, v, .ref h] ∧ Alive M H ∧ Rp K M H u (sqD tp (ns.map PyData.int)) ∧ Rp K M H v (.int (p : Nat)) ∧ p + 1 < ns.length ∧ RowL ns ∧ HAt CH n H h ∧ ¬ M h ∧ then_ M n ns p H Q
theorem NTins {C dx : Addr} {fs : List (Str × V)} : NT (.ins C dx fs) := fun _ z => by cases z
abbrev toIx (K : PySem.W.Frag) (M : Addr → Prop) (n : Nat) (ns : List Int) (p : Nat) (H : Hp) (Q : VK) : Prop := ∀ l ws H', H l = none → Evl.Ex H H' → H' l = some (.lst ws) → RpAll K M H' ws (natL (hIx n ns p)) → Q (.ref l) H'
theorem cl_helper_indexes {f CH : Addr} {fd : FuncData} (F : At K mg "_helper_indexes" s_helper_indexes f fd) (B : HouC K CH) (bm : BitM P w K mg base CH) (ct : Cl P w K mg base CX0 1 "_third_kinds" (FreshR K R_third)) :
    Cl P w K mg base CX0 2 "_helper_indexes" (spHP K CH (toIx K)) := by
  refine ⟨f, fd, _, F.fn.ok sc_helper_indexes (fun vs H Q E h => ?_) (fun cdv A outer sh H vs Q E hr h => ⟨_, wB.ps, ?_⟩), F.gl, F.fn.kp, F.fn.binds fun _ _ _ _ _ _ us hl => match us, hl with | [_, _, _], _ => rfl⟩
  · obtain ⟨M, u, v, h, n, tp, ns, p, rfl, _⟩ := h
    rfl
  · obtain ⟨M, u, v, h, n, tp, ns, p, rfl, al, r1, r2, hp, hrow, ⟨dx, hh⟩, nh, q⟩ := h
    obtain ⟨fb, fdb, bm1, bm2, bm3⟩ := bm
    have hl := hrow.1
    have okd : ∀ d ∈ befL ns p ++ behL ns p, ∃ i k : Nat, d = ikD i (k : Nat) := fun d hd => by
      rw [befL_eq hp, behL_eq hp] at hd
      rcases List.mem_append.mp hd with hd | hd
      · obtain ⟨i, _, rfl⟩ := List.mem_map.mp hd
        exact ⟨_, _, rfl⟩
      · obtain ⟨i, _, rfl⟩ := List.mem_map.mp hd
        exact ⟨_, _, rfl⟩
    refine b_cons (cs_ret (ce_fd al (fd_filterO (t := .two 3 4) (own := [("index", 3), ("kind", 4)]) (bkD n) fD rfl sc_helper_indexes.nd (src_list (FD.pd (fd_callC ct hr (by decide) rfl (ad_cons (nm 0 r1) (ad_cons (nm 1 r2) ad_nil)) ⟨tp, ns, p, hp, by omega, rfl, rfl⟩))) (blkOk_by (N := n_helper_indexes) (sc := defScope s_helper_indexes) (by decide +kernel)) (fun _ _ _ _ _ => pg_tup rfl (pgs_cons (pg_name (i := 3) sc_helper_indexes.nd rfl (.inl rfl)) (pgs_cons (pg_name (i := 4) sc_helper_indexes.nd rfl (.inl rfl)) pgs_nil))) ?_ ?_ ?_ ?_) fun l ws H' h1 h2 h3 h4 => q l ws H' h1 h2 h3 (by rw [← help_eq hp]; exact h4)))
    · intro d hd
      obtain ⟨i, k, rfl⟩ := okd d hd
      exact ⟨_, _, rfl⟩
    · rintro M H d σ' ⟨_, _, _, _, _, _, _, rfl⟩
      rfl
    · have : (befL ns p ++ behL ns p).length ≤ 100000 := by
        unfold befL behL
        rw [List.length_append, List.length_map, List.length_map, List.length_range, List.length_range]
        omega
      exact this
    · rintro s0 H0 C cl fp M' H' d σ' hM lift kp hd ⟨da, db, v1, v2, e, q1, q2, rfl⟩
      obtain ⟨i, k, rfl⟩ := okd d hd
      cases e
      cases q2
      obtain ⟨hh', nh'⟩ := kp _ _ nh NTins hh
      refine ⟨td_val (.mk fun H1 e1 al1 Q q => ?_), PD.is (nm 3 q1) rfl⟩
      have hh1 := e1 _ _ hh' nh' NTins
      refine ce_meth (AtN.name (i := 2) rfl (by first | exact .inl rfl | exact .inr (.inl rfl) | exact .inr (.inr rfl)) rfl) B.ins.cl bm1 bm2 hr (by decide) bm3 pass0 hh1 rfl (ca_cons (ce_nm 4 (ca_nil ⟨h, n, k, rfl, ⟨dx, hh1⟩, fun H3 x3 => ?_⟩)))
      have e2 : bitN n k = bkD n (ikD i (k : Nat)) := by
        show _ = bitN n ((k : Nat) : Int).toNat
        rw [Int.toNat_natCast]
      rw [e2]
      exact q _ H3 x3 (.bl _)
theorem cl_frees {f CH : Addr} {fd : FuncData} (F : At K mg "frees" s_frees f fd) (nb : NoB mg) (ch : Cl P w K mg base CX0 2 "_helper_indexes" (spHP K CH (toIx K))) :
    Cl P w K mg base CX0 3 "frees" (spHP K CH fun M n ns p H Q => ∀ H', Evl.Ex H H' → Q (.bl (decide (0 < (hIx n ns p).length))) H') := by
  refine ⟨f, fd, _, F.fn.ok sc_frees (fun vs H Q E h => ?_) (fun cdv A outer s H vs Q E hr h => ⟨_, wB.ps, ?_⟩), F.gl, F.fn.kp, F.fn.binds fun _ _ _ _ _ _ us hl => match us, hl with | [_, _, _], _ => rfl⟩
  · obtain ⟨M, u, v, h, n, tp, ns, p, rfl, _⟩ := h
    rfl
  · obtain ⟨M, u, v, h, n, tp, ns, p, rfl, al, r1, r2, hp, hrow, hh, nh, q⟩ := h
    refine b_cons (s_ret al (pd_gt (pd_len nb rfl (FD.pd (ds := natL (hIx n ns p)) (.mk fun H1 e1 al1 Q q => ?_)) rfl) pd_int) fun v2 H2 x2 r2 => ?_)
    · exact ce_call ch hr (by decide) rfl (ca_cons (ce_nm 0 (ca_cons (ce_nm 1 (ca_cons (ce_nm 2 (ca_nil ⟨M, u, v, h, n, tp, ns, p, rfl, al1, r1.mono (fun _ z => z) e1, r2.mono (fun _ z => z) e1, hp, hrow, hh.exM e1 nh, nh, q⟩)))))))
    · cases r2
      have e : decide ((0 : Int) < ((natL (hIx n ns p)).length : Nat)) = decide (0 < (hIx n ns p).length) := by
        unfold natL
        rw [List.length_map, Bool.eq_iff_iff, decide_eq_true_eq, decide_eq_true_eq]
        omega
      rw [e]
      exact q H2 x2
end
end IK

namespace IK
open PySem PySem.Spec PyProof.Rows L2 GV
section
variable {P : Program} {w : World} {K : PySem.W.Frag} {mg : Str → Option Value} {base : Heap}
theorem cl_check_all {f CH : Addr} {fd : FuncData} (F : At K mg "_check_all" s_check_all f fd) (c1 : Cl P w K mg base CX0 6 "check_row" (spRowOk K toN)) (c2 : Cl P w K mg base CX0 4 "check_place" (spPlOk K)) (c3 : Cl P w K mg base CX0 1 "check_house" (spHoOk CH)) : Cl P w K mg base CX0 7 "_check_all" (spHP K CH fun _ _ _ _ H Q => toN H Q) := by
  refine ⟨f, fd, _, F.fn.ok sc_check_all (fun vs H Q E h => ?_) (fun cdv A outer s H vs Q E hr h => ⟨_, wB.ps, ?_⟩), F.gl, F.fn.kp, F.fn.binds fun _ _ _ _ _ _ us hl => match us, hl with | [_, _, _], _ => rfl⟩
  · obtain ⟨M, u, v, h, n, tp, ns, p, rfl, _⟩ := h
    rfl
  · obtain ⟨M, u, v, h, n, tp, ns, p, rfl, al, r1, r2, hp, hrow, hh, nh, q⟩ := h
    refine b_cons (cs_expr (ce_call c1 hr (by decide) rfl (ca_cons (ce_nm 0 (ca_nil ⟨M, u, tp, ns, rfl, al, r1, hrow, fun H2 x2 => ?_⟩)))))
    refine b_cons (cs_expr (ce_call c2 hr (by decide) rfl (ca_cons (ce_nm 0 (ca_cons (ce_nm 1 (ca_nil ⟨M, u, v, tp, ns, p, rfl, al.mono x2, r1.mono (fun _ z => z) (ExM.of x2), r2.mono (fun _ z => z) (ExM.of x2), hp, fun H3 x3 => ?_⟩)))))))
    exact b_cons (cs_expr (ce_call c3 hr (by decide) rfl (ca_cons (ce_nm 2 (ca_nil ⟨h, n, rfl, (hh.ex fun o => x2 _ _).ex fun o => x3 _ _, fun H4 x4 => b_nil (q H4 ((x2.trans x3).trans x4))⟩)))))
/-! ### the functions that the law asks -/
def stL (n : Nat) (ns : List Int) (p : Nat) : List Int := (hIx n ns p).map fun i => ns.getD i 0
def rowD (ns : List Int) : PyData → PyData
  | .int i => .int (ns.getD i.toNat 0)
  | d => d
abbrev toL (K : PySem.W.Frag) (M : Addr → Prop) (zs : List Int) (H : Hp) (Q : VK) : Prop := ∀ l ws H', H l = none → Evl.Ex H H' → H' l = some (.lst ws) → RpAll K M H' ws (zs.map PyData.int) → Q (.ref l) H'
theorem cl_helpers {f CH : Addr} {fd : FuncData} (F : At K mg "helpers" s_helpers f fd) (ck : Cl P w K mg base CX0 7 "_check_all" (spHP K CH fun _ _ _ _ H Q => toN H Q)) (ch : Cl P w K mg base CX0 2 "_helper_indexes" (spHP K CH (toIx K))) :
    Cl P w K mg base CX0 8 "helpers" (spHP K CH fun M n ns p H Q => toL K M (stL n ns p) H Q) := by
  refine ⟨f, fd, _, F.fn.ok sc_helpers (fun vs H Q E h => ?_) (fun cdv A outer s H vs Q E hr h => ⟨_, wB.ps, ?_⟩), F.gl, F.fn.kp, F.fn.binds fun _ _ _ _ _ _ us hl => match us, hl with | [_, _, _], _ => rfl⟩
  · obtain ⟨M, u, v, h, n, tp, ns, p, rfl, _⟩ := h
    rfl
  · obtain ⟨M, u, v, h, n, tp, ns, p, rfl, al, r1, r2, hp, hrow, hh, nh, q⟩ := h
    refine b_cons (cs_expr (ce_call ck hr (by decide) rfl (ca_cons (ce_nm 0 (ca_cons (ce_nm 1 (ca_cons (ce_nm 2 (ca_nil ⟨M, u, v, h, n, tp, ns, p, rfl, al, r1, r2, hp, hrow, hh, nh, fun H2 x2 => ?_⟩)))))))))
    have al2 := al.mono x2
    have r1a := r1.mono (fun _ z => z) (ExM.of x2)
    have r2a := r2.mono (fun _ z => z) (ExM.of x2)
    have hh2 := hh.ex fun o => x2 _ _
    have hl := hrow.1
    refine b_cons (cs_ret (ce_fd al2 (fd_map (t := .one 3) (own := [("index", 3)]) (rowD ns) rfl sc_helpers.nd (src_list (FD.pd (ds := natL (hIx n ns p)) (.mk fun H1 e1 al1 Q q => ce_call ch hr (by decide) rfl (ca_cons (ce_nm 0 (ca_cons (ce_nm 1 (ca_cons (ce_nm 2 (ca_nil ⟨M, u, v, h, n, tp, ns, p, rfl, al1, r1a.mono (fun _ z => z) e1, r2a.mono (fun _ z => z) e1, hp, hrow, hh2.exM e1 nh, nh, q⟩)))))))))) (blkOk_by (N := n_helpers) (sc := defScope s_helpers) (by decide +kernel)) (fun _ _ _ _ _ => pg_name (i := 3) sc_helpers.nd rfl (.inl rfl)) (fun _ _ => trivial) ?_ ?_ ?_) fun l ws H3 hl3 x3 h3 r3 => q l ws H3 (Evl.fresh_back x2 hl3) (x2.trans x3) h3 ?_))
    · rintro M H d σ' ⟨v, _, rfl⟩
      rfl
    · have : (hIx n ns p).length ≤ 100000 := by
        unfold hIx behI
        rw [List.length_append]
        have h1 := List.length_filter_le (kb n ns p) (List.range p)
        have h2 := List.length_filter_le (kb n ns p) ((List.range (ns.length - (p + 2))).map (p + 2 + ·))
        rw [List.length_map, List.length_range] at h2
        rw [List.length_range] at h1
        omega
      unfold natL
      rw [List.length_map]
      exact this
    · rintro s0 H0 C cl fp M' H' d σ' hM lift hd ⟨v', rv, rfl⟩
      obtain ⟨i, hi, rfl⟩ := List.mem_map.mp hd
      obtain ⟨z, hz⟩ := get_i (ns := ns) (i := i) ((hIx_ok hp).mp hi).1
      refine PD.is (pd_ix (nm 0 (lift _ _ r1a)) (nm 3 rv) (ix_sqI hz)) ?_
      show PyData.int z = .int (ns.getD ((i : Nat) : Int).toNat 0)
      rw [Int.toNat_natCast, getD_of hz]
    · have e : (natL (hIx n ns p)).map (rowD ns) = (stL n ns p).map PyData.int := by
        unfold natL stL
        rw [List.map_map, List.map_map]
        refine List.map_congr_left fun i _ => ?_
        show PyData.int (ns.getD ((i : Nat) : Int).toNat 0) = _
        rw [Int.toNat_natCast]
        rfl
      rw [e] at r3
      exact r3
def optD : Option Int → PyData
  | none => .none
  | some z => .int z
def onlyL : List Int → Option Int
  | [z] => some z
  | _ => none
theorem cl_keystone {f CH : Addr} {fd : FuncData} (F : At K mg "keystone" s_keystone f fd) (nb : NoB mg) (ch : Cl P w K mg base CX0 8 "helpers" (spHP K CH fun M n ns p H Q => toL K M (stL n ns p) H Q)) :
    Cl P w K mg base CX0 9 "keystone" (spHP K CH fun M n ns p H Q => ∀ v H', Evl.Ex H H' → Rp K M H' v (optD (onlyL (stL n ns p))) → Q v H') := by
  refine ⟨f, fd, _, F.fn.ok sc_keystone (fun vs H Q E h => ?_) (fun cdv A outer s H vs Q E hr h => ⟨_, wB.ps, ?_⟩), F.gl, F.fn.kp, F.fn.binds fun _ _ _ _ _ _ us hl => match us, hl with | [_, _, _], _ => rfl⟩
  · obtain ⟨M, u, v, h, n, tp, ns, p, rfl, _⟩ := h
    rfl
  · obtain ⟨M, u, v, h, n, tp, ns, p, rfl, al, r1, r2, hp, hrow, hh, nh, q⟩ := h
    refine b_cons (cs_set (i := 3) sc_keystone.nd rfl (.inl rfl) (ce_call ch hr (by decide) rfl (ca_cons (ce_nm 0 (ca_cons (ce_nm 1 (ca_cons (ce_nm 2 (ca_nil ⟨M, u, v, h, n, tp, ns, p, rfl, al, r1, r2, hp, hrow, hh, nh, fun l ws H2 hl x2 h2 r => ?_⟩)))))))))
    generalize stL n ns p = zs at r q
    have al2 := al.mono x2
    have rl : Rp K M H2 (.ref l) (intsD zs) := .lst (al.fresh hl) (.inl h2) r
    refine b_cons (s_ret al2 (pd_if (k := decide (zs.length = 1)) (TD.is (td_eq hr.units (pd_len nb rfl (nm 3 rl) (n := zs.length) (by simp [lenD])) pd_int rfl rfl) ?_) (fun k => ?_) (fun k => ?_)) fun v3 H3 x3 r3 => q v3 H3 (x2.trans x3) r3)
    · rw [eqv_int, Bool.eq_iff_iff, decide_eq_true_eq, decide_eq_true_eq]
      omega
    · match zs, of_decide_eq_true k with
      | [z], _ => exact pd_ix (nm 3 rl) pd_int rfl
    · have e : onlyL zs = none := by
        match zs, of_decide_eq_false k with
        | [], _ => rfl
        | _ :: _ :: _, _ => rfl
        | [_], k => exact absurd rfl k
      rw [e]
      exact pd_non
theorem cl_is_free {f CH : Addr} {fd : FuncData} (F : At K mg "is_free" s_is_free f fd) (ck : Cl P w K mg base CX0 7 "_check_all" (spHP K CH fun _ _ _ _ H Q => toN H Q)) (cf : Cl P w K mg base CX0 3 "frees" (spHP K CH fun M n ns p H Q => ∀ H', Evl.Ex H H' → Q (.bl (decide (0 < (hIx n ns p).length))) H')) :
    Cl P w K mg base CX0 8 "is_free" (spHP K CH fun M n ns p H Q => ∀ H', Evl.Ex H H' → Q (.bl (decide (0 < (hIx n ns p).length))) H') := by
  refine ⟨f, fd, _, F.fn.ok sc_is_free (fun vs H Q E h => ?_) (fun cdv A outer s H vs Q E hr h => ⟨_, wB.ps, ?_⟩), F.gl, F.fn.kp, F.fn.binds fun _ _ _ _ _ _ us hl => match us, hl with | [_, _, _], _ => rfl⟩
  · obtain ⟨M, u, v, h, n, tp, ns, p, rfl, _⟩ := h
    rfl
  · obtain ⟨M, u, v, h, n, tp, ns, p, rfl, al, r1, r2, hp, hrow, hh, nh, q⟩ := h
    refine b_cons (cs_expr (ce_call ck hr (by decide) rfl (ca_cons (ce_nm 0 (ca_cons (ce_nm 1 (ca_cons (ce_nm 2 (ca_nil ⟨M, u, v, h, n, tp, ns, p, rfl, al, r1, r2, hp, hrow, hh, nh, fun H2 x2 => ?_⟩)))))))))
    exact b_cons (cs_ret (ce_call cf hr (by decide) rfl (ca_cons (ce_nm 0 (ca_cons (ce_nm 1 (ca_cons (ce_nm 2 (ca_nil ⟨M, u, v, h, n, tp, ns, p, rfl, al.mono x2, r1.mono (fun _ z => z) (ExM.of x2), r2.mono (fun _ z => z) (ExM.of x2), hp, hrow, hh.ex (fun o => x2 _ _), nh, fun H3 x3 => q H3 (x2.trans x3)⟩)))))))))
end
end IK

namespace IK
open PySem PySem.Spec PyProof.Rows L2 GV
/-! ### the same datum, told part by part -/
def isStrD : PyData → Bool
  | .str _ => true
  | _ => false
theorem kit_str (d : PyData) : kitB (tyD d) "str" = some (isStrD d) := by
  cases d with
  | none => exact (by decide +kernel : kitB "NoneType" "str" = some false)
  | bool _ => exact (by decide +kernel : kitB "bool" "str" = some false)
  | int _ => exact (by decide +kernel : kitB "int" "str" = some false)
  | str _ => exact (by decide +kernel : kitB "str" "str" = some true)
  | list _ => exact (by decide +kernel : kitB "list" "str" = some false)
  | tuple _ => exact (by decide +kernel : kitB "tuple" "str" = some false)
  | dict _ => exact (by decide +kernel : kitB "dict" "str" = some false)
def atomD : PyData → Bool
  | .none => true
  | .bool _ => true
  | .int _ => true
  | .str x => SeqAt.shaped (.str x)
  | _ => false
section
variable {P : Program} {w : World} {K : PySem.W.Frag} {mg : Str → Option Value} {base : Heap}
end
end IK

/-! ("x", *xs); x in a tuple of texts; a walk over a tuple of texts that the top wrote; xs.index(i) of ints -/
namespace GV
open PySem PySem.Spec PyProof.Rows L2
section
variable {X : Cx} {K : PySem.W.Frag} {M : Addr → Prop} {σ : St} {H H' : Hp} {a b c e o tg iter : Expr} {es : List Expr} {da db d : PyData} {ds : List PyData} {pos p : Pos}
theorem Rp.seqV {tp : Bool} {v : V} (r : Rp K M H v (sqD tp ds)) : ∃ q xs, v = .ref q ∧ (SqT K H q xs ∨ SqL K H q xs) ∧ RpAll K M H xs ds := by
  cases tp with
  | false =>
    cases r with
    | lst m h rs => exact ⟨_, _, rfl, .inr (.inl h), rs⟩
  | true =>
    cases r with
    | tup m h rs => exact ⟨_, _, rfl, .inl (.inl h), rs⟩
theorem rpAll_append {vs ws : List V} {ds es : List PyData} : RpAll K M H vs ds → RpAll K M H ws es → RpAll K M H (vs ++ ws) (ds ++ es)
  | .nil, h => h
  | .cons r rs, h => .cons r (rpAll_append rs h)
/-- .., *xs, .. in a display -/
theorem ad_star {tp : Bool} {ds es' : List PyData} (h : PD X M e σ H (sqD tp ds)) (hr : AD X M es σ H es') (hs : starEach (.Starred e p :: es) X.env = (true, eval e X.env) :: starEach es X.env := by rfl) : AD X M (.Starred e p :: es) σ H (ds ++ es') := .mk fun H1 e1 al Q q =>
  ⟨_, StX.pa_star wE.pe wA.pa hs, h.run H1 e1 al _ fun v H2 x2 rv => by
    obtain ⟨t, xs, rfl, hx, rs⟩ := Rp.seqV rv
    exact ⟨t, xs, rfl, hx, hr.run H2 (e1.trans (.of x2)) (al.mono x2) _ fun vs H3 x3 rvs => q (xs ++ vs) H3 (x2.trans x3) (rpAll_append (rs.mono (fun _ z => z) (.of x3)) rvs)⟩⟩
theorem ad_star1 {tp : Bool} {ds : List PyData} (h : PD X M e σ H (sqD tp ds)) (hs : starEach (.Starred e p :: []) X.env = (true, eval e X.env) :: starEach [] X.env := by rfl) : AD X M [.Starred e p] σ H ds := by
  have z := ad_star h ad_nil hs
  rwa [List.append_nil] at z
theorem td_inT {x : Str} {ns : List Str} (ha : PD X M a σ H (.str x)) (hb : PD X M b σ H (.tuple (ns.map PyData.str))) (hk : behindInMarks .In b = false := by rfl) : TD X M (.Compare a [.In] [b] pos) σ H (decide (x ∈ ns)) :=
  td_cmpR op_in_seq hk (fun u v H1 ru rv _ Q q => by
    cases ru
    cases rv with
    | tup m hs rs =>
      have all : (ns.map V.str).all flatV = true := by
        rw [List.all_map, List.all_eq_true]
        exact fun _ _ => rfl
      rw [rs.of_strs] at hs
      refine ⟨_, _, rfl, .inr (.inl hs), rfl, all, ?_⟩
      show Q (.bl (inV (.str x) (ns.map V.str))) H1
      rw [inV_strs]
      exact q _ H1 (Evl.Ex.refl H1) (.bl _)) ha hb
theorem wk_tupK {t : Addr} {xs : List V} {ds : List PyData} (h : KTup K t xs) (r : RpAll K M H xs ds) : Wk K M (Itt K t) H ds := by
  refine ⟨fun M' i H' hm e hi => ⟨xs, xs[i]'(by rw [r.length]; exact hi), .inr h, List.getElem?_eq_getElem _⟩, fun M' H' hm e => ⟨xs, .inr h, by rw [r.length]; exact Nat.le_refl _⟩, fun M' i H' x H'' hm e al y => ?_⟩
  obtain ⟨rfl, y⟩ := y
  refine ⟨Evl.Ex.refl _, fun d hd => ?_⟩
  obtain ⟨v, hv, rv⟩ := r.get hd
  have q := y xs (.inr h)
  rw [hv] at q
  cases q
  exact (rv.wide hm).mono (fun _ z => z) e
theorem src_tupK {t : Addr} {xs : List V} {ds : List PyData} (h : KTup X.K t xs) (r : ∀ H, RpAll X.K M H xs ds) (he : ∀ H1 (Q : VK), Q (.ref t) H1 → wE X iter σ H1 Q) : Src X M tg iter σ H ds :=
  ⟨_, pi_tup wE.pe, fun H1 e1 al R q => he _ _ ⟨t, rfl, ⟨xs, .inr h⟩, q _ H1 (Evl.Ex.refl H1) (wk_tupK h (r H1))⟩⟩
/-- for .. in TEXTS, a name of the top -/
theorem src_gtup {t : Addr} {ks : List Str} {x : Str} (h : KTup X.K t (ks.map V.str)) (hg : Gl X x) (hm : X.mg x = some (.ref t)) (hdb : (x == ("__debug__" : Str)) = false := by decide) : Src X M tg (.Name x p) σ H (ks.map PyData.str) :=
  src_tupK h (fun _ => .strs ks) fun H1 Q q => ⟨_, pe_glob hg hm (v := .ref t) rfl hdb, q⟩
/-- o.index(e), an int that is there -/
theorem pd_indexI {apos cpos : Pos} {ns : List Int} {k : Int} {j : Nat} (ho : PD X M o σ H (.list (ns.map PyData.int))) (he : PD X M e σ H (.int k)) (hj : ns[j]? = some k) (hf : ∀ m z, m < j → ns[m]? = some z → z ≠ k)
    (h1 : attributeBase o ("index" : Str) X.env (eval o X.env) = eval o X.env := by rfl)
    (h2 : ((((backTo cpos (starEach (e :: []) X.env)).all fun x => !x.1) && (backToKw cpos (keywordEach [] X.env)).all fun x => x.1.isSome) && decide (((e :: []).length + ([] : List Keyword).length + if ([] : List Keyword).isEmpty = true then 0 else 1) < 30)) = true := by rfl)
    (h3 : (apos.endLine == cpos.line) = true := by rfl) (h4 : starEach (e :: []) X.env = (false, eval e X.env) :: starEach [] X.env := by rfl) (h5 : (backTo cpos (starEach [] X.env)).any (·.1) = false := by rfl) :
    PD X M (.Call (.Attribute o "index" apos) [e] [] cpos) σ H (.int (j : Nat)) := .mk fun H1 e1 al Q q => by
  refine ⟨_, pe_bm PySem.F.plainAttrs_list PySem.F.slot_list_index PySem.F.type_list_index mt_index wE.pe (pa_cons wE.pe pa_nil h4) h1 h2 h3 h4 h5, ?_⟩
  refine ho.run H1 e1 al _ fun x H2 x2 r => ?_
  cases r with
  | lst m hs rs =>
    refine ⟨.inl ⟨rfl, _, .inl hs⟩, he.run H2 (e1.trans (.of x2)) (al.mono x2) _ fun y H3 x3 ry => ?_⟩
    cases ry
    have hs3 := GV.Rd.exM hs m (.of x3)
    have ev := rs.of_ints
    subst ev
    refine ⟨_, _, _, j, .int k, rfl, rfl, .inl hs3, rfl, ?_, ?_, ?_, ?_, q _ H3 (x2.trans x3) (.int _)⟩
    · rw [List.all_eq_true]
      intro v hv
      obtain ⟨z, _, rfl⟩ := List.mem_map.mp hv
      rfl
    · rw [List.getElem?_map, hj]
      rfl
    · simp [eqV]
    · intro m z hm hz
      rw [List.getElem?_map] at hz
      obtain ⟨u, hu, rfl⟩ := Option.map_eq_some_iff.mp hz
      simpa [eqV] using hf m u hm hu
end
end GV

/-! o.pop(e), e an int that stands in the list -/
namespace GV
open PySem PySem.Spec PyProof.Rows L2
section
variable {X : Cx} {σ : St} {H : Hp} {o e : Expr}
theorem ce_popAt {apos cpos : Pos} {Q : VK} (h : wE X o σ H fun x H1 => ∃ l xs, x = .ref l ∧ H1 l = some (.lst xs) ∧ wE X e σ H1 fun z H2 => ∃ ys k y, z = .int (k : Nat) ∧ H2 l = some (.lst ys) ∧ k < 1000000 ∧ ys[k]? = some y ∧ Q y (upd H2 l (.lst (ys.eraseIdx k))))
    (h1 : attributeBase o ("pop" : Str) X.env (eval o X.env) = eval o X.env := by rfl)
    (h2 : ((((backTo cpos (starEach (e :: []) X.env)).all fun x => !x.1) && (backToKw cpos (keywordEach [] X.env)).all fun x => x.1.isSome) && decide (((e :: []).length + ([] : List Keyword).length + if ([] : List Keyword).isEmpty = true then 0 else 1) < 30)) = true := by rfl)
    (h3 : (apos.endLine == cpos.line) = true := by rfl) (h4 : starEach (e :: []) X.env = (false, eval e X.env) :: starEach [] X.env := by rfl) (h5 : (backTo cpos (starEach [] X.env)).any (·.1) = false := by rfl) :
    wE X (.Call (.Attribute o "pop" apos) [e] [] cpos) σ H Q := by
  refine ⟨_, pe_bm PySem.F.plainAttrs_list PySem.F.slot_list_pop PySem.F.type_list_pop mt_popAt wE.pe wA.pa h1 h2 h3 h4 h5, ?_⟩
  obtain ⟨t, p, q⟩ := h
  refine ⟨fun σ H Q => ∃ Q0, t σ H Q0 ∧ ∀ x H1, Q0 x H1 → Q x H1, ⟨fun pins s σ H Q I ⟨Q0, h0, imp⟩ => wpAny_mono (p.run pins s σ H Q0 I h0) (fun us s1 ⟨v, H1, I1, r1, q1⟩ => ⟨v, H1, I1, r1, imp v H1 q1⟩) fun _ _ z => z⟩, _, q, ?_⟩
  rintro x H1 ⟨l, xs, rfl, hl, h2⟩
  refine ⟨.inl ⟨rfl, _, SqL.of hl⟩, ?_⟩
  obtain ⟨t2, p2, q2⟩ := h2
  refine ⟨_, pa_cons (te := fun σ H Q => ∃ Q0, t2 σ H Q0 ∧ ∀ x H1, Q0 x H1 → Q x H1) ⟨fun pins s σ H Q I ⟨Q0, h0, imp⟩ => wpAny_mono (p2.run pins s σ H Q0 I h0) (fun us s1 ⟨v, H1, I1, r1, q1⟩ => ⟨v, H1, I1, r1, imp v H1 q1⟩) fun _ _ z => z⟩ pa_nil h4, _, q2, ?_⟩
  rintro z H2 ⟨ys, k, y, rfl, hy, hk, hk2, hq⟩
  refine ⟨l, ys, _, k, y, rfl, rfl, hy, by omega, by omega, ?_, hk2, hq⟩
  have lt : k < ys.length := (List.getElem?_eq_some_iff.mp hk2).1
  unfold seqIndex?
  have n0 : ¬ ((k : Nat) : Int) < 0 := by omega
  simp only [n0, if_false]
  have b0 : (decide (0 ≤ ((k : Nat) : Int)) && decide (((k : Nat) : Int) < (ys.length : Nat))) = true := by
    rw [Bool.and_eq_true, decide_eq_true_eq, decide_eq_true_eq]
    omega
  rw [if_pos b0, Int.toNat_natCast]
end
end GV

namespace GV
open PySem PySem.Spec PyProof.Rows L2
section
variable {X : Cx} {M : Addr → Prop} {σ : St} {H : Hp} {a : Expr} {pos : Pos}
/-- a is True, a is False; .. is not .. -/
theorem td_isB {k j : Bool} {jj p2} (h : PD X M a σ H (.bool k)) : TD X M (.Compare a [.Is] [.Constant (.bool j) jj p2] pos) σ H (decide (k = j)) :=
  td_cmpR op_isBl (nomark _) (fun x y H1 rx ry _ Q q => by
    cases rx
    cases ry
    exact ⟨k, j, rfl, rfl, q _ H1 (Evl.Ex.refl H1) (.bl _)⟩) h pd_bl
theorem td_isnB {k j : Bool} {jj p2} (h : PD X M a σ H (.bool k)) : TD X M (.Compare a [.IsNot] [.Constant (.bool j) jj p2] pos) σ H (!decide (k = j)) :=
  td_cmpR op_notBl (nomark _) (fun x y H1 rx ry _ Q q => by
    cases rx
    cases ry
    exact ⟨k, j, rfl, rfl, q _ H1 (Evl.Ex.refl H1) (.bl _)⟩) h pd_bl
end
section
variable {X : Cx} {σ : St} {H : Hp} {o : Expr}
/-- o.clear() -/
theorem ce_clear {apos cpos : Pos} {Q : VK} {l : Addr} {xs : List V} (h : wE X o σ H fun x H1 => x = .ref l ∧ H1 l = some (.lst xs) ∧ Q .non (upd H1 l (.lst [])))
    (h1 : attributeBase o ("clear" : Str) X.env (eval o X.env) = eval o X.env := by rfl) (h3 : (apos.endLine == cpos.line) = true := by rfl) : wE X (.Call (.Attribute o "clear" apos) [] [] cpos) σ H Q := by
  refine ⟨_, pe_bm0 PySem.F.plainAttrs_list PySem.F.slot_list_clear PySem.F.type_list_clear mt_clear wE.pe h1 h3, ?_⟩
  obtain ⟨t, p, q⟩ := h
  refine ⟨fun σ H Q => ∃ Q0, t σ H Q0 ∧ ∀ x H1, Q0 x H1 → Q x H1, ⟨fun pins s σ H Q I ⟨Q0, h0, imp⟩ => wpAny_mono (p.run pins s σ H Q0 I h0) (fun us s1 ⟨v, H1, I1, r1, q1⟩ => ⟨v, H1, I1, r1, imp v H1 q1⟩) fun _ _ z => z⟩, _, q, ?_⟩
  rintro x H1 ⟨rfl, hl, hq⟩
  exact ⟨.inl ⟨rfl, _, SqL.of hl⟩, l, _, rfl, rfl, hl, hq⟩
end
end GV

/-! a is True .. of what is no bool -/
namespace GV
open PySem PySem.Spec PyProof.Rows L2
def boolV : V → Bool
  | .bl _ => true
  | _ => false
section
variable {X : Cx} {σ : St} {H : Hp} {a : Expr} {pos : Pos}
theorem op_isnot_bl2 : OpR X (compareOp .IsNot) (fun x y H Q => ∃ b, boolV x = false ∧ y = .bl b ∧ Q (.bl true) H) := by
  intro pins s σ H x y v u Q I rx ry h
  obtain ⟨b, hx, rfl, q⟩ := h
  cases (show u = Value.bool b from ry)
  have fin : plainIs v (Value.bool b) = true → v ≠ Value.bool b → wpAny (model X.prog X.w) X.A (compareOp .IsNot v (Value.bool b)) (EP X pins σ Q) X.xe s := fun hp hn => wpAny_isNot_other hp hn ⟨.bl true, H, I, rfl, q⟩
  cases x with
  | bl k => cases hx
  | non =>
    cases (show v = Value.none from rx)
    exact fin rfl (fun z => by cases z)
  | int i =>
    obtain ⟨t, rfl⟩ := rx
    exact fin rfl (fun z => by cases z)
  | str i =>
    obtain ⟨t, rfl⟩ := rx
    exact fin rfl (fun z => by cases z)
  | byt i =>
    obtain ⟨t, rfl⟩ := rx
    exact fin rfl (fun z => by cases z)
  | flt i =>
    obtain ⟨t, rfl⟩ := rx
    exact fin rfl (fun z => by cases z)
  | ref i =>
    cases (show v = Value.ref i from rx)
    exact fin rfl (fun z => by cases z)
  | ty i =>
    cases (show v = Value.type i from rx)
    exact fin rfl (fun z => by cases z)
theorem ct_isnX {Q : Bool → Hp → Prop} {j : Bool} {jj p2} (h : wE X a σ H fun x H2 => boolV x = false ∧ Q true H2) : wT X (.Compare a [.IsNot] [.Constant (.bool j) jj p2] pos) σ H Q :=
  ⟨_, pt_cmpR op_isnot_bl2 wE.pe pe_bl (nomark _), wE.weak h fun x H2 ⟨e, q⟩ => (by exact ⟨j, e, rfl, _, rfl, q⟩)⟩
end
end GV

/-! y = [.. for .. in ..], y no captured local, over data of one kind -/
namespace GV
open PySem PySem.Spec PyProof.Rows L2
section
variable {X : Cx} {M : Addr → Prop} {σ : St} {H : Hp} {tg iter elt : Expr} {pos : Pos} {α : Type}
theorem s_setFA {ifs : List Expr} {e : α → PyData} (inj : ∀ a b, e a = e b → a = b) {l : List α} (p : α → Bool) (g : α → PyData) {t : Tg} {scope : Scope} {own : List (Str × Nat)} (hc : X.calm = true) (hN : X.N.Nodup) (hi : Src X M tg iter σ H (l.map e)) (ok : BlkOk X.N X.env.scope scope own)
    (hg : ∀ s H C cl fp, PG (Cx.lc X s H scope C cl fp) tg (t.g X.K)) (hf : ∀ d ∈ l.map e, t.Fits d) (hw : ∀ M H d σ', t.Ok X.K M H d (wipe σ (own.map (·.2))) σ' → wipe σ' (own.map (·.2)) = wipe σ (own.map (·.2))) (hl : l.length ≤ 100000)
    (body : ∀ s0 H0 C cl fp M' H' y σ', (∀ a, M a → M' a) → (∀ v e, Rp X.K M H v e → Rp X.K M' H' v e) → y ∈ l → t.Ok X.K M' H' (e y) (wipe σ (own.map (·.2))) σ' → TsD (Cx.lc X s0 H0 scope C cl fp) M' ifs σ' H' (p y) ∧ (p y = true → PD (Cx.lc X s0 H0 scope C cl fp) M' elt σ' H' (g y)))
    {i : Nat} {y : Str} {py spos : Pos} {D : Ends} (al : Alive M H) (hy : X.N[i]? = some y) (hyl : X.env.scope.names.lookup y = some .local) (hsw : swapsWith (.ListComp elt [⟨tg, iter, ifs, 0⟩] scope pos) (some (.Name y py)) spos.line X.env = pure true) (q : ∀ a ws H2, H a = none → Evl.Ex H H2 → H2 a = some (.lst ws) → RpAll X.K M H2 ws ((l.filter p).map g) → D.nx (σ.set i (some (.ref a))) H2)
    (hs : ∀ x, foldedSetIterable iter X.env x = pure x := by intro _; rfl) : wS X (.Assign [.Name y py] (.ListComp elt [⟨tg, iter, ifs, 0⟩] scope pos) spos) D σ H := by
  rw [← filter_back inj p g l] at q
  refine s_setLc hc hN hi ok hg hf hw _ _ (by rw [List.length_map]; exact hl) (fun s0 H0 C cl fp M' H' d σ' hM lift hd hok => ?_) al hy hyl hsw q hs
  obtain ⟨z, hz, rfl⟩ := List.mem_map.mp hd
  rw [backA_of inj, backA_of inj]
  exact body s0 H0 C cl fp M' H' z σ' hM lift hz hok
theorem s_setMA {e : α → PyData} (inj : ∀ a b, e a = e b → a = b) {l : List α} (g : α → PyData) {t : Tg} {scope : Scope} {own : List (Str × Nat)} (hc : X.calm = true) (hN : X.N.Nodup) (hi : Src X M tg iter σ H (l.map e)) (ok : BlkOk X.N X.env.scope scope own)
    (hg : ∀ s H C cl fp, PG (Cx.lc X s H scope C cl fp) tg (t.g X.K)) (hf : ∀ d ∈ l.map e, t.Fits d) (hw : ∀ M H d σ', t.Ok X.K M H d (wipe σ (own.map (·.2))) σ' → wipe σ' (own.map (·.2)) = wipe σ (own.map (·.2))) (hl : l.length ≤ 100000)
    (body : ∀ s0 H0 C cl fp M' H' y σ', (∀ a, M a → M' a) → (∀ v e, Rp X.K M H v e → Rp X.K M' H' v e) → y ∈ l → t.Ok X.K M' H' (e y) (wipe σ (own.map (·.2))) σ' → PD (Cx.lc X s0 H0 scope C cl fp) M' elt σ' H' (g y))
    {i : Nat} {y : Str} {py spos : Pos} {D : Ends} (al : Alive M H) (hy : X.N[i]? = some y) (hyl : X.env.scope.names.lookup y = some .local) (hsw : swapsWith (.ListComp elt [⟨tg, iter, [], 0⟩] scope pos) (some (.Name y py)) spos.line X.env = pure true) (q : ∀ a ws H2, H a = none → Evl.Ex H H2 → H2 a = some (.lst ws) → RpAll X.K M H2 ws (l.map g) → D.nx (σ.set i (some (.ref a))) H2)
    (hs : ∀ x, foldedSetIterable iter X.env x = pure x := by intro _; rfl) : wS X (.Assign [.Name y py] (.ListComp elt [⟨tg, iter, [], 0⟩] scope pos) spos) D σ H :=
  s_setFA inj (fun _ => true) g hc hN hi ok hg hf hw hl (fun s0 H0 C cl fp M' H' z σ' hM lift hz hok => ⟨tsd_nil, fun _ => body s0 H0 C cl fp M' H' z σ' hM lift hz hok⟩) al hy hyl hsw (by rw [filt_all]; exact q) hs
end
end GV

namespace IK
open PySem PySem.Spec PyProof.Rows L2 GV
/-! ### the probe of some kinds -/
def BW : List Str := ["l-", "-l", "lighter", "b-", "-b", "heavier", "h-", "-h"]
def BI : List Str := ["l-", "b-", "h-", "lighter", "heavier", "-l", "-b", "-h"]
def heldL (ks : List Str) : List Str := "lighter" :: "heavier" :: ks
def bwL (ks : List Str) : List Str := BW.filter fun p => decide (p ∈ heldL ks)
def idx (l : List Str) (p : Str) : Nat := l.findIdx fun q => decide (q = p)
def rowI (ks : List Str) : List Int := (BI.filter fun p => decide (p ∈ heldL ks)).map fun p => ((idx (bwL ks) p : Nat) : Int) + 1
def plI (ks : List Str) : Nat := (rowI ks).findIdx fun z => decide (z = ((idx (bwL ks) "lighter" : Nat) : Int) + 1)
theorem find_ok {α : Type} [DecidableEq α] {l : List α} {p : α} (h : p ∈ l) : l[l.findIdx fun q => decide (q = p)]? = some p ∧ ∀ m z, m < l.findIdx (fun q => decide (q = p)) → l[m]? = some z → z ≠ p := by
  have hlt : l.findIdx (fun q => decide (q = p)) < l.length := List.findIdx_lt_length_of_exists ⟨p, h, decide_eq_true rfl⟩
  refine ⟨?_, fun m z hm hz e => ?_⟩
  · rw [List.getElem?_eq_getElem hlt]
    have := List.findIdx_getElem (p := fun q => decide (q = p)) (w := hlt)
    rw [decide_eq_true_eq] at this
    rw [this]
  · have h2 := List.not_of_lt_findIdx hm
    obtain ⟨hl, e2⟩ := List.getElem?_eq_some_iff.mp hz
    rw [e2] at h2
    simp [e] at h2
theorem bi_bw {p : Str} (h : p ∈ BI) : p ∈ BW := by
  have : ∀ p ∈ BI, p ∈ BW := by decide +kernel
  exact this p h
theorem mem_bw {ks : List Str} {p : Str} (h : p ∈ BI) (hk : p ∈ heldL ks) : p ∈ bwL ks := List.mem_filter.mpr ⟨bi_bw h, decide_eq_true hk⟩
theorem mem_row {ks : List Str} : (((idx (bwL ks) "lighter" : Nat) : Int) + 1) ∈ rowI ks := List.mem_map.mpr ⟨"lighter", List.mem_filter.mpr ⟨by decide +kernel, decide_eq_true (List.mem_cons_self ..)⟩, rfl⟩
def strsD (ks : List Str) : PyData := .list (ks.map PyData.str)
def R_prb (ds : List PyData) (d : PyData) : Prop := ∃ (tp : Bool) (ks : List Str), ks.length ≤ 1000 ∧ ds = [sqD tp (ks.map PyData.str)] ∧ d = .tuple [tintsD (rowI ks), natD (plI ks)]
theorem str_inj : ∀ a b : Str, PyData.str a = PyData.str b → a = b := fun a b h => by
  cases h
  rfl
structure ByW (K : PySem.W.Frag) (mg : Str → Option Value) : Prop where
  w : ∃ t, mg "_BY_WEIGHT" = some (.ref t) ∧ KTup K t (BW.map V.str)
  i : ∃ t, mg "_BY_INDEX" = some (.ref t) ∧ KTup K t (BI.map V.str)
section
variable {P : Program} {w : World} {K : PySem.W.Frag} {mg : Str → Option Value} {base : Heap} {CA CN CH : Addr}
theorem cl_probe_of {f : Addr} {fd : FuncData} (F : At K mg "_probe_of" s_probe_of f fd) (nb : NoB mg) (by_ : ByW K mg) : Cl P w K mg base CX0 1 "_probe_of" (PureR K R_prb) := by
  refine cl_pure F sc_probe_of (F.fn.binds fun _ _ _ _ _ _ us hl => match us, hl with | [_], _ => rfl) (fun ds d h => ?_) (fun X cdv A outer s H Q E M vs ds d hX hr al r h q => ?_)
  · obtain ⟨_, _, _, rfl, _⟩ := h
    rfl
  obtain ⟨tp, ks, hks, rfl, rfl⟩ := h
  obtain ⟨v, rfl, r1⟩ := rpa1 r
  obtain ⟨⟨tw, gw, kw⟩, ti, gi, ki⟩ := by_
  subst hX
  have hlen : ((heldL ks).map PyData.str).length ≤ 100000 := by
    rw [List.length_map]
    exact Nat.le_trans (Nat.add_le_add_right (Nat.add_le_add_right hks 1) 1) (by decide)
  refine b_cons (s_set (i := 1) (d := .tuple ((heldL ks).map PyData.str)) al sc_probe_of.nd rfl (by first | exact .inl rfl | exact .inr rfl) (pd_tup (ds := (heldL ks).map PyData.str) (ad_cons pd_str (ad_cons pd_str (ad_star1 (tp := tp) (nm 0 r1)))) hlen) fun v1 H1 x1 rh => ?_)
  have al1 := al.mono x1
  refine b_cons (cs_set (i := 2) sc_probe_of.nd rfl (by first | exact .inl rfl | exact .inr rfl) (ce_fd al1 (fd_filterA (M := M) str_inj (fun p => decide (p ∈ heldL ks)) PyData.str (l := BW) (t := .one 4) (own := [("part", 4)]) rfl sc_probe_of.nd (src_gtup kw rfl gw) (blkOk_by (N := n_probe_of) (sc := defScope s_probe_of) (by decide +kernel)) (fun _ _ _ _ _ => pg_name (i := 4) sc_probe_of.nd rfl (.inl rfl)) (fun _ _ => trivial) ?_ (by decide) ?_) fun pb wsb H2 hpb x2 h2 r2 => ?_))
  · rintro M H d σ' ⟨v, _, rfl⟩
    rfl
  · rintro s0 H0 C cl fp M' H' p σ' hM lift kp hp ⟨v', rv, rfl⟩
    exact ⟨td_inT (nm 4 rv) (nm 1 (lift _ _ rh)), nm 4 rv⟩
  have al2 := al1.mono x2
  have rh2 := rh.mono (fun _ z => z) (.of x2)
  have rb : Rp K M H2 (.ref pb) (strsD (bwL ks)) := .lst (al1.fresh hpb |> fun z => z) (.inl h2) r2
  refine b_cons (s_setFA (M := M) (i := 3) str_inj (fun p => decide (p ∈ heldL ks)) (fun p => .int (((idx (bwL ks) p : Nat) : Int) + 1)) (l := BI) (t := .one 4) (own := [("part", 4)]) rfl sc_probe_of.nd (by exact src_gtup ki rfl gi) (blkOk_by (N := n_probe_of) (sc := defScope s_probe_of) (by decide +kernel)) (fun _ _ _ _ _ => pg_name (i := 4) sc_probe_of.nd rfl (.inl rfl)) (fun _ _ => trivial) ?_ (by decide) ?_ al2 rfl rfl rfl fun pr wsr H3 hpr x3 h3 r3 => ?_)
  · rintro M H d σ' ⟨v, _, rfl⟩
    rfl
  · rintro s0 H0 C cl fp M' H' p σ' hM lift hp ⟨v', rv, rfl⟩
    refine ⟨tsd_one (td_inT (nm 4 rv) (nm 1 (lift _ _ rh2))), fun hk => ?_⟩
    have hm := find_ok (mem_bw hp (of_decide_eq_true hk))
    exact pd_add (pd_indexS (nm 2 (lift _ _ rb)) (nm 4 rv) hm.1 hm.2) pd_int
  have al3 := al2.mono x3
  have rb3 := rb.mono (fun _ z => z) (.of x3)
  have rr3 : Rp K M H3 (.ref pr) (.list ((rowI ks).map PyData.int)) := .lst (al2.fresh hpr) (.inl h3) (by
    have e : (rowI ks).map PyData.int = (BI.filter fun p => decide (p ∈ heldL ks)).map fun p => PyData.int (((idx (bwL ks) p : Nat) : Int) + 1) := by
      unfold rowI
      rw [List.map_map]
      rfl
    rw [e]
    exact r3)
  have hl := find_ok (mem_bw (ks := ks) (p := "lighter") (by decide +kernel) (List.mem_cons_self ..))
  have hr2 := find_ok (mem_row (ks := ks))
  refine b_cons (s_ret al3 (pd_tup (ad_cons (pd_tupleOf rfl nb.tuple (nm 3 rr3) rfl) (ad_cons (pd_indexI (nm 3 rr3) (pd_add (pd_indexS (nm 2 rb3) pd_str hl.1 hl.2) pd_int) hr2.1 hr2.2) ad_nil)) (by show 2 ≤ 100000; decide)) fun v4 H4 x4 r4 => q v4 H4 (((x1.trans x2).trans x3).trans x4) r4)
end
end IK

/-! len(set(xs)), xs a list or tuple of texts, any of them as often as it likes -/
namespace GV
open PySem PySem.Spec PyProof.Rows L2
/-- how many different ones stand among the first -/
def dN (xs : List Str) : Nat → Nat
  | 0 => 0
  | i + 1 => if decide (xs.getD i Str.empty ∈ xs.take i) = true then dN xs i else dN xs i + 1
theorem dN_le (xs : List Str) : ∀ i, dN xs i ≤ i
  | 0 => Nat.le_refl 0
  | i + 1 => by
    have := dN_le xs i
    unfold dN
    split <;> omega
theorem dN_nodup {xs : List Str} (h : xs.Nodup) : ∀ i, i ≤ xs.length → dN xs i = i
  | 0, _ => rfl
  | i + 1, hi => by
    have e := dN_nodup h i (by omega)
    have n : ¬ xs.getD i Str.empty ∈ xs.take i := fun m => by
      obtain ⟨j, hj, ej⟩ := List.mem_iff_getElem.mp m
      rw [List.length_take] at hj
      rw [List.getElem_take, List.getD_eq_getElem?_getD, List.getElem?_eq_getElem (by omega)] at ej
      have := (List.getElem_inj h).mp ej
      omega
    unfold dN
    rw [if_neg (by rw [decide_eq_false n]; decide), e]
theorem dN_dup {xs : List Str} (h : ¬ xs.Nodup) : dN xs xs.length < xs.length := by
  have key : ∀ i, i ≤ xs.length → dN xs i = i → (xs.take i).Nodup := by
    intro i
    induction i with
    | zero => intro _ _; rw [List.take_zero]; exact List.nodup_nil
    | succ i ih =>
      intro hi e
      unfold dN at e
      have l := dN_le xs i
      split at e
      · omega
      · rename_i k
        have k : ¬ xs.getD i Str.empty ∈ xs.take i := fun z => k (decide_eq_true z)
        have hx : xs[i]? = some (xs.getD i Str.empty) := by
          rw [List.getD_eq_getElem?_getD, List.getElem?_eq_getElem (by omega)]
          rfl
        rw [List.take_add_one, hx]
        refine List.nodup_append.mpr ⟨ih (by omega) (by omega), by simp, ?_⟩
        rintro a ha b hb rfl
        simp only [Option.toList_some, List.mem_singleton] at hb
        exact k (hb ▸ ha)
  have l := dN_le xs xs.length
  rcases Nat.lt_or_ge (dN xs xs.length) xs.length with z | z
  · exact z
  · have := key xs.length (Nat.le_refl _) (by omega)
    rw [List.take_length] at this
    exact absurd this h
section
variable {P : Program} {w : World} {A : Around} {E : Value → Shared → Prop} {s : Shared}
theorem upd_strs {I : Addr} {fp wr : List Addr} {G : Array GenState → Array GenState → Prop} {n : Nat} {Pv : Nat → Value → Prop} {St : Nat → Shared → Prop} {R : Result → Shared → Prop} (W : WalksS P w A.in1 I fp wr G n Pv St) (S : Addr) (nf : S ∉ fp) (xs : List Str) (hn : n = xs.length) (hb : xs.length + 1 < scanBound)
    (val : ∀ i v, Pv i v → ∃ x t, xs[i]? = some x ∧ v = .str x t) : ∀ (m i : Nat) (s : Shared), n - i = m → i ≤ n → St i s → s.heap.SetOf (PySem.strKind P w) S (fun x => decide (x ∈ xs.take i)) (dN xs i) →
      (∀ s', Moved (S :: wr) G s s' → s'.heap.SetOf (PySem.strKind P w) S (fun x => decide (x ∈ xs.take n)) (dN xs n) → R (.ok (.ret .none)) s') → codeAny (model P w) A (.builtin "set.update.loop" ⟨[.ref S, .ref I], []⟩) R s := by
  have nw : S ∉ wr := fun z => nf (W.sub _ z)
  have sub : ∀ b ∈ wr, b ∈ S :: wr := fun b z => List.mem_cons_of_mem _ z
  have stay : ∀ {s s' : Shared} {f : Str → Bool} {c : Nat}, s.heap.SetOf (PySem.strKind P w) S f c → Moved wr G s s' → s'.heap.SetOf (PySem.strKind P w) S f c := fun ⟨o, es, ep, t, ho, rest⟩ mv => ⟨o, es, ep, t, mv.heap S _ nw ho, rest⟩
  intro m
  induction m with
  | zero =>
    intro i s hm hi st so fin
    obtain rfl : i = n := by omega
    refine codeAny_builtin F.entry_set_update_loop (by rw [Around.under_plainId F.plain_set_update_loop _]; exact (show wpAny _ A.in1 (pyNext (.ref I) >>= _) _ _ s from wpAny_bind (W.done s _ _ st fun s' mv => (show wpAny _ A.in1 (ret Value.none) _ _ s' from wpAny_pure (fin s' (mv.mono sub) (stay so mv))))))
  | succ m ih =>
    intro i s hm hi st so fin
    have lt : i < n := by omega
    refine codeAny_builtin F.entry_set_update_loop ?_; rw [Around.under_plainId F.plain_set_update_loop _]
    refine (show wpAny _ A.in1 (pyNext (.ref I) >>= _) _ _ s from wpAny_bind (W.item i s _ _ lt st fun v s' hP st' mv => ?_))
    obtain ⟨x, t, hx, rfl⟩ := val i v hP
    have so' := stay so mv
    show wpAny _ A.in1 (holding [Value.str x t] (setAdd S (.str x t)) >>= _) _ _ s'
    refine wpAny_bind (wpAny_holding ?_)
    unfold setAdd
    refine wpAny_holding (wpAny_bind ((PySem.strKind P w).pyHash (k := x) (strKind_is _ _ _ _) ?_))
    have room : dN xs i + 1 < scanBound := by
      have := dN_le xs i
      omega
    refine wpAny_setAddHashed_of (knd := PySem.strKind P w) (s := { s' with toks := s'.toks + 1 }) (strKind_is _ _ _ _) rfl so' room fun g sb so2 => ?_
    have ex : xs.getD i Str.empty = x := by
      rw [List.getD_eq_getElem?_getD, hx]
      rfl
    have so3 : g.SetOf (PySem.strKind P w) S (fun y => decide (y ∈ xs.take (i + 1))) (dN xs (i + 1)) := SetOf_congr so2 (fun y => by
      show (decide (y ∈ xs.take i) || decide (y = x)) = decide (y ∈ xs.take (i + 1))
      rw [List.take_add_one, hx]
      simp [List.mem_append]) (by
      show (if decide (x ∈ xs.take i) = true then dN xs i else dN xs i + 1) = dN xs (i + 1)
      rw [← ex]
      rfl)
    refine wpAny_pure ⟨plainId_quiet F.plain_set_update_loop _, ih (i + 1) _ (by omega) lt (W.frame _ s' _ _ st' (Nat.le_succ _) fun b hb' o e => ?_) so3 fun s2 mv2 so4 => ?_⟩
    · rw [sb.2 b fun z : b = S => nf (z ▸ hb')]
      exact e
    · refine fin s2 (Moved.trans W.gtrans ((mv.mono sub).then_heap (Nat.le_succ _) fun b o nb e => ?_) mv2) so4
      rw [sb.2 b fun z : b = S => nb (z ▸ List.mem_cons_self ..)]
      exact e
set_option maxHeartbeats 3200000 in
/-- set(l) of texts -/
theorem set_ofS {tp : Bool} {l : Addr} {items : Array Value} {xs : List Str} {Q : Value → Shared → Prop} (hh : A.handled = none) (hl : if tp = true then s.heap.IsTuple l items else s.heap.IsList l items) (hit : StrsAre items.toList xs) (hb : xs.length + 1 < scanBound)
    (fin : ∀ (g : Heap) (tk : Nat), g.SetOf (PySem.strKind P w) s.heap.objs.size (fun x => decide (x ∈ xs)) (dN xs xs.length) → (∀ b o, s.heap.get? b = some o → g.get? b = some o) → Q (.ref s.heap.objs.size) { s with heap := g, toks := tk }) :
    wpAny (model P w) A (call (.type "set") [.ref l]) Q E s := by
  have size : items.size = xs.length := by
    have q := StrsAre.len_eq hit
    rwa [Array.length_toList] at q
  obtain ⟨c, tl, hmro⟩ := F.called_set.mro
  have a1 := F.called_set.made
  have a2 := F.called_set.sub
  refine wpAny_call (codeAny_of_tree (show wpAny _ _ (callAny (.type "set") _) _ _ _ from wpAny_pure ⟨Code.quiet_builtin _ (by decide +kernel), codeAny_builtin F.entry_type_call ?_⟩))
  rw [Around.under_plain (weight_type_call_type "set" [.ref l] []) rfl]
  have a3 := F.called_set.notType
  have a4 := F.called_set.canCreate
  have a5 := F.typeCall_set_1 (.ref l)
  repeat (any_goals first | assumption | wp_step)
  refine codeAny_mono (code_set_led1 (.ref l) (E := E) (Q₁ := fun o s₁ => o = .ref s.heap.objs.size ∧ s₁ = { s with heap := s.heap.push (nset w) }) ⟨rfl, rfl⟩) fun r s₁ hr => ?_
  rcases r with er | fl
  · exact hr
  rcases fl with _ | _ | _ | ob
  iterate 3 exact hr.elim
  obtain ⟨rfl, rfl⟩ := hr
  have at0 : (s.heap.push (nset w)).get? s.heap.objs.size = some (nset w) := Heap.get?_push_size _ rfl
  have ty0 : Shared.TypeIs { s with heap := s.heap.push (nset w) } (.ref s.heap.objs.size) "set" := ⟨_, at0, rfl⟩
  have b1 := F.called_set.init.lookup
  have b2 := F.called_set.init.bind (.ref s.heap.objs.size)
  repeat (any_goals first | assumption | wp_step)
  refine codeAny_mono (codeAny_call_builtin (R := wants (fun r s₂ => r = .none ∧ ∃ g tk, s₂ = { s with heap := g, toks := tk } ∧ g.SetOf (PySem.strKind P w) s.heap.objs.size (fun x => decide (x ∈ xs)) (dN xs xs.length) ∧ (∀ b o, s.heap.get? b = some o → g.get? b = some o)) E)
    F.called_set.init.plain F.entry_set_init (check_set_init_1 ty0 ?_)) fun r₂ s₂ hr₂ => ?_
  · have lt : l < s.heap.objs.size := by
      cases tp with
      | true => obtain ⟨_, q, _⟩ := hl; exact Heap.lt_size q
      | false => obtain ⟨_, q, _⟩ := hl; exact Heap.lt_size q
    have hh3 : A.in1.in1.in1.handled = none := by simp [hh]
    have neI : l ≠ (s.heap.push (nset w)).objs.size := by
      rw [Heap.size_push]
      exact Nat.ne_of_lt (Nat.lt_succ_of_lt lt)
    have nf : s.heap.objs.size ∉ [(s.heap.push (nset w)).objs.size, l] := by
      rw [Heap.size_push]
      simp only [List.mem_cons, List.not_mem_nil, or_false, not_or]
      exact And.intro (Nat.ne_of_lt (Nat.lt_succ_self _)) (Nat.ne_of_gt lt)
    have val : ∀ (i : Nat) (v : Value), items[i]? = some v → ∃ x t, xs[i]? = some x ∧ v = .str x t := fun i v hv => by
      have hi : i < xs.length := by rw [← size]; exact (Array.getElem?_eq_some_iff.mp hv).1
      obtain ⟨t, e⟩ := SS.strs_at hit i v (by rwa [Array.getElem?_toList])
      refine ⟨xs[i], t, List.getElem?_eq_getElem hi, ?_⟩
      rw [e, List.getD_eq_getElem?_getD, List.getElem?_eq_getElem hi, Option.getD_some]
    have so0 : ∀ {g : Heap}, g.get? s.heap.objs.size = some (nset w) → g.SetOf (PySem.strKind P w) s.heap.objs.size (fun x => decide (x ∈ xs.take 0)) (dN xs 0) := fun e => SetOf_congr ((setObjOf_fresh (knd := PySem.strKind P w) _).setOf e (by unfold scanBound; omega)) (fun y => by simp) rfl
    have done : ∀ (ob : Obj) {s3 : Shared}, Moved [s.heap.objs.size, (s.heap.push (nset w)).objs.size] (fun a b => b = a) { s with heap := (s.heap.push (nset w)).push ob } s3 → s3.heap.SetOf (PySem.strKind P w) s.heap.objs.size (fun x => decide (x ∈ xs.take items.size)) (dN xs items.size) → ∃ g tk, s3 = { s with heap := g, toks := tk } ∧ g.SetOf (PySem.strKind P w) s.heap.objs.size (fun x => decide (x ∈ xs)) (dN xs xs.length) ∧ (∀ b o, s.heap.get? b = some o → g.get? b = some o) := by
      rintro ob ⟨g, gn, dr, tk, os⟩ hm hS'
      obtain rfl : gn = s.gens := hm.gens
      obtain rfl : dr = s.drawn := hm.drawn
      obtain rfl : os = s.os := hm.os
      refine ⟨g, tk, rfl, ?_, fun b o e => ?_⟩
      · rw [size, List.take_length] at hS'
        exact hS'
      · have b0 : b < s.heap.objs.size := Heap.lt_size e
        refine hm.heap b o ?_ (Heap.get?_push_of_some _ (Heap.get?_push_of_some _ e))
        rw [Heap.size_push]
        simp only [List.mem_cons, List.not_mem_nil, or_false, not_or]
        exact And.intro (Nat.ne_of_lt b0) (Nat.ne_of_lt (Nat.lt_succ_of_lt b0))
    cases tp with
    | false =>
      obtain ⟨⟨oc, od, odt, osl⟩, hol, hcl, nl, hdl⟩ := hl
      simp only at hcl hdl
      subst hcl hdl
      have ol : (s.heap.push (nset w)).get? l = some { cls := .type "list", dict := od, data := .seq items nl, slots := osl } := Heap.get?_push_of_some _ hol
      have c1 := F.sub_list_set
      have c2 := F.sub_list_frozenset
      have c3 : (Value.type "list" == Value.type "dict") = false := by decide
      have isl : (s.heap.push (nset w)).IsList l items := ⟨_, ol, rfl, nl, rfl⟩
      unfold Builtin.«set.__init__» noKeywords Builtin.Frozenset.updateFrom
      generalize hPI : pyIter = PI
      wp_walk
      subst hPI
      refine wpAny_pyIter_list isl (wpAny_bind (wpAny_runValue ?_))
      refine upd_strs ((Walks.list hh3 _ l neI items).toS) s.heap.objs.size nf xs size hb val (items.size - 0) 0 _ (by omega) (Nat.zero_le _) ⟨⟨_, Heap.get?_push_size _ rfl, rfl, rfl⟩, isl.push _⟩ (so0 (Heap.get?_push_of_some _ at0)) fun s3 mv so => ?_
      exact wpAny_pure (show wpAny _ _ (ret Value.none) _ _ _ from wpAny_pure ⟨rfl, done _ mv so⟩)
    | true =>
      obtain ⟨⟨oc, od, odt, osl⟩, hol, hcl, nl, hdl⟩ := hl
      simp only at hcl hdl
      subst hcl hdl
      have ol : (s.heap.push (nset w)).get? l = some { cls := .type "tuple", dict := od, data := .seq items nl, slots := osl } := Heap.get?_push_of_some _ hol
      have c1 := F.sub_tuple_set
      have c2 := F.sub_tuple_frozenset
      have c3 : (Value.type "tuple" == Value.type "dict") = false := by decide
      have isl : (s.heap.push (nset w)).IsTuple l items := ⟨_, ol, rfl, nl, rfl⟩
      unfold Builtin.«set.__init__» noKeywords Builtin.Frozenset.updateFrom
      generalize hPI : pyIter = PI
      wp_walk
      subst hPI
      refine wpAny_pyIter_tuple isl (wpAny_bind (wpAny_runValue ?_))
      refine upd_strs ((Walks.tuple hh3 _ l neI items).toS) s.heap.objs.size nf xs size hb val (items.size - 0) 0 _ (by omega) (Nat.zero_le _) ⟨⟨_, Heap.get?_push_size _ rfl, rfl, rfl⟩, isl.push _⟩ (so0 (Heap.get?_push_of_some _ at0)) fun s3 mv so => ?_
      exact wpAny_pure (show wpAny _ _ (ret Value.none) _ _ _ from wpAny_pure ⟨rfl, done _ mv so⟩)
  · rcases r₂ with er | fl₂
    · exact hr₂
    rcases fl₂ with _ | _ | _ | r
    iterate 3 exact hr₂.elim
    obtain ⟨rfl, g, tk, rfl, hS', hk'⟩ := hr₂
    repeat (any_goals first | assumption | wp_step)
    exact fin _ _ hS' hk'
end
section
variable {X : Cx} {M : Addr → Prop} {σ : St} {H : Hp} {a : Expr} {pos : Pos} {tp : Bool}
theorem pd_lenSetS {p p2 q2 : Pos} {xs : List Str} (hc : X.calm = true) (hg : Gl X "len") (hm : X.mg "len" = none) (hg2 : Gl X "set") (hm2 : X.mg "set" = none) (ha : PD X M a σ H (sqD tp (xs.map PyData.str))) (hl : xs.length < 60)
    (na : starEach [a] X.env = (false, eval a X.env) :: starEach [] X.env := by rfl) : PD X M (.Call (.Name "len" p) [.Call (.Name "set" p2) [a] [] q2] [] pos) σ H (.int (dN xs xs.length : Nat)) := .mk fun H1 e1 al Q q => by
  refine ⟨fun σ H Q => wE X a σ H fun x H1 => ∃ l, x = V.ref l ∧ (SqL X.K H1 l (xs.map V.str) ∨ SqT X.K H1 l (xs.map V.str)) ∧ Q (.int (dN xs xs.length : Nat)) H1, ⟨fun pins s σ H Q J h => ?_⟩, ?_⟩
  · refine Call_ (ld_blt J hg hm PySem.boot_len (PyProof.Rows.callWith_builtin1 (PyProof.Rows.args_cons ?_ rfl) rfl rfl))
    refine Call_ (ld_blt J hg2 hm2 PyProof.Rows.boot_set (PyProof.Rows.callWith_type1 (PyProof.Rows.args_cons (thn (wE.pe.run pins s σ H _ J h) fun v s1 ⟨x, H1, J1, r1, l, e2, hq, q1⟩ => PyProof.Rows.args_nil ?_) na) na rfl))
    subst e2
    cases r1
    have fin : ∀ (g : Heap) (tk : Nat), g.SetOf (PySem.strKind X.prog X.w) s1.heap.objs.size (fun x => decide (x ∈ xs)) (dN xs xs.length) → (∀ b o, s1.heap.get? b = some o → g.get? b = some o) →
        wpAny (model X.prog X.w) X.A (spliced (backTo pos (starEach [] X.env))) (fun vs s₂ => wpAny (model X.prog X.w) X.A (call (.builtin "len") (Value.ref s1.heap.objs.size :: vs)) (EP X pins σ Q) X.xe s₂) X.xe { s1 with heap := g, toks := tk } := by
      intro g tk R k
      refine PyProof.Rows.args_nil ?_
      have J2 : Inv X pins σ H1 { s1 with heap := g, toks := tk } := J1.kept k
      have b := dN_le xs xs.length
      obtain ⟨o, es, ep, t, ho, hex, hd, _, _, _, hf, hn⟩ := R
      exact call_len_set ho hex hd hf (by rw [hn] <;> omega) ⟨.int (dN xs xs.length : Nat), H1, J2.tok _, ⟨_, by rw [hn]⟩, q1⟩
    rcases hq with hq | hq
    · obtain ⟨its, r, pl, hz⟩ := J1.list hq
      exact set_ofS (tp := false) (xs := xs) (J1.ok.hd hc) (show if (false : Bool) = true then _ else _ from by rw [if_neg (by decide)]; exact pl.isList) (by simpa using strsAre_of r) (by unfold scanBound; omega) fun g tk R k => fin g tk R k
    · obtain ⟨its, r, pl, hz⟩ := J1.tuple hq
      exact set_ofS (tp := true) (xs := xs) (J1.ok.hd hc) (show if (true : Bool) = true then _ else _ from by rw [if_pos rfl]; exact pl) (by simpa using strsAre_of r) (by unfold scanBound; omega) fun g tk R k => fin g tk R k
  · refine ha.run H1 e1 al _ fun v H2 x2 r => ?_
    cases tp with
    | true =>
      cases r with
      | tup m hr rs => exact ⟨_, rfl, .inr (.inl (by rw [← rs.of_strs]; exact hr)), q _ H2 x2 (.int _)⟩
    | false =>
      cases r with
      | lst m hr rs => exact ⟨_, rfl, .inl (.inl (by rw [← rs.of_strs]; exact hr)), q _ H2 x2 (.int _)⟩
end
end GV

namespace GV
open PySem PySem.Spec PyProof.Rows L2
/-! min(e, key=lambda a: ..), e a list of objects: the first of those with the least key -/
def keyR (key : Nat → Int) (i j : Nat) : Bool := decide (key i < key j)
/-- the first index of the least key below n + 1 -/
def firstR (key : Nat → Int) (n : Nat) : Nat := argBest (keyR key) n
theorem firstR_spec (key : Nat → Int) : ∀ j, firstR key j ≤ j ∧ (∀ i, i ≤ j → key (firstR key j) ≤ key i) ∧ ∀ i, i < firstR key j → key (firstR key j) < key i
  | 0 => ⟨Nat.le_refl _, fun i h => by
      rw [Nat.le_zero.mp h]
      exact Int.le_refl _, fun i h => absurd h (Nat.not_lt_zero _)⟩
  | j + 1 => by
    obtain ⟨h1, h2, h3⟩ := firstR_spec key j
    generalize hb : firstR key j = b at h1 h2 h3
    have e : firstR key (j + 1) = if keyR key (j + 1) b = true then j + 1 else b := by rw [← hb]; rfl
    by_cases hk : keyR key (j + 1) b = true
    · rw [e, if_pos hk]
      have hk := of_decide_eq_true hk
      refine ⟨Nat.le_refl _, fun i hi => ?_, fun i hi => ?_⟩
      · rcases Nat.lt_or_ge i (j + 1) with z | z
        · have := h2 i (by omega)
          omega
        · rw [show i = j + 1 by omega]
          exact Int.le_refl _
      · have := h2 i (by omega)
        omega
    · rw [e, if_neg hk]
      have hk := of_decide_eq_false (Bool.not_eq_true _ ▸ hk)
      refine ⟨by omega, fun i hi => ?_, h3⟩
      rcases Nat.lt_or_ge i (j + 1) with z | z
      · exact h2 i (by omega)
      · rw [show i = j + 1 by omega]
        omega
theorem firstR_eq {key : Nat → Int} {n m : Nat} (hm : m ≤ n) (h1 : ∀ i, i ≤ n → key m ≤ key i) (h2 : ∀ i, i < m → key m < key i) : firstR key n = m := by
  obtain ⟨k1, k2, k3⟩ := firstR_spec key n
  rcases Nat.lt_trichotomy (firstR key n) m with z | z | z
  · have := h2 _ z
    have := k2 m hm
    omega
  · exact z
  · have := k3 m z
    have := h1 _ k1
    omega
/-- a list's iterator at turn i, its items known addresses -/
def ItR (I l : Addr) (as : List Addr) (i : Nat) (s : Shared) : Prop := s.heap.IsListIter I l i ∧ ∃ xs : Array Value, s.heap.IsList l xs ∧ xs.toList = as.map Value.ref
def RefP (as : List Addr) (i : Nat) (v : Value) : Prop := v = .ref (as.getD i 0)
theorem walk_refs {prog : Program} {w : World} {A : Around} (hh : A.handled = none) (I l : Addr) (ne : l ≠ I) (as : List Addr) : WalksS prog w A I [I, l] [I] (fun a b => b = a) as.length (RefP as) (ItR I l as) where
  sub := fun b hb => by
    rw [List.mem_singleton.mp hb]
    exact List.mem_cons_self ..
  grefl := fun _ => rfl
  gtrans := fun _ _ _ p q => q.trans p
  frame := fun i s h' tk ⟨si, xs, sl, sn⟩ _ hk => by
    obtain ⟨o1, a1, r1⟩ := si
    obtain ⟨o2, a2, r2⟩ := sl
    exact ⟨⟨o1, hk I (by simp) o1 a1, r1⟩, xs, ⟨o2, hk l (by simp) o2 a2, r2⟩, sn⟩
  item := fun i s Q E hi ⟨si, xs, sl, sn⟩ hQ => by
    have hx : i < xs.size := by
      rw [← Array.length_toList, sn, List.length_map]
      exact hi
    have e : xs[i] = Value.ref (as.getD i 0) := by
      have z : xs.toList[i]? = some (Value.ref (as.getD i 0)) := by
        rw [sn, List.getElem?_map, List.getElem?_eq_getElem hi, List.getD_eq_getElem?_getD, List.getElem?_eq_getElem hi]
        rfl
      rw [Array.getElem?_toList, Array.getElem?_eq_getElem hx] at z
      exact Option.some.inj z
    refine wpAny_pyNext_list_item si sl (x := xs[i]) (by simp [hx]) fun g si' sb => ?_
    exact hQ _ { s with heap := g } e ⟨si', xs, sl.extBut sb.extBut ne, sn⟩ ⟨fun b o nb q => sb.extBut b o (fun z => nb (by simp [z])) q, rfl, rfl, rfl, Nat.le_refl _⟩
  done := fun s Q E ⟨si, xs, sl, sn⟩ hQ => by
    have hx : xs[as.length]? = none := by
      rw [Array.getElem?_eq_none]
      rw [← Array.length_toList, sn, List.length_map]
      exact Nat.le_refl _
    exact wpAny_pyNext_list_end hh si sl hx fun g xb => hQ { s with heap := g } ⟨fun b o nb q => xb b o (fun z => nb (by simp [z])) q, rfl, rfl, rfl, Nat.le_refl _⟩
  self := fun i s Q E st q => wpAny_pyIter_listiter st.1 q
theorem vals_refsV : ∀ {as : List Addr} {us : List Value}, Vals (as.map V.ref) us → us = as.map Value.ref
  | [], _, h => by cases h; rfl
  | a :: as, _, h => by
    cases h with
    | cons r rs =>
      cases r
      exact congrArg (Value.ref a :: ·) (vals_refsV rs)
section
variable {X : Cx} {σ : L2.St} {H : Hp} {e : Expr}
def rMinR (X : Cx) (T : List (Addr × Str)) (k i : Nat) (body : Expr) (scope : Scope) (σ : L2.St) (key : Nat → Int) (v : V) (H1 : Hp) (Q : VK) : Prop :=
  ∃ (l : Addr) (ns : List Addr), v = .ref l ∧ SqL X.K H1 l (ns.map V.ref) ∧ ns ≠ [] ∧ LamX.Tabs T H1 ∧ ∀ H2, LamX.ExtN H1 H2 → LamX.Tabs T H2 →
    (∀ (j : Nat) (z : Addr), ns[j]? = some z → ∀ A outer s H0 f c' H3, Room k (A.deeper (LamX.lamEnv X scope s.heap.objs.size f c')) → Evl.Ex H2 H3 → wE (LamX.lamCx X A outer s H0 C8.E0 scope f c') body (σ.set i (some (.ref z))) H3 fun u H4 => u = .int (key j) ∧ Evl.Ex H3 H4) ∧
    ∀ H4, Evl.Ex H2 H4 → Q (.ref (ns.getD (firstR key (ns.length - 1)) 0)) H4
theorem ce_minR {T : List (Addr × Str)} {c P : Addr} {k i : Nat} {a : Str} {params : Arguments} {body : Expr} {scope : Scope} {p lpos kp pos : Pos} {Q : VK} (key : Nat → Int)
    (hc : X.calm = true) (hN : X.N.Nodup) (hi : X.N[i]? = some a) (hg : Gl X "min") (hm : X.mg "min" = none) (hr : Room (k + 2) X.A)
    (TB : LamX.TabB X.base X.mg c P) (hcode : X.env.code = .ref c) (hmT : (P, X.env.qual ++ "<lambda>") ∈ T) (hu : ∀ p ∈ T, p.1 = P → p.2 = X.env.qual ++ "<lambda>")
    (L : Lam1S X.env.scope scope a) (hdef : defaultsOf params X.env = ([], [])) (hbind : ∀ (q : Str) (cl : List (Str × Addr)) (pm cv ctv v : Value), bindArgs (PySem.W.kla_fn "<lambda>" q params body scope cl pm cv ctv) ⟨[v], []⟩ = pure [(a, v)])
    (h : wE X e σ H fun v H1 => rMinR X T k i body scope σ key v H1 Q)
    (h1 : starEach (e :: []) X.env = (false, eval e X.env) :: starEach [] X.env := by rfl) (he : backTo pos (starEach (e :: []) X.env) = (false, eval e X.env) :: backTo pos (starEach [] X.env) := by rfl) (hpl : (backTo pos (starEach (e :: []) X.env)).any (·.1) = false := by rfl)
    (hall : (backToKw pos (keywordEach [⟨some "key", .Lambda params body scope lpos, kp⟩] X.env)).all (·.1.isSome) = true := by rfl) (hnone : (backToKw pos (keywordEach [⟨some "key", .Lambda params body scope lpos, kp⟩] X.env)).any (·.1.isNone) = false := by rfl)
    (hks : (backToKw pos (keywordEach [⟨some "key", .Lambda params body scope lpos, kp⟩] X.env)).filterMap (·.1) = (["key"] : List Str) := by rfl) :
    wE X (.Call (.Name "min" p) [e] [⟨some "key", .Lambda params body scope lpos, kp⟩] pos) σ H Q := by
  refine ⟨fun σ' H' Q' => σ' = σ ∧ wE X e σ H' fun v H1 => rMinR X T k i body scope σ key v H1 Q', ⟨fun pins s σ' H' Q' I hq => ?_⟩, rfl, h⟩
  obtain ⟨e1, hq⟩ := hq
  subst e1
  refine wpAny_Call_Name_kw (ld_blt I hg hm PyProof.Rows.boot_min ?_ (by decide) (by decide))
  refine PyProof.Rows.callWith_kw (thn ((pa_cons wE.pe pa_nil h1).run pos pins s σ' H' (fun vs H1 => ∃ v, vs = [v] ∧ rMinR X T k i body scope σ' key v H1 Q') I (wE.weak hq fun v H1 z => ⟨v, rfl, z⟩)) fun us s1 ⟨vs, H1, I1, r1, v, ev, q1⟩ => ?_) he hpl hall hnone
  subst ev
  obtain ⟨l, ns, ev, hs, hne, hT, q1⟩ := q1
  subst ev
  rw [Vals.ref1 r1, hks]
  show wpAny _ _ (evalAll ((do let v ← eval (.Lambda params body scope lpos) X.env; standAt pos; pure v) :: (backToKw pos (keywordEach [] X.env)).map (·.2))) _ _ s1
  refine wpAny_evalAll_cons (wpAny_bind (LamX.lam_make2 I1 TB hcode hmT hu hT hdef (L.has I1.ok) fun f c' pm ctv H2 s2 I2 eN T2 hf hfn hfr hco => wpAny_bind (wpAny_standAt (wpAny_pure (wpAny_evalAll_nil ?_)))))
  show wpAny _ _ (call (.builtin "min") [.ref l] [(Str.ofString "key", .ref f)]) _ _ s2
  obtain ⟨hb, hQ⟩ := q1 H2 eN T2
  have hs2 : SqL X.K H2 l (ns.map V.ref) := hs.imp (fun z => z.imp (fun z => eN _ _ z fun _ z => by cases z) fun ⟨o, z⟩ => ⟨o, eN _ _ z fun _ z => by cases z⟩) id
  obtain ⟨its, rvs, pl, _⟩ := I2.list hs2
  have hd := I2.ok.hd hc
  have lt : l < s2.heap.objs.size := let ⟨_, q, _⟩ := pl.isList; Heap.lt_size q
  have ltf := Heap.lt_size hf
  refine call_min_walkK (wpAny_pyIter_list pl.isList ?_)
  have szI : ∀ ob : Obj, (s2.heap.push ob).objs.size = s2.heap.objs.size + 1 := fun ob => Heap.size_push ..
  refine ⟨s2.heap.objs.size, [s2.heap.objs.size, l], [s2.heap.objs.size], fun a b => b = a, ns.length, RefP ns, ItR s2.heap.objs.size l ns,
    fun s => ∃ H', Evl.Ex H2 H' ∧ Inv X pins σ' H' s ∧ H' s2.heap.objs.size = none ∧ H' (s2.heap.objs.size + 1) = none ∧ s.heap.get? f = some (PySem.W.kla_obj "<lambda>" (X.env.qual ++ "<lambda>") params body scope (cloFrom X.env.cells scope.names []) pm c' ctv) ∧ H' f = none,
    fun j u _ => ∃ t, u = .int (key j) t, keyR key, rfl, walk_refs (by exact hd) _ l (Nat.ne_of_lt lt) ns, ⟨⟨_, Heap.get?_push_size _ rfl, rfl, rfl⟩, its.toArray, pl.isList.push _, by rw [List.toList_toArray]; exact vals_refsV rvs⟩, ?_, List.length_pos_iff.mpr hne, ?_, ?_, ?_⟩
  · intro b hb
    rw [szI]
    rcases List.mem_cons.mp hb with e | hb
    · rw [e]
      exact Nat.lt_succ_self _
    · rw [List.mem_singleton.mp hb]
      exact Nat.lt_succ_of_lt lt
  · rw [szI]
    refine ⟨fun s s' ⟨H', x, J, n1, n2, hf', n3⟩ mv => ?_, fun _ _ _ _ z _ => z, fun j v s o Q E hj hP hJ hst hS kk => ?_, fun i j ki kj s Q E _ ⟨t, e1⟩ ⟨u, e2⟩ q => ?_⟩
    · obtain ⟨g, gn, dr, tk, os⟩ := s'
      obtain rfl : gn = s.gens := mv.gens
      obtain rfl : dr = s.drawn := mv.drawn
      obtain rfl : os = s.os := mv.os
      refine ⟨H', x, J.turnedL (ch := [s2.heap.objs.size + 1, s2.heap.objs.size]) (fun b o nb e => mv.heap b o nb e) (fun b hb => ?_), n1, n2, mv.heap _ _ ?_ hf', n3⟩
      · rcases List.mem_cons.mp hb with e | hb
        · rw [e]
          exact I2.fpOk (Nat.le_succ _) n2
        · rw [List.mem_singleton.mp hb]
          exact I2.fpOk (Nat.le_refl _) n1
      · simp only [List.mem_cons, List.not_mem_nil, or_false, not_or]
        exact ⟨Nat.ne_of_lt (Nat.lt_succ_of_lt ltf), Nat.ne_of_lt ltf⟩
    · obtain ⟨H', x, J, n1, n2, hf', hfn'⟩ := hJ
      obtain ⟨si, _⟩ := hst
      have ev : v = Value.ref (ns.getD j 0) := hP
      subst ev
      have zm : ns[j]? = some (ns.getD j 0) := by
        rw [List.getD_eq_getElem?_getD, List.getElem?_eq_getElem hj]
        rfl
      generalize hz : ns.getD j 0 = z at *
      obtain ⟨⟨oc, vs, tt, hoc, hdc, hvc⟩, _, _⟩ := J.hok c' _ (x _ _ hco)
      have r1 : Room (k + 1) X.A.in1 := hr.in1
      have rc : codeAny (model X.prog X.w) X.A.in1 (.call (.ref f) ⟨[.ref z], []⟩) (L2.CR (L2.CX X.prog X.w) X.stack X.prog X.w H' s (fun u H4 => u = .int (key j) ∧ Evl.Ex H' H4) C8.E0) s := by
        refine PySem.W.kla_callFunE r1.depth hf' rfl L.co L.gen rfl ⟨c', oc, vs, tt, rfl, hoc, hdc, hvc⟩ ?_
        rw [hbind]
        refine wpAny_pure (wpAny_newFunctionEnv L.cell (fun y hy => by rw [List.mem_singleton.mp hy]; exact L.par) (fun g hns hsb => ⟨J.nolimit.fresh _ hsb, ?_⟩) L.kind)
        show codeAny _ _ (.expr body (LamX.lamEnv X scope s.heap.objs.size f c')) _ _
        have Jn : Inv (LamX.lamCx X X.A.in1 X.stack s H' C8.E0 scope f c') [] (σ'.set i (some (.ref z))) H' { s with heap := g, toks := s.toks + ([(a, Value.ref z)] : List (Str × Value)).length } :=
          lam1_start J L hN hi rfl J.env0.in1 r1.hd Un.refl hns fun b o e => hsb.extBut b o (Nat.ne_of_lt (Heap.lt_size e)) (Heap.get?_push_of_some _ e)
        refine PySem.W.kla_codeExpr (wpAny_mono (wE.pe.run [] _ _ H' _ Jn (hb j z zm _ _ _ _ f c' H' (r1.deeper _) x)) (fun v s' hq => ?_) fun e s' hq => hq)
        obtain ⟨w', H'', J', rv, q⟩ := hq
        exact ⟨w', H'', J'.os, J'.bare, J'.base, J'.hok, rv, q⟩
      refine wpAny_call (codeAny_mono rc fun r s' hr' => ?_)
      rcases r with er | fl
      · obtain ⟨_, _, _, _, _, _, _, _, _, _, _, _, z⟩ := hr'
        exact z.elim
      rcases fl with _ | _ | _ | u
      iterate 3 exact hr'.elim
      obtain ⟨v, H4, os, bare, un, hok, rv, ev, x4⟩ := hr'
      subst ev
      obtain ⟨t', eu⟩ := rv
      subst eu
      have J4 : Inv X pins σ' H4 s' := J.call' (ch := []) os un hok bare fun _ z => by cases z
      have hS' : s.heap.get? (s2.heap.objs.size + 1) = some o := hS
      obtain ⟨oi, ai, ri⟩ := si
      have nf : ∀ b, s2.heap.objs.size ≤ b → b ∉ frs X.stack := fun b hb z => by
        rcases List.mem_cons.mp (I2.stkSub _ z) with e | e
        · exact absurd (Nat.lt_of_le_of_lt hb (by rw [e]; exact I2.lt)) (Nat.lt_irrefl _)
        · exact I2.nofs hb e
      have ki := un.keep _ _ ai n1 (nf _ (Nat.le_refl _)) (by simp)
      have kS := un.keep _ _ hS' n2 (nf _ (Nat.le_succ _)) (by simp)
      have kf := un.keep _ _ hf' hfn' hfr (by simp)
      obtain ⟨its4, rv4, pl4, _⟩ := J4.list (show SqL X.K H4 l (ns.map V.ref) from hs2.imp (fun z => z.imp (fun z => x4 _ _ (x _ _ z)) fun ⟨o, z⟩ => ⟨o, x4 _ _ (x _ _ z)⟩) id)
      refine kk _ _ ⟨H4, x.trans x4, J4, un.free _ _ ai n1 (by simp), un.free _ _ hS' n2 (by simp), kf, un.free _ _ hf' hfn' (by simp)⟩ ⟨⟨oi, ki, ri⟩, its4.toArray, pl4.isList, by rw [List.toList_toArray]; exact vals_refsV rv4⟩ kS ⟨t', rfl⟩ fun _ _ z => z
    · subst e1
      subst e2
      exact wpAny_lt_int q
  · exact ⟨H2, Evl.Ex.refl H2, I2.kept fun b o e => Heap.get?_push_of_some _ e, I2.hok.fresh (Nat.le_refl _), I2.hok.fresh (Nat.le_succ _), Heap.get?_push_of_some _ hf, hfn⟩
  · rintro v s' ev ⟨H', x, J, _, _, _, _⟩
    exact ⟨.ref (ns.getD (firstR key (ns.length - 1)) 0), H', J, ev, hQ H' x⟩
end
end GV

namespace IK
open PySem PySem.Spec PyProof.Rows L2 GV
section
variable {X : Cx} {M : Addr → Prop} {σ : St} {H : Hp} {a b : Expr} {pos p p2 : Pos} {CH : Addr}
/-- House.KINDS[e] -/
theorem pd_kindIx {k : Nat} (hg : Gl X "House") (gH : X.mg "House" = some (.ref CH)) (kk : KindsK X.K CH) (hb : PD X M b σ H (natD k)) (hk : k < 6) (hs : PlainIx b := by exact fun _ _ => rfl) (hab : attributeBase (.Name "House" p) "KINDS" X.env (eval (.Name "House" p) X.env) = eval (.Name "House" p) X.env := by rfl) :
    PD X M (.Subscript (.Attribute (.Name "House" p) "KINDS" p2) b pos) σ H (.str (ordK.getD k "")) := .mk fun H1 e1 al Q q => by
  obtain ⟨t, mc, cr, cv, kt⟩ := kk.ex
  refine ⟨_, pe_ix ix_seq wE.pe wE.pe hs, ce_cval hg gH cr cv (hb.run H1 e1 al _ fun v H2 x2 r => ?_) (by decide) hab⟩
  cases r
  refine .inr (.inl ⟨t, ordK.map V.str, (k : Nat), .str (ordK.getD k ""), rfl, rfl, .inr kt, ?_, q _ H2 x2 (.str _)⟩)
  exact atI_nat (by rw [List.getElem?_map, List.getD_eq_getElem?_getD, List.getElem?_eq_getElem (show k < ordK.length from hk)]; rfl)
theorem pd_inKinds {x : Str} (hg : Gl X "House") (gH : X.mg "House" = some (.ref CH)) (kk : KindsK X.K CH) (ha : PD X M a σ H (.str x)) (hk : behindInMarks .In (.Attribute (.Name "House" p) "KINDS" p2) = false := by rfl) (hab : attributeBase (.Name "House" p) "KINDS" X.env (eval (.Name "House" p) X.env) = eval (.Name "House" p) X.env := by rfl) :
    PD X M (.Compare a [.In] [.Attribute (.Name "House" p) "KINDS" p2] pos) σ H (.bool (decide (x ∈ ordK))) := .mk fun H1 e1 al Q q => by
  obtain ⟨t, mc, cr, cv, kt⟩ := kk.ex
  refine ⟨_, pe_cmpR op_in_seq wE.pe wE.pe hk, ha.run H1 e1 al _ fun v H2 x2 r => ce_cval hg gH cr cv ?_ (by decide) hab⟩
  cases r
  have all : (ordK.map V.str).all flatV = true := by
    rw [List.all_map, List.all_eq_true]
    exact fun _ _ => rfl
  refine ⟨t, ordK.map V.str, rfl, .inr (.inr kt), rfl, all, ?_⟩
  show Q (.bl (inV (.str x) (ordK.map V.str))) H2
  rw [inV_strs]
  exact q _ H2 x2 (.bl _)
end
/-! ### names of kinds -/
theorem kindsK_ok : ∀ c : Fin 64, (kindsL c.val).reverse.Nodup ∧ (kindsL c.val).Nodup ∧ (kindsL c.val).length ≤ 6 ∧ ∀ k ∈ kindsL c.val, k ∈ ordK := by decide +kernel
theorem ordK_sh : ∀ k ∈ ordK, SeqAt.shaped (.str k) = true := by decide +kernel
def R_ck (ds : List PyData) (d : PyData) : Prop := ∃ (tp : Bool) (ks : List Str), (∀ k ∈ ks, k ∈ ordK) ∧ ks.Nodup ∧ ks.length ≤ 50 ∧ ds = [sqD tp (ks.map PyData.str)] ∧ d = .none
def R_pk (ds : List PyData) (d : PyData) : Prop := ∃ (tp : Bool) (ks : List Str), (∀ k ∈ ks, k ∈ ordK) ∧ ks.Nodup ∧ ks.length ≤ 50 ∧ ds = [sqD tp (ks.map PyData.str)] ∧ d = .tuple [tintsD (rowI ks), natD (plI ks)]
section
variable {P : Program} {w : World} {K : PySem.W.Frag} {mg : Str → Option Value} {base : Heap} {CH : Addr}
theorem cl_check_kinds {f : Addr} {fd : FuncData} (F : At K mg "_check_kinds" s_check_kinds f fd) (nb : NoB mg) (gH : mg "House" = some (.ref CH)) (kk : KindsK K CH) : Cl P w K mg base CX0 1 "_check_kinds" (PureR K R_ck) := by
  refine cl_pure F sc_check_kinds (F.fn.binds fun _ _ _ _ _ _ us hl => match us, hl with | [_], _ => rfl) (fun ds d h => ?_) (fun X cdv A outer s H Q E M vs ds d hX hr al r h q => ?_)
  · obtain ⟨_, _, _, _, _, rfl, _⟩ := h
    rfl
  obtain ⟨tp, ks, hk, hnd, hl, rfl, rfl⟩ := h
  obtain ⟨v, rfl, r1⟩ := rpa1 r
  subst hX
  have isq : (isListD (sqD tp (ks.map PyData.str)) || isTupD (sqD tp (ks.map PyData.str))) = true := by cases tp <;> rfl
  refine b_cons (s_if (k := false) al (TD.is (td_not (td_val (pd_isi2 rfl nb.isinstance rfl nb.list PyProof.Rows.boot_list rfl nb.tuple PyProof.Rows.boot_tuple (nm 0 r1) (kit_l _) (kit_t _)))) (by rw [isq]; rfl)) (fun k => by cases k) (fun _ H1 x1 => b_nil ?_))
  have s1 := r1.mono (fun _ z => z) (ExM.of x1)
  have eb : (ks.map fun x => PyData.bool (decide (x ∈ ordK))) = (ks.map fun _ => true).map PyData.bool := by
    rw [List.map_map]
    exact List.map_congr_left fun x hx => by rw [decide_eq_true (hk x hx)]; rfl
  refine b_cons (s_if (k := false) (al.mono x1) (td_not (k := true) (TD.is (td_val (pd_callB (cr_all rfl) rfl nb.all PyProof.Rows.boot_all (ad_cons (PD.is (FD.pd (fd_mapA str_inj (fun x => .bool (decide (x ∈ ordK))) (l := ks) (t := .one 1) (own := [("kind", 1)]) rfl sc_check_kinds.nd (src_S (nm 0 s1)) (blkOk_by (N := n_check_kinds) (sc := defScope s_check_kinds) (by decide +kernel)) (fun _ _ _ _ _ => pg_name (i := 1) sc_check_kinds.nd rfl (.inl rfl)) (fun _ _ => trivial) ?_ (by omega) ?_)) (congrArg PyData.list eb)) ad_nil) rn_all)) (by simp))) (fun k => by cases k) (fun _ H2 x2 => b_nil ?_))
  · rintro M H d σ' ⟨_, _, rfl⟩
    rfl
  · rintro s0 H0 C cl fp M' H' x σ' hM lift kp hx ⟨v', rv, rfl⟩
    exact PD.is (pd_and (pd_isi rfl nb.isinstance rfl nb.str PyProof.Rows.boot_str (nm 1 rv) (kit_str _)) fun _ => pd_one (pd_inKinds rfl gH kk (nm 1 rv))) (congrArg PyData.bool (Bool.true_and _))
  have x12 := x1.trans x2
  have t1 := r1.mono (fun _ z => z) (ExM.of x12)
  refine b_cons (s_if (k := false) (al.mono x12) (TD.is (td_lt (pd_lenSetS rfl rfl nb.len rfl nb.set (nm 0 t1) (by omega)) (pd_len nb rfl (nm 0 t1) (n := ks.length) (by rw [len_sq, List.length_map]))) (by rw [dN_nodup hnd _ (Nat.le_refl _)]; exact decide_eq_false (by omega))) (fun k => by cases k) (fun _ H3 x3 => b_nil (b_nil (q .non H3 (x12.trans x3) .non))))
theorem cl_probe {f : Addr} {fd : FuncData} (F : At K mg "probe" s_probe f fd) (ck : Cl P w K mg base CX0 1 "_check_kinds" (PureR K R_ck)) (cp : Cl P w K mg base CX0 1 "_probe_of" (PureR K R_prb)) : Cl P w K mg base CX0 2 "probe" (PureR K R_pk) := by
  refine cl_pure F sc_probe (F.fn.binds fun _ _ _ _ _ _ us hl => match us, hl with | [_], _ => rfl) (fun ds d h => ?_) (fun X cdv A outer s H Q E M vs ds d hX hr al r h q => ?_)
  · obtain ⟨_, _, _, _, _, rfl, _⟩ := h
    rfl
  obtain ⟨tp, ks, hk, hnd, hl, rfl, rfl⟩ := h
  obtain ⟨v, rfl, r1⟩ := rpa1 r
  subst hX
  refine b_cons (cs_expr (ce_pd al (pd_callC ck hr (by decide) rfl (ad_cons (nm 0 r1) ad_nil) ⟨tp, ks, hk, hnd, hl, rfl, rfl⟩) fun v1 H1 x1 _ => ?_))
  exact b_cons (s_ret (al.mono x1) (pd_callC cp hr (by decide) rfl (ad_cons (nm 0 (r1.mono (fun _ z => z) (ExM.of x1))) ad_nil) ⟨tp, ks, by omega, rfl, rfl⟩) fun v2 H2 x2 r2 => q v2 H2 (x1.trans x2) r2)
end
end IK

namespace GV
open PySem PySem.Spec PyProof.Rows L2
section
variable {X : Cx} {M : Addr → Prop} {σ : St} {H : Hp} {a b : Expr} {pos : Pos}
/-- x in a list or tuple of whole numbers -/
theorem td_inQ {tp : Bool} {x : Int} {ns : List Int} (ha : PD X M a σ H (.int x)) (hb : PD X M b σ H (sqD tp (ns.map PyData.int))) (hk : behindInMarks .In b = false := by rfl) : TD X M (.Compare a [.In] [b] pos) σ H (decide (x ∈ ns)) := by
  cases tp
  · exact td_in ha hb hk
  refine td_cmpR op_in_seq hk (fun u v H1 ru rv _ Q q => ?_) ha hb
  cases ru
  cases rv with
  | tup m hs rs =>
    refine ⟨_, _, rfl, .inr (.inl hs), rfl, by rw [rs.of_ints]; exact flat_ints ns, ?_⟩
    rw [rs.of_ints]
    show Q (.bl (inV (.int x) (ns.map V.int))) H1
    rw [inV_ints]
    exact q _ H1 (Evl.Ex.refl H1) (.bl _)
theorem td_ninQ {tp : Bool} {x : Int} {ns : List Int} (ha : PD X M a σ H (.int x)) (hb : PD X M b σ H (sqD tp (ns.map PyData.int))) (hk : behindInMarks .NotIn b = false := by rfl) : TD X M (.Compare a [.NotIn] [b] pos) σ H (!decide (x ∈ ns)) := by
  cases tp
  · exact td_nin ha hb hk
  refine td_cmpR op_notIn_seq hk (fun u v H1 ru rv _ Q q => ?_) ha hb
  cases ru
  cases rv with
  | tup m hs rs =>
    refine ⟨_, _, rfl, .inr (.inl hs), rfl, by rw [rs.of_ints]; exact flat_ints ns, ?_⟩
    rw [rs.of_ints]
    show Q (.bl (!inV (.int x) (ns.map V.int))) H1
    rw [inV_ints]
    exact q _ H1 (Evl.Ex.refl H1) (.bl _)
end
end GV

namespace IK
open PySem PySem.Spec PyProof.Rows L2 GV
/-! ### stones put in and taken out -/
def putL (ns : List Int) (z : Int) (i : Nat) : List Int := ns.take i ++ [z] ++ ns.drop i
def outL (ns : List Int) (z : Int) : List Int := ns.filter fun x => decide (x ≠ z)
def R_cw (ds : List PyData) (d : PyData) : Prop := ∃ z, okW z ∧ ds = [.int z] ∧ d = .none
def spPut (K : PySem.W.Frag) (CS CT : Addr) : Sp := fun vs H Q E => ∃ (v : V) (tp : Bool) (ns : List Int) (z : Int) (i : Nat), vs = [v, .int z, .int (i : Nat)] ∧ Rp K M0 H v (sqD tp (ns.map PyData.int)) ∧ RowL ns ∧ okW z ∧ i ≤ ns.length ∧
  ((z ∉ ns ∧ ns.length < 40 ∧ ∀ w H', Evl.Ex H H' → Rp K M0 H' w (tintsD (putL ns z i)) → Q w H') ∨ (z ∈ ns ∧ ∀ H', Evl.Ex H H' → Raised CS [("weight", .int z)] H' E) ∨ (z ∉ ns ∧ ns.length = 40 ∧ ∀ H', Evl.Ex H H' → Raised CT [("given", .int 41), ("most", .int 40)] H' E))
def spOut (K : PySem.W.Frag) (CO : Addr) : Sp := fun vs H Q E => ∃ (v : V) (tp : Bool) (ns : List Int) (z : Int), vs = [v, .int z] ∧ Rp K M0 H v (sqD tp (ns.map PyData.int)) ∧ RowL ns ∧ okW z ∧
  ((z ∈ ns ∧ ∀ w H', Evl.Ex H H' → Rp K M0 H' w (tintsD (outL ns z)) → Q w H') ∨ (z ∉ ns ∧ ∀ H', Evl.Ex H H' → Raised CO [("weight", .int z)] H' E))
def R_ka (ds es : List PyData) : Prop := ∃ (tp : Bool) (ns : List Int) (p : Nat), RowL ns ∧ p + 1 < ns.length ∧ ds = [sqD tp (ns.map PyData.int), natD p] ∧ es = (presL ns p).map fun k => PyData.str (ordK.getD k "")
theorem num_ok {i n : Nat} (h : i ≤ n) : isNumD (.int (i : Nat)) 0 (n : Nat) = true := by
  show (decide ((0 : Int) ≤ (i : Nat)) && decide (((i : Nat) : Int) ≤ (n : Nat))) = true
  rw [decide_eq_true (by omega), decide_eq_true (by omega)]
  rfl
section
variable {P : Program} {w : World} {K : PySem.W.Frag} {mg : Str → Option Value} {base : Heap} {CH CN CS CT CO : Addr}
theorem cl_check_weightA {f : Addr} {fd : FuncData} (F : At K mg "check_weight" s_check_weight f fd) (c1 : Cl P w K mg base CX0 3 "is_weight" (PureR K R_is_weight)) : Cl P w K mg base CX0 4 "check_weight" (PureR K R_cw) := by
  refine cl_pure F sc_check_weight (F.fn.binds fun _ _ _ _ _ _ us hl => match us, hl with | [_], _ => rfl) (fun ds d h => ?_) (fun X cdv A outer s H Q E M vs ds d hX hr al r h q => ?_)
  · obtain ⟨_, _, rfl, _⟩ := h
    rfl
  obtain ⟨z, hz, rfl, rfl⟩ := h
  obtain ⟨v, rfl, r1⟩ := rpa1 r
  subst hX
  exact b_cons (s_if (M := M) (k := false) al (TD.is (td_not (td_val (pd_callC c1 hr (by decide) rfl (ad_cons (nm 0 r1) ad_nil) ⟨_, rfl, rfl⟩))) (by rw [hz.is]; rfl)) (fun k => by cases k) (fun _ H1 x1 => b_nil (b_nil (q .non H1 x1 .non))))
theorem cl_put_in {f : Addr} {fd : FuncData} {t : Tok} (F : At K mg "put_in" s_put_in f fd) (nb : NoB mg) (gS : mg "MOST_STONES" = some (.int 40 t)) (c1 : Cl P w K mg base CX0 6 "check_row" (spRowOk K toN)) (c2 : Cl P w K mg base CX0 4 "check_weight" (PureR K R_cw)) (c3 : Cl P w K mg base (L2.CX P w) 3 "check_number" (spCN K CN)) (es : ErrC P w K mg base "StoneThere" CS ["weight"]) (et : ErrC P w K mg base "TooMany" CT ["most", "given"]) : Cl P w K mg base (L2.CX P w) 8 "put_in" (spPut K CS CT) := by
  refine ⟨f, fd, _, F.fn.okX sc_put_in (fun vs H Q E h => ?_) (fun cdv A outer s H vs Q E hr h => ⟨_, wB.ps, ?_⟩), F.gl, F.fn.kp, F.fn.binds fun _ _ _ _ _ _ us hl => match us, hl with | [_, _, _], _ => rfl⟩
  · obtain ⟨_, _, _, _, _, rfl, _⟩ := h
    rfl
  have tk : Takes _ (fun cls d (_ : St) H' => E cls d H') := takes_of (X := cxOf (L2.CX P w) P w K mg base n_put_in "put_in" (defScope s_put_in) f cdv A outer s H E) rfl rfl rfl rfl
  obtain ⟨v, tp, ns, z, i, rfl, r, hrow, hz, hi, h⟩ := h
  have ln : lenD (sqD tp (ns.map PyData.int)) = some ns.length := by rw [len_sq, List.length_map]
  refine b_cons (cs_expr (ce_call c1 hr (by decide) rfl (ca_cons (ce_nm 0 (ca_nil ⟨M0, v, tp, ns, rfl, alive0, r, hrow, fun H1 x1 => ?_⟩)))))
  have r1 := r.mono (fun _ z => z) (ExM.of x1)
  refine b_cons (cs_expr (ce_pd (M := M0) alive0 (pd_callC c2 hr (by decide) rfl (ad_cons (nm 1 (.int z)) ad_nil) ⟨z, hz, rfl, rfl⟩) fun v2 H2 x2 _ => ?_))
  have x12 := x1.trans x2
  have r2 := r.mono (fun _ z => z) (ExM.of x12)
  refine b_cons (cs_expr (ce_callX c3 hr (by decide) rfl tk (ca_cons (ce_nm 2 (ca_cons (ce_intC (ca_cons (ce_pd (M := M0) alive0 (pd_len nb rfl (nm 0 r2) ln) fun v3 H3 x3 r3 => ca_nil ⟨.int (i : Nat), .int (i : Nat), 0, (ns.length : Nat), by cases r3; rfl, .int _, .inl ⟨num_ok hi, fun H4 x4 => ?_⟩⟩))))))))
  have x14 := x12.trans (x3.trans x4)
  have r4 := r.mono (fun _ z => z) (ExM.of x14)
  rcases h with ⟨h1, h2, q⟩ | ⟨h1, q⟩ | ⟨h1, h2, q⟩
  · refine b_cons (s_if (M := M0) (k := false) alive0 (TD.is (td_inQ (nm 1 (.int z)) (nm 0 r4)) (decide_eq_false h1)) (fun k => by cases k) (fun _ H5 x5 => b_nil ?_))
    have r5 := r4.mono (fun _ z => z) (ExM.of x5)
    refine b_cons (s_if (M := M0) (k := false) alive0 (TD.is (td_eq hr.units (pd_len nb rfl (nm 0 r5) ln) (pd_globI rfl gS) rfl rfl) (by rw [eqv_int]; exact decide_eq_false (by omega))) (fun k => by cases k) (fun _ H6 x6 => b_nil ?_))
    have r6 := r5.mono (fun _ z => z) (ExM.of x6)
    refine b_cons (s_set (M := M0) (i := 3) (d := tintsD ns) alive0 sc_put_in.nd rfl (by first | exact .inl rfl | exact .inr rfl) (pd_tupleOf rfl nb.tuple (nm 0 r6) (items_sq _ _)) fun v7 H7 x7 r7 => ?_)
    have hl := hrow.1
    have lt : (cutD (ns.map PyData.int) none (some ((i : Nat) : Int))).length ≤ 100000 - 1000 := by
      rw [cutD_take, List.length_take, List.length_map]
      omega
    have ld : (cutD (ns.map PyData.int) (some ((i : Nat) : Int)) none).length ≤ 1000 - 100 := by
      rw [cutD_drop, List.length_drop, List.length_map]
      omega
    have ed : cutD (ns.map PyData.int) none (some ((i : Nat) : Int)) ++ [PyData.int z] ++ cutD (ns.map PyData.int) (some ((i : Nat) : Int)) none = (putL ns z i).map PyData.int := by
      unfold putL
      rw [cutD_take, cutD_drop, List.map_append, List.map_append, List.map_take, List.map_drop]
      rfl
    exact b_cons (s_ret (M := M0) alive0 (PD.is (pd_catT (pd_catT (pd_sliceT (nm 3 r7) od_none (od_some (nm 2 (.int (i : Nat))))) (pd_tup (ad_cons (nm 1 (.int z)) ad_nil) (by simp)) (by simp only [List.length_singleton]; omega)) (pd_sliceT (nm 3 r7) (od_some (nm 2 (.int (i : Nat)))) od_none) (by simp only [List.length_append, List.length_singleton]; omega)) (congrArg PyData.tuple ed)) fun v8 H8 x8 r8 => q v8 H8 (x14.trans (x5.trans (x6.trans (x7.trans x8)))) r8)
  · refine b_cons (s_if (M := M0) (k := true) alive0 (TD.is (td_inQ (nm 1 (.int z)) (nm 0 r4)) (decide_eq_true h1)) (fun _ H5 x5 => ?_) (fun k => by cases k))
    exact b_cons (s_raise rfl es (hr.mono (by decide)) tk rfl (ca_cons (ce_nm 1 (ca_nil ⟨rfl, (by show 1 ≤ 1000; decide), q H5 (x14.trans x5)⟩))))
  · refine b_cons (s_if (M := M0) (k := false) alive0 (TD.is (td_inQ (nm 1 (.int z)) (nm 0 r4)) (decide_eq_false h1)) (fun k => by cases k) (fun _ H5 x5 => b_nil ?_))
    have r5 := r4.mono (fun _ z => z) (ExM.of x5)
    refine b_cons (s_if (M := M0) (k := true) alive0 (TD.is (td_eq hr.units (pd_len nb rfl (nm 0 r5) ln) (pd_globI rfl gS) rfl rfl) (by rw [eqv_int]; exact decide_eq_true (by omega))) (fun _ H6 x6 => ?_) (fun k => by cases k))
    exact b_cons (s_raise rfl et (hr.mono (by decide)) tk rfl (ca_cons (ce_pd (M := M0) (d := .int 40) alive0 (pd_globI rfl gS) fun v7 H7 x7 r7 => ca_cons (ce_pd (M := M0) (d := .int 41) alive0 (PD.is (pd_add (pd_globI rfl gS) pd_int) rfl) fun v8 H8 x8 r8 => ca_nil ⟨rfl, (by show 2 ≤ 1000; decide), by
      cases r7
      cases r8
      exact q H8 (x14.trans (x5.trans (x6.trans (x7.trans x8))))⟩))))
theorem cl_taken_out {f : Addr} {fd : FuncData} (F : At K mg "taken_out" s_taken_out f fd) (nb : NoB mg) (c1 : Cl P w K mg base CX0 6 "check_row" (spRowOk K toN)) (c2 : Cl P w K mg base CX0 4 "check_weight" (PureR K R_cw)) (eo : ErrC P w K mg base "NoStone" CO ["weight"]) : Cl P w K mg base (L2.CX P w) 7 "taken_out" (spOut K CO) := by
  refine ⟨f, fd, _, F.fn.okX sc_taken_out (fun vs H Q E h => ?_) (fun cdv A outer s H vs Q E hr h => ⟨_, wB.ps, ?_⟩), F.gl, F.fn.kp, F.fn.binds fun _ _ _ _ _ _ us hl => match us, hl with | [_, _], _ => rfl⟩
  · obtain ⟨_, _, _, _, rfl, _⟩ := h
    rfl
  have tk : Takes _ (fun cls d (_ : St) H' => E cls d H') := takes_of (X := cxOf (L2.CX P w) P w K mg base n_taken_out "taken_out" (defScope s_taken_out) f cdv A outer s H E) rfl rfl rfl rfl
  obtain ⟨v, tp, ns, z, rfl, r, hrow, hz, h⟩ := h
  have hl := hrow.1
  refine b_cons (cs_expr (ce_call c1 hr (by decide) rfl (ca_cons (ce_nm 0 (ca_nil ⟨M0, v, tp, ns, rfl, alive0, r, hrow, fun H1 x1 => ?_⟩)))))
  refine b_cons (cs_expr (ce_pd (M := M0) alive0 (pd_callC c2 hr (by decide) rfl (ad_cons (nm 1 (.int z)) ad_nil) ⟨z, hz, rfl, rfl⟩) fun v2 H2 x2 _ => ?_))
  have x12 := x1.trans x2
  have r2 := r.mono (fun _ z => z) (ExM.of x12)
  rcases h with ⟨h1, q⟩ | ⟨h1, q⟩
  · refine b_cons (s_if (M := M0) (k := false) alive0 (TD.is (td_ninQ (nm 1 (.int z)) (nm 0 r2)) (by rw [decide_eq_true h1]; rfl)) (fun k => by cases k) (fun _ H5 x5 => b_nil ?_))
    have r5 := r2.mono (fun _ z => z) (ExM.of x5)
    refine b_cons (s_ret (M := M0) alive0 (PD.is (pd_callTy call_tuple_of rfl nb.tuple PyProof.Rows.boot_tuple (ad_cons (FD.pd (fd_filterA (fun a b h => PyData.int.inj h) (fun x => decide (x ≠ z)) PyData.int (l := ns) (t := .one 2) (own := [("stone", 2)]) rfl sc_taken_out.nd (src_S (nm 0 r5)) (blkOk_by (N := n_taken_out) (sc := defScope s_taken_out) (by decide +kernel)) (fun _ _ _ _ _ => pg_name (i := 2) sc_taken_out.nd rfl (.inl rfl)) (fun _ _ => trivial) ?_ (by omega) ?_)) ad_nil) (rn_tuple rfl)) rfl) fun v8 H8 x8 r8 => q v8 H8 (x12.trans (x5.trans x8)) r8)
    · rintro M H d σ' ⟨_, _, rfl⟩
      rfl
    · rintro s0 H0 C cl fp M' H' x σ' hM lift kp hx ⟨v', rv, rfl⟩
      refine ⟨TD.is (td_ne hr.units (nm 2 rv) (nm 1 (.int z)) rfl rfl) ?_, nm 2 rv⟩
      rw [eqv_int]
      by_cases e : x = z <;> simp [e]
  · refine b_cons (s_if (M := M0) (k := true) alive0 (TD.is (td_ninQ (nm 1 (.int z)) (nm 0 r2)) (by rw [decide_eq_false h1]; rfl)) (fun _ H5 x5 => ?_) (fun k => by cases k))
    exact b_cons (s_raise rfl eo (hr.mono (by decide)) tk rfl (ca_cons (ce_nm 1 (ca_nil ⟨rfl, (by show 1 ≤ 1000; decide), q H5 (x12.trans x5)⟩))))
theorem cl_kinds_at {f : Addr} {fd : FuncData} (F : At K mg "kinds_at" s_kinds_at f fd) (gH : mg "House" = some (.ref CH)) (kk : KindsK K CH) (c1 : Cl P w K mg base CX0 6 "check_row" (spRowOk K toN)) (c2 : Cl P w K mg base CX0 4 "check_place" (spPlOk K)) (cp : Cl P w K mg base CX0 2 "present_kinds" (FreshR K R_pres)) : Cl P w K mg base CX0 7 "kinds_at" (FreshR K R_ka) := by
  refine ⟨f, fd, _, F.fn.ok sc_kinds_at (fun vs H Q E h => ?_) (fun cdv A outer sh H vs Q E hr h => ⟨_, wB.ps, ?_⟩), F.gl, F.fn.kp, F.fn.binds fun _ _ _ _ _ _ us hl => match us, hl with | [_, _], _ => rfl⟩
  · obtain ⟨M, ds, es, al, r, ⟨_, _, _, _, _, rfl, _⟩, _⟩ := h
    rw [r.length]
    rfl
  obtain ⟨M, ds, es, al, r, ⟨tp, ns, p, hrow, hp, rfl, rfl⟩, q⟩ := h
  obtain ⟨u, v, rfl, r1, r2⟩ := rpa2 r
  have hl := hrow.1
  refine b_cons (cs_expr (ce_call c1 hr (by decide) rfl (ca_cons (ce_nm 0 (ca_nil ⟨M, u, tp, ns, rfl, al, r1, hrow, fun H1 x1 => ?_⟩)))))
  have s1 := r1.mono (fun _ z => z) (ExM.of x1)
  have s2 := r2.mono (fun _ z => z) (ExM.of x1)
  refine b_cons (cs_expr (ce_call c2 hr (by decide) rfl (ca_cons (ce_nm 0 (ca_cons (ce_nm 1 (ca_nil ⟨M, u, v, tp, ns, p, rfl, al.mono x1, s1, s2, hp, fun H2 x2 => ?_⟩)))))))
  have t1 := s1.mono (fun _ z => z) (ExM.of x2)
  have t2 := s2.mono (fun _ z => z) (ExM.of x2)
  have x12 := x1.trans x2
  have ep : ((presL ns p).map fun k => ((k : Nat) : Int)).map PyData.int = (presL ns p).map natD := by rw [List.map_map]; rfl
  refine b_cons (cs_ret (ce_fd (al.mono x12) (fd_mapA natD_inj (fun k => .str (ordK.getD k "")) (l := presL ns p) (t := .one 2) (own := [("index", 2)]) rfl sc_kinds_at.nd (src_list (PD.is (FD.pd (fd_callC cp hr (by decide) rfl (ad_cons (nm 0 t1) (ad_cons (nm 1 t2) ad_nil)) ⟨tp, ns, p, hp, by omega, rfl, rfl⟩)) (congrArg PyData.list ep))) (blkOk_by (N := n_kinds_at) (sc := defScope s_kinds_at) (by decide +kernel)) (fun _ _ _ _ _ => pg_name (i := 2) sc_kinds_at.nd rfl (.inl rfl)) (fun _ _ => trivial) ?_ ?_ ?_) fun p' ws H3 hp' x3 h3 r3 => q p' ws H3 (Evl.fresh_back x12 hp') (x12.trans x3) h3 r3))
  · rintro M H d σ' ⟨_, _, rfl⟩
    rfl
  · exact Nat.le_trans (List.length_filter_le _ _) (by decide)
  · rintro s0 H0 C cl fp M' H' k σ' hM lift kp hk ⟨v', rv, rfl⟩
    exact pd_kindIx rfl gH kk (nm 2 rv) (List.mem_range.mp (List.mem_filter.mp hk).1)
end
end IK

namespace IK
open PySem PySem.Spec PyProof.Rows L2 GV
/-! ### the probe of some kinds -/
section
variable {P : Program} {w : World} {K : PySem.W.Frag} {mg : Str → Option Value} {base : Heap} {CA CN CH : Addr}
def spBy (CH : Addr) : Sp := fun vs H Q _ => ∃ n : Nat, vs = [.ref CH, .int (n : Nat)] ∧ 1 ≤ n ∧ n < 64 ∧ ∀ h H', Evl.Ex H H' → HAt CH n H' h → Q (.ref h) H'
theorem ok_by_number {f : Addr} {fd : FuncData} (F : Fun K "by_number" "House.by_number" s_House_by_number f fd) (cc : Cl P w K mg base (L2.CX P w) 3 "check_number" (spCN K CN)) (ct : Cl P w K mg base CX0 1 "text_of_number" (PureR K R_ton)) (mk : MkH P w K mg base CH) (gM : MostK mg) :
    FnOk P w K mg base (L2.CX P w) 4 f fd ["cls", "number"] (spBy CH) := by
  refine F.okX sc_House_by_number (fun vs H Q E h => ?_) (fun cdv A outer sh H vs Q E hr h => ⟨_, wB.ps, ?_⟩)
  · obtain ⟨n, rfl, _⟩ := h
    rfl
  obtain ⟨n, rfl, n1, n2, q⟩ := h
  obtain ⟨tm, gM⟩ := gM
  have tk : Takes _ (fun cls d (_ : St) H' => E cls d H') := takes_of (X := cxOf (L2.CX P w) P w K mg base n_House_by_number "House.by_number" (defScope s_House_by_number) f cdv A outer sh H E) rfl rfl rfl rfl
  have hb : isNumD (.int (n : Nat)) 1 63 = true := by
    show (decide ((1 : Int) ≤ (n : Nat)) && decide (((n : Nat) : Int) ≤ 63)) = true
    rw [Bool.and_eq_true, decide_eq_true_eq, decide_eq_true_eq]
    omega
  refine b_cons (cs_expr (ce_callX cc hr (by decide) rfl tk (ca_cons (ce_nm 1 (ca_cons (ce_intC (ca_cons ⟨_, pe_glob rfl gM (v := .int 63) ⟨tm, rfl⟩ (by decide), ca_nil ⟨_, _, 1, 63, rfl, .int (n : Nat), .inl ⟨hb, fun H2 x2 => ?_⟩⟩⟩)))))))
  obtain ⟨fI, fdI, m, ok, bi⟩ := mk
  refine b_cons (cs_ret (ce_makeN m ok hr (by decide) bi pass0 (ce_nm 0 ⟨rfl, ca_cons (ce_pd (M := M0) alive0 (pd_callC ct hr (by decide) rfl (ad_cons (nm 1 (.int (n : Nat))) ad_nil) ⟨n, n2, rfl, rfl⟩) fun v3 H3 x3 r3 => ca_nil fun x dx hx hdx ne => ?_)⟩)))
  cases r3
  refine ⟨x, dx, n, rfl, n1, n2, upd_same, fun H' k a => ⟨rfl, q x H' ((x2.trans x3).trans fun b o hb => ?_) a⟩⟩
  have nx : b ≠ x := ne_of_none hb hx
  exact k b o (by rw [upd_ne nx, upd_ne (ne_of_none hb hdx)]; exact hb) nx
end
end IK

namespace IK
open PySem PySem.Spec PyProof.Rows L2 GV
/-! ### the purses of the law -/
theorem lists1 {a : Addr} {H : Hp} {xs : List V} (h : H a = some (.lst xs)) : Lists (fun x => x = a) H := fun x z => by
  cases z
  exact ⟨_, h⟩
abbrev potL (r c k : Int) : HO := .lst [.int r, .int c, .int k]
def PotAt (H : Hp) (b : Addr) : Prop := ∃ r c s : Int, H b = some (potL r c s)
abbrev Ma (a : Addr) : Addr → Prop := fun x => x = a
theorem ExB.exM {a : Addr} {H H' : Hp} (e : ExB a H H') : ExM (Ma a) H H' := fun x o h n _ => e x o n h
theorem ExB.trE {a : Addr} {H H1 H2 : Hp} (e : ExB a H H1) (x : Evl.Ex H1 H2) : ExB a H H2 := e.trans (.of x)
theorem PotAt.ex {b : Addr} {H H' : Hp} (h : PotAt H b) (x : Evl.Ex H H') : PotAt H' b := let ⟨r, c, s, e⟩ := h; ⟨r, c, s, x _ _ e⟩
theorem PotAt.lists {b : Addr} {H : Hp} (h : PotAt H b) : Lists (Ma b) H := let ⟨_, _, _, e⟩ := h; lists1 e
theorem al_pot {a : Addr} {H : Hp} (h : PotAt H a) : Alive (Ma a) H := let ⟨_, _, _, e⟩ := h; fun x z => ⟨_, z ▸ e⟩
theorem PotAt.ne {a p : Addr} {H : Hp} (h : PotAt H a) (hp : H p = none) : a ≠ p := fun e => by
  obtain ⟨_, _, _, h⟩ := h
  rw [← e, h] at hp
  cases hp
theorem fresh_backB {a p : Addr} {H H' : Hp} (e : ExB a H H') (ha' : PotAt H' a) (hp : H' p = none) : H p = none := by
  cases hh : H p with
  | none => rfl
  | some u =>
    have := e p u (ha'.ne hp).symm hh
    rw [hp] at this
    cases this
theorem n8000 {n : Int} (h0 : 0 ≤ n) (h : n ≤ 1000000) : n.natAbs < 2 ^ 8000 := Nat.lt_of_le_of_lt (m := 1000000) (by omega) (by decide +kernel)
def spPurse (K : PySem.W.Frag) : Sp := fun vs H Q _ => ∃ (M : Addr → Prop) (a : Addr) (ns : List Int) (i : Nat), vs = [.ref a, .int i] ∧ Alive M H ∧ ScAt K M H a ns ∧ ∀ p H', H p = none → Evl.Ex H H' → PotAt H' p → Q (.ref p) H'
def spDraw : Sp := fun vs H Q _ => ∃ (b : Addr) (n : Int), vs = [.ref b, .int n] ∧ PotAt H b ∧ 0 < n ∧ n.natAbs < 2 ^ 8000 ∧ ∀ z H', 0 ≤ z → z < n → ExB b H H' → PotAt H' b → Q (.int z) H'
section
variable {P : Program} {w : World} {K : PySem.W.Frag} {mg : Str → Option Value} {base : Heap}
theorem cl_law_purse {f : Addr} {fd : FuncData} (F : At K mg "_law_purse" s_law_purse f fd) (nb : NoB mg) : Cl P w K mg base CX0 1 "_law_purse" (spPurse K) := by
  refine ⟨f, fd, _, F.fn.ok sc_law_purse (fun vs H Q E h => ?_) (fun cdv A outer s H vs Q E hr h => ⟨_, wB.ps, ?_⟩), F.gl, F.fn.kp, F.fn.binds fun _ _ _ _ _ _ us hl => match us, hl with | [_, _], _ => rfl⟩
  · obtain ⟨M, a, ns, i, rfl, _⟩ := h
    rfl
  obtain ⟨M, a, ns, i, rfl, al, sc, q⟩ := h
  have t5 : ∀ (c r : Int) H2, Evl.Ex H H2 → wB (cxOf CX0 P w K mg base n_law_purse "_law_purse" (defScope s_law_purse) f cdv A outer s H E).nox ((defBody s_law_purse).drop 6) { nx := fun _ H' => Q .non H', rt := Q } [some (.ref a), some (.int (i : Nat)), some (.int c), some (.int r)] H2 := by
    intro c r H2 x2
    refine b_cons (cs_ret (ce_fd (M := M0) alive0 (fd_lst (ad_cons (nm 3 (.int r)) (ad_cons (pd_add (pd_mod (pd_intI nb rfl (nm 2 (.int c))) pd_int (by decide)) (pd_mul pd_int (nm 1 (.int (i : Nat))) (.inl (by decide)))) (ad_cons pd_int ad_nil))) (by simp)) fun p ws H5 hp x5 h5 rw5 => ?_))
    obtain ⟨u, v, x, rfl, a1, a2, a3⟩ := rpa3 rw5
    cases a1
    cases a2
    cases a3
    exact q p H5 (Evl.fresh_back x2 hp) (x2.trans x5) ⟨_, _, _, h5⟩
  have t4 : ∀ (c : Int) H2, Evl.Ex H H2 → wB (cxOf CX0 P w K mg base n_law_purse "_law_purse" (defScope s_law_purse) f cdv A outer s H E).nox ((defBody s_law_purse).drop 4) { nx := fun _ H' => Q .non H', rt := Q } [some (.ref a), some (.int (i : Nat)), some (.int c), none] H2 := by
    intro c H2 x2
    refine b_cons (s_set (M := M0) (i := 3) (d := .int 0) alive0 sc_law_purse.nd rfl (by first | exact .inl rfl | exact .inr rfl) pd_int fun v3 H3 x3 r3 => ?_)
    cases r3
    refine b_cons (s_if (M := M0) alive0 (td_ge (nm 2 (.int c)) (pd_pow pd_int pd_int ⟨by decide, by decide, by decide⟩)) (fun _ H4 x4 => ?_) (fun _ H4 x4 => b_nil (t5 c 0 H4 (x2.trans (x3.trans x4)))))
    exact b_cons (s_set (M := M0) (i := 3) (d := .int c) alive0 sc_law_purse.nd rfl (by first | exact .inl rfl | exact .inr rfl) (nm 2 (.int c)) fun v5 H5 x5 r5 => by
      cases r5
      exact b_nil (t5 c c H5 (x2.trans (x3.trans (x4.trans x5)))))
  have t3 : ∀ (c : Int) H2, Evl.Ex H H2 → wB (cxOf CX0 P w K mg base n_law_purse "_law_purse" (defScope s_law_purse) f cdv A outer s H E).nox ((defBody s_law_purse).drop 3) { nx := fun _ H' => Q .non H', rt := Q } [some (.ref a), some (.int (i : Nat)), some (.int c), none] H2 := by
    intro c H2 x2
    refine b_cons (s_if (M := M0) alive0 (td_lt (nm 2 (.int c)) pd_int) (fun _ H4 x4 => ?_) (fun _ H4 x4 => b_nil (t4 c H4 (x2.trans x4))))
    exact b_cons (s_set (M := M0) (i := 2) alive0 sc_law_purse.nd rfl (by first | exact .inl rfl | exact .inr rfl) (pd_sub (pd_neg pd_int) (nm 2 (.int c))) fun v5 H5 x5 r5 => by
      cases r5
      exact b_nil (t4 _ H5 (x2.trans (x4.trans x5))))
  have t2 : ∀ (c : Int) H2, Evl.Ex H H2 → wB (cxOf CX0 P w K mg base n_law_purse "_law_purse" (defScope s_law_purse) f cdv A outer s H E).nox ((defBody s_law_purse).drop 2) { nx := fun _ H' => Q .non H', rt := Q } [some (.ref a), some (.int (i : Nat)), some (.int c), none] H2 := by
    intro c H2 x2
    have sc2 := sc.mono (fun _ z => z) (ExM.of x2)
    refine b_cons (s_if (M := M) (al.mono x2) (td_lt (nm 1 (.int (i : Nat))) (pd_scLen (j := 0) sc2 rfl nb.len)) (fun hk H4 x4 => ?_) (fun _ H4 x4 => b_nil (t3 c H4 (x2.trans x4))))
    have hi : i < ns.length := by
      have := of_decide_eq_true hk
      omega
    exact b_cons (s_set (M := M) (i := 2) ((al.mono x2).mono x4) sc_law_purse.nd rfl (by first | exact .inl rfl | exact .inr rfl) (pd_intI nb rfl (pd_scIx (j := 0) (sc2.mono (fun _ z => z) (ExM.of x4)) (nm 1 (.int (i : Nat))) (List.getElem?_eq_getElem hi))) fun v5 H5 x5 r5 => by
      cases r5
      exact b_nil (t3 _ H5 (x2.trans (x4.trans x5))))
  refine b_cons (s_set (M := M) (i := 2) al sc_law_purse.nd rfl (by first | exact .inl rfl | exact .inr rfl) (pd_add pd_int (pd_mul pd_int (nm 1 (.int (i : Nat))) (.inl (by decide)))) fun v1 H1 x1 r1 => ?_)
  cases r1
  generalize (50021 : Int) + 1009 * (i : Nat) = c0
  have sc1 := sc.mono (fun _ z => z) (ExM.of x1)
  refine b_cons (s_if (M := M) (al.mono x1) (td_gt (pd_scLen (j := 0) sc1 rfl nb.len) pd_int) (fun hk H4 x4 => ?_) (fun _ H4 x4 => b_nil (t2 c0 H4 (x1.trans x4))))
  have hn : 0 < ns.length := by
    have := of_decide_eq_true hk
    omega
  have him : i % ns.length < ns.length := Nat.mod_lt _ hn
  have sc4 := sc1.mono (fun _ z => z) (ExM.of x4)
  refine b_cons (s_set (M := M) (i := 2) ((al.mono x1).mono x4) sc_law_purse.nd rfl (by first | exact .inl rfl | exact .inr rfl) (pd_add (nm 2 (.int c0)) (pd_mul (pd_mod (pd_intI nb rfl (pd_scIx (j := 0) (i := i % ns.length) sc4 (PD.is (pd_mod (pd_intI nb rfl (nm 1 (.int (i : Nat)))) (pd_scLen (j := 0) sc4 rfl nb.len) (by omega)) (congrArg PyData.int (show ((i : Nat) : Int) % (ns.length : Nat) = ((i % ns.length : Nat) : Int) by omega))) (List.getElem?_eq_getElem him))) pd_int (by decide)) (pd_add (nm 1 (.int (i : Nat))) pd_int) (.inl ?_))) fun v5 H5 x5 r5 => ?_)
  · obtain ⟨z0, z1⟩ := emod_lt' ns[i % ns.length] (m := 1000003) (by decide)
    exact ⟨by omega, by omega⟩
  · cases r5
    exact b_nil (t2 _ H5 (x1.trans (x4.trans x5)))
theorem cl_law_draw {f : Addr} {fd : FuncData} (F : At K mg "_law_draw" s_law_draw f fd) (nb : NoB mg) : Cl P w K mg base CX0 1 "_law_draw" spDraw := by
  refine ⟨f, fd, _, F.fn.ok sc_law_draw (fun vs H Q E h => ?_) (fun cdv A outer s H vs Q E hr h => ⟨_, wB.ps, ?_⟩), F.gl, F.fn.kp, F.fn.binds fun _ _ _ _ _ _ us hl => match us, hl with | [_, _], _ => rfl⟩
  · obtain ⟨b, n, rfl, _⟩ := h
    rfl
  obtain ⟨b, n, rfl, ⟨r, c, k, hb⟩, h0, hn, q⟩ := h
  have pot : ∀ {H' : Hp} {r c k : Int}, H' b = some (potL r c k) → Rp K M0 H' (.ref b) (.list [.int r, .int c, .int k]) := fun e => .lst (fun z => z) (.inl e) (.cons (.int _) (.cons (.int _) (.cons (.int _) .nil)))
  refine b_cons (s_if (M := M0) alive0 (td_gt (pd_ix (nm 0 (pot hb)) pd_int rfl) pd_int) (fun _ H4 x4 => ?_) (fun _ H4 x4 => b_nil ?_))
  · have hb4 := x4 _ _ hb
    refine b_cons (s_set (M := M0) (i := 2) alive0 sc_law_draw.nd rfl (by first | exact .inl rfl | exact .inr rfl) (pd_mod (pd_intI nb rfl (pd_ix (nm 0 (pot hb4)) pd_int rfl)) (nm 1 (.int n)) h0) fun v H5 x5 r5 => ?_)
    cases r5
    have hb5 := x5 _ _ hb4
    refine b_cons (cs_sub (ce_pd (M := M0) alive0 (pd_div (pd_intI nb rfl (pd_ix (nm 0 (pot hb5)) pd_int rfl)) (nm 1 (.int n)) (wide_div h0 hn (by decide) (by decide))) fun v H6 x6 r6 => ce_nm 0 (ce_pd (M := M0) alive0 pd_int fun y H7 x7 r7 => ?_)))
    cases r6
    cases r7
    refine ⟨b, _, 0, 0, rfl, rfl, x7 _ _ (x6 _ _ hb5), rfl, ?_⟩
    refine b_cons (cs_ret (ce_nm 2 ?_))
    obtain ⟨z0, z1⟩ := emod_lt' r h0
    exact q _ _ z0 z1 ((((ExB.of x4).trans (.of x5)).trans (.of (x6.trans x7))).trans .upd) ⟨_, _, _, upd_same⟩
  · have hb4 := x4 _ _ hb
    refine b_cons (s_set (M := M0) (i := 3) (d := .int 0) alive0 sc_law_draw.nd rfl (by first | exact .inl rfl | exact .inr rfl) pd_int fun v H5 x5 r5 => ?_)
    cases r5
    refine b_cons (s_forRW (slot := 4) PassesOwn.never rfl sc_law_draw.nd rfl (.inl rfl) rfl nb.range (ce_intC ⟨2, fun i σ' H' => ∃ (mx : Int) (y4 y5 y6 : Option V), σ' = [some (.ref b), some (.int n), none, some (.int mx), y4, y5, y6] ∧ ExB b H H' ∧ PotAt H' b, rfl, by decide, ⟨0, none, none, none, rfl, .of (x4.trans x5), _, _, _, x5 _ _ hb4⟩, ?_, ?_⟩))
    · rintro i σ' H' hi ⟨mx, y4, y5, y6, rfl, e, r, c, k, hb'⟩
      refine b_cons (cs_sub (ce_pd (M := M0) alive0 (pd_add (pd_ix (nm 0 (pot hb')) pd_int rfl) pd_int) fun v H6 x6 r6 => ce_nm 0 (ce_pd (M := M0) alive0 pd_int fun y H7 x7 r7 => ?_)))
      cases r6
      cases r7
      refine ⟨b, _, 2, 2, rfl, rfl, x7 _ _ (x6 _ _ hb'), rfl, ?_⟩
      generalize hH8 : upd H7 b (.lst (List.set [V.int r, V.int c, V.int k] 2 (V.int (k + 1)))) = H8
      have hb8 : H8 b = some (potL r c (k + 1)) := by
        rw [← hH8, upd_same]
        rfl
      have e8 : ExB b H H8 := by
        rw [← hH8]
        exact (e.trans (.of (x6.trans x7))).trans .upd
      refine b_cons (s_set (M := M0) (i := 5) alive0 sc_law_draw.nd rfl (by first | exact .inl rfl | exact .inr rfl) (pd_mod (pd_intI nb rfl (pd_add (pd_add (pd_mul (pd_ix (nm 0 (pot hb8)) pd_int rfl) pd_int (.inr (by decide))) (pd_mul (pd_ix (nm 0 (pot hb8)) pd_int rfl) pd_int (.inr (by decide)))) pd_int)) pd_int (by decide)) fun v H9 x9 r9 => ?_)
      cases r9
      have hb9 := x9 _ _ hb8
      generalize hone : (c * 48271 + (k + 1) * 69621 + 3) % 2147483647 = one
      obtain ⟨l0, l1⟩ : 0 ≤ one ∧ one < 2147483647 := hone ▸ emod_lt' _ (by decide)
      refine b_cons (s_set (M := M0) (i := 6) alive0 sc_law_draw.nd rfl (by first | exact .inl rfl | exact .inr rfl) (pd_mod (pd_intI nb rfl (pd_add (pd_add (pd_mul (nm 5 (.int one)) (nm 5 (.int one)) (small_mul l0 (by omega))) (pd_mul (pd_ix (nm 0 (pot hb9)) pd_int rfl) pd_int (.inr (by decide)))) pd_int)) pd_int (by decide)) fun v HA xA rA => ?_)
      cases rA
      generalize htwo : (one * one + (k + 1) * 40692 + 7) % 2147483629 = two
      obtain ⟨m0, m1⟩ : 0 ≤ two ∧ two < 2147483629 := htwo ▸ emod_lt' _ (by decide)
      refine b_cons (s_set (M := M0) (i := 3) alive0 sc_law_draw.nd rfl (by first | exact .inl rfl | exact .inr rfl) (pd_add (pd_mul (nm 3 (.int mx)) pd_int (.inr (by decide))) (pd_mod (pd_intI nb rfl (pd_mul (nm 6 (.int two)) (pd_add (pd_div (nm 5 (.int one)) pd_int (wide_div (b := 40) (by decide) (by decide) (by decide) (by decide))) pd_int) (.inl ⟨by omega, by omega⟩))) pd_int (by decide))) fun v HB xB rB => ?_)
      cases rB
      exact b_nil ⟨_, _, _, _, rfl, e8.trans (.of (x9.trans (xA.trans xB))), _, _, _, xB _ _ (xA _ _ hb9)⟩
    · rintro σ' H' ⟨mx, y4, y5, y6, rfl, e, hb'⟩
      refine b_cons (s_ret (M := M0) alive0 (pd_mod (pd_intI nb rfl (pd_div (nm 3 (.int mx)) pd_int (wide_div (b := 40) (by decide) (by decide) (by decide) (by decide)))) (nm 1 (.int n)) h0) fun v H6 x6 r6 => ?_)
      cases r6
      obtain ⟨z0, z1⟩ := emod_lt' (mx / 8) h0
      exact q _ H6 z0 z1 (e.trans (.of x6)) (hb'.ex x6)
theorem ce_draw {X : Cx} {σ : St} {H : Hp} {a : Addr} {e1 e2 : Expr} {p pos : Pos} {Q : VK} {j : Nat} {n : Int} (cd : Cl X.prog X.w X.K X.mg X.base CX0 1 "_law_draw" spDraw) (hr : Room j X.A) (hj : 1 ≤ j) (hg : Gl X "_law_draw")
    (he : ∀ H1 (Q : VK), Q (.ref a) H1 → wE X e1 σ H1 Q) (hn : PD X (Ma a) e2 σ H (.int n)) (ha : PotAt H a) (h0 : 0 < n) (h1 : n.natAbs < 2 ^ 8000)
    (q : ∀ z H', 0 ≤ z → z < n → ExB a H H' → PotAt H' a → Q (.int z) H')
    (hs : starEach (e1 :: [e2]) X.env = (false, eval e1 X.env) :: starEach [e2] X.env := by rfl) (hs2 : starEach (e2 :: []) X.env = (false, eval e2 X.env) :: starEach [] X.env := by rfl) (hpl : (backTo pos (starEach [e2] X.env)).any (·.1) = false := by rfl) : wE X (.Call (.Name "_law_draw" p) [e1, e2] [] pos) σ H Q := by
  refine ce_call cd hr hj hg (ca_cons (he _ _ (ca_cons (ce_pd (al_pot ha) hn fun v H2 x2 r2 => ?_) hs2)) hs) (by decide) hs hpl
  cases r2
  exact ca_nil ⟨a, n, rfl, ha.ex x2, h0, h1, fun z H' z0 z1 e h => q z H' z0 z1 ((ExB.of x2).trans e) h⟩
end
end IK

/-! sorted(e), e a list of fewer than 64 whole numbers whose order is known -/
namespace GV
open PySem PySem.Spec PyProof.Rows L2
section
variable {X : Cx} {M : Addr → Prop} {σ : St} {H : Hp} {a : Expr} {pos : Pos}
theorem fd_sortL {p : Pos} {ns out : List Int} (hg : Gl X "sorted") (hm : X.mg "sorted" = none) (ha : PD X M a σ H (.list (ns.map PyData.int))) (hl : ns.length < 64) (ho : out.Pairwise (· ≤ ·)) (hp : out.Perm ns) (hs : starEach (a :: []) X.env = (false, eval a X.env) :: starEach [] X.env := by rfl) (hpl : (backTo pos (starEach [] X.env)).any (·.1) = false := by rfl) :
    FD X M (.Call (.Name "sorted" p) [a] [] pos) σ H (out.map PyData.int) := by
  refine fd_callB cr_sortQ hg hm PyProof.Rows.boot_sorted (ad_cons ha ad_nil hs) (fun vs H1 r al Q q => ?_) (by decide) (by decide) hs hpl
  obtain ⟨v, rfl, r1⟩ := rpa1 r
  cases r1 with
  | lst m h rs =>
    rw [rs.of_ints] at h
    refine ⟨_, ns, rfl, .inl (.inl h), hl, fun ns' p' hp' hs' hn => ?_⟩
    rw [List.Perm.eq_of_pairwise (le := (· ≤ ·)) (fun a b _ _ h1 h2 => Int.le_antisymm h1 h2) hs' ho (hp'.trans hp.symm)]
    exact q p' _ _ hn (Evl.Ex.new hn) upd_same (RpAll.ints _)
end
end GV

/-! itertools.combinations(x, 2), at the library's level -/
namespace GV
open PySem PySem.Spec PyProof.Rows L2 PySem.W
abbrev coT : String := "itertools.combinations"
theorem mro_co : mroOf (.type "itertools.combinations") = pure [.type "itertools.combinations", .type "object"] := by rw [mroOf_type]; kernel_rfl
theorem new_co : typeLookup (.type "itertools.combinations") "__new__" = pure (some (.builtin "itertools.combinations.__new__")) := by rw [typeLookup_type, builtinLookup_eq_fast]; kernel_rfl
theorem sub_co : isSubtype (.type "itertools.combinations") (.type "itertools.combinations") = pure true := by rw [isSubtype_type]; kernel_rfl
theorem init_co : Slot "itertools.combinations" "__init__" "object.__init__" :=
  .of (owner := "object") (n := "__init__") (by rw [typeLookup_type, builtinLookup_eq_fast]; kernel_rfl) (by decide +kernel) (by decide +kernel) (by decide +kernel)
    (by first | exact .inl (by decide +kernel) | exact .inr (by decide +kernel)) (by rw [isSubtype_type]; kernel_rfl)
theorem called_co : TypeCalled "itertools.combinations" "itertools.combinations.__new__" "object.__init__" :=
  ⟨by decide +kernel, by decide +kernel, ⟨_, _, mro_co⟩, madeBy_type mro_co new_co (by decide +kernel), by decide +kernel, sub_co, init_co⟩
theorem tcall_co (a b : Value) : checkTypeCall "itertools.combinations" ⟨[a, b], []⟩ = pure () := by kernel_rfl
theorem ncall_co (a b : Value) : checkBuiltinCall "itertools.combinations.__new__" ⟨[.type "itertools.combinations", a, b], []⟩ = pure () := by kernel_rfl
theorem enew_co : entryFor table "itertools.combinations.__new__" = some Builtin.«itertools.combinations.__new__» := entryFor_of_tree (by kernel_rfl)
theorem iter_co : Slot "itertools.combinations" "__iter__" "itertools.combinations.__iter__" :=
  .of (owner := "itertools.combinations") (n := "__iter__") (by rw [typeLookup_type, builtinLookup_eq_fast]; kernel_rfl) (by decide +kernel) (by decide +kernel) (by decide +kernel)
    (by first | exact .inl (by decide +kernel) | exact .inr (by decide +kernel)) sub_co
theorem next_co : Slot "itertools.combinations" "__next__" "itertools.combinations.__next__" :=
  .of (owner := "itertools.combinations") (n := "__next__") (by rw [typeLookup_type, builtinLookup_eq_fast]; kernel_rfl) (by decide +kernel) (by decide +kernel) (by decide +kernel)
    (by first | exact .inl (by decide +kernel) | exact .inr (by decide +kernel)) sub_co
theorem eiter_co : entryFor table "itertools.combinations.__iter__" = some Builtin.«dict_keyiterator.__iter__» :=
  entryFor_alias (id' := "dict_keyiterator.__iter__") (by kernel_rfl) (by first | rfl | decide +kernel | (unfold String.splitOn; simp +decide [String.splitOnAux])) (by decide +kernel) (by kernel_rfl)
theorem enext_co : entryFor table "itertools.combinations.__next__" = some Builtin.«itertools.combinations.__next__» := entryFor_of_tree (by kernel_rfl)
theorem owner_co : Manifest.owners.lookup (String.ofList "snoitanibmoc.slootreti".toList.reverse) = some Manifest.sig_itertools_combinations := by kernel_rfl
theorem aiter_co (a : Value) : argsOk "itertools.combinations.__iter__" ⟨[a], []⟩ := by
  unfold argsOk; rw [signature?_of (id := "itertools.combinations.__iter__") (n := "__reti__".toList) (o := "snoitanibmoc.slootreti".toList) (by kernel_rfl) owner_co]; kernel_rfl
theorem anext_co (a : Value) : argsOk "itertools.combinations.__next__" ⟨[a], []⟩ := by
  unfold argsOk; rw [signature?_of (id := "itertools.combinations.__next__") (n := "__txen__".toList) (o := "snoitanibmoc.slootreti".toList) (by kernel_rfl) owner_co]; kernel_rfl
theorem nodict_co : typeHasDict (.type "itertools.combinations") = false := by decide +kernel
theorem nolen_co : typeLookup (.type "itertools.combinations") "__len__" = pure none := by rw [typeLookup_type, builtinLookup_eq_fast]; kernel_rfl
theorem nohint_co : typeLookup (.type "itertools.combinations") "__length_hint__" = pure none := by rw [typeLookup_type, builtinLookup_eq_fast]; kernel_rfl
/-- the object: its pool, how far it is (0, 1 or 2), what it gave last, the two indexes -/
abbrev coO (p : Addr) (st : Int) (last : Value) (i j : Nat) : Obj := { cls := .type "itertools.combinations", data := .fields #[.ref p, .int st 0, last, .int (i : Nat) 0, .int (j : Nat) 0] }
end GV

namespace GV
open PySem PySem.Spec PyProof.Rows L2 PySem.W
theorem cls_co (x y : Value) : Builtin.Itertools.itClassAndRest "combinations" ⟨[.type "itertools.combinations", x, y], []⟩ = pure (.type "itertools.combinations", [x, y]) := by
  unfold Builtin.Itertools.itClassAndRest
  have e : ("itertools." ++ "combinations" : String) = "itertools.combinations" := by decide
  simp only [e, isType, sub_co, pure_bind, Bool.not_true, Bool.false_eq_true, if_false]
theorem bind_co (x y : Value) : Builtin.Itertools.itBindNamed "combinations" ["iterable", "r"] 2 2 [x, y] [] = pure [some x, some y] := by
  rfl
theorem size_co (t : Tok) : Builtin.Itertools.itSsizeArg (.int 2 t) = pure 2 := by
  rfl
section
variable {prog : Program} {w : World} {A : Around} {E : Value → Shared → Prop} {s : Shared}
theorem meet_co (x : Value) (t : Tok) : MeetsIn prog w (Builtin.«itertools.combinations.__new__» ⟨[.type "itertools.combinations", x, .int 2 t], []⟩)
    (fun A R s => wpAny (model prog w) A.in1 (collect x) (fun items s1 => items.length ≤ sizeLine ∧ R (.ok (.ret (.ref (s1.heap.objs.size + 1)))) { s1 with heap := (s1.heap.push { cls := .type "tuple", data := .seq items.toArray }).push (coO s1.heap.objs.size (if 2 > items.length then 2 else 0) .none 0 1) }) (fun e s1 => R (.error e) s1) s) :=
  .of_wp fun A R s h => by
    unfold Builtin.«itertools.combinations.__new__»
    refine wpAny_bind ?_
    show wpAny _ _ (Builtin.Itertools.itClassAndRest "combinations" ⟨[.type "itertools.combinations", x, .int 2 t], []⟩ >>= _) _ _ _
    refine wpAny_bind (wpAny_of_eq (cls_co _ _) ?_)
    show wpAny _ _ (Builtin.Itertools.itBindNamed "combinations" ["iterable", "r"] 2 2 [x, .int 2 t] [] >>= _) _ _ _
    refine wpAny_bind (wpAny_of_eq (bind_co _ _) ?_)
    show wpAny _ _ (Builtin.Itertools.itSsizeArg (.int 2 t) >>= _) _ _ _
    refine wpAny_bind (wpAny_of_eq (size_co _) ?_)
    show wpAny _ _ (collect x >>= _) _ _ _
    refine wpAny_bind (wpAny_mono h (fun items s1 hR => ?_) fun _ _ z => z)
    obtain ⟨hn, hR⟩ := hR
    rw [if_neg (show ¬ ((2 : Int) < 0) by decide)]
    show wpAny _ _ (if Builtin.Itertools.itTooMany 2 = true then _ else _) _ _ _
    rw [if_neg (by decide)]
    show wpAny _ _ (newTuple items >>= _) _ _ _
    refine wpAny_bind (wpAny_newTuple ?_)
    refine wpAny_pure ?_
    show wpAny _ _ (Builtin.Itertools.itNewRecord _ _ >>= _) _ _ _
    refine wpAny_bind ?_
    unfold Builtin.Itertools.itNewRecord
    rw [nodict_co]
    rw [if_pos (by decide)]
    refine wpAny_newObj_type (hd := by simp [sizeOk] <;> decide) ?_
    refine wpAny_pure ⟨_, rfl, ?_⟩
    have z : (s1.heap.push { cls := .type "tuple", data := .seq items.toArray }).objs.size = s1.heap.objs.size + 1 := Heap.size_push ..
    rw [← z] at hR
    exact hR
end
/-- how far the walk is: nothing given; the pair (i, j) given -/
inductive CoSt (it p : Addr) (n : Nat) : Option (Nat × Nat) → Heap → Prop
  | start {h} (hn : 2 ≤ n) (e : h.get? it = some (coO p 0 .none 0 1)) : CoSt it p n none h
  | dead {h} (hn : n < 2) (e : h.get? it = some (coO p 2 .none 0 1)) : CoSt it p n none h
  | gone {h i j last} (e : h.get? it = some (coO p 1 last i j)) : CoSt it p n (some (i, j)) h
theorem CoSt.typeIs {it p : Addr} {n : Nat} {q : Option (Nat × Nat)} {s : Shared} (x : CoSt it p n q s.heap) : s.TypeIs (.ref it) "itertools.combinations" := by cases x <;> exact ⟨_, ‹_›, rfl⟩
theorem CoSt.keep {it p : Addr} {n : Nat} {q : Option (Nat × Nat)} {h h' : Heap} (x : CoSt it p n q h) (k : ∀ o, h.get? it = some o → h'.get? it = some o) : CoSt it p n q h' := by
  cases x with
  | start hn e => exact .start hn (k _ e)
  | dead hn e => exact .dead hn (k _ e)
  | gone e => exact .gone (k _ e)
def coNx (n : Nat) : Option (Nat × Nat) → Option (Nat × Nat)
  | none => if 2 ≤ n then some (0, 1) else none
  | some (i, j) => if j + 1 < n then some (i, j + 1) else if i + 2 < n then some (i + 1, i + 2) else none
section
variable {prog : Program} {w : World} {A : Around} {E : Value → Shared → Prop} {s : Shared}
theorem co_numbers {it p : Addr} {st : Int} {last : Value} {i j : Nat} {Q : List Nat → Shared → Prop} (e : s.heap.get? it = some (coO p st last i j)) (h : Q [i, j] s) :
    wpAny (model prog w) A (Builtin.Itertools.itNumbersFrom (.ref it) 3) Q E s := by
  unfold Builtin.Itertools.itNumbersFrom
  refine wpAny_bind (wpAny_load e ?_)
  exact wpAny_pure h
theorem co_intField {it p : Addr} {st : Int} {last : Value} {i j : Nat} {Q : Int → Shared → Prop} (e : s.heap.get? it = some (coO p st last i j)) (h : Q st s) :
    wpAny (model prog w) A (Builtin.Itertools.itIntField (.ref it) 1) Q E s := by
  unfold Builtin.Itertools.itIntField
  refine wpAny_bind (wpAny_field e rfl (x := .int st 0) rfl ?_)
  exact wpAny_pure h
theorem co_pool {p : Addr} {o : Obj} {vs : Array Value} {n : Nat} {Q : Array Value → Shared → Prop} (e : s.heap.get? p = some o) (hd : o.data = .seq vs n) (h : Q vs s) :
    wpAny (model prog w) A (Builtin.Itertools.itPoolItems (.ref p)) Q E s := by
  unfold Builtin.Itertools.itPoolItems
  exact wpAny_bind (wpAny_seqItems e hd (wpAny_pure h))
theorem co_setNumbers {it p : Addr} {st : Int} {last : Value} {i j i' j' : Nat} {Q : Unit → Shared → Prop} (e : s.heap.get? it = some (coO p st last i j))
    (h : ∀ h', h'.get? it = some (coO p st last i' j') → Heap.SameBut it s.heap h' → Q () { s with heap := h' }) :
    wpAny (model prog w) A (Builtin.Itertools.itSetNumbersFrom (.ref it) 3 [i', j']) Q E s := by
  unfold Builtin.Itertools.itSetNumbersFrom
  refine wpAny_updateFields e rfl (h _ (Heap.get?_update_self _ e rfl) (Heap.SameBut.update ..)) (by simp [sizeLine])
theorem co_setField {it p : Addr} {st st' : Int} {last : Value} {i j : Nat} {Q : Unit → Shared → Prop} (e : s.heap.get? it = some (coO p st last i j))
    (h : ∀ h', h'.get? it = some (coO p st' last i j) → Heap.SameBut it s.heap h' → Q () { s with heap := h' }) :
    wpAny (model prog w) A (setField (.ref it) 1 (rawInt st')) Q E s :=
  wpAny_setField e rfl (by simp) (h _ (Heap.get?_update_self _ e rfl) (Heap.SameBut.update ..))
theorem co_setLast {it p : Addr} {st : Int} {last last' : Value} {i j : Nat} {Q : Unit → Shared → Prop} (e : s.heap.get? it = some (coO p st last i j))
    (h : ∀ h', h'.get? it = some (coO p st last' i j) → Heap.SameBut it s.heap h' → Q () { s with heap := h' }) :
    wpAny (model prog w) A (setField (.ref it) 2 last') Q E s :=
  wpAny_setField e rfl (by simp) (h _ (Heap.get?_update_self _ e rfl) (Heap.SameBut.update ..))

/-- what the walk has made in one turn -/
def CoTurn (it p : Addr) (pool : Array Value) (s : Shared) (ij : Nat × Nat) (Q : Value → Shared → Prop) : Prop :=
  ∀ h', CoSt it p pool.size (some ij) h' → h'.get? s.heap.objs.size = some { cls := .type "tuple", data := .seq #[pool.getD ij.1 .none, pool.getD ij.2 .none] } → h'.objs.size = s.heap.objs.size + 1 →
    (∀ b o, b ≠ it → s.heap.get? b = some o → h'.get? b = some o) → Q (.ref s.heap.objs.size) { s with heap := h' }

theorem co_next {it p : Addr} {pool : Array Value} {n : Nat} {q : Option (Nat × Nat)} {ij : Nat × Nat} {Q : Value → Shared → Prop} (hst : CoSt it p pool.size q s.heap) (hp : s.heap.get? p = some { cls := .type "tuple", data := .seq pool n }) (hpi : p ≠ it)
    (hq : coNx pool.size q = some ij) (hb : ∀ i j, q = some (i, j) → i < j ∧ j < pool.size) (hQ : CoTurn it p pool s ij Q) :
    wpAny (model prog w) A (callSpecial? (.ref it) "__next__") (fun r s' => ∃ v, r = some v ∧ Q v s') E s := by
  have hT := hst.typeIs
  refine wpAny_callSpecial?_slot (name := Str.ofString "__next__") hT next_co (wpAny_call_entry next_co hT enext_co ?_ (anext_co _))
  have out : ∀ {A' : Around} {h₁ : Heap} {last : Value} {i j : Nat}, h₁.get? it = some (coO p 1 last i j) → Heap.SameBut it s.heap h₁ → ij = (i, j) →
      wpAny (model prog w) A' (do
        let result ← (do let items ← Builtin.Itertools.itPoolItems (.ref p); newTuple (([i, j] : List Nat).map fun i => items.getD i .none))
        let before ← field (.ref it) 2
        setField (.ref it) 2 result
        letGo [before] [result]
        ret result) (fun fin s' => ∃ v, fin = .done (.ret v) ∧ ∃ u, some v = some u ∧ Q u s') E { s with heap := h₁ } := by
    intro A' h₁ last i j e hs eij
    subst eij
    have zit : it < s.heap.objs.size := by
      have := Heap.lt_size e
      rw [hs.1] at this
      exact this
    refine wpAny_bind (wpAny_bind (co_pool (hs.extBut _ _ hpi hp) rfl (wpAny_newTuple ?_)))
    have e2 := Heap.get?_push_of_some { cls := .type "tuple", data := .seq (([i, j] : List Nat).map fun i => pool.getD i .none).toArray } e
    refine wpAny_bind (wpAny_field e2 rfl (x := last) rfl ?_)
    refine wpAny_bind (co_setLast e2 fun h₂ e3 hs3 => ?_)
    refine wpAny_bind (wpAny_letGo (wpAny_pure ⟨_, rfl, _, rfl, ?_⟩))
    have z1 : h₁.objs.size = s.heap.objs.size := hs.1
    have zz : Heap.get? h₂ h₁.objs.size = _ := hs3.extBut h₁.objs.size _ (by rw [z1]; exact Nat.ne_of_gt zit) (Heap.get?_push_size _ rfl)
    rw [z1] at zz
    have zs : h₂.objs.size = s.heap.objs.size + 1 := by
      have := hs3.1
      rw [Heap.size_push, z1] at this
      exact this
    have kp : ∀ b o, b ≠ it → s.heap.get? b = some o → h₂.get? b = some o := fun b o hb eb => hs3.extBut b o hb (Heap.get?_push_of_some _ (hs.extBut b o hb eb))
    have fin := hQ h₂ (.gone e3) zz zs kp
    show Q (.ref h₁.objs.size) _
    rw [z1]
    exact fin
  show wpAny _ _ (field (.ref it) 0 >>= _) _ _ s
  cases hst with
  | dead hn e => simp only [coNx] at hq; rw [if_neg (by omega)] at hq; cases hq
  | start hn e =>
    have eij : ij = (0, 1) := by simp only [coNx] at hq; rw [if_pos hn] at hq; cases hq; rfl
    refine wpAny_bind (wpAny_field e rfl (x := .ref p) rfl ?_)
    show wpAny _ _ (Builtin.Itertools.itNumbersFrom (.ref it) 3 >>= _) _ _ s
    refine wpAny_bind (co_numbers e ?_)
    show wpAny _ _ (Builtin.Itertools.itIntField (.ref it) 1 >>= _) _ _ s
    refine wpAny_bind (co_intField e ?_)
    show wpAny _ _ (setField (.ref it) 1 (rawInt 1) >>= _) _ _ s
    refine wpAny_bind (co_setField e fun h₁ e1 hs1 => ?_)
    exact out e1 hs1 eij
  | @gone _ i j last e =>
    refine wpAny_bind (wpAny_field e rfl (x := .ref p) rfl ?_)
    show wpAny _ _ (Builtin.Itertools.itNumbersFrom (.ref it) 3 >>= _) _ _ s
    refine wpAny_bind (co_numbers e ?_)
    show wpAny _ _ (Builtin.Itertools.itIntField (.ref it) 1 >>= _) _ _ s
    refine wpAny_bind (co_intField e ?_)
    show wpAny _ _ (Builtin.Itertools.itPoolItems (.ref p) >>= _) _ _ s
    refine wpAny_bind (co_pool hp rfl ?_)
    have hb := hb i j rfl
    have stp : ∀ r : Option (List Nat), (match ([1, 0] : List Nat).find? (fun t => ([i, j] : List Nat).getD t 0 != t + pool.size - 2) with
        | none => none
        | some t => some (([i, j] : List Nat).take t ++ (List.range (2 - t)).map (([i, j] : List Nat).getD t 0 + 1 + ·))) = r → r = some [ij.1, ij.2] := by
      intro r er
      rw [← er]
      simp only [coNx] at hq
      simp only [List.find?_cons, List.find?_nil, List.getD_cons_succ, List.getD_cons_zero]
      by_cases c1 : j + 1 < pool.size
      · rw [if_pos c1] at hq
        cases hq
        have : (j != 1 + pool.size - 2) = true := by simp; omega
        simp only [this]
        rfl
      · rw [if_neg c1] at hq
        by_cases c2 : i + 2 < pool.size
        · rw [if_pos c2] at hq
          cases hq
          have h1 : (j != 1 + pool.size - 2) = false := by simp; omega
          have h2 : (i != 0 + pool.size - 2) = true := by simp; omega
          simp only [h1, h2]
          rfl
        · rw [if_neg c2] at hq
          cases hq
    split
    · rename_i nx hx
      have hx' := stp _ hx
      cases hx'
      refine wpAny_bind (co_setNumbers e fun h₁ e1 hs1 => ?_)
      exact out e1 hs1 rfl
    · rename_i hx
      have hx' := stp _ hx
      cases hx'
/-- the end of the walk -/
theorem co_end {it p : Addr} {pool : Array Value} {n : Nat} {q : Option (Nat × Nat)} {Q : Option Value → Shared → Prop} (hh : A.handled = none) (hst : CoSt it p pool.size q s.heap) (hp : s.heap.get? p = some { cls := .type "tuple", data := .seq pool n }) (hpi : p ≠ it)
    (hq : coNx pool.size q = none) (hb : ∀ i j, q = some (i, j) → i < j ∧ j < pool.size)
    (hQ : ∀ e h', CpRep.StopE e h' → Heap.ExtBut it s.heap h' → E e { s with heap := h' }) :
    wpAny (model prog w) A (callSpecial? (.ref it) "__next__") Q E s := by
  have hT := hst.typeIs
  refine wpAny_callSpecial?_slot (name := Str.ofString "__next__") hT next_co (wpAny_call_entry next_co hT enext_co ?_ (anext_co _))
  have stop : ∀ {A' : Around} {Q' : Fin → Shared → Prop} {h₁ : Heap}, A'.handled = none → Heap.ExtBut it s.heap h₁ →
      wpAny (model prog w) A' (Builtin.Itertools.itStop) Q' E { s with heap := h₁ } := by
    intro A' Q' h₁ hA hx
    unfold Builtin.Itertools.itStop
    refine wpAny_bind ?_
    simp only [newExc, newTuple]
    refine wpAny_bind (wpAny_newObj_type ?_ (by size_fits))
    refine wpAny_bind (m := firstArgMember _ _) (wpAny_of_eq (a := Value.none) (by first | rfl | (simp only [firstArgMember]; rfl)) ?_)
    refine wpAny_newObj_type ?_ (by size_fits)
    simp only [raiseNew]
    refine wpAny_bind (wpAny_handled ?_)
    rw [hA]
    refine wpAny_bind (wpAny_pure (wpAny_throw ?_))
    exact hQ _ _ ⟨_, _, _, rfl, Heap.get?_push_size _ rfl, rfl, rfl, rfl⟩ ((hx.push _).push _)
  show wpAny _ _ (field (.ref it) 0 >>= _) _ _ s
  cases hst with
  | start hn e => simp only [coNx] at hq; rw [if_pos hn] at hq; cases hq
  | dead hn e =>
    refine wpAny_bind (wpAny_field e rfl (x := .ref p) rfl ?_)
    show wpAny _ _ (Builtin.Itertools.itNumbersFrom (.ref it) 3 >>= _) _ _ s
    refine wpAny_bind (co_numbers e ?_)
    show wpAny _ _ (Builtin.Itertools.itIntField (.ref it) 1 >>= _) _ _ s
    refine wpAny_bind (co_intField e ?_)
    show wpAny _ _ (rule "itertools.combinations.ended" >>= _) _ _ s
    refine wpAny_bind (wpAny_rule ?_)
    exact stop hh (Heap.ExtBut.refl it s.heap)
  | @gone _ i j last e =>
    refine wpAny_bind (wpAny_field e rfl (x := .ref p) rfl ?_)
    show wpAny _ _ (Builtin.Itertools.itNumbersFrom (.ref it) 3 >>= _) _ _ s
    refine wpAny_bind (co_numbers e ?_)
    show wpAny _ _ (Builtin.Itertools.itIntField (.ref it) 1 >>= _) _ _ s
    refine wpAny_bind (co_intField e ?_)
    show wpAny _ _ (Builtin.Itertools.itPoolItems (.ref p) >>= _) _ _ s
    refine wpAny_bind (co_pool hp rfl ?_)
    have hb := hb i j rfl
    have stp : ∀ r : Option (List Nat), (match ([1, 0] : List Nat).find? (fun t => ([i, j] : List Nat).getD t 0 != t + pool.size - 2) with
        | none => none
        | some t => some (([i, j] : List Nat).take t ++ (List.range (2 - t)).map (([i, j] : List Nat).getD t 0 + 1 + ·))) = r → r = none := by
      intro r er
      rw [← er]
      simp only [coNx] at hq
      simp only [List.find?_cons, List.find?_nil, List.getD_cons_succ, List.getD_cons_zero]
      by_cases c1 : j + 1 < pool.size
      · rw [if_pos c1] at hq; cases hq
      · rw [if_neg c1] at hq
        by_cases c2 : i + 2 < pool.size
        · rw [if_pos c2] at hq; cases hq
        · have h1 : (j != 1 + pool.size - 2) = false := by simp; omega
          have h2 : (i != 0 + pool.size - 2) = false := by simp; omega
          simp only [h1, h2]
    split
    · rename_i nx hx
      have hx' := stp _ hx
      cases hx'
    · refine wpAny_bind (co_setField e fun h₁ e1 hs1 => ?_)
      exact stop hh hs1.extBut
theorem co_pyNext {it p : Addr} {pool : Array Value} {n : Nat} {q : Option (Nat × Nat)} {ij : Nat × Nat} {Q : Option Value → Shared → Prop} (hst : CoSt it p pool.size q s.heap) (hp : s.heap.get? p = some { cls := .type "tuple", data := .seq pool n }) (hpi : p ≠ it)
    (hq : coNx pool.size q = some ij) (hb : ∀ i j, q = some (i, j) → i < j ∧ j < pool.size) (hQ : CoTurn it p pool s ij fun v => Q (some v)) :
    wpAny (model prog w) A (pyNext (.ref it)) Q E s := by
  unfold pyNext
  exact wpAny_bind (wpAny_attempt (wpAny_mono (co_next hst hp hpi hq hb hQ) (fun r s' ⟨v, e, z⟩ => by subst e; exact wpAny_pure z) fun _ _ z => z))
theorem co_pyEnd {it p : Addr} {pool : Array Value} {n : Nat} {q : Option (Nat × Nat)} {Q : Option Value → Shared → Prop} (hh : A.handled = none) (hst : CoSt it p pool.size q s.heap) (hp : s.heap.get? p = some { cls := .type "tuple", data := .seq pool n }) (hpi : p ≠ it)
    (hq : coNx pool.size q = none) (hb : ∀ i j, q = some (i, j) → i < j ∧ j < pool.size) (hQ : ∀ h', Heap.ExtBut it s.heap h' → Q none { s with heap := h' }) :
    wpAny (model prog w) A (pyNext (.ref it)) Q E s := by
  unfold pyNext
  refine wpAny_bind (wpAny_attempt (co_end hh hst hp hpi hq hb fun x h' hx he => ?_))
  obtain ⟨a, o, vs, rfl, ho, hc, _⟩ := hx
  refine wpAny_bind (wpAny_isInstance (T := "StopIteration") (b := true) ⟨o, ho, hc⟩ isSubtype_stop ?_)
  exact wpAny_pure (hQ _ he)
end
end GV

/-! list(combinations(x, 2)), at the library's level -/
namespace GV
open PySem PySem.Spec PyProof.Rows L2 PySem.W
inductive CoRun (n : Nat) : Option (Nat × Nat) → List (Nat × Nat) → Prop
  | nil {q} (e : coNx n q = none) : CoRun n q []
  | cons {q ij L} (e : coNx n q = some ij) (r : CoRun n (some ij) L) : CoRun n q (ij :: L)
theorem coNx_bd {n : Nat} {q : Option (Nat × Nat)} {ij : Nat × Nat} (e : coNx n q = some ij) (hb : ∀ i j, q = some (i, j) → i < j ∧ j < n) : ∀ i j, some ij = some (i, j) → i < j ∧ j < n := by
  intro i j eij
  cases eij
  rcases q with _ | ⟨a, b⟩
  · simp only [coNx] at e
    split at e
    · cases e; omega
    · cases e
  · have := hb a b rfl
    simp only [coNx] at e
    split at e
    · cases e; omega
    · split at e
      · cases e; omega
      · cases e
structure CoG (pool : Array Value) (L : List (Nat × Nat)) (lo : Addr) (h : Heap) (as : List Addr) : Prop where
  rise : as.Pairwise (· < ·)
  above : ∀ a ∈ as, lo < a
  tups : ∀ (j : Nat) (a : Addr), as[j]? = some a → ∃ ij, L[j]? = some ij ∧ h.get? a = some { cls := .type "tuple", data := .seq #[pool.getD ij.1 .none, pool.getD ij.2 .none] }
section
variable {prog : Program} {w : World} {A : Around} {E : Value → Shared → Prop} {s : Shared} {R : Result → Shared → Prop} {pool : Array Value} {n : Nat}
theorem co_loop {L : List (Nat × Nat)} {S I p : Addr} (hh : A.handled = none) (hIS : I < S) (hpI : p < I) (hn : L.length ≤ sizeLine) (res : Value) {h₁ : Heap}
    (hR : ∀ h' tk acc c as, (∀ b o, b ≠ S → b ≠ I → h₁.get? b = some o → h'.get? b = some o) → h'.get? S = some { cls := .type "list", dict := none, data := .seq acc c, slots := #[] } → as.length = L.length → CoG pool L S h' as →
      acc.toList = as.map Value.ref → R (.ok (.ret res)) { s with heap := h', toks := tk }) :
    ∀ (L2 L1 : List (Nat × Nat)) (q : Option (Nat × Nat)) (h : Heap) (tk c : Nat) (acc : Array Value) (as : List Addr), L = L1 ++ L2 → CoRun pool.size q L2 → (∀ i j, q = some (i, j) → i < j ∧ j < pool.size) → CoSt I p pool.size q h →
      h.get? p = some { cls := .type "tuple", data := .seq pool n } → (∀ b o, b ≠ S → b ≠ I → h₁.get? b = some o → h.get? b = some o) →
      h.get? S = some { cls := .type "list", dict := none, data := .seq acc c, slots := #[] } → acc.toList = as.map Value.ref → as.length = L1.length → CoG pool L S h as →
      codeAny (model prog w) A (.builtin "list.extend.loop" ⟨[.ref S, .ref I, res], []⟩) R { s with heap := h, toks := tk } := by
  have hne : S ≠ I := Nat.ne_of_gt hIS
  have hpS : p ≠ S := Nat.ne_of_lt (Nat.lt_trans hpI hIS)
  intro L2
  induction L2 with
  | nil =>
    intro L1 q h tk c acc as hL hrun hb hst hp hkeep hS hacc hal hG
    have hq : coNx pool.size q = none := by cases hrun; assumption
    refine codeAny_builtin PySem.F.entry_extend_loop ?_
    rw [Around.under_plainId PySem.F.plain_extend_loop _]
    show wpAny _ A.in1 (pyNext (.ref I) >>= _) _ _ _
    refine wpAny_bind (co_pyEnd (s := { s with heap := h, toks := tk }) (A := A.in1) hh hst hp (Nat.ne_of_lt hpI) hq hb fun h' he => ?_)
    refine wpAny_pure (hR h' tk acc c as (fun b o h1 h2 e => he b o h2 (hkeep b o h1 h2 e)) (he S _ hne hS) (by rw [hL, hal, List.append_nil]) ⟨hG.rise, hG.above, fun j a hj => ?_⟩ hacc)
    obtain ⟨ij, e1, e2⟩ := hG.tups j a hj
    exact ⟨ij, e1, he a _ (Nat.ne_of_gt (Nat.lt_trans hIS (hG.above a (List.mem_of_getElem? hj)))) e2⟩
  | cons ij L2 ih =>
    intro L1 q h tk c acc as hL hrun hb hst hp hkeep hS hacc hal hG
    obtain ⟨hq, hrun'⟩ : coNx pool.size q = some ij ∧ CoRun pool.size (some ij) L2 := by cases hrun; exact ⟨‹_›, ‹_›⟩
    have hLl : L1.length < L.length := by rw [hL, List.length_append, List.length_cons]; omega
    have hsz : acc.size = L1.length := by rw [← Array.length_toList, hacc, List.length_map, hal]
    have hx : L[L1.length]? = some ij := by rw [hL]; simp
    refine codeAny_builtin PySem.F.entry_extend_loop ?_
    rw [Around.under_plainId PySem.F.plain_extend_loop _]
    show wpAny _ A.in1 (pyNext (.ref I) >>= _) _ _ _
    refine wpAny_bind (co_pyNext (s := { s with heap := h, toks := tk }) hst hp (Nat.ne_of_lt hpI) hq hb fun h' hst' ht hz hkp => ?_)
    dsimp only at ht hz hkp ⊢
    have hS' := hkp S _ hne hS
    have up : ∀ b o, b ≠ S → h'.get? b = some o → (h'.update S (Obj.mapSeq (·.push (Value.ref h.objs.size)))).get? b = some o := fun b o hb e => (Heap.get?_update_other _ _ (Ne.symm hb)).trans e
    have hSl : S < h.objs.size := Heap.lt_size hS
    show wpAny _ A.in1 (updateSeq S (·.push (Value.ref h.objs.size)) >>= _) _ _ _
    refine wpAny_bind ?_
    refine wpAny_updateSeq hS' rfl (wpAny_pure ⟨plainId_quiet PySem.F.plain_extend_loop _, ih (L1 ++ [ij]) (some ij) _ tk _ (acc.push (Value.ref h.objs.size)) (as ++ [h.objs.size]) (by rw [hL, List.append_assoc]; rfl) hrun' (coNx_bd hq hb)
      (hst'.keep fun o e => up I o (Ne.symm hne) e) (up p _ hpS (hkp p _ (Nat.ne_of_lt hpI) hp))
      (fun b o h1 h2 e => up b o h1 (hkp b o h2 (hkeep b o h1 h2 e))) (Heap.get?_update_self _ hS' rfl) (by rw [Array.toList_push, hacc, List.map_append]; rfl) (by rw [List.length_append, List.length_append, hal]; rfl) ⟨?_, ?_, ?_⟩⟩) (by rw [hsz]; omega) (by show (acc.push (Value.ref h.objs.size)).size ≤ sizeLine + 1; rw [Array.size_push, hsz]; omega)
    · refine List.pairwise_append.mpr ⟨hG.rise, List.pairwise_singleton _ _, fun a ha b hb => ?_⟩
      rw [List.mem_singleton.mp hb]
      obtain ⟨j, hj⟩ := List.mem_iff_getElem?.mp ha
      obtain ⟨_, _, e2⟩ := hG.tups j a hj
      exact Heap.lt_size e2
    · intro a ha
      rcases List.mem_append.mp ha with ha | ha
      · exact hG.above a ha
      · rw [List.mem_singleton.mp ha]; exact hSl
    · intro j b hj
      rcases Nat.lt_trichotomy j as.length with h1 | h1 | h1
      · rw [List.getElem?_append_left h1] at hj
        obtain ⟨ij', e1, e2⟩ := hG.tups j b hj
        have hb := hG.above b (List.mem_of_getElem? hj)
        exact ⟨ij', e1, up b _ (Nat.ne_of_gt hb) (hkp b _ (Nat.ne_of_gt (Nat.lt_trans hIS hb)) e2)⟩
      · subst h1
        have hb : h.objs.size = b := by simpa using hj
        subst hb
        exact ⟨ij, by rw [hal]; exact hx, up _ _ (Nat.ne_of_gt hSl) ht⟩
      · have hnone : (as ++ [h.objs.size])[j]? = none := List.getElem?_eq_none (by rw [List.length_append, List.length_singleton]; omega)
        rw [hnone] at hj; cases hj
end
section
variable {prog : Program} {w : World} {A : Around} {E : Value → Shared → Prop} {s : Shared} {pool : Array Value} {n : Nat} {L : List (Nat × Nat)} {I p : Addr}
theorem co_iter {q : Option (Nat × Nat)} {Q : Value → Shared → Prop} (hst : CoSt I p n q s.heap) (h : Q (.ref I) s) : wpAny (model prog w) A (pyIter (.ref I)) Q E s := by
  have hT := hst.typeIs
  refine wpAny_pyIter_slot hT iter_co (wpAny_call_entry iter_co hT eiter_co ?_ (aiter_co _))
  show wpAny _ _ (ret (.ref I)) _ _ s
  exact wpAny_pure ⟨_, rfl, "itertools.combinations", _, hT, next_co.lookup, h⟩
theorem co_extend {R : Result → Shared → Prop} (hh : A.handled = none) (hst : CoSt I p pool.size none s.heap) (hp : s.heap.get? p = some { cls := .type "tuple", data := .seq pool n }) (hpI : p < I) (hrun : CoRun pool.size none L) (hn : L.length ≤ sizeLine)
    (S : Addr) (hIS : I < S) (res : Value) (c₀ : Nat) (hS : s.heap.get? S = some { cls := .type "list", data := .seq #[] c₀ })
    (hR : ∀ h' tk acc c as, (∀ b o, b ≠ S → b ≠ I → s.heap.get? b = some o → h'.get? b = some o) → h'.get? S = some { cls := .type "list", dict := none, data := .seq acc c, slots := #[] } → as.length = L.length → CoG pool L S h' as →
      acc.toList = as.map Value.ref → R (.ok (.ret res)) { s with heap := h', toks := tk }) :
    wpAny (model prog w) A.in1 (Builtin.List.listExtendWith (.ref S) (.ref I) res)
      (fun fin s' => match fin with | .done f => R (.ok f) s' | .again c' => c'.quiet = true ∧ codeAny (model prog w) A c' R s') (fun e s' => R (.error e) s') s := by
  have hne : S ≠ I := Nat.ne_of_gt hIS
  have hpS : p ≠ S := Nat.ne_of_lt (Nat.lt_trans hpI hIS)
  unfold Builtin.List.listExtendWith
  refine wpAny_bind (wpAny_typeOf hst.typeIs ?_)
  have h1 : Builtin.List.listSameRef (.ref S) (.ref I) = false := by simp [Builtin.List.listSameRef, hne]
  have h2 : (Value.type "itertools.combinations" == Value.type "list") = false := by decide
  have h3 : (Value.type "itertools.combinations" == Value.type "tuple") = false := by decide
  simp only [h1, h2, h3, Bool.or_false, Bool.false_eq_true, if_false]
  refine wpAny_bind (co_iter hst ?_)
  refine wpAny_bind (wpAny_holding ?_)
  unfold Builtin.List.listLengthHint
  refine wpAny_bind (wpAny_specialOf hst.typeIs nolen_co ?_)
  show wpAny _ A.in1 (specialOf (Value.ref I) (Str.ofString "__length_hint__") >>= _) _ _ _
  refine wpAny_bind (wpAny_specialOf hst.typeIs nohint_co ?_)
  refine wpAny_pure ?_
  show wpAny _ A.in1 (rule "list.extend.makes-room" >>= fun _ => Builtin.List.listTouch (.ref S) >>= fun _ =>
    again (.builtin "list.extend.loop" ⟨[.ref S, .ref I, res], []⟩)) _ _ _
  refine wpAny_bind (wpAny_rule ?_)
  refine wpAny_bind ?_
  show wpAny _ A.in1 (updateSeq S (·.push .none) >>= fun _ => updateSeq S (·.pop)) _ _ _
  refine wpAny_bind (wpAny_updateSeq hS rfl ?_)
  have hS₂ := Heap.get?_update_self (Obj.mapSeq (·.push Value.none)) hS rfl
  refine wpAny_updateSeq (hz := by seq_fits) hS₂ rfl ?_
  have hS₃ := Heap.get?_update_self (Obj.mapSeq (·.pop)) hS₂ rfl
  have oth : ∀ b o, b ≠ S → s.heap.get? b = some o → ((s.heap.update S (Obj.mapSeq (·.push Value.none))).update S (Obj.mapSeq (·.pop))).get? b = some o :=
    fun b o hb e => (Heap.get?_update_other _ _ (Ne.symm hb)).trans ((Heap.get?_update_other _ _ (Ne.symm hb)).trans e)
  refine wpAny_pure ⟨plainId_quiet PySem.F.plain_extend_loop _, ?_⟩
  exact co_loop (s := s) (n := n) (h₁ := s.heap) hh hIS hpI hn res hR L [] none _ s.toks _ #[] [] rfl hrun (fun _ _ e => by cases e) (hst.keep fun o e => oth I o (Ne.symm hne) e) (oth p _ hpS hp)
    (fun b o h1 _ e => oth b o h1 e) hS₃ rfl rfl ⟨List.Pairwise.nil, (fun _ ha => nomatch ha), fun j a hj => by simp at hj⟩
theorem co_init {R : Result → Shared → Prop} (hh : A.handled = none) (hst : CoSt I p pool.size none s.heap) (hp : s.heap.get? p = some { cls := .type "tuple", data := .seq pool n }) (hpI : p < I) (hrun : CoRun pool.size none L) (hn : L.length ≤ sizeLine)
    (S : Addr) (hIS : I < S) (hS : s.heap.get? S = some { cls := .type "list", data := .seq #[] })
    (hR : ∀ h' tk acc c as, (∀ b o, b ≠ S → b ≠ I → s.heap.get? b = some o → h'.get? b = some o) → h'.get? S = some { cls := .type "list", dict := none, data := .seq acc c, slots := #[] } → as.length = L.length → CoG pool L S h' as →
      acc.toList = as.map Value.ref → R (.ok (.ret .none)) { s with heap := h', toks := tk }) :
    wpAny (model prog w) A.in1 (Builtin.«list.__init__» ⟨[.ref S, .ref I], []⟩)
      (fun fin s' => match fin with | .done f => R (.ok f) s' | .again c' => c'.quiet = true ∧ codeAny (model prog w) A c' R s') (fun e s' => R (.error e) s') s := by
  show wpAny _ _ (do let old ← Builtin.List.listItems (.ref S); Builtin.List.listUpdate (.ref S) (fun _ => #[]); letGo old.toList.reverse; Builtin.List.listExtendWith (.ref S) (.ref I) .none) _ _ s
  refine wpAny_bind ?_
  unfold Builtin.List.listItems
  refine wpAny_bind (wpAny_seqItems hS rfl (wpAny_pure ?_))
  show wpAny _ _ (updateSeq S (fun _ => #[]) >>= fun _ => letGo (#[] : Array Value).toList.reverse >>= fun _ => Builtin.List.listExtendWith (.ref S) (.ref I) .none) _ _ s
  refine wpAny_bind (wpAny_updateSeq hS rfl ?_)
  have hS₂ := Heap.get?_update_self (Obj.mapSeq (fun _ => (#[] : Array Value))) hS rfl
  have hne : S ≠ I := Nat.ne_of_gt hIS
  have oth : ∀ b o, b ≠ S → s.heap.get? b = some o → (s.heap.update S (Obj.mapSeq (fun _ => (#[] : Array Value)))).get? b = some o :=
    fun b o hb e => (Heap.get?_update_other _ _ (Ne.symm hb)).trans e
  refine wpAny_bind (wpAny_letGo ?_)
  refine co_extend (n := n) (L := L) hh (hst.keep fun o e => oth I o (Ne.symm hne) e) (oth p _ (Nat.ne_of_lt (Nat.lt_trans hpI hIS)) hp) hpI hrun hn S hIS .none _ hS₂ (fun h' tk acc c as hk hS' hl hG hacc => ?_)
  exact hR h' tk acc c as (fun b o hb hb2 e => hk b o hb hb2 (oth b o hb e)) hS' hl hG hacc
theorem co_list {Q : Value → Shared → Prop} (hh : A.handled = none) (hst : CoSt I p pool.size none s.heap) (hp : s.heap.get? p = some { cls := .type "tuple", data := .seq pool n }) (hpI : p < I) (hrun : CoRun pool.size none L) (hn : L.length ≤ sizeLine)
    (hQ : ∀ h' tk acc c as, (∀ b o, b ≠ I → s.heap.get? b = some o → h'.get? b = some o) → h'.get? s.heap.objs.size = some { cls := .type "list", dict := none, data := .seq acc c, slots := #[] } → as.length = L.length → CoG pool L s.heap.objs.size h' as →
      acc.toList = as.map Value.ref → Q (.ref s.heap.objs.size) { s with heap := h', toks := tk }) :
    wpAny (model prog w) A (call (.type "list") [.ref I]) Q E s := by
  refine callType_codes (Q₁ := fun obj s₁ => obj = .ref s.heap.objs.size ∧ s₁ = { s with heap := s.heap.push { cls := .type "list", data := .seq #[] } }) PySem.F.called_list (PySem.F.typeCall_list_1 _) PySem.F.entry_list_init
    (code_list_new _ ⟨rfl, rfl⟩) fun obj s₁ h₁ => ?_
  obtain ⟨rfl, rfl⟩ := h₁
  have hS : (s.heap.push { cls := .type "list", data := .seq #[] }).get? s.heap.objs.size = some { cls := .type "list", data := .seq #[] } := Heap.get?_push_size _ rfl
  have hI : I < s.heap.objs.size := by cases hst <;> exact Heap.lt_size ‹_›
  refine ⟨⟨_, hS, rfl⟩, PySem.F.args_list_init_2 _ _, co_init (n := n) (L := L) (A := A.in1) hh (hst.keep fun o e => Heap.get?_push_of_some _ e) (Heap.get?_push_of_some _ hp) hpI hrun hn _ hI hS (fun h' tk acc c as hk hS' hl hG hacc => ?_)⟩
  exact ⟨rfl, hQ h' tk acc c as (fun b o hb e => hk b o (Nat.ne_of_lt (Heap.lt_size e)) hb (Heap.get?_push_of_some _ e)) hS' hl hG hacc⟩
end
end GV

/-! list(combinations(x, 2)), by readings -/
namespace GV
open PySem PySem.Spec PyProof.Rows L2 PySem.W
/-- the pairs i < j < n, in the order in which they come -/
def coPs (n : Nat) : List (Nat × Nat) := (List.range n).flatMap fun i => (List.range (n - (i + 1))).map fun k => (i, i + 1 + k)
def coRunB (n : Nat) : Option (Nat × Nat) → List (Nat × Nat) → Bool
  | q, [] => decide (coNx n q = none)
  | q, ij :: L => decide (coNx n q = some ij) && coRunB n (some ij) L
theorem coRun_of {n : Nat} : ∀ {q : Option (Nat × Nat)} {L : List (Nat × Nat)}, coRunB n q L = true → CoRun n q L
  | q, [], h => .nil (of_decide_eq_true h)
  | q, ij :: L, h => by
    obtain ⟨h1, h2⟩ := Bool.and_eq_true_iff.mp h
    exact .cons (of_decide_eq_true h1) (coRun_of h2)
theorem coRun_all : ∀ n < 41, coRunB n none (coPs n) = true ∧ (coPs n).length ≤ 1000 := by decide +kernel
/-- an expression whose value, when its items are taken one by one, gives them -/
def PCol (X : Cx) (e : Expr) (t : St → Hp → (List V → Hp → Prop) → Prop) : Prop :=
  ∀ (pins : List (Addr × Obj)) (s : Shared) (σ : St) (H : Hp) (Q : List V → Hp → Prop), Inv X pins σ H s → t σ H Q →
    wpAny (model X.prog X.w) X.A (eval e X.env) (fun v s1 => ∀ (t0 : Nat) (A : Around) (Q' : List Value → Shared → Prop), A.handled = none →
      (∀ (xs : List V) (items : List Value) (h' : Heap) (tk : Nat) (H' : Hp), Vals xs items → Inv X pins σ H' { s1 with heap := h', toks := tk } → Q xs H' → Q' items { s1 with heap := h', toks := tk }) →
      wpAny (model X.prog X.w) A (collect v) Q' X.xe { s1 with toks := t0 }) X.xe s
section
variable {X : Cx} {e : Expr} {te : St → Hp → (Int → Int → Hp → Prop) → Prop} {t : St → Hp → (List V → Hp → Prop) → Prop} {ta : TE}
theorem pcol_rg (he : PRg X e te) : PCol X e (fun σ H Q => te σ H fun a b H1 => RgOk a b ∧ Q (rgV a b) H1) := by
  intro pins s σ H Q I h
  refine wpAny_mono (he pins s σ H _ I h) (fun v s1 x => ?_) fun _ _ z => z
  obtain ⟨r, a, b, t, u, v', H1, ex, hr, I1, ok, q⟩ := x
  subst ex
  obtain ⟨b1, b2, b3, b4, b5⟩ := ok
  intro t0 A Q' hA hQ
  refine L2.collect_range (s := { s1 with toks := t0 }) (n := (b - a).toNat) hA hr (small_one b1 b2 b3 b4) (rangeSize_nat a b) b5 fun h' tk acc hk hi => ?_
  exact hQ (rgV a b) acc.toList h' tk H1 (vals_rg hi) (I1.kept hk) q
theorem pcol_sq (he : PE X e ta) : PCol X e (fun σ H Q => ta σ H fun x H1 => ∃ p xs, x = .ref p ∧ (SqL X.K H1 p xs ∨ SqT X.K H1 p xs) ∧ Q xs H1) := by
  intro pins s σ H Q I h
  refine wpAny_mono (he.run pins s σ H _ I h) (fun v s1 x => ?_) fun _ _ z => z
  obtain ⟨x, H1, I1, r1, p, xs, ex, hs, q⟩ := x
  subst ex
  obtain rfl : v = .ref p := r1
  intro t0 A Q' hA hQ
  rcases hs with hs | hs
  · obtain ⟨its, rv, pl, hz⟩ := I1.list hs
    obtain ⟨o, ho, hc, n, hd⟩ := pl.isList
    refine wpAny_collect_seq (s := { s1 with toks := t0 }) p (.inl rfl) ho hc hd (fun h' hk => ?_) (by rw [List.size_toArray, ← rv.length]; exact hz)
    exact hQ xs its h' t0 H1 rv (I1.kept (t' := t0) hk) q
  · obtain ⟨its, rv, pl, hz⟩ := I1.tuple hs
    obtain ⟨o, ho, hc, n, hd⟩ := pl
    refine wpAny_collect_seq (s := { s1 with toks := t0 }) p (.inr rfl) ho hc hd (fun h' hk => ?_) (by rw [List.size_toArray, ← rv.length]; exact hz)
    exact hQ xs its h' t0 H1 rv (I1.kept (t' := t0) hk) q
/-- many new things, tracked one after another -/
def laysN (H : Hp) : List (Addr × HO) → Hp
  | [] => H
  | (a, o) :: r => upd (laysN H r) a o
theorem laysN_ne {H : Hp} {b : Addr} : ∀ {news : List (Addr × HO)}, (∀ p ∈ news, p.1 ≠ b) → laysN H news b = H b
  | [], _ => rfl
  | (a, o) :: r, h => by
    show upd (laysN H r) a o b = H b
    rw [upd_ne (fun z => h (a, o) (.head _) z.symm)]
    exact laysN_ne fun p hp => h p (.tail _ hp)
theorem laysN_get {H : Hp} {a : Addr} {o : HO} : ∀ {news : List (Addr × HO)}, (news.map (·.1)).Nodup → (a, o) ∈ news → laysN H news a = some o
  | (b, u) :: r, hn, hm => by
    rw [List.map_cons] at hn
    obtain ⟨h1, h2⟩ := List.nodup_cons.mp hn
    rcases List.mem_cons.mp hm with e | hm
    · cases e; exact upd_same
    · show upd (laysN H r) b u a = some o
      rw [upd_ne (fun z => h1 (by rw [← z]; exact List.mem_map_of_mem (f := (·.1)) hm))]
      exact laysN_get h2 hm
theorem Inv.lays {pins : List (Addr × Obj)} {s : Shared} {σ : St} {H : Hp} {h' : Heap} {t' : Nat} {news : List (Addr × HO)} (I : Inv X pins σ H s) (k : ∀ b u, s.heap.get? b = some u → h'.get? b = some u) (hn : (news.map (·.1)).Nodup)
    (hf : ∀ p ∈ news, s.heap.objs.size ≤ p.1) (ok : ∀ p ∈ news, ∀ H', ObjOk X.prog X.w H' h' p.1 p.2) : Inv X pins σ (laysN H news) { s with heap := h', toks := t' } ∧ Evl.Ex H (laysN H news) := by
  have key : ∀ (news : List (Addr × HO)), (news.map (·.1)).Nodup → (∀ p ∈ news, s.heap.objs.size ≤ p.1) → (∀ p ∈ news, ∀ H', ObjOk X.prog X.w H' h' p.1 p.2) →
      Un X.fs [] H (laysN H news) s.heap s.heap ∧ HOk X.prog X.w (laysN H news) h' ∧ Evl.Ex H (laysN H news) := by
    intro news
    induction news with
    | nil => intro _ _ _; exact ⟨Un.refl, I.hok.kept k, Evl.Ex.refl H⟩
    | cons p r ih =>
      intro hn hf ok
      rw [List.map_cons] at hn
      obtain ⟨h1, h2⟩ := List.nodup_cons.mp hn
      obtain ⟨u, hk, ex⟩ := ih h2 (fun q hq => hf q (.tail _ hq)) fun q hq => ok q (.tail _ hq)
      have hp := hf p (.head _)
      have none : laysN H r p.1 = Option.none := by
        rw [laysN_ne fun q hq z => h1 (by rw [← z]; exact List.mem_map_of_mem (f := (·.1)) hq)]
        exact I.hok.fresh hp
      have nh : s.heap.get? p.1 = Option.none := by
        cases e : s.heap.get? p.1 with
        | none => rfl
        | some o => exact absurd (Heap.lt_size e) (Nat.not_lt.mpr hp)
      exact ⟨u.trans (Un.laidN (fun _ _ q => q) nh none), hk.laidN (fun _ _ q => q) none (ok p (.head _) _), ex.trans (Evl.Ex.new none)⟩
  obtain ⟨u, hk, ex⟩ := key news hn hf ok
  exact ⟨I.un (u.trans (Un.kept k)) hk, ex⟩
theorem vals_getD : ∀ {xs : List V} {us : List Value} (i : Nat), Vals xs us → RelV (xs.getD i .non) (us.getD i .none)
  | [], [], _, _ => rfl
  | x :: xs, u :: us, 0, .cons h _ => h
  | x :: xs, u :: us, i + 1, .cons _ r => by rw [List.getD_cons_succ, List.getD_cons_succ]; exact vals_getD i r
theorem vals_refs : ∀ as : List Addr, Vals (as.map V.ref) (as.map Value.ref)
  | [] => .nil
  | a :: as => .cons rfl (vals_refs as)
/-- what list(combinations(x, 2)) gives -/
def tLstCo (t : St → Hp → (List V → Hp → Prop) → Prop) : TE := fun σ H Q => t σ H fun xs H1 => xs.length < 41 ∧ ∀ (q : Addr) (as : List Addr) (H' : Hp), H1 q = none → Evl.Ex H1 H' → H' q = some (.lst (as.map V.ref)) → as.length = (coPs xs.length).length →
  (∀ (k : Nat) (a : Addr), as[k]? = some a → ∃ ij, (coPs xs.length)[k]? = some ij ∧ H1 a = none ∧ H' a = some (.tup [xs.getD ij.1 .non, xs.getD ij.2 .non])) → Q (.ref q) H'
theorem pe_co {p p2 p3 p4 pos : Pos} {tk} (hg : Gl X "list") (hm : X.mg "list" = none) (hgc : Gl X "combinations") (hmc : X.mg "combinations" = some (.type "itertools.combinations")) (hc : X.calm = true) (he : PCol X e t)
    (na : starEach [e, .Constant (.int 2) tk p3] X.env = (false, eval e X.env) :: starEach [.Constant (.int 2) tk p3] X.env := by rfl)
    (nb : starEach [.Constant (.int 2) tk p3] X.env = (false, eval (.Constant (.int 2) tk p3) X.env) :: starEach [] X.env := by rfl) (hp : (backTo p4 (starEach [.Constant (.int 2) tk p3] X.env)).any (·.1) = false := by rfl)
    (nc : starEach [.Call (.Name "combinations" p2) [e, .Constant (.int 2) tk p3] [] p4] X.env = (false, eval (.Call (.Name "combinations" p2) [e, .Constant (.int 2) tk p3] [] p4) X.env) :: starEach [] X.env := by rfl) :
    PE X (.Call (.Name "list" p) [.Call (.Name "combinations" p2) [e, .Constant (.int 2) tk p3] [] p4] [] pos) (tLstCo t) := by
  refine ⟨fun pins s σ H Q I h => ?_⟩
  refine Call_ (ld_blt I hg hm boot_list (PyProof.Rows.callWith_type1 (args_cons ?_ nc) nc))
  refine Call_ (ld_glob I hgc hmc (PyProof.Rows.callWith_type1 (args_cons (thn (he pins s σ H _ I h) fun v s1 hcol => args_cons (wpAny_Constant_int (args_nil ?_)) nb) na) na hp))
  refine callType_newIn called_co (by decide) (tcall_co _ _) (ncall_co _ _) (fun obj => F.args_object_init_3 obj _ _) enew_co (meet_co v _) ?_
  have hd : X.A.handled = none := I.ok.hd hc
  refine hcol _ X.A.in1.in1 _ hd fun xs items h' tk H' rv I' q => ?_
  obtain ⟨hl, q⟩ := q
  have il : items.length = xs.length := rv.length.symm
  have hz : ∀ o, (h'.push o).objs.size = h'.objs.size + 1 := fun o => Heap.size_push ..
  refine ⟨by rw [il, sizeLine_eq]; omega, ?_⟩
  have run := coRun_all xs.length hl
  have gp : ((h'.push { cls := .type "tuple", data := .seq items.toArray }).push (coO h'.objs.size (if 2 > items.length then 2 else 0) .none 0 1)).get? h'.objs.size = some { cls := .type "tuple", data := .seq items.toArray } := Heap.get?_push_of_some _ (Heap.get?_push_size _ rfl)
  have gi : ((h'.push { cls := .type "tuple", data := .seq items.toArray }).push (coO h'.objs.size (if 2 > items.length then 2 else 0) .none 0 1)).get? (h'.objs.size + 1) = some (coO h'.objs.size (if 2 > items.length then 2 else 0) .none 0 1) := by
    rw [← hz { cls := .type "tuple", data := .seq items.toArray }]
    exact Heap.get?_push_size _ rfl
  have pz : items.toArray.size = xs.length := by rw [List.size_toArray, il]
  have st : CoSt (h'.objs.size + 1) h'.objs.size items.toArray.size none ((h'.push { cls := .type "tuple", data := .seq items.toArray }).push (coO h'.objs.size (if 2 > items.length then 2 else 0) .none 0 1)) := by
    by_cases c : 2 > items.length
    · rw [if_pos c] at gi
      exact .dead (by rw [List.size_toArray]; exact c) (by rw [if_pos c]; exact gi)
    · rw [if_neg c] at gi
      exact .start (by rw [List.size_toArray]; omega) (by rw [if_neg c]; exact gi)
  generalize hh2 : ((h'.push { cls := .type "tuple", data := .seq items.toArray }).push (coO h'.objs.size (if 2 > items.length then 2 else 0) .none 0 1)) = h2 at gp gi st
  have z2 : h2.objs.size = h'.objs.size + 2 := by rw [← hh2, Heap.size_push, Heap.size_push]
  have k2 : ∀ b o, h'.get? b = some o → h2.get? b = some o := fun b o e => by rw [← hh2]; exact Heap.get?_push_of_some _ (Heap.get?_push_of_some _ e)
  refine ⟨⟨_, gi, rfl⟩, args_nil ?_⟩
  refine co_list (n := 0) (L := coPs xs.length) hd st gp (Nat.lt_succ_self _) (by rw [pz]; exact coRun_of run.1) (by rw [sizeLine_eq]; have := run.2; omega) fun h3 tk3 acc c as hk3 hS hl3 hG hacc => ?_
  dsimp only at hS hk3 hG ⊢
  rw [z2] at hS hG ⊢
  have k3 : ∀ b o, h'.get? b = some o → h3.get? b = some o := fun b o e => hk3 b o (Nat.ne_of_lt (Nat.lt_succ_of_lt (Heap.lt_size e))) (k2 b o e)
  have tup : ∀ (k : Nat) (a : Addr), as[k]? = some a → ∃ ij, (coPs xs.length)[k]? = some ij ∧ ∀ H', ObjOk X.prog X.w H' h3 a (.tup [xs.getD ij.1 .non, xs.getD ij.2 .non]) := fun k a e => by
    obtain ⟨ij, e1, e2⟩ := hG.tups k a e
    refine ⟨ij, e1, fun H' => ⟨by rw [sizeLine_eq]; show 2 ≤ _; decide, [items.getD ij.1 .none, items.getD ij.2 .none], .cons (vals_getD _ rv) (.cons (vals_getD _ rv) .nil), ?_⟩⟩
    have gd : ∀ i, items.toArray.getD i .none = items.getD i .none := fun i => by rw [Array.getD_eq_getD_getElem?, List.getD_eq_getElem?_getD, List.getElem?_toArray]
    rw [gd, gd] at e2
    exact ⟨_, e2, rfl, _, rfl⟩
  have m1 : ((as.zip (coPs xs.length)).map fun p => (p.1, HO.tup [xs.getD p.2.1 .non, xs.getD p.2.2 .non])).map (·.1) = as := by
    rw [List.map_map]
    exact List.map_fst_zip (by rw [hl3]; exact Nat.le_refl _)
  obtain ⟨I3, ex⟩ := Inv.lays (X := X) (t' := tk3) (news := (h'.objs.size + 2, HO.lst (as.map V.ref)) :: ((as.zip (coPs xs.length)).map fun p => (p.1, HO.tup [xs.getD p.2.1 .non, xs.getD p.2.2 .non]))) I' k3
    (by
      rw [List.map_cons, m1]
      exact List.nodup_cons.mpr ⟨fun hm => Nat.lt_irrefl _ (hG.above _ hm), hG.rise.imp fun h => Nat.ne_of_lt h⟩)
    (fun p hp => by
      rcases List.mem_cons.mp hp with rfl | hp
      · exact Nat.le_add_right _ 2
      · have hm : p.1 ∈ as := by rw [← m1]; exact List.mem_map_of_mem (f := (·.1)) hp
        exact Nat.le_of_lt (Nat.lt_of_le_of_lt (Nat.le_add_right _ 2) (hG.above _ hm)))
    (fun p hp H2 => by
      rcases List.mem_cons.mp hp with rfl | hp
      · refine ⟨by rw [List.length_map, hl3, sizeLine_eq]; have := run.2; omega, acc.toList, c, ?_, by rw [Array.toArray_toList]; exact hS⟩
        rw [hacc]
        exact vals_refs as
      · obtain ⟨⟨a, ij⟩, hz, rfl⟩ := List.mem_map.mp hp
        obtain ⟨k, hk⟩ := List.mem_iff_getElem?.mp hz
        rw [List.getElem?_zip_eq_some] at hk
        obtain ⟨ij', e1, e2⟩ := tup k a hk.1
        have : ij = ij' := by rw [hk.2] at e1; exact Option.some.inj e1
        subst this
        exact e2 H2)
  have nd : (((h'.objs.size + 2, HO.lst (as.map V.ref)) :: ((as.zip (coPs xs.length)).map fun p => (p.1, HO.tup [xs.getD p.2.1 .non, xs.getD p.2.2 .non]))).map (·.1)).Nodup := by
    rw [List.map_cons, m1]
    exact List.nodup_cons.mpr ⟨fun hm => Nat.lt_irrefl _ (hG.above _ hm), hG.rise.imp fun h => Nat.ne_of_lt h⟩
  refine ⟨.ref (h'.objs.size + 2), _, I3, rfl, q _ as _ (I'.hok.fresh (Nat.le_add_right _ 2)) ex upd_same hl3 fun k a e => ?_⟩
  obtain ⟨ij, e1, _⟩ := tup k a e
  refine ⟨ij, e1, I'.hok.fresh (Nat.le_of_lt (Nat.lt_of_le_of_lt (Nat.le_add_right _ 2) (hG.above a (List.mem_of_getElem? e)))), laysN_get nd (.tail _ (List.mem_map.mpr ⟨(a, ij), ?_, rfl⟩))⟩
  exact List.mem_of_getElem? (i := k) (by rw [List.getElem?_zip_eq_some]; exact ⟨e, e1⟩)
end
end GV

/-! list(combinations(range(n), 2)), list(combinations(xs, 2)) -/
namespace GV
open PySem PySem.Spec PyProof.Rows L2
section
variable {X : Cx} {M : Addr → Prop} {σ : St} {H H' : Hp} {e : Expr} {pos : Pos}
def coD (ds : List PyData) : List PyData := (coPs ds.length).map fun ij => .tuple [ds.getD ij.1 .none, ds.getD ij.2 .none]
theorem RpAll.getD {K : PySem.W.Frag} : ∀ {vs : List V} {ds : List PyData} (i : Nat), RpAll K M H vs ds → Rp K M H (vs.getD i .non) (ds.getD i .none)
  | [], [], _, _ => .non
  | _ :: _, _ :: _, 0, .cons h _ => h
  | _ :: vs, _ :: ds, i + 1, .cons _ r => by rw [List.getD_cons_succ, List.getD_cons_succ]; exact RpAll.getD i r
theorem RpAll.refs {K : PySem.W.Frag} {vs : List V} {ds : List PyData} (r : RpAll K M H vs ds) : ∀ (L : List (Nat × Nat)) (as : List Addr), as.length = L.length →
    (∀ (k : Nat) (a : Addr), as[k]? = some a → ∃ ij, L[k]? = some ij ∧ ¬ M a ∧ H a = some (.tup [vs.getD ij.1 .non, vs.getD ij.2 .non])) → RpAll K M H (as.map V.ref) (L.map fun ij => .tuple [ds.getD ij.1 .none, ds.getD ij.2 .none])
  | [], [], _, _ => .nil
  | [], _ :: _, h, _ => by cases h
  | _ :: _, [], h, _ => by cases h
  | ij :: L, a :: as, hl, h => by
    refine .cons ?_ (RpAll.refs r L as (Nat.succ.inj hl) fun k b e => h (k + 1) b e)
    obtain ⟨ij', e1, hm, e2⟩ := h 0 a rfl
    cases e1
    exact .tup hm (.inl e2) (.cons (r.getD _) (.cons (r.getD _) .nil))
theorem co_fd {t : St → Hp → (List V → Hp → Prop) → Prop} {f : Expr} {ds : List PyData} (hp : PE X f (tLstCo t)) (hz : ds.length < 41)
    (h : ∀ H1, ExM M H H1 → Alive M H1 → ∀ Q : List V → Hp → Prop, (∀ vs H2, Evl.Ex H1 H2 → RpAll X.K M H2 vs ds → Q vs H2) → t σ H1 Q) : FD X M f σ H (coD ds) := .mk fun H1 e1 al Q q =>
  ⟨_, hp, h H1 e1 al _ fun vs H2 x2 r => by
    have hl : vs.length = ds.length := r.length
    refine ⟨by omega, fun p as H3 hn x3 h3 hl3 ht => ?_⟩
    refine q p _ H3 (Evl.fresh_back x2 hn) (x2.trans x3) h3 ?_
    unfold coD
    rw [hl] at hl3 ht
    refine RpAll.refs (r.mono (fun _ z => z) (.of x3)) _ _ hl3 fun k a e => ?_
    obtain ⟨ij, e1, e2, e3⟩ := ht k a e
    exact ⟨ij, e1, (al.mono x2).fresh e2, e3⟩⟩
variable {p p2 p3 p4 p5 p6 : Pos} {tk : Tok}
theorem coD_ints {n : Nat} : coD (((List.range n).map Int.ofNat).map PyData.int) = (coPs n).map fun ij => .tuple [.int ij.1, .int ij.2] := by
  unfold coD
  have hl : (((List.range n).map Int.ofNat).map PyData.int).length = n := by simp
  rw [hl]
  refine List.map_congr_left fun ij hm => ?_
  obtain ⟨i, hi, hm⟩ := List.mem_flatMap.mp hm
  obtain ⟨k, hk, rfl⟩ := List.mem_map.mp hm
  rw [List.mem_range] at hi hk
  have gd : ∀ j, j < n → (((List.range n).map Int.ofNat).map PyData.int).getD j .none = .int (j : Nat) := fun j hj => by
    rw [List.getD_eq_getElem?_getD]
    simp [hj]
  show PyData.tuple [_, _] = _
  rw [gd _ hi, gd _ (show i + 1 + k < n by omega)]
/-- list(combinations(range(e), 2)) -/
theorem fd_coR {n : Int} (hc : X.calm = true) (hg : Gl X "list") (hm : X.mg "list" = none) (hgc : Gl X "combinations") (hmc : X.mg "combinations" = some (.type "itertools.combinations")) (hg2 : Gl X "range") (hm2 : X.mg "range" = none) (h : PD X M e σ H (.int n)) (h0 : 0 ≤ n) (h1 : n < 41)
    (nr : starEach [e] X.env = (false, eval e X.env) :: starEach [] X.env := by rfl)
    (na : starEach [.Call (.Name "range" p5) [e] [] p6, .Constant (.int 2) tk p3] X.env = (false, eval (.Call (.Name "range" p5) [e] [] p6) X.env) :: starEach [.Constant (.int 2) tk p3] X.env := by rfl)
    (nb : starEach [.Constant (.int 2) tk p3] X.env = (false, eval (.Constant (.int 2) tk p3) X.env) :: starEach [] X.env := by rfl) (hp : (backTo p4 (starEach [.Constant (.int 2) tk p3] X.env)).any (·.1) = false := by rfl)
    (nc : starEach [.Call (.Name "combinations" p2) [.Call (.Name "range" p5) [e] [] p6, .Constant (.int 2) tk p3] [] p4] X.env = (false, eval (.Call (.Name "combinations" p2) [.Call (.Name "range" p5) [e] [] p6, .Constant (.int 2) tk p3] [] p4) X.env) :: starEach [] X.env := by rfl) :
    FD X M (.Call (.Name "list" p) [.Call (.Name "combinations" p2) [.Call (.Name "range" p5) [e] [] p6, .Constant (.int 2) tk p3] [] p4] [] pos) σ H ((coPs n.toNat).map fun ij => .tuple [.int ij.1, .int ij.2]) := by
  rw [← coD_ints]
  refine co_fd (pe_co hg hm hgc hmc hc (pcol_rg (prg_1 hg2 hm2 wE.pe nr)) na nb hp nc) (by simp; omega) fun H1 e1 al Q q => h.run H1 e1 al _ fun v H2 x2 r => ?_
  cases r
  refine ⟨n, rfl, RgOk.of_le (by omega) (by omega) (by omega) h0, ?_⟩
  have e2 : rgV 0 n = ((List.range n.toNat).map Int.ofNat).map V.int := by
    unfold rgV
    rw [List.map_map, Int.sub_zero]
    exact List.map_congr_left fun i _ => by
      show V.int (0 + (i : Nat)) = V.int (i : Nat)
      rw [Int.zero_add]
  rw [e2]
  exact q _ H2 x2 (RpAll.ints _)
/-- list(combinations(e, 2)), e a list or a tuple -/
theorem fd_coS {tp : Bool} {ds : List PyData} (hc : X.calm = true) (hg : Gl X "list") (hm : X.mg "list" = none) (hgc : Gl X "combinations") (hmc : X.mg "combinations" = some (.type "itertools.combinations")) (h : PD X M e σ H (sqD tp ds)) (h1 : ds.length < 41)
    (na : starEach [e, .Constant (.int 2) tk p3] X.env = (false, eval e X.env) :: starEach [.Constant (.int 2) tk p3] X.env := by rfl)
    (nb : starEach [.Constant (.int 2) tk p3] X.env = (false, eval (.Constant (.int 2) tk p3) X.env) :: starEach [] X.env := by rfl) (hp : (backTo p4 (starEach [.Constant (.int 2) tk p3] X.env)).any (·.1) = false := by rfl)
    (nc : starEach [.Call (.Name "combinations" p2) [e, .Constant (.int 2) tk p3] [] p4] X.env = (false, eval (.Call (.Name "combinations" p2) [e, .Constant (.int 2) tk p3] [] p4) X.env) :: starEach [] X.env := by rfl) :
    FD X M (.Call (.Name "list" p) [.Call (.Name "combinations" p2) [e, .Constant (.int 2) tk p3] [] p4] [] pos) σ H (coD ds) := by
  refine co_fd (pe_co hg hm hgc hmc hc (pcol_sq wE.pe) na nb hp nc) h1 fun H1 e1 al Q q => h.run H1 e1 al _ fun v H2 x2 r => ?_
  cases tp with
  | false =>
    cases r with
    | lst hm hr ra => exact ⟨_, _, rfl, .inl (.inl hr), q _ H2 x2 ra⟩
  | true =>
    cases r with
    | tup hm hr ra => exact ⟨_, _, rfl, .inr (.inl hr), q _ H2 x2 ra⟩
end
end GV

/-! for x, y in combinations(range(n), 2), in combinations(xs, 2) -/
namespace GV
open PySem PySem.Spec PyProof.Rows L2 PySem.W
theorem CoSt.obj {it p : Addr} {n : Nat} {q : Option (Nat × Nat)} {h : Heap} (x : CoSt it p n q h) : ∃ o, h.get? it = some o ∧ o.cls = .type "itertools.combinations" ∧ ∃ vs, o.data = .fields vs := by
  cases x with
  | start _ e => exact ⟨_, e, rfl, _, rfl⟩
  | dead _ e => exact ⟨_, e, rfl, _, rfl⟩
  | gone e => exact ⟨_, e, rfl, _, rfl⟩
/-- how far the walk is after i pairs -/
def coAt (L : List (Nat × Nat)) : Nat → Option (Nat × Nat)
  | 0 => none
  | i + 1 => L[i]?
theorem coRun_at {n : Nat} : ∀ {L : List (Nat × Nat)} {q : Option (Nat × Nat)}, CoRun n q L → ∀ i, i ≤ L.length → coNx n (match i with | 0 => q | j + 1 => L[j]?) = L[i]?
  | [], q, .nil e, 0, _ => e
  | [], _, _, i + 1, h => by simp at h
  | ij :: L, q, .cons e r, 0, _ => e
  | ij :: L, q, .cons e r, 1, _ => by
    have := coRun_at r 0 (Nat.zero_le _)
    exact this
  | ij :: L, q, .cons e r, i + 2, h => by
    have := coRun_at r (i + 1) (by rw [List.length_cons] at h; omega)
    exact this
theorem coAt_bd {n : Nat} {L : List (Nat × Nat)} (r : CoRun n none L) : ∀ i, i ≤ L.length → ∀ a b, coAt L i = some (a, b) → a < b ∧ b < n := by
  intro i
  induction i with
  | zero => exact fun _ a b e => by cases e
  | succ i ih =>
    intro hi a b e
    have h := coRun_at r i (by omega)
    have h2 : coNx n (coAt L i) = L[i]? := by
      cases i with
      | zero => exact h
      | succ j => exact h
    exact coNx_bd (by rw [h2]; exact e) (ih (by omega)) a b rfl
def IteC (xs : List V) : It :=
  ⟨fun i _ => i < (coPs xs.length).length, fun i H v H' => ∃ T ij, v = .ref T ∧ H T = none ∧ H' = upd H T (.tup [xs.getD ij.1 .non, xs.getD ij.2 .non]) ∧ (coPs xs.length)[i]? = some ij, fun i _ => (coPs xs.length).length ≤ i⟩
theorem turn_co {P : Program} {w : World} {K : PySem.W.Frag} {tg : Expr} {xs : List V} {items : List Value} (I p : Addr) (rv : Vals xs items) (hl : xs.length < 41) :
    Turn P w K tg (IteC xs) [I, p] I (fun i h => i ≤ (coPs xs.length).length ∧ CoSt I p items.toArray.size (coAt (coPs xs.length) i) h ∧ h.get? p = some { cls := .type "tuple", data := .seq items.toArray 0 } ∧ p ≠ I) where
  mem := by simp
  obj := fun i h st b hb => by
    obtain ⟨_, hst, hp, _⟩ := st
    have e' : b = I ∨ b = p := by simpa using hb
    rcases e' with z | z
    · rw [z]
      generalize coAt (coPs xs.length) i = q at hst
      cases hst with
      | start _ e => exact ⟨_, e, fun v q => nomatch q⟩
      | dead _ e => exact ⟨_, e, fun v q => nomatch q⟩
      | gone e => exact ⟨_, e, fun v q => nomatch q⟩
    · rw [z]; exact ⟨_, hp, fun v q => nomatch q⟩
  keep := fun i h h' st k => let ⟨h0, hst, hp, ne⟩ := st; ⟨h0, hst.keep fun o e => k I (by simp) o e, k p (by simp) _ hp, ne⟩
  item := by
    intro X hP hw hK hc i pins s σ H E Iv hf st hg
    subst hP hw hK
    obtain ⟨h0, hst, hp, ne⟩ := st
    have run := coRun_of (coRun_all xs.length hl).1
    have pz : items.toArray.size = xs.length := by rw [List.size_toArray]; exact rv.length.symm
    have hi : i < (coPs xs.length).length := hg
    have hx : (coPs xs.length)[i]? = some (coPs xs.length)[i] := List.getElem?_eq_getElem hi
    have hq : coNx items.toArray.size (coAt (coPs xs.length) i) = some (coPs xs.length)[i] := by
      rw [pz, ← hx]
      have h := coRun_at run i h0
      cases i with
      | zero => exact h
      | succ j => exact h
    have hIl : I < s.heap.objs.size := by
      generalize coAt (coPs xs.length) i = q at hst
      cases hst <;> exact Heap.lt_size ‹_›
    refine co_pyNext (n := 0) hst hp ne hq (by rw [pz]; exact coAt_bd run i h0) fun h' hst' hT hz hk => ?_
    obtain ⟨o, ho, hoc, vs, hod⟩ := hst'.obj
    refine ⟨_, rfl, go_of ho hoc hod (by decide) ?_⟩
    have new : ObjOk X.prog X.w (upd H s.heap.objs.size (.tup [xs.getD (coPs xs.length)[i].1 .non, xs.getD (coPs xs.length)[i].2 .non])) h' s.heap.objs.size (.tup [xs.getD (coPs xs.length)[i].1 .non, xs.getD (coPs xs.length)[i].2 .non]) := by
      refine ⟨by show 2 ≤ sizeLine; decide, [items.getD (coPs xs.length)[i].1 .none, items.getD (coPs xs.length)[i].2 .none], .cons (vals_getD _ rv) (.cons (vals_getD _ rv) .nil), ?_⟩
      have gd : ∀ i, items.toArray.getD i .none = items.getD i .none := fun i => by rw [Array.getD_eq_getD_getElem?, List.getD_eq_getElem?_getD, List.getElem?_toArray]
      rw [gd, gd] at hT
      exact ⟨_, hT, rfl, _, rfl⟩
    have I1 := Iv.turnedNew (t' := s.toks) (ch := [I, p]) (fun b ob hb q => hk b ob (fun z => hb (by simp [z])) q) hf (Nat.le_refl _) new
    refine ⟨.ref s.heap.objs.size, _, I1, rfl, ⟨_, _, rfl, Iv.hok.fresh (Nat.le_refl _), rfl, hx⟩, ⟨hi, ?_, hk p _ ne hp, ne⟩, fun b hb => ?_⟩
    · show CoSt I p items.toArray.size (coPs xs.length)[i]? h'
      rw [hx]
      exact hst'
    · have hb' : b < s.heap.objs.size := by
        have e' : b = I ∨ b = p := by simpa using hb
        rcases e' with z | z
        · rw [z]; exact hIl
        · rw [z]; exact Heap.lt_size hp
      rw [upd_ne (Nat.ne_of_lt hb')]
      exact (hf b hb).1
  done := by
    intro X hP hw hK hc i pins s σ H E Iv hf st hg
    subst hP hw hK
    obtain ⟨h0, hst, hp, ne⟩ := st
    have run := coRun_of (coRun_all xs.length hl).1
    have pz : items.toArray.size = xs.length := by rw [List.size_toArray]; exact rv.length.symm
    have hi : (coPs xs.length).length ≤ i := hg
    have hq : coNx items.toArray.size (coAt (coPs xs.length) i) = none := by
      rw [pz, ← List.getElem?_eq_none hi]
      have h := coRun_at run i h0
      cases i with
      | zero => exact h
      | succ j => exact h
    obtain ⟨f0, f1, f2, f3, f4, f5⟩ := hf I (by simp)
    refine co_pyEnd (n := 0) (Iv.ok.hd hc) hst hp ne hq (by rw [pz]; exact coAt_bd run i h0) fun h' he => ?_
    exact ⟨rfl, Iv.turned (t' := s.toks) (fun b o hb q => he b o hb q) f0 f1 f3 f4 f5⟩
  self := fun A i s Q E st h => let ⟨_, hst, _⟩ := st; co_iter hst h
/-- what an expression's items give a walk -/
def iCo (t : St → Hp → (List V → Hp → Prop) → Prop) : TI := fun σ H R => t σ H fun xs H1 => xs.length < 41 ∧ R (IteC xs) H1
theorem pi_co {X : Cx} {tg e : Expr} {t : St → Hp → (List V → Hp → Prop) → Prop} {p2 p3 p4 : Pos} {tk} (hgc : Gl X "combinations") (hmc : X.mg "combinations" = some (.type "itertools.combinations")) (hc : X.calm = true) (he : PCol X e t)
    (na : starEach [e, .Constant (.int 2) tk p3] X.env = (false, eval e X.env) :: starEach [.Constant (.int 2) tk p3] X.env := by rfl)
    (nb : starEach [.Constant (.int 2) tk p3] X.env = (false, eval (.Constant (.int 2) tk p3) X.env) :: starEach [] X.env := by rfl) (hp : (backTo p4 (starEach [.Constant (.int 2) tk p3] X.env)).any (·.1) = false := by rfl) :
    PI X tg (.Call (.Name "combinations" p2) [e, .Constant (.int 2) tk p3] [] p4) (iCo t) := by
  refine ⟨fun pins s σ H R I h => ?_⟩
  refine Call_ (ld_glob I hgc hmc (PyProof.Rows.callWith_type1 (args_cons (thn (he pins s σ H _ I h) fun v s1 hcol => args_cons (wpAny_Constant_int (args_nil ?_)) nb) na) na hp))
  refine callType_newIn called_co (by decide) (tcall_co _ _) (ncall_co _ _) (fun obj => F.args_object_init_3 obj _ _) enew_co (meet_co v _) ?_
  have hd : X.A.handled = none := I.ok.hd hc
  refine hcol _ X.A.in1.in1 _ hd fun xs items h' tk H' rv I' q => ?_
  obtain ⟨hl, q⟩ := q
  have il : items.length = xs.length := rv.length.symm
  have hz : ∀ o, (h'.push o).objs.size = h'.objs.size + 1 := fun o => Heap.size_push ..
  refine ⟨by rw [il, sizeLine_eq]; omega, ?_⟩
  have gp : ((h'.push { cls := .type "tuple", data := .seq items.toArray }).push (coO h'.objs.size (if 2 > items.length then 2 else 0) .none 0 1)).get? h'.objs.size = some { cls := .type "tuple", data := .seq items.toArray } := Heap.get?_push_of_some _ (Heap.get?_push_size _ rfl)
  have gi : ((h'.push { cls := .type "tuple", data := .seq items.toArray }).push (coO h'.objs.size (if 2 > items.length then 2 else 0) .none 0 1)).get? (h'.objs.size + 1) = some (coO h'.objs.size (if 2 > items.length then 2 else 0) .none 0 1) := by
    rw [← hz { cls := .type "tuple", data := .seq items.toArray }]
    exact Heap.get?_push_size _ rfl
  have st : CoSt (h'.objs.size + 1) h'.objs.size items.toArray.size none ((h'.push { cls := .type "tuple", data := .seq items.toArray }).push (coO h'.objs.size (if 2 > items.length then 2 else 0) .none 0 1)) := by
    by_cases c : 2 > items.length
    · rw [if_pos c] at gi
      exact .dead (by rw [List.size_toArray]; exact c) (by rw [if_pos c]; exact gi)
    · rw [if_neg c] at gi
      exact .start (by rw [List.size_toArray]; omega) (by rw [if_neg c]; exact gi)
  generalize hh2 : ((h'.push { cls := .type "tuple", data := .seq items.toArray }).push (coO h'.objs.size (if 2 > items.length then 2 else 0) .none 0 1)) = h2 at gp gi st
  have k2 : ∀ b o, h'.get? b = some o → h2.get? b = some o := fun b o e => by rw [← hh2]; exact Heap.get?_push_of_some _ (Heap.get?_push_of_some _ e)
  refine ⟨⟨_, gi, rfl⟩, ?_⟩
  refine co_iter st ?_
  have I2 : Inv X pins σ H' { s1 with heap := h2, toks := tk } := I'.kept (t' := tk) k2
  refine ⟨h'.objs.size + 1, [h'.objs.size + 1, h'.objs.size], _, _, H', rfl, I2, turn_co (h'.objs.size + 1) h'.objs.size rv hl, ⟨Nat.zero_le _, st, gp, Nat.ne_of_lt (Nat.lt_succ_self _)⟩, fun b hb => ?_, q⟩
  have e' : b = h'.objs.size + 1 ∨ b = h'.objs.size := by simpa using hb
  have hle : h'.objs.size ≤ b := by
    rcases e' with z | z
    · rw [z]; exact Nat.le_add_right _ _
    · rw [z]; exact Nat.le_refl _
  exact I'.fpOk hle (I'.hok.fresh hle)
end GV

/-! .. as sources of walks and comprehensions -/
namespace GV
open PySem PySem.Spec PyProof.Rows L2 PySem.W
section
variable {X : Cx} {K : PySem.W.Frag} {M : Addr → Prop} {σ : St} {H : Hp} {e tg : Expr} {ds : List PyData} {pos : Pos}
theorem wk_co {vs : List V} (r : RpAll K M H vs ds) : Wk K M (IteC vs) H (coD ds) := by
  have hl := r.length
  have cl : (coD ds).length = (coPs vs.length).length := by unfold coD; rw [List.length_map, hl]
  refine ⟨fun M' i H' hm e hi => ?_, fun M' H' hm e => ?_, fun M' i H' x H'' hm e al y => ?_⟩
  · show i < (coPs vs.length).length
    rw [← cl]
    exact hi
  · show (coPs vs.length).length ≤ _
    rw [← cl]
    exact Nat.le_refl _
  · obtain ⟨T, ij, rfl, hT, rfl, y⟩ := y
    refine ⟨Evl.Ex.new hT, fun d hd => ?_⟩
    unfold coD at hd
    rw [List.getElem?_map, ← hl, y] at hd
    cases hd
    have at_ : ∀ j, Rp K M' (upd H' T (.tup [vs.getD ij.1 .non, vs.getD ij.2 .non])) (vs.getD j .non) (ds.getD j .none) := fun j => (((r.getD j).wide hm).mono (fun _ z => z) e).mono (fun _ z => z) (.of (Evl.Ex.new hT))
    exact .tup (al.fresh hT) (.inl upd_same) (.cons (at_ _) (.cons (at_ _) .nil))
variable {p p2 p3 p4 p5 p6 : Pos} {tk : Tok}
/-- .. in combinations(range(e), 2) -/
theorem src_coR {n : Int} (hc : X.calm = true) (hgc : Gl X "combinations") (hmc : X.mg "combinations" = some (.type "itertools.combinations")) (hg2 : Gl X "range") (hm2 : X.mg "range" = none) (h : PD X M e σ H (.int n)) (h0 : 0 ≤ n) (h1 : n < 41)
    (nr : starEach [e] X.env = (false, eval e X.env) :: starEach [] X.env := by rfl)
    (na : starEach [.Call (.Name "range" p5) [e] [] p6, .Constant (.int 2) tk p3] X.env = (false, eval (.Call (.Name "range" p5) [e] [] p6) X.env) :: starEach [.Constant (.int 2) tk p3] X.env := by rfl)
    (nb : starEach [.Constant (.int 2) tk p3] X.env = (false, eval (.Constant (.int 2) tk p3) X.env) :: starEach [] X.env := by rfl) (hp : (backTo p4 (starEach [.Constant (.int 2) tk p3] X.env)).any (·.1) = false := by rfl) :
    Src X M tg (.Call (.Name "combinations" p2) [.Call (.Name "range" p5) [e] [] p6, .Constant (.int 2) tk p3] [] p4) σ H ((coPs n.toNat).map fun ij => .tuple [.int ij.1, .int ij.2]) := by
  rw [← coD_ints]
  refine ⟨_, pi_co hgc hmc hc (pcol_rg (prg_1 hg2 hm2 wE.pe nr)) na nb hp, fun H1 e1 al R q => h.run H1 e1 al _ fun v H2 x2 r => ?_⟩
  cases r
  have e2 : rgV 0 n = ((List.range n.toNat).map Int.ofNat).map V.int := by
    unfold rgV
    rw [List.map_map, Int.sub_zero]
    exact List.map_congr_left fun i _ => by
      show V.int (0 + (i : Nat)) = V.int (i : Nat)
      rw [Int.zero_add]
  refine ⟨n, rfl, RgOk.of_le (by omega) (by omega) (by omega) h0, ?_, ?_⟩
  · rw [rgV_length]
    omega
  · rw [e2]
    exact q _ H2 x2 (wk_co (RpAll.ints _))
/-- .. in combinations(e, 2), e a list or a tuple -/
theorem src_coS {tp : Bool} (hc : X.calm = true) (hgc : Gl X "combinations") (hmc : X.mg "combinations" = some (.type "itertools.combinations")) (h : PD X M e σ H (sqD tp ds)) (h1 : ds.length < 41)
    (na : starEach [e, .Constant (.int 2) tk p3] X.env = (false, eval e X.env) :: starEach [.Constant (.int 2) tk p3] X.env := by rfl)
    (nb : starEach [.Constant (.int 2) tk p3] X.env = (false, eval (.Constant (.int 2) tk p3) X.env) :: starEach [] X.env := by rfl) (hp : (backTo p4 (starEach [.Constant (.int 2) tk p3] X.env)).any (·.1) = false := by rfl) :
    Src X M tg (.Call (.Name "combinations" p2) [e, .Constant (.int 2) tk p3] [] p4) σ H (coD ds) := by
  refine ⟨_, pi_co hgc hmc hc (pcol_sq wE.pe) na nb hp, fun H1 e1 al R q => h.run H1 e1 al _ fun v H2 x2 r => ?_⟩
  cases tp with
  | false =>
    cases r with
    | lst hm hr ra => exact ⟨_, _, rfl, .inl (.inl hr), by rw [ra.length]; exact h1, q _ H2 x2 (wk_co ra)⟩
  | true =>
    cases r with
    | tup hm hr ra => exact ⟨_, _, rfl, .inr (.inl hr), by rw [ra.length]; exact h1, q _ H2 x2 (wk_co ra)⟩
end
end GV

namespace IK
open PySem PySem.Spec PyProof.Rows L2 GV
/-! ### the stones of the law -/
theorem p12 : (10 : Int) ^ Int.toNat 12 = 1000000000000 := by decide +kernel
def succW (z : Int) : Int := if z + 1 > 1000000000000 then -1000000000000 else z + 1
def stepW (S : List Int) (z : Int) : Int := if z ∈ S then succW z else z
def itW (S : List Int) (z : Int) : Nat → Int
  | 0 => z
  | t + 1 => stepW S (itW S z t)
def suW (z : Int) (j : Nat) : Int := if z + j ≤ 1000000000000 then z + j else z + j - 2000000000001
theorem succ_su {z : Int} {j : Nat} (h : okW z) (hj : j < 1000) : succW (suW z j) = suW z (j + 1) := by
  obtain ⟨h1, h2⟩ := h
  unfold succW suW
  split <;> split <;> split <;> omega
theorem su_ok {z : Int} {j : Nat} (h : okW z) (hj : j < 1000) : okW (suW z j) := by
  obtain ⟨h1, h2⟩ := h
  unfold suW okW
  split <;> omega
theorem su_inj {z : Int} {i j : Nat} (h : okW z) (hi : i < 1000) (hj : j < 1000) (e : suW z i = suW z j) : i = j := by
  obtain ⟨h1, h2⟩ := h
  unfold suW at e
  split at e <;> split at e <;> omega
theorem it_cases {S : List Int} {z : Int} (h : okW z) : ∀ t, t < 1000 → okW (itW S z t) ∧ (itW S z t ∉ S ∨ (itW S z t = suW z t ∧ ∀ j < t, suW z j ∈ S))
  | 0, _ => by
    refine ⟨h, .inr ⟨?_, fun j hj => by omega⟩⟩
    obtain ⟨h1, h2⟩ := h
    show z = suW z 0
    unfold suW
    split <;> omega
  | t + 1, ht => by
    obtain ⟨ok, ih⟩ := it_cases h t (by omega)
    show okW (stepW S (itW S z t)) ∧ (stepW S (itW S z t) ∉ S ∨ _)
    by_cases m : itW S z t ∈ S
    · rcases ih with ih | ⟨e, ih⟩
      · exact absurd m ih
      · have e2 : stepW S (itW S z t) = suW z (t + 1) := by
          unfold stepW
          rw [if_pos m, e, succ_su h (by omega)]
        rw [e2]
        refine ⟨su_ok h ht, .inr ⟨e2, fun j hj => ?_⟩⟩
        rcases Nat.lt_or_ge j t with hj' | hj'
        · exact ih j hj'
        · rw [show j = t by omega, ← e]
          exact m
    · have e2 : stepW S (itW S z t) = itW S z t := by
        unfold stepW
        rw [if_neg m]
      rw [e2]
      exact ⟨ok, .inl m⟩
theorem sub_len {α : Type} [DecidableEq α] : ∀ {l S : List α}, l.Nodup → (∀ x ∈ l, x ∈ S) → l.length ≤ S.length
  | [], _, _, _ => Nat.zero_le _
  | x :: l, S, nd, h => by
    obtain ⟨h1, h2⟩ := List.nodup_cons.mp nd
    have hx := h x (List.mem_cons_self ..)
    have ih := sub_len (S := S.erase x) h2 fun y hy => (List.mem_erase_of_ne (fun e => h1 (by rw [← e]; exact hy))).mpr (h y (List.mem_cons_of_mem _ hy))
    have e := List.length_erase_of_mem hx
    have p := List.length_pos_of_mem hx
    rw [List.length_cons]
    omega
theorem it_new {S : List Int} {z : Int} {n : Nat} (h : okW z) (hn : n < 1000) (hS : S.length < n) : okW (itW S z n) ∧ itW S z n ∉ S := by
  obtain ⟨ok, c⟩ := it_cases (S := S) h n hn
  refine ⟨ok, ?_⟩
  rcases c with c | ⟨_, c⟩
  · exact c
  · exfalso
    have nd : ((List.range n).map (suW z)).Nodup := List.pairwise_iff_getElem.mpr fun i j hi hj hij e => by
      simp only [List.getElem_map, List.getElem_range] at e
      simp only [List.length_map, List.length_range] at hi hj
      have := su_inj h (by omega) (by omega) e
      omega
    have l := sub_len (S := S) nd fun x hx => by
      obtain ⟨j, hj, rfl⟩ := List.mem_map.mp hx
      exact c j (List.mem_range.mp hj)
    rw [List.length_map, List.length_range] at l
    omega
theorem it_low {S : List Int} {z : Int} (h0 : -1000 ≤ z) (h1 : z ≤ 100000) : ∀ t, t < 1000 → z ≤ itW S z t ∧ itW S z t ≤ z + t
  | 0, _ => ⟨Int.le_refl _, by show z ≤ z + 0; omega⟩
  | t + 1, ht => by
    have ih := it_low (S := S) h0 h1 t (by omega)
    show z ≤ stepW S (itW S z t) ∧ stepW S (itW S z t) ≤ _
    unfold stepW succW
    split
    · split <;> omega
    · omega
theorem step_sp {S : List Int} {z : Int} (h : okW z) : stepW S z = (if (if z ∈ S then z + 1 else z) > 1000000000000 then -1000000000000 else if z ∈ S then z + 1 else z) := by
  obtain ⟨h1, h2⟩ := h
  unfold stepW succW
  by_cases m : z ∈ S
  · rw [if_pos m, if_pos m]
  · rw [if_neg m, if_neg m, if_neg (by omega)]
def stBody : List Stmt := match (defBody s_law_stones)[4]? with
  | some (Stmt.For _ _ b _ _) => b
  | _ => []
def StJ (b p : Addr) (n : Nat) (style : Int) (H : Hp) (k : Nat) (σ' : St) (H' : Hp) : Prop := ∃ (S : List Int) (wt : Int) (x5 x6 : Option V), σ' = [some (.ref b), some (.int (n : Nat)), some (.int style), some (.ref p), some (.int wt), x5, x6] ∧ ExB b H H' ∧ PotAt H' b ∧ H' p = some (.lst (S.map V.int)) ∧ S.length = k ∧ (∀ z ∈ S, okW z) ∧ S.Nodup ∧ (style = 1 → -45 ≤ wt ∧ wt ≤ 15 + 60 * (k : Nat))
def spStones (K : PySem.W.Frag) : Sp := fun vs H Q _ => ∃ (b : Addr) (n : Nat), vs = [.ref b, .int (n : Nat)] ∧ PotAt H b ∧ n ≤ 50 ∧ ∀ (p : Addr) (ns : List Int) (H' : Hp), H p = none → ExB b H H' → PotAt H' b → H' p = some (.lst (ns.map V.int)) → ns.length = n → (∀ z ∈ ns, okW z) → ns.Nodup → Q (.ref p) H'
section
variable {P : Program} {w : World} {K : PySem.W.Frag} {mg : Str → Option Value} {base : Heap}
theorem cl_law_stones {f : Addr} {fd : FuncData} (F : At K mg "_law_stones" s_law_stones f fd) (nb : NoB mg) (cd : Cl P w K mg base CX0 1 "_law_draw" spDraw) : Cl P w K mg base CX0 2 "_law_stones" (spStones K) := by
  refine ⟨f, fd, _, F.fn.ok sc_law_stones (fun vs H Q E h => ?_) (fun cdv A outer sh H vs Q E hr h => ⟨_, wB.ps, ?_⟩), F.gl, F.fn.kp, F.fn.binds fun _ _ _ _ _ _ us hl => match us, hl with | [_, _], _ => rfl⟩
  · obtain ⟨b, n, rfl, _⟩ := h
    rfl
  obtain ⟨b, n, rfl, hb, hn, q⟩ := h
  refine b_cons (cs_set (i := 2) sc_law_stones.nd rfl (by first | exact .inl rfl | exact .inr rfl) (ce_draw cd hr (by decide) rfl (fun H1 Q hq => ce_nm 0 hq) pd_int hb (by decide) (by decide +kernel) fun style H1 s0 s1 e1 hb1 => ?_))
  refine b_cons (s_if (M := M0) alive0 (td_eq hr.units (nm 2 (.int style)) pd_int rfl rfl) (fun _ H2 x2 => ?_) (fun _ H2 x2 => b_nil ?_))
  · refine b_cons (cs_ret (ce_fd (M := M0) alive0 (fd_mapA natD_inj (fun k => .int ((k : Nat) + 1 : Int)) (l := List.range n) (t := .one 5) (own := [("k", 5)]) rfl sc_law_stones.nd (src_rangeN rfl nb.range (nm 1 (.int (n : Nat))) (by omega)) (blkOk_by (N := n_law_stones) (sc := defScope s_law_stones) (by decide +kernel)) (fun _ _ _ _ _ => pg_name (i := 5) sc_law_stones.nd rfl (.inl rfl)) (fun _ _ => trivial) ?_ (by rw [List.length_range]; omega) ?_) fun p ws H3 hp x3 h3 r3 => ?_))
    · rintro M H d σ' ⟨_, _, rfl⟩
      rfl
    · rintro s0 H0 C cl fp M' H' k σ' hM lift kp hk ⟨v', rv, rfl⟩
      exact pd_add (nm 5 rv) pd_int
    · have ew : ws = ((List.range n).map fun k : Nat => ((k : Nat) + 1 : Int)).map V.int := (show RpAll K M0 H3 ws (((List.range n).map fun k : Nat => ((k : Nat) + 1 : Int)).map PyData.int) by rw [List.map_map]; exact r3).of_ints
      subst ew
      have hb2 := hb1.ex x2
      refine q p _ H3 (fresh_backB (e1.trE x2) hb2 hp) ((e1.trE x2).trE x3) (hb2.ex x3) h3 (by rw [List.length_map, List.length_range]) (fun z hz => ?_) ?_
      · obtain ⟨k, hk, rfl⟩ := List.mem_map.mp hz
        have hk := List.mem_range.mp hk
        exact ⟨by omega, by omega⟩
      · refine List.pairwise_iff_getElem.mpr fun i j hi hj hij e => ?_
        simp only [List.getElem_map, List.getElem_range] at e
        omega
  have hb2 := hb1.ex x2
  refine b_cons (cs_set (i := 3) sc_law_stones.nd rfl (by first | exact .inl rfl | exact .inr rfl) (ce_fd (M := M0) alive0 (fd_lst ad_nil (by simp)) fun p ws H3 hp x3 h3 r3 => ?_))
  cases r3
  have bp : b ≠ p := hb2.ne hp
  have hp0 : H p = none := fresh_backB (e1.trE x2) hb2 hp
  refine b_cons (cs_set (i := 4) sc_law_stones.nd rfl (by first | exact .inl rfl | exact .inr rfl) (ce_sub (ce_draw cd hr (by decide) rfl (fun H1 Q hq => ce_nm 0 hq) pd_int (hb2.ex x3) (by decide) (by decide +kernel) fun z4 H4 z40 z41 e4 hb4 => ce_intC ⟨_, _, rfl, rfl, ?_⟩)))
  have h4 := e4 _ _ bp.symm h3
  have e04 := ((e1.trE x2).trE x3).trans e4
  refine b_cons (s_forRW (slot := 5) PassesOwn.never rfl sc_law_stones.nd rfl (.inl rfl) rfl nb.range (ce_nm 1 ⟨n, StJ b p n style H, rfl, by omega, ⟨[], _, none, none, rfl, e04, hb4, h4, rfl, fun _ z => absurd z List.not_mem_nil, List.nodup_nil, fun _ => ⟨by omega, by omega⟩⟩, ?_, ?_⟩))
  · rintro k σ' H' hk ⟨S, wt0, x5, x6, rfl, e, hb', hS, lS, okS, ndS, low0⟩
    have rS : ∀ {H2 : Hp}, H2 p = some (.lst (S.map V.int)) → Rp K M0 H2 (.ref p) (.list (S.map PyData.int)) := fun h => .lst (fun z => z) (.inl h) (.ints S)
    have fin : ∀ (D : Ends) (wt : Int) (x6 : Option V) (H2 : Hp), (∀ σ' H', StJ b p n style H (k + 1) σ' H' → D.nx σ' H') → okW wt → (style = 1 → -45 ≤ wt ∧ wt ≤ 15 + 60 * (k : Nat) + 10) → ExB b H H2 → PotAt H2 b → H2 p = some (.lst (S.map V.int)) → wB (cxOf CX0 P w K mg base n_law_stones "_law_stones" (defScope s_law_stones) f cdv A outer sh H E).nox (stBody.drop 2) D [some (.ref b), some (.int (n : Nat)), some (.int style), some (.ref p), some (.int wt), some (.int (k : Nat)), x6] H2 := by
      intro D wt x6 H2 hD okw low e2 hb2 hS2
      refine b_cons (s_forRW (slot := 6) PassesOwn.never rfl sc_law_stones.nd rfl (.inl rfl) rfl nb.range (ce_nm 1 ⟨n, fun t σ' H' => ∃ x6 : Option V, σ' = [some (.ref b), some (.int (n : Nat)), some (.int style), some (.ref p), some (.int (itW S wt t)), some (.int (k : Nat)), x6] ∧ Evl.Ex H2 H', rfl, by omega, ⟨x6, rfl, Evl.Ex.refl _⟩, ?_, ?_⟩))
      · rintro t σ' H' ht ⟨x6, rfl, ex⟩
        have okt := (it_cases (S := S) okw t (by omega)).1
        have sp := step_sp (S := S) okt
        have en : itW S wt (t + 1) = stepW S (itW S wt t) := rfl
        rw [← en] at sp
        obtain ⟨y, ey⟩ : ∃ y, itW S wt (t + 1) = y := ⟨_, rfl⟩
        rw [ey] at sp
        generalize itW S wt t = z at okt sp
        have hS' := ex _ _ hS2
        refine b_cons (s_if (M := M0) alive0 (td_in (nm 4 (.int z)) (nm 3 (rS hS'))) (fun hm H3 x3 => ?_) (fun hm H3 x3 => b_nil ?_))
        · have hm := of_decide_eq_true hm
          rw [if_pos hm] at sp
          refine b_cons (s_set (M := M0) (i := 4) (d := .int (z + 1)) alive0 sc_law_stones.nd rfl (by first | exact .inl rfl | exact .inr rfl) (pd_add (nm 4 (.int z)) pd_int) fun v4 H4 x4 r4 => b_nil ?_)
          cases r4
          refine b_cons (s_if (M := M0) (k := decide (z + 1 > 1000000000000)) alive0 (TD.is (td_gt (nm 4 (.int (z + 1))) (pd_pow pd_int pd_int ⟨by decide, by decide, by decide⟩)) (by rw [p12])) (fun hg H5 x5 => ?_) (fun hg H5 x5 => b_nil (b_nil ?_)))
          · rw [if_pos (of_decide_eq_true hg)] at sp
            refine b_cons (s_set (M := M0) (i := 4) (d := .int y) alive0 sc_law_stones.nd rfl (by first | exact .inl rfl | exact .inr rfl) (PD.is (pd_neg (pd_pow pd_int pd_int ⟨by decide, by decide, by decide⟩)) (by rw [p12, sp])) fun v6 H6 x6' r6 => b_nil (b_nil ?_))
            cases r6
            exact ⟨_, by rw [ey]; rfl, ex.trans (x3.trans (x4.trans (x5.trans x6')))⟩
          · rw [if_neg (of_decide_eq_false hg)] at sp
            exact ⟨_, by rw [ey, sp]; rfl, ex.trans (x3.trans (x4.trans x5))⟩
        · have hm := of_decide_eq_false hm
          rw [if_neg hm, if_neg (by obtain ⟨_, h2⟩ := okt; omega)] at sp
          refine b_cons (s_if (M := M0) (k := false) alive0 (TD.is (td_gt (nm 4 (.int z)) (pd_pow pd_int pd_int ⟨by decide, by decide, by decide⟩)) (by rw [p12]; exact decide_eq_false (by obtain ⟨_, h2⟩ := okt; omega))) (fun k => by cases k) (fun hg H5 x5 => b_nil (b_nil ⟨_, by rw [ey, sp]; rfl, ex.trans (x3.trans x5)⟩)))
      · rintro σ' H' ⟨x6, rfl, ex⟩
        obtain ⟨ok2, new⟩ := it_new (S := S) okw (show n < 1000 by omega) (by omega)
        have lw : style = 1 → -45 ≤ itW S wt n ∧ itW S wt n ≤ 15 + 60 * ((k + 1 : Nat) : Int) := fun hs => by
          obtain ⟨a1, a2⟩ := low hs
          obtain ⟨b1, b2⟩ := it_low (S := S) (z := wt) (by omega) (by omega) n (by omega)
          exact ⟨by omega, by omega⟩
        generalize itW S wt n = z at ok2 new lw
        have hS' := ex _ _ hS2
        refine b_cons (cs_expr (ce_append (ce_nm 3 ⟨p, _, rfl, hS', ce_nm 4 ⟨_, hS', (by rw [List.length_map]; omega), b_nil (hD _ _ ⟨S ++ [z], z, _, _, rfl, ?_, ?_, ?_, ?_, ?_, ?_, lw⟩)⟩⟩)))
        · intro x o nx h
          by_cases hx : x = p
          · rw [hx, hp0] at h
            cases h
          · rw [upd_ne hx]
            exact ex _ _ (e2 _ _ nx h)
        · obtain ⟨u, v, w', hh⟩ := hb2.ex ex
          exact ⟨u, v, w', by rw [upd_ne bp]; exact hh⟩
        · rw [upd_same, List.map_append]
          rfl
        · rw [List.length_append, lS]
          rfl
        · intro y hy
          rcases List.mem_append.mp hy with hy | hy
          · exact okS y hy
          · cases List.mem_singleton.mp hy
            exact ok2
        · refine List.nodup_append.mpr ⟨ndS, by simp, fun x hx y hy e => ?_⟩
          cases List.mem_singleton.mp hy
          exact new (e ▸ hx)
    have mid : ∀ (D : Ends) (wt : Int) (x6 : Option V) (H2 : Hp), (∀ σ' H', StJ b p n style H (k + 1) σ' H' → D.nx σ' H') → okW wt → (style = 1 → -45 ≤ wt ∧ wt ≤ 15 + 60 * (k : Nat) + 10) → ExB b H H2 → PotAt H2 b → H2 p = some (.lst (S.map V.int)) → wB (cxOf CX0 P w K mg base n_law_stones "_law_stones" (defScope s_law_stones) f cdv A outer sh H E).nox (stBody.drop 1) D [some (.ref b), some (.int (n : Nat)), some (.int style), some (.ref p), some (.int wt), some (.int (k : Nat)), x6] H2 := by
      intro D wt x6 H2 hD okw low e2 hb2 hS2
      refine b_cons (cs_if (ct_w (cw_and (ct_td (M := M0) alive0 (td_eq hr.units (nm 2 (.int style)) pd_int rfl rfl) fun H3 x3 => ⟨fun h3 => cw_and1 (ct_td (M := M0) alive0 (td_lt (nm 5 (.int (k : Nat))) pd_int) fun H4 x4 => ?_), fun _ => ?_⟩))))
      · rw [eqv_int] at h3
        have h3 := of_decide_eq_true h3
        have x34 := x3.trans x4
        by_cases hk2 : k < 2
        · rw [if_pos (decide_eq_true (by omega))]
          refine b_cons (s_set (M := M0) (i := 4) alive0 sc_law_stones.nd rfl (by first | exact .inl rfl | exact .inr rfl) (pd_mul (pd_sub pd_int (pd_mul pd_int (nm 5 (.int (k : Nat))) (.inl (by decide)))) (pd_pow pd_int pd_int ⟨by decide, by decide, by decide⟩) (.inl ⟨by omega, by omega⟩)) fun v5 H5 x5' r5 => b_nil ?_)
          cases r5
          have x35 := x34.trans x5'
          refine fin D _ x6 H5 hD ?_ (fun z => by omega) (e2.trE x35) (hb2.ex x35) (x35 _ _ hS2)
          rw [p12]
          exact ⟨by omega, by omega⟩
        · rw [if_neg (fun z => hk2 (by have := of_decide_eq_true z; omega))]
          exact b_nil (fin D wt x6 H4 hD okw low (e2.trE x34) (hb2.ex x34) (x34 _ _ hS2))
      · rw [if_neg (by decide)]
        exact b_nil (fin D wt x6 H3 hD okw low (e2.trE x3) (hb2.ex x3) (x3 _ _ hS2))
    refine b_cons (s_if (M := M0) alive0 (td_eq hr.units (nm 2 (.int style)) pd_int rfl rfl) (fun hs H2 x2' => ?_) (fun hs H2 x2' => ?_))
    · rw [eqv_int] at hs
      have hs := of_decide_eq_true hs
      obtain ⟨l1, l2⟩ := low0 hs
      refine b_cons (cs_set (i := 4) sc_law_stones.nd rfl (by first | exact .inl rfl | exact .inr rfl) (ce_add (ce_pd (M := M0) (d := .int (wt0 + 1)) alive0 (pd_add (nm 4 (.int wt0)) pd_int) fun v3 H3 x3' r3 => ce_draw cd hr (by decide) rfl (fun H1 Q hq => ce_nm 0 hq) pd_int (hb'.ex (x2'.trans x3')) (by decide) (by decide +kernel) fun z H4 z0 z1 e4' hb4' => ⟨wt0 + 1, z, by cases r3; rfl, rfl, b_nil ?_⟩)))
      have x23 := x2'.trans x3'
      exact mid _ _ x6 H4 (fun _ _ h => h) ⟨by omega, by omega⟩ (fun _ => ⟨by omega, by omega⟩) ((e.trE x23).trans e4') hb4' (e4' _ _ bp.symm (x23 _ _ hS))
    · refine b_cons (cs_set (i := 4) sc_law_stones.nd rfl (by first | exact .inl rfl | exact .inr rfl) (ce_sub (ce_draw cd hr (by decide) rfl (fun H1 Q hq => ce_nm 0 hq) (PD.is (pd_add (pd_mul pd_int (pd_pow pd_int pd_int ⟨by decide, by decide, by decide⟩) (.inl (by decide))) pd_int) (show PyData.int _ = .int 2000000000001 by rw [p12]; rfl)) (hb'.ex x2') (by decide) (by decide +kernel) fun z H4 z0 z1 e4' hb4' => ce_pd (M := M0) (d := .int 1000000000000) alive0 (PD.is (pd_pow pd_int pd_int ⟨by decide, by decide, by decide⟩) (by rw [p12])) fun v5 H5 x5' r5 => ⟨z, 1000000000000, rfl, by cases r5; rfl, b_nil ?_⟩)))
      exact mid _ _ x6 H5 (fun _ _ h => h) ⟨by omega, by omega⟩ (fun z => by rw [eqv_int, z] at hs; cases hs) (((e.trE x2').trans e4').trE x5') (hb4'.ex x5') (x5' _ _ (e4' _ _ bp.symm (x2' _ _ hS)))
  · rintro σ' H' ⟨S, wt, x5, x6, rfl, e, hb', hS, lS, okS, ndS, low⟩
    have rS : Rp K M0 H' (.ref p) (.list (S.map PyData.int)) := .lst (fun z => z) (.inl hS) (.ints S)
    have pm : (S.mergeSort fun a b => decide (a ≤ b)).Perm S := List.mergeSort_perm _ _
    have so : (S.mergeSort fun a b => decide (a ≤ b)).Pairwise (· ≤ ·) := by
      have h := List.pairwise_mergeSort (le := fun a b : Int => decide (a ≤ b)) (fun a b c h1 h2 => decide_eq_true (Int.le_trans (of_decide_eq_true h1) (of_decide_eq_true h2))) (fun a b => by
        rcases Int.le_total a b with h | h
        · simp [h]
        · simp [h]) S
      exact h.imp fun h => of_decide_eq_true h
    generalize (S.mergeSort fun a b => decide (a ≤ b)) = out at pm so
    refine b_cons (cs_ret (ce_fd (M := M0) alive0 (fd_sortL rfl nb.sorted (nm 3 rS) (by omega) so pm) fun p2 w2 H5 hp2 x5' h5 r5 => ?_))
    have ew : w2 = out.map V.int := r5.of_ints
    subst ew
    exact q p2 out H5 (fresh_backB e hb' hp2) (e.trE x5') (hb'.ex x5') h5 (pm.length_eq.trans lS) (fun z hz => okS z (pm.mem_iff.mp hz)) (pm.nodup_iff.mpr ndS)
end
end IK

namespace IK
open PySem PySem.Spec PyProof.Rows L2 GV
/-! ### any order -/
structure FlV {α : Type} (gV : α → V) (gD : α → PyData) : Prop where
  rp : ∀ {K : PySem.W.Frag} {M : Addr → Prop} {H : Hp} (a : α), Rp K M H (gV a) (gD a)
  inv : ∀ {K : PySem.W.Frag} {M : Addr → Prop} {H : Hp} {v : V} {a : α}, Rp K M H v (gD a) → v = gV a
theorem flvI : FlV V.int PyData.int := ⟨fun i => .int i, fun r => by cases r; rfl⟩
theorem flvS : FlV V.str PyData.str := ⟨fun i => .str i, fun r => by cases r; rfl⟩
section
variable {α : Type} {gV : α → V} {gD : α → PyData} {K : PySem.W.Frag} {M : Addr → Prop} {H : Hp}
theorem FlV.all (h : FlV gV gD) : ∀ l : List α, RpAll K M H (l.map gV) (l.map gD)
  | [] => .nil
  | a :: l => .cons (h.rp a) (h.all l)
theorem FlV.of (h : FlV gV gD) : ∀ {l : List α} {ws : List V}, RpAll K M H ws (l.map gD) → ws = l.map gV
  | [], _, .nil => rfl
  | a :: l, _, .cons r rs => by
    rw [h.inv r, h.of rs]
    rfl
end
def spOrd {α : Type} (gV : α → V) : Sp := fun vs H Q _ => ∃ (b a : Addr) (l : List α), vs = [.ref b, .ref a] ∧ PotAt H b ∧ H a = some (.lst (l.map gV)) ∧ a ≠ b ∧ l.length ≤ 100 ∧ ∀ (p : Addr) (l' : List α) (H' : Hp), H p = none → ExB b H H' → PotAt H' b → H' p = some (.lst (l'.map gV)) → l'.Perm l → Q (.ref p) H'
theorem move_perm {α : Type} {ws rs l : List α} {x : α} {i : Nat} (h : (ws ++ rs).Perm l) (hx : rs[i]? = some x) : (ws ++ [x] ++ (rs.take i ++ rs.drop (i + 1))).Perm l := by
  obtain ⟨hi, ex⟩ := List.getElem?_eq_some_iff.mp hx
  have e : rs = rs.take i ++ x :: rs.drop (i + 1) := by
    rw [← ex, ← List.drop_eq_getElem_cons hi, List.take_append_drop]
  refine List.Perm.trans ?_ h
  rw [List.append_assoc]
  refine List.Perm.append_left ws ?_
  conv => rhs; rw [e]
  show (x :: (rs.take i ++ rs.drop (i + 1))).Perm _
  exact List.perm_middle.symm
section
variable {P : Program} {w : World} {K : PySem.W.Frag} {mg : Str → Option Value} {base : Heap}
theorem cl_law_order {α : Type} {gV : α → V} {gD : α → PyData} (fl : FlV gV gD) {f : Addr} {fd : FuncData} (F : At K mg "_law_order" s_law_order f fd) (nb : NoB mg) (cd : Cl P w K mg base CX0 1 "_law_draw" spDraw) : Cl P w K mg base CX0 2 "_law_order" (spOrd gV) := by
  refine ⟨f, fd, _, F.fn.ok sc_law_order (fun vs H Q E h => ?_) (fun cdv A outer sh H vs Q E hr h => ⟨_, wB.ps, ?_⟩), F.gl, F.fn.kp, F.fn.binds fun _ _ _ _ _ _ us hl => match us, hl with | [_, _], _ => rfl⟩
  · obtain ⟨b, a, l, rfl, _⟩ := h
    rfl
  obtain ⟨b, a, l, rfl, hb, ha, ab, hl, q⟩ := h
  have rA : ∀ {H2 : Hp} {c : Addr} {ks : List α}, H2 c = some (.lst (ks.map gV)) → Rp K M0 H2 (.ref c) (.list (ks.map gD)) := fun h => .lst (fun z => z) (.inl h) (fl.all _)
  have lnA : ∀ ks : List α, lenD (.list (ks.map gD)) = some ks.length := fun ks => by show some _ = _; rw [List.length_map]
  refine b_cons (cs_set (i := 2) sc_law_order.nd rfl (by first | exact .inl rfl | exact .inr rfl) (ce_fd (M := M0) alive0 (fd_listOf rfl nb.list (nm 1 (rA ha)) rfl) fun pr wr H1 hpr x1 h1 r1 => ?_))
  have ewr := fl.of r1
  subst ewr
  refine b_cons (cs_set (i := 3) sc_law_order.nd rfl (by first | exact .inl rfl | exact .inr rfl) (ce_fd (M := M0) alive0 (fd_lst ad_nil (by simp)) fun pw ww H2 hpw x2 h2 r2 => ?_))
  cases r2
  have x12 := x1.trans x2
  have hpw0 : H pw = none := Evl.fresh_back x1 hpw
  have bw : b ≠ pw := hb.ne hpw0
  have hb2 := hb.ex x12
  have rw_ne : pr ≠ pw := fun e => by
    rw [← e, h1] at hpw
    cases hpw
  refine b_cons (s_forRW (slot := 4) PassesOwn.never rfl sc_law_order.nd rfl (.inl rfl) rfl nb.range (ce_pd (M := M0) alive0 (pd_len nb rfl (nm 1 (rA (x12 _ _ ha))) (lnA l)) fun v3 H3 x3 r3 => ?_))
  cases r3
  have x13 := x12.trans x3
  refine ⟨l.length, fun i σ' H' => ∃ (ws rs : List α) (pr : Addr) (x4 x5 : Option V), σ' = [some (.ref b), some (.ref a), some (.ref pr), some (.ref pw), x4, x5] ∧ ExB b H H' ∧ PotAt H' b ∧ H' pr = some (.lst (rs.map gV)) ∧ H' pw = some (.lst (ws.map gV)) ∧ pr ≠ pw ∧ pr ≠ b ∧ (ws ++ rs).Perm l ∧ ws.length = i, rfl, by omega, ⟨[], l, pr, none, none, rfl, .of x13, hb.ex x13, x3 _ _ (x2 _ _ h1), x3 _ _ h2, rw_ne, (hb.ne hpr).symm, .refl _, rfl⟩, ?_, ?_⟩
  · rintro i σ' H' hi ⟨ws, rs, pr, x4, x5, rfl, e, hb', hr', hw', n1, n2, pm, lw⟩
    have lr : rs.length = l.length - i := by
      have := pm.length_eq
      rw [List.length_append] at this
      omega
    have rB : ∀ {H2 : Hp}, H2 pr = some (.lst (rs.map gV)) → Rp K (Ma b) H2 (.ref pr) (.list (rs.map gD)) := fun h => .lst n2 (.inl h) (fl.all _)
    refine b_cons (cs_set (i := 5) sc_law_order.nd rfl (by first | exact .inl rfl | exact .inr rfl) (ce_draw cd hr (by decide) rfl (fun H1 Q hq => ce_nm 0 hq) (pd_len nb rfl (nm 2 (rB hr')) (lnA rs)) hb' (by omega) (n8000 (by omega) (by omega)) fun z H3 z0 z1 e3 hb3 => ?_))
    obtain ⟨j, rfl⟩ : ∃ j : Nat, z = (j : Nat) := ⟨z.toNat, by omega⟩
    have hr3 := e3 _ _ n2 hr'
    have hw3 := e3 _ _ bw.symm hw'
    obtain ⟨x, hx⟩ : ∃ x, rs[j]? = some x := ⟨_, List.getElem?_eq_getElem (show j < rs.length by omega)⟩
    refine b_cons (cs_expr (ce_append (ce_nm 3 ⟨pw, _, rfl, hw3, ce_pd (M := M0) (d := gD x) alive0 (pd_ix (nm 2 (rA hr3)) (nm 5 (.int (j : Nat))) (ixD_list (by rw [List.getElem?_map, hx]; rfl))) fun vx H4 x4' r4 => ⟨_, x4' _ _ hw3, (by rw [List.length_map]; omega), ?_⟩⟩)))
    have ev := fl.inv r4
    subst ev
    have e5 : ExB b H (upd H4 pw (.lst (ws.map gV ++ [gV x]))) := fun y o ny h => by
      by_cases hy : y = pw
      · rw [hy, hpw0] at h
        cases h
      · rw [upd_ne hy]
        exact x4' _ _ (e3 _ _ ny (e _ _ ny h))
    have hb5 : PotAt (upd H4 pw (.lst (ws.map gV ++ [gV x]))) b := by
      obtain ⟨u, v, w', hh⟩ := hb3.ex x4'
      exact ⟨u, v, w', by rw [upd_ne bw]; exact hh⟩
    have hw5 : (upd H4 pw (.lst (ws.map gV ++ [gV x]))) pw = some (.lst ((ws ++ [x]).map gV)) := by
      rw [upd_same, List.map_append]
      rfl
    have hr5 : (upd H4 pw (.lst (ws.map gV ++ [gV x]))) pr = some (.lst (rs.map gV)) := by
      rw [upd_ne n1]
      exact x4' _ _ hr3
    generalize upd H4 pw (.lst (ws.map gV ++ [gV x])) = H5 at e5 hb5 hw5 hr5
    refine b_cons (cs_set (i := 2) sc_law_order.nd rfl (by first | exact .inl rfl | exact .inr rfl) (ce_fd (M := M0) alive0 (fd_cat (FD.pd (fd_slice (nm 2 (rA hr5)) od_none (od_some (nm 5 (.int (j : Nat)))))) (FD.pd (fd_slice (nm 2 (rA hr5)) (od_some (PD.is (pd_add (nm 5 (.int (j : Nat))) pd_int) (congrArg PyData.int (show ((j : Nat) : Int) + 1 = ((j + 1 : Nat) : Int) by omega)))) od_none)) (by rw [cutD_take, cutD_drop, List.length_take, List.length_drop, List.length_map]; omega)) fun p6 w6 H6 hp6 x6 h6 r6 => b_nil ?_))
    have e6 : w6 = (rs.take j ++ rs.drop (j + 1)).map gV := fl.of (by rw [List.map_append, List.map_take, List.map_drop, ← cutD_take, ← cutD_drop]; exact r6)
    subst e6
    refine ⟨ws ++ [x], rs.take j ++ rs.drop (j + 1), p6, _, _, rfl, e5.trE x6, hb5.ex x6, h6, x6 _ _ hw5, fun z => ?_, fun z => ?_, move_perm pm hx, by rw [List.length_append, lw]; rfl⟩
    · rw [z, hw5] at hp6
      cases hp6
    · exact hb5.ne hp6 z.symm
  · rintro σ' H' ⟨ws, rs, pr, x4, x5, rfl, e, hb', hr', hw', n1, n2, pm, lw⟩
    have e0 : rs = [] := by
      have := pm.length_eq
      rw [List.length_append] at this
      exact List.eq_nil_of_length_eq_zero (by omega)
    subst e0
    rw [List.append_nil] at pm
    exact b_cons (cs_ret (ce_nm 3 (q pw ws H' hpw0 e hb' hw' pm)))
def firstsL : List Nat := [1, 2, 33, 5, 3, 9, 10, 18, 7, 11, 13, 14, 19, 21, 15, 27, 45, 30, 23, 29, 62, 61, 63]
theorem firsts_ok : ∀ n ∈ firstsL, 1 ≤ n ∧ n < 64 := by decide
def spHouse : Sp := fun vs H Q _ => ∃ b : Addr, vs = [.ref b] ∧ PotAt H b ∧ ∀ (n : Nat) H', 1 ≤ n → n < 64 → ExB b H H' → PotAt H' b → Q (.int (n : Nat)) H'
theorem cl_law_house {f : Addr} {fd : FuncData} (F : At K mg "_law_house" s_law_house f fd) (nb : NoB mg) (cd : Cl P w K mg base CX0 1 "_law_draw" spDraw) : Cl P w K mg base CX0 2 "_law_house" spHouse := by
  refine ⟨f, fd, _, F.fn.ok sc_law_house (fun vs H Q E h => ?_) (fun cdv A outer sh H vs Q E hr h => ⟨_, wB.ps, ?_⟩), F.gl, F.fn.kp, F.fn.binds fun _ _ _ _ _ _ us hl => match us, hl with | [_], _ => rfl⟩
  · obtain ⟨b, rfl, _⟩ := h
    rfl
  obtain ⟨b, rfl, hb, q⟩ := h
  refine b_cons (cs_if (ct_eq hr.units (ce_draw cd hr (by decide) rfl (fun H1 Q hq => ce_nm 0 hq) pd_int hb (by decide) (by decide +kernel) fun z1 H1 z10 z11 e1 hb1 => ce_intC ⟨.int z1, .int 0, (Rp.int (M := M0) _).dp, (Rp.int (M := M0) _).dp, rfl, rfl, ?_⟩)))
  by_cases hz : PyData.eqv (.int z1) (.int 0) = true
  · rw [if_pos hz]
    refine b_cons (s_set (M := Ma b) (i := 1) (d := .list (firstsL.map natD)) (al_pot hb1) sc_law_house.nd rfl (by first | exact .inl rfl | exact .inr rfl) (FD.pd (fd_lst (ds := firstsL.map natD) (ad_cons pd_int (ad_cons pd_int (ad_cons pd_int (ad_cons pd_int (ad_cons pd_int (ad_cons pd_int (ad_cons pd_int (ad_cons pd_int (ad_cons pd_int (ad_cons pd_int (ad_cons pd_int (ad_cons pd_int (ad_cons pd_int (ad_cons pd_int (ad_cons pd_int (ad_cons pd_int (ad_cons pd_int (ad_cons pd_int (ad_cons pd_int (ad_cons pd_int (ad_cons pd_int (ad_cons pd_int (ad_cons pd_int (ad_nil)))))))))))))))))))))))) (by simp [firstsL]))) fun v2 H2 x2 r2 => ?_)
    refine b_cons (cs_ret (ce_ix (ce_nm 1 (ce_draw cd hr (by decide) rfl (fun H1 Q hq => ce_nm 0 hq) pd_int (hb1.ex x2) (by decide) (by decide +kernel) fun z3 H3 z30 z31 e3 hb3 => ?_))))
    obtain ⟨n, hn⟩ : ∃ n, firstsL[z3.toNat]? = some n := ⟨_, List.getElem?_eq_getElem (show z3.toNat < 23 by omega)⟩
    obtain ⟨n1, n2⟩ := firsts_ok n (List.mem_of_getElem? hn)
    refine rIx_of (M := Ma b) (da := .list (firstsL.map natD)) (d := natD n) (r2.mono (fun _ z => z) e3.exM) (by rw [show z3 = ((z3.toNat : Nat) : Int) by omega]; exact ixD_list (by rw [List.getElem?_map, hn]; rfl)) fun vX rX => ?_
    cases rX
    exact q n H3 n1 n2 ((e1.trE x2).trans e3) hb3
  · rw [if_neg hz]
    refine b_nil (b_cons (cs_ret (ce_add (ce_intC (ce_draw cd hr (by decide) rfl (fun H1 Q hq => ce_nm 0 hq) pd_int hb1 (by decide) (by decide +kernel) fun z3 H3 z30 z31 e3 hb3 => ⟨_, _, rfl, rfl, ?_⟩)))))
    obtain ⟨n, hn⟩ : ∃ n : Nat, 1 + z3 = (n : Nat) := ⟨(1 + z3).toNat, by omega⟩
    rw [hn]
    exact q n H3 (by omega) (by omega) (e1.trans e3) hb3
end
end IK

namespace IK
open PySem PySem.Spec PyProof.Rows L2 GV
/-! ### the kinds, told by the law -/
theorem ex_upd {H H' : Hp} {p : Addr} {o : HO} (x : Evl.Ex H H') (hp : H p = none) : Evl.Ex H (upd H' p o) := fun a u h => by
  rw [upd_ne (fun e => by rw [e, hp] at h; cases h)]
  exact x _ _ h
def kkTo (ns : List Int) (p i : Nat) : List Nat := (thirds i p).map (kAt ns p)
theorem kkTo_succ (ns : List Int) (p i : Nat) : kkTo ns p (i + 1) = kkTo ns p i ++ (if (decide (i ≠ p) && decide (i ≠ p + 1)) = true then [kAt ns p i] else []) := by
  unfold kkTo thirds
  rw [List.range_succ, List.filter_append, List.map_append]
  congr 1
  rw [List.filter_cons]
  split <;> rfl
theorem kd_of {z lo hi : Int} {late : Bool} (h1 : z ≠ lo) (h2 : z ≠ hi) (h : lo ≤ hi) : ((if decide (z > lo) = true then (1 : Int) else 0) + (if decide (z > hi) = true then 1 else 0)) + 3 * (if late = true then 1 else 0) = ((kd z lo hi late : Nat) : Int) := by
  unfold kd
  by_cases a : z < lo
  · rw [if_pos a, if_neg (by rw [decide_eq_true_eq]; omega), if_neg (by rw [decide_eq_true_eq]; omega)]
    cases late <;> rfl
  · rw [if_neg a, if_pos (decide_eq_true (by omega))]
    by_cases b : z < hi
    · rw [if_pos b, if_neg (by rw [decide_eq_true_eq]; omega)]
      cases late <;> rfl
    · rw [if_neg b, if_pos (decide_eq_true (by omega))]
      cases late <;> rfl
def kiBody : List Stmt := match (defBody s_law_kinds)[3]? with
  | some (Stmt.For _ _ [.If _ b _ _] _ _) => b
  | _ => []
def presB (ns : List Int) (p : Nat) (k : Nat) : Bool := decide (k ∈ kLs ns p)
def sixB (f : Nat → Bool) : List PyData := (List.range 6).map fun k => PyData.bool (f k)
def sixV (f : Nat → Bool) : List V := (List.range 6).map fun k => V.bl (f k)
theorem six_rp {K : PySem.W.Frag} {M : Addr → Prop} {H : Hp} (f : Nat → Bool) : RpAll K M H (sixV f) (sixB f) := by
  unfold sixV sixB
  generalize List.range 6 = l
  induction l with
  | nil => exact .nil
  | cons a l ih => exact .cons (.bl _) ih
theorem six_of {K : PySem.W.Frag} {M : Addr → Prop} {H : Hp} {f : Nat → Bool} {ws : List V} (r : RpAll K M H ws (sixB f)) : ws = sixV f := by
  unfold sixB at r
  unfold sixV
  generalize List.range 6 = l at r
  induction l generalizing ws with
  | nil => cases r; rfl
  | cons a l ih =>
    cases r with
    | cons r rs =>
      cases r
      rw [ih rs]
      rfl
theorem six_set {f : Nat → Bool} {k : Nat} (hk : k < 6) : (sixV f).set k (.bl true) = sixV fun j => f j || decide (j = k) := by
  unfold sixV
  apply List.ext_getElem
  · simp
  · intro i h1 h2
    simp only [List.length_set, List.length_map, List.length_range] at h1
    rw [List.getElem_set]
    simp only [List.getElem_map, List.getElem_range]
    split
    · rename_i e
      rw [decide_eq_true e.symm, Bool.or_true]
    · rename_i e
      rw [decide_eq_false (fun z => e z.symm), Bool.or_false]
theorem six_ix {f : Nat → Bool} {k : Nat} (hk : k < 6) : ixD (.list (sixB f)) (natD k) = some (.bool (f k)) := ixD_list (by
  unfold sixB
  rw [List.getElem?_map, List.getElem?_range hk]
  rfl)
theorem ix_sq {tp : Bool} {ns : List Int} {i : Nat} (h : i < ns.length) : ixD (sqD tp (ns.map PyData.int)) (natD i) = some (.int (ns.getD i 0)) := by
  have e : (ns.map PyData.int)[i]? = some (.int (ns.getD i 0)) := by
    rw [List.getElem?_map, List.getD_eq_getElem?_getD, List.getElem?_eq_getElem h]
    rfl
  cases tp <;> exact atI_nat e
def bit (n k : Nat) : Bool := decide (n / 2 ^ k % 2 = 1)
def R_lk (ds es : List PyData) : Prop := ∃ (tp : Bool) (ns : List Int) (p : Nat), p + 1 < ns.length ∧ ns.length ≤ 60 ∧ ns.Nodup ∧ ds = [sqD tp (ns.map PyData.int), natD p] ∧ es = sixB (presB ns p)
def freeB (n : Nat) (ns : List Int) (p : Nat) : Bool := (List.range 6).any fun k => bit n k && presB ns p k
def R_lf (ds : List PyData) (d : PyData) : Prop := ∃ (tp : Bool) (ns : List Int) (p n : Nat), p + 1 < ns.length ∧ ns.length ≤ 60 ∧ ns.Nodup ∧ ds = [sqD tp (ns.map PyData.int), natD p, natD n] ∧ d = .bool (freeB n ns p)
def R_lnm (ds es : List PyData) : Prop := ∃ f : Nat → Bool, ds = [.list (sixB f)] ∧ es = ((List.range 6).filter f).map fun k => PyData.str (ordK.getD k "")
def R_lnd (ds es : List PyData) : Prop := ∃ n : Nat, ds = [natD n] ∧ es = sixB (bit n)
def R_lco (ds es : List PyData) : Prop := ∃ (f : Nat → Bool) (n : Nat), ds = [.list (sixB f), natD n] ∧ es = ((List.range 6).filter fun k => f k && bit n k).map natD
def helpL (n : Nat) (ns : List Int) (p i : Nat) : List Int := ((thirds i p).filter fun j => bit n (kAt ns p j)).map fun j => ns.getD j 0
def R_lh (ds es : List PyData) : Prop := ∃ (tp : Bool) (ns : List Int) (p n : Nat), p + 1 < ns.length ∧ ns.length ≤ 60 ∧ ns.Nodup ∧ ds = [sqD tp (ns.map PyData.int), natD p, natD n] ∧ es = (helpL n ns p ns.length).map PyData.int
theorem third_iff (i p : Nat) : (decide (((i : Nat) : Int) < ((p : Nat) : Int)) || decide ((((p : Nat) : Int) + 1) < ((i : Nat) : Int))) = (decide (i ≠ p) && decide (i ≠ p + 1)) := by
  rw [Bool.eq_iff_iff]
  simp only [Bool.or_eq_true, Bool.and_eq_true, decide_eq_true_eq]
  omega
theorem neq_of {ns : List Int} {i j : Nat} (nd : ns.Nodup) (hi : i < ns.length) (hj : j < ns.length) (hij : i ≠ j) : ns.getD i 0 ≠ ns.getD j 0 := fun e => by
  rw [List.getD_eq_getElem?_getD, List.getD_eq_getElem?_getD, List.getElem?_eq_getElem hi, List.getElem?_eq_getElem hj] at e
  exact hij ((List.getElem_inj nd).mp e)
theorem kind_of {ns : List Int} {p i : Nat} (nd : ns.Nodup) (hp : p + 1 < ns.length) (hi : i < ns.length) (h : (decide (i ≠ p) && decide (i ≠ p + 1)) = true) : ((if decide (ns.getD i 0 > lo2 ns p) = true then (1 : Int) else 0) + (if decide (ns.getD i 0 > hi2 ns p) = true then 1 else 0)) + 3 * (if decide (p < i) = true then 1 else 0) = ((kAt ns p i : Nat) : Int) := by
  rw [Bool.and_eq_true, decide_eq_true_eq, decide_eq_true_eq] at h
  have n1 := neq_of nd hi (show p < ns.length by omega) h.1
  have n2 := neq_of nd hi hp h.2
  exact kd_of (by unfold lo2; omega) (by unfold hi2; omega) (by unfold lo2 hi2; omega)
section
variable {P : Program} {w : World} {K : PySem.W.Frag} {mg : Str → Option Value} {base : Heap}
theorem cl_law_kinds {f : Addr} {fd : FuncData} (F : At K mg "_law_kinds" s_law_kinds f fd) (nb : NoB mg) : Cl P w K mg base CX0 1 "_law_kinds" (FreshR K R_lk) := by
  refine ⟨f, fd, _, F.fn.ok sc_law_kinds (fun vs H Q E h => ?_) (fun cdv A outer sh H vs Q E hr h => ⟨_, wB.ps, ?_⟩), F.gl, F.fn.kp, F.fn.binds fun _ _ _ _ _ _ us hl => match us, hl with | [_, _], _ => rfl⟩
  · obtain ⟨M, ds, es, al, r, ⟨_, _, _, _, _, _, rfl, _⟩, _⟩ := h
    rw [r.length]
    rfl
  obtain ⟨M, ds, es, al, r, ⟨tp, ns, p, hp, hl, nd, rfl, rfl⟩, q⟩ := h
  obtain ⟨u, v, rfl, r1, r2⟩ := rpa2 r
  cases r2
  have p1 : ((p : Nat) : Int) + 1 = ((p + 1 : Nat) : Int) := by omega
  refine b_cons (s_set (M := M) (i := 2) (d := .int (lo2 ns p)) al sc_law_kinds.nd rfl (by first | exact .inl rfl | exact .inr rfl) (pd_min2 rfl nb.min (pd_ix (nm 0 r1) (nm 1 (.int (p : Nat))) (ix_sq (by omega))) (pd_ix (nm 0 r1) (PD.is (pd_add (nm 1 (.int (p : Nat))) pd_int) (congrArg PyData.int p1)) (ix_sq hp))) fun v1 H1 x1 r1' => ?_)
  cases r1'
  have ra := r1.mono (fun _ z => z) (ExM.of x1)
  refine b_cons (s_set (M := M) (i := 3) (d := .int (hi2 ns p)) (al.mono x1) sc_law_kinds.nd rfl (by first | exact .inl rfl | exact .inr rfl) (pd_max2 rfl nb.max (pd_ix (nm 0 ra) (nm 1 (.int (p : Nat))) (ix_sq (by omega))) (pd_ix (nm 0 ra) (PD.is (pd_add (nm 1 (.int (p : Nat))) pd_int) (congrArg PyData.int p1)) (ix_sq hp))) fun v2 H2 x2 r2' => ?_)
  cases r2'
  have x12 := x1.trans x2
  refine b_cons (cs_set (i := 4) sc_law_kinds.nd rfl (by first | exact .inl rfl | exact .inr rfl) (ce_fd (M := M) (al.mono x12) (fd_lst (ad_cons pd_bl (ad_cons pd_bl (ad_cons pd_bl (ad_cons pd_bl (ad_cons pd_bl (ad_cons pd_bl ad_nil)))))) (by simp)) fun pp wp H3 hpp x3 h3 r3 => ?_))
  have ewp : wp = sixV fun _ => false := six_of (f := fun _ => false) r3
  subst ewp
  have hpp0 : H pp = none := Evl.fresh_back x12 hpp
  have x13 := x12.trans x3
  have rb := r1.mono (fun _ z => z) (ExM.of x13)
  have ln : lenD (sqD tp (ns.map PyData.int)) = some ns.length := by rw [len_sq, List.length_map]
  refine b_cons (s_forRW (slot := 5) PassesOwn.never rfl sc_law_kinds.nd rfl (.inl rfl) rfl nb.range (ce_pd (M := M) (al.mono x13) (pd_len nb rfl (nm 0 rb) ln) fun v4 H4 x4 r4 => ?_))
  cases r4
  refine ⟨ns.length, fun i σ' H' => ∃ x5 x6 : Option V, σ' = [some u, some (.int (p : Nat)), some (.int (lo2 ns p)), some (.int (hi2 ns p)), some (.ref pp), x5, x6] ∧ Evl.Ex H H' ∧ H' pp = some (.lst (sixV fun k => decide (k ∈ kkTo ns p i))), rfl, by omega, ⟨none, none, rfl, x13.trans x4, x4 _ _ h3⟩, ?_, ?_⟩
  · rintro i σ' H' hi ⟨x5, x6, rfl, ex, hw⟩
    have rc := r1.mono (fun _ z => z) (ExM.of ex)
    refine b_cons (s_if (M := M) (k := decide (i ≠ p) && decide (i ≠ p + 1)) (al.mono ex) (TD.is (WD.td (wd_or (td_lt (nm 5 (.int (i : Nat))) (nm 1 (.int (p : Nat)))) fun _ => wd_or1 (td_gt (nm 5 (.int (i : Nat))) (pd_add (nm 1 (.int (p : Nat))) pd_int)))) (third_iff i p)) (fun hk H6 x6' => ?_) (fun hk H6 x6' => b_nil (b_nil ⟨_, _, rfl, ex.trans x6', by rw [kkTo_succ, hk, if_neg (by decide), List.append_nil]; exact x6' _ _ hw⟩)))
    have ex6 := ex.trans x6'
    have rd := r1.mono (fun _ z => z) (ExM.of ex6)
    have kdE := kind_of nd hp hi hk
    obtain ⟨kk, hkk⟩ : ∃ kk : Int, (if decide (ns.getD i 0 > lo2 ns p) = true then (1 : Int) else 0) + (if decide (ns.getD i 0 > hi2 ns p) = true then 1 else 0) = kk := ⟨_, rfl⟩
    rw [hkk] at kdE
    have fin : ∀ (D : Ends) (H8 : Hp), Evl.Ex H H8 → H8 pp = some (.lst (sixV fun k => decide (k ∈ kkTo ns p i))) → (∀ H9, Evl.Ex H H9 → H9 pp = some (.lst (sixV fun k => decide (k ∈ kkTo ns p (i + 1)))) → D.nx [some u, some (.int (p : Nat)), some (.int (lo2 ns p)), some (.int (hi2 ns p)), some (.ref pp), some (.int (i : Nat)), some (.int (kAt ns p i : Nat))] H9) → wB (cxOf CX0 P w K mg base n_law_kinds "_law_kinds" (defScope s_law_kinds) f cdv A outer sh H E).nox (kiBody.drop 2) D [some u, some (.int (p : Nat)), some (.int (lo2 ns p)), some (.int (hi2 ns p)), some (.ref pp), some (.int (i : Nat)), some (.int (kAt ns p i : Nat))] H8 := by
      intro D H8 e8 h8 hD
      refine b_cons (cs_sub (ce_pd (M := M0) alive0 pd_bl fun v9 H9 x9 r9 => ce_nm 4 (ce_nm 6 ?_)))
      cases r9
      have k6 := kAt_lt ns p i
      refine ⟨pp, _, _, kAt ns p i, rfl, rfl, x9 _ _ h8, ?_, b_nil (hD _ (ex_upd (e8.trans x9) hpp0) ?_)⟩
      · show ixN (sixV _).length _ = _
        have l6 : (sixV fun k => decide (k ∈ kkTo ns p i)).length = 6 := by
          unfold sixV
          rw [List.length_map, List.length_range]
        rw [l6]
        have h0 : (0 : Int) ≤ ((kAt ns p i : Nat) : Int) := by omega
        unfold ixN
        rw [if_pos h0, if_pos (by omega), Int.toNat_natCast]
      · rw [upd_same, six_set k6]
        congr 2
        unfold sixV
        refine List.map_congr_left fun k _ => congrArg V.bl ?_
        rw [kkTo_succ, if_pos hk, Bool.eq_iff_iff]
        simp only [Bool.or_eq_true, decide_eq_true_eq, List.mem_append, List.mem_singleton]
    refine b_cons (s_set (M := M) (i := 6) (d := .int kk) (al.mono ex6) sc_law_kinds.nd rfl (by first | exact .inl rfl | exact .inr rfl) (PD.is (pd_add (pd_intB nb rfl (pd_gt (pd_ix (nm 0 rd) (nm 5 (.int (i : Nat))) (ix_sq hi)) (nm 2 (.int (lo2 ns p))))) (pd_intB nb rfl (pd_gt (pd_ix (nm 0 rd) (nm 5 (.int (i : Nat))) (ix_sq hi)) (nm 3 (.int (hi2 ns p)))))) (congrArg PyData.int hkk)) fun v7 H7 x7 r7 => ?_)
    cases r7
    refine b_cons (s_if (M := M0) (k := decide (p < i)) alive0 (TD.is (td_gt (nm 5 (.int (i : Nat))) (nm 1 (.int (p : Nat)))) (decide_eq_decide.mpr (by omega))) (fun hg H8 x8 => ?_) (fun hg H8 x8 => ?_))
    · rw [if_pos hg] at kdE
      refine b_cons (s_set (M := M0) (i := 6) (d := natD (kAt ns p i)) alive0 sc_law_kinds.nd rfl (by first | exact .inl rfl | exact .inr rfl) (PD.is (pd_add (nm 6 (.int kk)) pd_int) (congrArg PyData.int (by omega))) fun v9 H9 x9 r9 => b_nil ?_)
      cases r9
      have e9 := ex6.trans (x7.trans (x8.trans x9))
      exact fin _ H9 e9 (x9 _ _ (x8 _ _ (x7 _ _ (x6' _ _ hw)))) fun HA eA hA => b_nil ⟨_, _, rfl, eA, hA⟩
    · rw [if_neg (by rw [hg]; decide)] at kdE
      have ek : kk = ((kAt ns p i : Nat) : Int) := by omega
      rw [ek]
      have e9 := ex6.trans (x7.trans x8)
      exact b_nil (fin _ H8 e9 (x8 _ _ (x7 _ _ (x6' _ _ hw))) fun HA eA hA => b_nil ⟨_, _, rfl, eA, hA⟩)
  · rintro σ' H' ⟨x5, x6, rfl, ex, hw⟩
    exact b_cons (cs_ret (ce_nm 4 (q pp _ H' hpp0 ex hw (six_rp _))))
theorem cl_law_named {f : Addr} {fd : FuncData} (F : At K mg "_law_named" s_law_named f fd) (nb : NoB mg) : Cl P w K mg base CX0 1 "_law_named" (FreshR K R_lnd) := by
  refine ⟨f, fd, _, F.fn.ok sc_law_named (fun vs H Q E h => ?_) (fun cdv A outer sh H vs Q E hr h => ⟨_, wB.ps, ?_⟩), F.gl, F.fn.kp, F.fn.binds fun _ _ _ _ _ _ us hl => match us, hl with | [_], _ => rfl⟩
  · obtain ⟨M, ds, es, al, r, ⟨_, rfl, _⟩, _⟩ := h
    rw [r.length]
    rfl
  obtain ⟨M, ds, es, al, r, ⟨n, rfl, rfl⟩, q⟩ := h
  obtain ⟨u, rfl, r1⟩ := rpa1 r
  cases r1
  refine b_cons (cs_set (i := 1) sc_law_named.nd rfl (by first | exact .inl rfl | exact .inr rfl) (ce_fd (M := M0) alive0 (fd_lst ad_nil (by simp)) fun pb wb H1 hpb x1 h1 r1 => ?_))
  cases r1
  refine b_cons (s_set (M := M0) (i := 2) (d := natD n) alive0 sc_law_named.nd rfl (by first | exact .inl rfl | exact .inr rfl) (nm 0 (.int (n : Nat))) fun v2 H2 x2 r2 => ?_)
  cases r2
  refine b_cons (s_forRW (slot := 3) PassesOwn.never rfl sc_law_named.nd rfl (.inl rfl) rfl nb.range (ce_intC ⟨6, fun i σ' H' => ∃ x3 : Option V, σ' = [some (.int (n : Nat)), some (.ref pb), some (.int (n / 2 ^ i : Nat)), x3] ∧ Evl.Ex H H' ∧ H' pb = some (.lst ((List.range i).map fun k => V.bl (bit n k))), rfl, by decide, ⟨none, by rw [Nat.pow_zero, Nat.div_one]; rfl, x1.trans x2, x2 _ _ h1⟩, ?_, ?_⟩))
  · rintro i σ' H' hi ⟨x3, rfl, ex, hw⟩
    refine b_cons (cs_expr (ce_append (ce_nm 1 ⟨pb, _, rfl, hw, ce_pd (M := M0) (d := .bool (bit n i)) alive0 (PD.is (pd_eq hr.units (pd_mod (pd_intI nb rfl (nm 2 (.int (n / 2 ^ i : Nat)))) pd_int (by decide)) pd_int rfl rfl) (by rw [eqv_int]; exact congrArg PyData.bool (decide_eq_decide.mpr (by omega)))) fun v4 H4 x4 r4 => ⟨_, x4 _ _ hw, (by rw [List.length_map, List.length_range]; omega), ?_⟩⟩)))
    cases r4
    refine b_cons (s_set (M := M0) (i := 2) (d := natD (n / 2 ^ (i + 1))) alive0 sc_law_named.nd rfl (by first | exact .inl rfl | exact .inr rfl) (PD.is (pd_div (pd_intI nb rfl (nm 2 (.int (n / 2 ^ i : Nat)))) pd_int (wide_div (b := 40) (by decide) (by decide) (by decide) (by decide))) (congrArg PyData.int (by rw [Nat.pow_succ, ← Nat.div_div_eq_div_mul]; omega))) fun v5 H5 x5 r5 => ?_)
    cases r5
    refine b_nil ⟨_, rfl, (ex_upd (ex.trans x4) (Evl.fresh_back (Evl.Ex.refl H) hpb)).trans x5, x5 _ _ ?_⟩
    rw [upd_same, List.range_succ, List.map_append]
    rfl
  · rintro σ' H' ⟨x3, rfl, ex, hw⟩
    exact b_cons (cs_ret (ce_nm 1 (q pb _ H' hpb ex hw (six_rp _))))
theorem cl_law_names {f : Addr} {fd : FuncData} (F : At K mg "_law_names" s_law_names f fd) (nb : NoB mg) : Cl P w K mg base CX0 1 "_law_names" (FreshR K R_lnm) := by
  refine ⟨f, fd, _, F.fn.ok sc_law_names (fun vs H Q E h => ?_) (fun cdv A outer sh H vs Q E hr h => ⟨_, wB.ps, ?_⟩), F.gl, F.fn.kp, F.fn.binds fun _ _ _ _ _ _ us hl => match us, hl with | [_], _ => rfl⟩
  · obtain ⟨M, ds, es, al, r, ⟨_, rfl, _⟩, _⟩ := h
    rw [r.length]
    rfl
  obtain ⟨M, ds, es, al, r, ⟨f', rfl, rfl⟩, q⟩ := h
  obtain ⟨u, rfl, r1⟩ := rpa1 r
  refine b_cons (cs_ret (ce_fd al (fd_filterA natD_inj f' (fun k => .str (ordK.getD k "")) (l := List.range 6) (t := .one 1) (own := [("kind", 1)]) rfl sc_law_names.nd (src_rangeN rfl nb.range pd_int (by decide)) (blkOk_by (N := n_law_names) (sc := defScope s_law_names) (by decide +kernel)) (fun _ _ _ _ _ => pg_name (i := 1) sc_law_names.nd rfl (.inl rfl)) (fun _ _ => trivial) ?_ (by decide) ?_) fun p ws H3 hp x3 h3 r3 => q p ws H3 hp x3 h3 r3))
  · rintro M H d σ' ⟨_, _, rfl⟩
    rfl
  · rintro s0 H0 C cl fp M' H' k σ' hM lift kp hk ⟨v', rv, rfl⟩
    have hk := List.mem_range.mp hk
    refine ⟨td_val (pd_ix (nm 0 (lift _ _ r1)) (nm 1 rv) (six_ix hk)), pd_ix (FD.pd (fd_lst (ds := ordK.map PyData.str) (ad_cons pd_str (ad_cons pd_str (ad_cons pd_str (ad_cons pd_str (ad_cons pd_str (ad_cons pd_str ad_nil)))))) (by decide))) (nm 1 rv) (ixD_list ?_)⟩
    rw [List.getElem?_map, List.getD_eq_getElem?_getD, List.getElem?_eq_getElem (show k < ordK.length from hk)]
    rfl
theorem cl_law_common {f : Addr} {fd : FuncData} (F : At K mg "_law_common" s_law_common f fd) (nb : NoB mg) (cn : Cl P w K mg base CX0 1 "_law_named" (FreshR K R_lnd)) : Cl P w K mg base CX0 2 "_law_common" (FreshR K R_lco) := by
  refine ⟨f, fd, _, F.fn.ok sc_law_common (fun vs H Q E h => ?_) (fun cdv A outer sh H vs Q E hr h => ⟨_, wB.ps, ?_⟩), F.gl, F.fn.kp, F.fn.binds fun _ _ _ _ _ _ us hl => match us, hl with | [_, _], _ => rfl⟩
  · obtain ⟨M, ds, es, al, r, ⟨_, _, rfl, _⟩, _⟩ := h
    rw [r.length]
    rfl
  obtain ⟨M, ds, es, al, r, ⟨f', n, rfl, rfl⟩, q⟩ := h
  obtain ⟨u, v, rfl, r1, r2⟩ := rpa2 r
  cases r2
  refine b_cons (cs_set (i := 2) sc_law_common.nd rfl (by first | exact .inl rfl | exact .inr rfl) (ce_fd al (fd_callC cn hr (by decide) rfl (ad_cons (nm 1 (.int (n : Nat))) ad_nil) ⟨n, rfl, rfl⟩) fun pn wn H1 hpn x1 h1 rn => ?_))
  have al1 := al.mono x1
  have s1 := r1.mono (fun _ z => z) (ExM.of x1)
  have rnm : Rp K M H1 (.ref pn) (.list (sixB (bit n))) := .lst (al.fresh hpn) (.inl h1) rn
  refine b_cons (cs_ret (ce_fd al1 (fd_filterA natD_inj (fun k => f' k && bit n k) natD (l := List.range 6) (t := .one 3) (own := [("kind", 3)]) rfl sc_law_common.nd (src_rangeN rfl nb.range pd_int (by decide)) (blkOk_by (N := n_law_common) (sc := defScope s_law_common) (by decide +kernel)) (fun _ _ _ _ _ => pg_name (i := 3) sc_law_common.nd rfl (.inl rfl)) (fun _ _ => trivial) ?_ (by decide) ?_) fun p ws H3 hp x3 h3 r3 => q p ws H3 (Evl.fresh_back x1 hp) (x1.trans x3) h3 r3))
  · rintro M H d σ' ⟨_, _, rfl⟩
    rfl
  · rintro s0 H0 C cl fp M' H' k σ' hM lift kp hk ⟨v', rv, rfl⟩
    have hk := List.mem_range.mp hk
    exact ⟨WD.td (wd_and (td_val (pd_ix (nm 0 (lift _ _ s1)) (nm 3 rv) (six_ix hk))) fun _ => wd_and1 (td_val (pd_ix (nm 2 (lift _ _ rnm)) (nm 3 rv) (six_ix hk)))), nm 3 rv⟩
end
end IK

namespace IK
open PySem PySem.Spec PyProof.Rows L2 GV
/-! ### free places and helpers, told by the law -/
theorem any_take {f : Nat → Bool} (i : Nat) : (List.range (i + 1)).any f = ((List.range i).any f || f i) := by
  rw [List.range_succ, List.any_append]
  simp
theorem helpL_succ (n : Nat) (ns : List Int) (p i : Nat) : helpL n ns p (i + 1) = helpL n ns p i ++ (if ((decide (i ≠ p) && decide (i ≠ p + 1)) && bit n (kAt ns p i)) = true then [ns.getD i 0] else []) := by
  unfold helpL thirds
  rw [List.range_succ, List.filter_append, List.filter_append, List.map_append]
  congr 1
  rw [List.filter_cons]
  cases h : (decide (i ≠ p) && decide (i ≠ p + 1)) with
  | false => simp
  | true =>
    rw [if_pos rfl]
    show List.map _ (List.filter _ [i]) = _
    rw [List.filter_cons]
    cases bit n (kAt ns p i) <;> rfl
theorem helpL_len (n : Nat) (ns : List Int) (p i : Nat) : (helpL n ns p i).length ≤ i := by
  unfold helpL thirds
  rw [List.length_map]
  refine Nat.le_trans (List.length_filter_le _ _) (Nat.le_trans (List.length_filter_le _ _) ?_)
  rw [List.length_range]
  exact Nat.le_refl _
section
variable {P : Program} {w : World} {K : PySem.W.Frag} {mg : Str → Option Value} {base : Heap}
theorem cl_law_free {f : Addr} {fd : FuncData} (F : At K mg "_law_free" s_law_free f fd) (nb : NoB mg) (ck : Cl P w K mg base CX0 1 "_law_kinds" (FreshR K R_lk)) : Cl P w K mg base CX0 2 "_law_free" (PureR K R_lf) := by
  refine cl_pure F sc_law_free (F.fn.binds fun _ _ _ _ _ _ us hl => match us, hl with | [_, _, _], _ => rfl) (fun ds d h => ?_) (fun X cdv A outer s H Q E M vs ds d hX hr al r h q => ?_)
  · obtain ⟨_, _, _, _, _, _, _, rfl, _⟩ := h
    rfl
  obtain ⟨tp, ns, p, n, hp, hl, nd, rfl, rfl⟩ := h
  obtain ⟨u, v, x, rfl, r1, r2, r3⟩ := rpa3 r
  cases r2
  cases r3
  subst hX
  refine b_cons (cs_set (i := 3) sc_law_free.nd rfl (by first | exact .inl rfl | exact .inr rfl) (ce_fd al (fd_callC ck hr (by decide) rfl (ad_cons (nm 0 r1) (ad_cons (nm 1 (.int (p : Nat))) ad_nil)) ⟨tp, ns, p, hp, hl, nd, rfl, rfl⟩) fun pb wb H1 hpb x1 h1 rb => ?_))
  have rp1 : Rp K M H1 (.ref pb) (.list (sixB (presB ns p))) := .lst (al.fresh hpb) (.inl h1) rb
  refine b_cons (s_set (M := M) (i := 4) (d := natD n) (al.mono x1) sc_law_free.nd rfl (by first | exact .inl rfl | exact .inr rfl) (nm 2 (.int (n : Nat))) fun v2 H2 x2 r2 => ?_)
  cases r2
  have al2 := (al.mono x1).mono x2
  have rp2 := rp1.mono (fun _ z => z) (ExM.of x2)
  refine b_cons (s_forRW (slot := 5) PassesOwn.never rfl sc_law_free.nd rfl (.inl rfl) rfl nb.range (ce_intC ⟨6, fun i σ' H' => ∃ x5 : Option V, σ' = [some u, some (.int (p : Nat)), some (.int (n : Nat)), some (.ref pb), some (.int (n / 2 ^ i : Nat)), x5] ∧ Evl.Ex H2 H' ∧ ((List.range i).any fun k => bit n k && presB ns p k) = false, rfl, by decide, ⟨none, by rw [Nat.pow_zero, Nat.div_one]; rfl, Evl.Ex.refl _, rfl⟩, ?_, ?_⟩))
  · rintro i σ' H' hi ⟨x5, rfl, ex, no⟩
    have rp3 := rp2.mono (fun _ z => z) (ExM.of ex)
    have al3 := al2.mono ex
    have at_ := any_take (f := fun k => bit n k && presB ns p k) i
    refine b_cons (s_if (M := M) (k := bit n i && presB ns p i) al3 (WD.td (wd_and (TD.is (td_eq hr.units (pd_mod (pd_intI nb rfl (nm 4 (.int (n / 2 ^ i : Nat)))) pd_int (by decide)) pd_int rfl rfl) (by rw [eqv_int]; exact decide_eq_decide.mpr (by omega))) fun _ => wd_and1 (td_val (pd_ix (nm 3 rp3) (nm 5 (.int (i : Nat))) (six_ix hi))))) (fun hk H6 x6 => ?_) (fun hk H6 x6 => b_nil ?_))
    · have e : freeB n ns p = true := List.any_eq_true.mpr ⟨i, List.mem_range.mpr hi, hk⟩
      refine b_cons (s_ret (M := M) (al3.mono x6) pd_bl fun v7 H7 x7 r7 => ?_)
      rw [e] at q
      exact q v7 H7 ((x1.trans x2).trans (ex.trans (x6.trans x7))) r7
    · refine b_cons (s_set (M := M0) (i := 4) (d := natD (n / 2 ^ (i + 1))) alive0 sc_law_free.nd rfl (by first | exact .inl rfl | exact .inr rfl) (PD.is (pd_div (pd_intI nb rfl (nm 4 (.int (n / 2 ^ i : Nat)))) pd_int (wide_div (b := 40) (by decide) (by decide) (by decide) (by decide))) (congrArg PyData.int (by rw [Nat.pow_succ, ← Nat.div_div_eq_div_mul]; omega))) fun v7 H7 x7 r7 => ?_)
      cases r7
      exact b_nil ⟨_, rfl, ex.trans (x6.trans x7), by rw [at_, no, hk]; rfl⟩
  · rintro σ' H' ⟨x5, rfl, ex, no⟩
    refine b_cons (s_ret (M := M) (al2.mono ex) pd_bl fun v7 H7 x7 r7 => ?_)
    have e : freeB n ns p = false := no
    rw [e] at q
    exact q v7 H7 ((x1.trans x2).trans (ex.trans x7)) r7
theorem cl_law_helpers {f : Addr} {fd : FuncData} (F : At K mg "_law_helpers" s_law_helpers f fd) (nb : NoB mg) (cn : Cl P w K mg base CX0 1 "_law_named" (FreshR K R_lnd)) : Cl P w K mg base CX0 2 "_law_helpers" (FreshR K R_lh) := by
  refine ⟨f, fd, _, F.fn.ok sc_law_helpers (fun vs H Q E h => ?_) (fun cdv A outer sh H vs Q E hr h => ⟨_, wB.ps, ?_⟩), F.gl, F.fn.kp, F.fn.binds fun _ _ _ _ _ _ us hl => match us, hl with | [_, _, _], _ => rfl⟩
  · obtain ⟨M, ds, es, al, r, ⟨_, _, _, _, _, _, _, rfl, _⟩, _⟩ := h
    rw [r.length]
    rfl
  obtain ⟨M, ds, es, al, r, ⟨tp, ns, p, n, hp, hl, nd, rfl, rfl⟩, q⟩ := h
  obtain ⟨u, v, x, rfl, r1, r2, r3⟩ := rpa3 r
  cases r2
  cases r3
  have p1 : ((p : Nat) : Int) + 1 = ((p + 1 : Nat) : Int) := by omega
  refine b_cons (s_set (M := M) (i := 3) (d := .int (lo2 ns p)) al sc_law_helpers.nd rfl (by first | exact .inl rfl | exact .inr rfl) (pd_min2 rfl nb.min (pd_ix (nm 0 r1) (nm 1 (.int (p : Nat))) (ix_sq (by omega))) (pd_ix (nm 0 r1) (PD.is (pd_add (nm 1 (.int (p : Nat))) pd_int) (congrArg PyData.int p1)) (ix_sq hp))) fun v1 H1 x1 r1' => ?_)
  cases r1'
  have ra := r1.mono (fun _ z => z) (ExM.of x1)
  refine b_cons (s_set (M := M) (i := 4) (d := .int (hi2 ns p)) (al.mono x1) sc_law_helpers.nd rfl (by first | exact .inl rfl | exact .inr rfl) (pd_max2 rfl nb.max (pd_ix (nm 0 ra) (nm 1 (.int (p : Nat))) (ix_sq (by omega))) (pd_ix (nm 0 ra) (PD.is (pd_add (nm 1 (.int (p : Nat))) pd_int) (congrArg PyData.int p1)) (ix_sq hp))) fun v2 H2 x2 r2' => ?_)
  cases r2'
  have x12 := x1.trans x2
  refine b_cons (cs_set (i := 5) sc_law_helpers.nd rfl (by first | exact .inl rfl | exact .inr rfl) (ce_fd (al.mono x12) (fd_callC cn hr (by decide) rfl (ad_cons (nm 2 (.int (n : Nat))) ad_nil) ⟨n, rfl, rfl⟩) fun pn wn H3 hpn x3 h3 rn => ?_))
  have x13 := x12.trans x3
  have al3 := al.mono x13
  have rN : Rp K M H3 (.ref pn) (.list (sixB (bit n))) := .lst ((al.mono x12).fresh hpn) (.inl h3) rn
  refine b_cons (cs_set (i := 6) sc_law_helpers.nd rfl (by first | exact .inl rfl | exact .inr rfl) (ce_fd al3 (fd_lst ad_nil (by simp)) fun pf wf H4 hpf x4 h4 r4 => ?_))
  cases r4
  have x14 := x13.trans x4
  have hpf0 : H pf = none := Evl.fresh_back x13 hpf
  have rN4 := rN.mono (fun _ z => z) (ExM.of x4)
  have rb := r1.mono (fun _ z => z) (ExM.of x14)
  have ln : lenD (sqD tp (ns.map PyData.int)) = some ns.length := by rw [len_sq, List.length_map]
  refine b_cons (s_forRW (slot := 7) PassesOwn.never rfl sc_law_helpers.nd rfl (.inl rfl) rfl nb.range (ce_pd (M := M) (al.mono x14) (pd_len nb rfl (nm 0 rb) ln) fun v5 H5 x5 r5 => ?_))
  cases r5
  refine ⟨ns.length, fun i σ' H' => ∃ x7 x8 : Option V, σ' = [some u, some (.int (p : Nat)), some (.int (n : Nat)), some (.int (lo2 ns p)), some (.int (hi2 ns p)), some (.ref pn), some (.ref pf), x7, x8] ∧ Evl.Ex H3 H' ∧ H' pf = some (.lst ((helpL n ns p i).map V.int)), rfl, by omega, ⟨none, none, rfl, x4.trans x5, x5 _ _ h4⟩, ?_, ?_⟩
  · rintro i σ' H' hi ⟨x7, x8, rfl, ex, hw⟩
    have al5 := al3.mono ex
    have rc := r1.mono (fun _ z => z) (ExM.of (x13.trans ex))
    have rNc := rN.mono (fun _ z => z) (ExM.of ex)
    have i0 : ∀ b : Bool, (0 : Int) ≤ (if b = true then 1 else 0) ∧ (if b = true then (1 : Int) else 0) ≤ 1 := fun b => by cases b <;> decide
    obtain ⟨kk, hkk⟩ : ∃ kk : Int, (if decide (ns.getD i 0 > lo2 ns p) = true then (1 : Int) else 0) + (if decide (ns.getD i 0 > hi2 ns p) = true then 1 else 0) + 3 * (if decide (((i : Nat) : Int) > ((p : Nat) : Int)) = true then 1 else 0) = kk := ⟨_, rfl⟩
    refine b_cons (s_set (M := M) (i := 8) (d := .int kk) al5 sc_law_helpers.nd rfl (by first | exact .inl rfl | exact .inr rfl) (PD.is (pd_add (pd_add (pd_intB nb rfl (pd_gt (pd_ix (nm 0 rc) (nm 7 (.int (i : Nat))) (ix_sq hi)) (nm 3 (.int (lo2 ns p))))) (pd_intB nb rfl (pd_gt (pd_ix (nm 0 rc) (nm 7 (.int (i : Nat))) (ix_sq hi)) (nm 4 (.int (hi2 ns p)))))) (pd_mul pd_int (pd_intB nb rfl (pd_gt (nm 7 (.int (i : Nat))) (nm 1 (.int (p : Nat))))) (.inl (by decide)))) (congrArg PyData.int hkk)) fun v9 H9 x9 r9 => ?_)
    cases r9
    have ex9 := ex.trans x9
    have rc9 := rc.mono (fun _ z => z) (ExM.of x9)
    have rN9 := rNc.mono (fun _ z => z) (ExM.of x9)
    have ke : (decide (i ≠ p) && decide (i ≠ p + 1)) = true → kk = ((kAt ns p i : Nat) : Int) := fun h => by
      rw [← hkk, ← kind_of nd hp hi h]
      have e : decide (((i : Nat) : Int) > ((p : Nat) : Int)) = decide (p < i) := decide_eq_decide.mpr (by omega)
      rw [e]
    refine b_cons (s_if (M := M) (k := (decide (i ≠ p) && decide (i ≠ p + 1)) && bit n (kAt ns p i)) (al5.mono x9) (WD.td (wd_and (TD.is (WD.td (wd_or (td_lt (nm 7 (.int (i : Nat))) (nm 1 (.int (p : Nat)))) fun _ => wd_or1 (td_gt (nm 7 (.int (i : Nat))) (pd_add (nm 1 (.int (p : Nat))) pd_int)))) (third_iff i p)) fun h3 => wd_and1 (td_val (pd_ix (nm 5 rN9) (PD.is (nm 8 (.int kk)) (congrArg PyData.int (ke h3))) (six_ix (kAt_lt ns p i)))))) (fun hk H6 x6' => ?_) (fun hk H6 x6' => b_nil (b_nil ⟨_, _, rfl, ex9.trans x6', by rw [helpL_succ, hk, if_neg (by decide), List.append_nil]; exact x6' _ _ (x9 _ _ hw)⟩)))
    have hw6 := x6' _ _ (x9 _ _ hw)
    have rc6 := rc9.mono (fun _ z => z) (ExM.of x6')
    have hlen := helpL_len n ns p i
    refine b_cons (cs_expr (ce_append (ce_nm 6 ⟨pf, _, rfl, hw6, ce_pd (M := M) (d := .int (ns.getD i 0)) ((al5.mono x9).mono x6') (pd_ix (nm 0 rc6) (nm 7 (.int (i : Nat))) (ix_sq hi)) fun va HA xA rA => ⟨_, xA _ _ hw6, (by rw [List.length_map]; omega), b_nil (b_nil ⟨_, _, rfl, ex_upd (ex9.trans (x6'.trans xA)) hpf, ?_⟩)⟩⟩)))
    cases rA
    rw [upd_same, helpL_succ, if_pos hk, List.map_append]
    rfl
  · rintro σ' H' ⟨x7, x8, rfl, ex, hw⟩
    exact b_cons (cs_ret (ce_nm 6 (q pf _ H' hpf0 (x13.trans ex) hw (.ints _))))
end
end IK

namespace IK
open PySem PySem.Spec PyProof.Rows L2 GV
section
variable {P : Program} {w : World} {K : PySem.W.Frag} {mg : Str → Option Value} {base : Heap}
theorem cl_law_integer {f : Addr} {fd : FuncData} (F : At K mg "_law_integer" s_law_integer f fd) (nb : NoB mg) : Cl P w K mg base CX0 1 "_law_integer" (PureR K R_is_integer) := by
  refine cl_pure F sc_law_integer (F.fn.binds fun _ _ _ _ _ _ us hl => match us, hl with | [_], _ => rfl) (fun ds d h => ?_) (fun X cdv A outer s H Q E M vs ds d hX hr al r h q => ?_)
  · obtain ⟨a, rfl, _⟩ := h
    rfl
  · obtain ⟨a, rfl, rfl⟩ := h
    obtain ⟨v, rfl, r1⟩ := rpa1 r
    subst hX
    refine b_cons (s_ret al (PD.is (pd_and (pd_isi rfl nb.isinstance rfl nb.int PyProof.Rows.boot_int (nm 0 r1) (kit_int a)) fun _ => pd_one (pd_not (pd_isi rfl nb.isinstance rfl nb.bool PyProof.Rows.boot_bool (nm 0 r1) (kit_bool a)))) ?_) q)
    cases a <;> rfl
end
def alk : Nat → PyData → Prop
  | 0, d => atomD d = true ∨ ∃ tp ds, d = sqD tp ds ∧ ds.length ≤ 100000 ∧ ∀ e ∈ ds, False
  | n + 1, d => atomD d = true ∨ ∃ tp ds, d = sqD tp ds ∧ ds.length ≤ 100000 ∧ ∀ e ∈ ds, alk n e
def R_alk (n : Nat) (ds : List PyData) (r : PyData) : Prop := ∃ d, ds = [d, d] ∧ alk n d ∧ r = .bool true
section
variable {P : Program} {w : World} {K : PySem.W.Frag} {mg : Str → Option Value} {base : Heap}
theorem alk_step {m : Nat} (hm : 1 ≤ m) (ci : Cl P w K mg base CX0 1 "_law_integer" (PureR K R_is_integer)) {f : Addr} {fd : FuncData} (R : PyData → Prop) (F : At K mg "_law_like" s_law_like f fd) (nb : NoB mg) (ih : (∃ d, R d) → Cl P w K mg base CX0 m "_law_like" (PureR K fun ds r => ∃ d, ds = [d, d] ∧ R d ∧ r = .bool true)) :
    Cl P w K mg base CX0 (m + 1) "_law_like" (PureR K fun ds r => ∃ d, ds = [d, d] ∧ (atomD d = true ∨ ∃ tp es, d = sqD tp es ∧ es.length ≤ 100000 ∧ ∀ e ∈ es, R e) ∧ r = .bool true) := by
  refine cl_pure F sc_law_like (F.fn.binds fun _ _ _ _ _ _ us hl => match us, hl with | [_, _], _ => rfl) (fun ds d h => ?_) (fun X cdv A outer s H Q E M vs ds d hX hr al r h q => ?_)
  · obtain ⟨_, rfl, _⟩ := h
    rfl
  obtain ⟨d, rfl, h, rfl⟩ := h
  obtain ⟨u, v, rfl, r1, r2⟩ := rpa2 r
  have q1 : ∀ {H2 v H3}, Evl.Ex H H2 → Evl.Ex H2 H3 → Rp K M H3 v (.bool true) → Q v H3 := fun x y z => q _ _ (x.trans y) z
  have m1 : ∀ {H2}, Evl.Ex H H2 → Rp K M H2 u d ∧ Rp K M H2 v d ∧ Alive M H2 := fun x => ⟨r1.mono (fun _ z => z) (ExM.of x), r2.mono (fun _ z => z) (ExM.of x), al.mono x⟩
  let B := fun (k : Nat) (H' : Hp) => wB X ((defBody s_law_like).drop k) { nx := fun _ H' => Q .non H', rt := Q } (L2.start n_law_like [u, v]) H'
  subst hX
  have s1 : isNone d = false → (∀ H', Evl.Ex H H' → B 1 H') → B 0 H := fun hd k => b_cons (s_if (k := false) al (TD.is (td_isN (nm 1 r2)) hd) (fun k => by cases k) (fun _ H2 x2 => b_nil (k H2 x2)))
  have s2 : isBoolD d = false → (∀ H', Evl.Ex H H' → B 2 H') → ∀ H', Evl.Ex H H' → B 1 H' := fun hd k H' x => b_cons (s_if (k := false) (m1 x).2.2 (TD.is (td_val (pd_isi rfl nb.isinstance rfl nb.bool PyProof.Rows.boot_bool (nm 1 (m1 x).2.1) (kit_bool d))) hd) (fun k => by cases k) (fun _ H2 x2 => b_nil (k H2 (x.trans x2))))
  have s3 : isIntD d = false → isBoolD d = false → (∀ H', Evl.Ex H H' → B 3 H') → ∀ H', Evl.Ex H H' → B 2 H' := fun hd hb k H' x => b_cons (s_if (k := false) (m1 x).2.2 (TD.is (td_val (pd_isi rfl nb.isinstance rfl nb.int PyProof.Rows.boot_int (nm 1 (m1 x).2.1) (kit_int d))) (by rw [hd, hb]; rfl)) (fun k => by cases k) (fun _ H2 x2 => b_nil (k H2 (x.trans x2))))
  have s4 : isStrD d = false → (∀ H', Evl.Ex H H' → B 4 H') → ∀ H', Evl.Ex H H' → B 3 H' := fun hd k H' x => b_cons (s_if (k := false) (m1 x).2.2 (TD.is (td_val (pd_isi rfl nb.isinstance rfl nb.str PyProof.Rows.boot_str (nm 1 (m1 x).2.1) (kit_str d))) hd) (fun k => by cases k) (fun _ H2 x2 => b_nil (k H2 (x.trans x2))))
  have s5 : (∀ H', Evl.Ex H H' → B 5 H') → ∀ H', Evl.Ex H H' → B 4 H' := fun k H' x => b_cons (s_if (k := false) (m1 x).2.2 (TD.is (WD.td (wd_and (td_val (pd_isi rfl nb.isinstance rfl nb.tuple PyProof.Rows.boot_tuple (nm 1 (m1 x).2.1) (kit_t d))) fun _ => wd_and1 (td_not (td_val (pd_isi rfl nb.isinstance rfl nb.tuple PyProof.Rows.boot_tuple (nm 0 (m1 x).1) (kit_t d)))))) (by cases isTupD d <;> rfl)) (fun k => by cases k) (fun _ H2 x2 => b_nil (k H2 (x.trans x2))))
  have s6 : (∀ H', Evl.Ex H H' → B 6 H') → ∀ H', Evl.Ex H H' → B 5 H' := fun k H' x => b_cons (s_if (k := false) (m1 x).2.2 (TD.is (WD.td (wd_and (td_val (pd_isi rfl nb.isinstance rfl nb.list PyProof.Rows.boot_list (nm 1 (m1 x).2.1) (kit_l d))) fun _ => wd_and1 (td_not (td_val (pd_isi rfl nb.isinstance rfl nb.list PyProof.Rows.boot_list (nm 0 (m1 x).1) (kit_l d)))))) (by cases isListD d <;> rfl)) (fun k => by cases k) (fun _ H2 x2 => b_nil (k H2 (x.trans x2))))
  have eT : ∀ {a b : PyData}, PyData.eqv a b = true → PyData.bool (PyData.eqv a b) = .bool true := fun h => by rw [h]
  show B 0 H
  rcases h with h | ⟨tp, es, rfl, hl, he⟩
  · cases d with
    | none => exact b_cons (s_if (k := true) al (TD.is (td_isN (nm 1 r2)) rfl) (fun _ H2 x2 => b_cons (s_ret (al.mono x2) (PD.is (pd_isN (nm 0 (m1 x2).1)) rfl) fun v H3 x3 rv => q1 x2 x3 rv)) (fun k => by cases k))
    | bool b => exact s1 rfl fun H1 x1 => b_cons (s_if (k := true) (m1 x1).2.2 (TD.is (td_val (pd_isi rfl nb.isinstance rfl nb.bool PyProof.Rows.boot_bool (nm 1 (m1 x1).2.1) (kit_bool _))) rfl) (fun _ H2 x2 => b_cons (s_ret (m1 (x1.trans x2)).2.2 (PD.is (pd_and (pd_isi rfl nb.isinstance rfl nb.bool PyProof.Rows.boot_bool (nm 0 (m1 (x1.trans x2)).1) (kit_bool _)) fun _ => pd_one (pd_eq hr.units (nm 0 (m1 (x1.trans x2)).1) (nm 1 (m1 (x1.trans x2)).2.1) rfl rfl)) (by cases b <;> rfl)) fun v H3 x3 rv => q1 (x1.trans x2) x3 rv)) (fun k => by cases k))
    | int i => exact s1 rfl (s2 rfl fun H1 x1 => b_cons (s_if (k := true) (m1 x1).2.2 (TD.is (td_val (pd_isi rfl nb.isinstance rfl nb.int PyProof.Rows.boot_int (nm 1 (m1 x1).2.1) (kit_int _))) rfl) (fun _ H2 x2 => b_cons (s_ret (m1 (x1.trans x2)).2.2 (PD.is (pd_and (pd_callC ci hr hm rfl (ad_cons (nm 0 (m1 (x1.trans x2)).1) ad_nil) ⟨_, rfl, rfl⟩) fun _ => pd_one (pd_eq hr.units (nm 0 (m1 (x1.trans x2)).1) (nm 1 (m1 (x1.trans x2)).2.1) rfl rfl)) (by rw [eqv_int, decide_eq_true rfl]; rfl)) fun v H3 x3 rv => q1 (x1.trans x2) x3 rv)) (fun k => by cases k)))
    | str x => exact s1 rfl (s2 rfl (s3 rfl rfl fun H1 x1 => b_cons (s_if (k := true) (m1 x1).2.2 (TD.is (td_val (pd_isi rfl nb.isinstance rfl nb.str PyProof.Rows.boot_str (nm 1 (m1 x1).2.1) (kit_str _))) rfl) (fun _ H2 x2 => b_cons (s_ret (m1 (x1.trans x2)).2.2 (PD.is (pd_and (pd_isi rfl nb.isinstance rfl nb.str PyProof.Rows.boot_str (nm 0 (m1 (x1.trans x2)).1) (kit_str _)) fun _ => pd_one (pd_eq hr.units (nm 0 (m1 (x1.trans x2)).1) (nm 1 (m1 (x1.trans x2)).2.1) h h)) (by rw [eqv_str, decide_eq_true rfl]; rfl)) fun v H3 x3 rv => q1 (x1.trans x2) x3 rv)) (fun k => by cases k))))
    | list _ => cases h
    | tuple _ => cases h
    | dict _ => cases h
  · have n0 : isNone (sqD tp es) = false := by cases tp <;> rfl
    have n1 : isBoolD (sqD tp es) = false := by cases tp <;> rfl
    have n2 : isIntD (sqD tp es) = false := by cases tp <;> rfl
    have n3 : isStrD (sqD tp es) = false := by cases tp <;> rfl
    have ln : lenD (sqD tp es) = some es.length := by cases tp <;> rfl
    have ix : ∀ {i : Nat} {e : PyData}, es[i]? = some e → ixD (sqD tp es) (.int (i : Nat)) = some e := fun h => by cases tp <;> exact atI_nat h
    refine s1 n0 (s2 n1 (s3 n2 n1 (s4 n3 (s5 (s6 fun H1 x1 => ?_)))))
    refine b_cons (s_if (k := false) (m1 x1).2.2 (TD.is (td_ne hr.units (pd_len nb rfl (nm 0 (m1 x1).1) ln) (pd_len nb rfl (nm 1 (m1 x1).2.1) ln) rfl rfl) (by rw [eqv_int, decide_eq_true rfl]; rfl)) (fun k => by cases k) (fun _ H2 x2 => b_nil ?_))
    have x12 := x1.trans x2
    refine b_cons (s_for (M := M) (t := .one 2) PassesOwn.never rfl (src_rangeN rfl nb.range (pd_len nb rfl (nm 1 (m1 x12).2.1) ln) (by omega)) (pg_name (i := 2) sc_law_like.nd rfl (.inl rfl)) (m1 x12).2.2
      (fun Hs i σ' H' => (∃ x2, σ' = [some u, some v, x2]) ∧ Evl.Ex Hs H') ?_ ?_ (fun _ _ => trivial) ?_ ?_)
    · exact fun Hs xs => ⟨⟨none, rfl⟩, Evl.Ex.refl _⟩
    · rintro Hs j σ' H' xs ⟨_, e⟩
      exact ⟨.of e, (m1 (x12.trans (xs.trans e))).2.2⟩
    · rintro Hs j d σ' H' H5 σ2 xs hd ⟨⟨y5, rfl⟩, e⟩ x5' ⟨z, rv, rfl⟩
      rw [List.getElem?_map] at hd
      obtain ⟨k, hk, rfl⟩ := Option.map_eq_some_iff.mp hd
      have hk' : k < es.length := List.mem_range.mp (List.mem_of_getElem? hk)
      have hek : es[k]? = some es[k] := List.getElem?_eq_getElem hk'
      have hR := he _ (List.getElem_mem hk')
      have x5 := x12.trans ((xs.trans e).trans x5')
      exact b_cons (s_if (k := false) (m1 x5).2.2 (td_not (k := true) (td_val (pd_callC (ih ⟨_, hR⟩) hr (by omega) rfl (ad_cons (pd_ix (nm 0 (m1 x5).1) (nm 2 rv) (ix hek)) (ad_cons (pd_ix (nm 1 (m1 x5).2.1) (nm 2 rv) (ix hek)) ad_nil)) ⟨es[k], rfl, hR, rfl⟩))) (fun k => by cases k) (fun _ H6 x6 => b_nil (b_nil ⟨⟨_, rfl⟩, (e.trans x5').trans x6⟩)))
    · rintro Hs σ' H' xs ⟨⟨y5, rfl⟩, e⟩
      have x5 := x12.trans (xs.trans e)
      exact b_cons (s_ret (m1 x5).2.2 pd_bl fun v H6 x6 r6 => q1 x5 x6 r6)
theorem cl_law_like {f : Addr} {fd : FuncData} (F : At K mg "_law_like" s_law_like f fd) (nb : NoB mg) (ci : Cl P w K mg base CX0 1 "_law_integer" (PureR K R_is_integer)) : ∀ n, Cl P w K mg base CX0 (n + 2) "_law_like" (PureR K (R_alk n))
  | 0 => by
    exact alk_step (P := P) (w := w) (base := base) (m := 1) (by decide) ci (fun _ => False) F nb fun ⟨_, h⟩ => h.elim
  | n + 1 => by
    have h := alk_step (P := P) (w := w) (base := base) (m := n + 2) (by omega) ci (alk n) F nb fun _ => cl_law_like F nb ci n
    exact h
end
/-! ### what the law tells is what the program tells -/
theorem third_split {n p : Nat} (hp : p + 1 < n) : thirds n p = List.range p ++ (List.range (n - (p + 2))).map (p + 2 + ·) := by
  have e : List.range n = List.range p ++ ([p, p + 1] ++ (List.range (n - (p + 2))).map (p + 2 + ·)) := by
    have h : n = p + 2 + (n - (p + 2)) := by omega
    conv => lhs; rw [h, List.range_add]
    rw [List.range_succ, List.range_succ, List.append_assoc, List.append_assoc]
    rfl
  unfold thirds
  rw [e, List.filter_append, List.filter_append]
  have e1 : (List.range p).filter (fun i => decide (i ≠ p) && decide (i ≠ p + 1)) = List.range p := List.filter_eq_self.mpr fun i hi => by
    have := List.mem_range.mp hi
    rw [decide_eq_true (by omega), decide_eq_true (by omega)]
    rfl
  have e2 : [p, p + 1].filter (fun i => decide (i ≠ p) && decide (i ≠ p + 1)) = [] := List.filter_eq_nil_iff.mpr fun i hi => by
    rcases List.mem_cons.mp hi with rfl | hi
    · simp
    · cases List.mem_singleton.mp hi
      simp
  have e3 : ((List.range (n - (p + 2))).map (p + 2 + ·)).filter (fun i => decide (i ≠ p) && decide (i ≠ p + 1)) = (List.range (n - (p + 2))).map (p + 2 + ·) := List.filter_eq_self.mpr fun i hi => by
    obtain ⟨j, _, rfl⟩ := List.mem_map.mp hi
    rw [decide_eq_true (by omega), decide_eq_true (by omega)]
    rfl
  rw [e1, e2, e3]
  rfl
theorem bit_eq (n k : Nat) : bit n k = bitN n k := by
  unfold bit bitN
  have e : ((n : Nat) : Int) / 2 ^ k = ((n / 2 ^ k : Nat) : Int) := by
    rw [Int.natCast_ediv, Int.natCast_pow]
    rfl
  rw [e]
  exact decide_eq_decide.mpr (by omega)
theorem kdN_kAt {ns : List Int} {p i : Nat} (h : i ≠ p) : kdN ns p i = kAt ns p i := by
  unfold kdN kAt kd ltN
  congr 1
  by_cases a : i < p
  · rw [if_pos a, decide_eq_false (show ¬ p < i by omega)]
    rfl
  · rw [if_neg a, decide_eq_true (show p < i by omega)]
    rfl
theorem hIx_thirds {n : Nat} {ns : List Int} {p : Nat} (hp : p + 1 < ns.length) : hIx n ns p = (thirds ns.length p).filter fun j => bit n (kAt ns p j) := by
  have e : ∀ j, j ≠ p → kb n ns p j = bit n (kAt ns p j) := fun j hj => by
    unfold kb
    rw [kdN_kAt hj, bit_eq]
  unfold hIx behI
  rw [third_split hp, List.filter_append]
  congr 1
  · exact List.filter_congr fun j hj => e j (by have := List.mem_range.mp hj; omega)
  · exact List.filter_congr fun j hj => e j (by obtain ⟨i, _, rfl⟩ := List.mem_map.mp hj; omega)
theorem stL_helpL {n : Nat} {ns : List Int} {p : Nat} (hp : p + 1 < ns.length) : stL n ns p = helpL n ns p ns.length := by
  unfold stL helpL
  rw [hIx_thirds hp]
theorem free_iff {n : Nat} {ns : List Int} {p : Nat} (hp : p + 1 < ns.length) : decide (0 < (hIx n ns p).length) = freeB n ns p := by
  rw [hIx_thirds hp, Bool.eq_iff_iff, decide_eq_true_eq, List.length_pos_iff_exists_mem]
  unfold freeB presB kLs
  rw [List.any_eq_true]
  constructor
  · rintro ⟨j, hj⟩
    obtain ⟨h1, h2⟩ := List.mem_filter.mp hj
    refine ⟨kAt ns p j, List.mem_range.mpr (kAt_lt ns p j), ?_⟩
    rw [h2, decide_eq_true (List.mem_map_of_mem h1)]
    rfl
  · rintro ⟨k, _, hk⟩
    rw [Bool.and_eq_true, decide_eq_true_eq] at hk
    obtain ⟨j, hj, rfl⟩ := List.mem_map.mp hk.2
    exact ⟨j, List.mem_filter.mpr ⟨hj, hk.1⟩⟩
theorem common_iff {n : Nat} {ns : List Int} {p : Nat} : decide (0 < ((List.range 6).filter fun k => presB ns p k && bit n k).length) = freeB n ns p := by
  rw [Bool.eq_iff_iff, decide_eq_true_eq, List.length_pos_iff_exists_mem]
  unfold freeB
  rw [List.any_eq_true]
  constructor
  · rintro ⟨j, hj⟩
    obtain ⟨h1, h2⟩ := List.mem_filter.mp hj
    exact ⟨j, h1, by rw [Bool.and_comm]; exact h2⟩
  · rintro ⟨k, h1, h2⟩
    exact ⟨k, List.mem_filter.mpr ⟨h1, by rw [Bool.and_comm]; exact h2⟩⟩
theorem helpL_free {n : Nat} {ns : List Int} {p : Nat} (hp : p + 1 < ns.length) : decide (0 < (helpL n ns p ns.length).length) = freeB n ns p := by
  rw [← free_iff hp, ← stL_helpL hp]
  unfold stL
  rw [List.length_map]
end IK

namespace IK
open PySem PySem.Spec PyProof.Rows L2 GV
/-! ### what a place tells -/
theorem shaped_il (ns : List Int) : SeqAt.shaped (.list (ns.map PyData.int)) = true := shaped_of (lays1 fun d hd => by
  obtain ⟨z, _, rfl⟩ := List.mem_map.mp hd
  trivial).1 (Nat.le_trans (lays1 fun d hd => by
  obtain ⟨z, _, rfl⟩ := List.mem_map.mp hd
  trivial).2 (by decide))
theorem eqv_il (ns : List Int) : PyData.eqv (.list (ns.map PyData.int)) (.list (ns.map PyData.int)) = true := SeqAt.eqv_refl _ (SeqAt.canLay_of_shaped (shaped_il ns))
theorem eqv_nil (ns : List Int) : (!PyData.eqv (.list (ns.map PyData.int)) (.list [])) = decide (0 < ns.length) := by
  cases ns with
  | nil => rfl
  | cons z l => rfl
theorem alk_ints (tp : Bool) (l : List Int) (n : Nat) (h : l.length ≤ 100000) : alk (n + 1) (sqD tp (l.map PyData.int)) := .inr ⟨tp, _, rfl, by rw [List.length_map]; exact h, fun e he => by
  obtain ⟨i, _, rfl⟩ := List.mem_map.mp he
  cases n with
  | zero => exact .inl rfl
  | succ n => exact .inl rfl⟩
theorem alk_kinds (l : List Nat) (n : Nat) (hl : ∀ k ∈ l, k < 6) (h : l.length ≤ 100000) : alk (n + 1) (.list (l.map fun k => PyData.str (ordK.getD k ""))) := .inr ⟨false, _, rfl, by rw [List.length_map]; exact h, fun e he => by
  obtain ⟨i, hi, rfl⟩ := List.mem_map.mp he
  have h6 := hl i hi
  have hs : SeqAt.shaped (.str (ordK.getD i "")) = true := ordK_sh _ (by
    rw [List.getD_eq_getElem?_getD, List.getElem?_eq_getElem (show i < ordK.length from h6)]
    exact List.getElem_mem _)
  cases n with
  | zero => exact .inl hs
  | succ n => exact .inl hs⟩
theorem alk_bool (b : Bool) (n : Nat) : alk n (.bool b) := by
  cases n with
  | zero => exact .inl rfl
  | succ n => exact .inl rfl
theorem alk_opt (z : Option Int) (n : Nat) : alk n (optD z) := by
  cases z <;> cases n <;> exact .inl rfl
structure HouseC (P : Program) (w : World) (K : PySem.W.Frag) (mg : Str → Option Value) (base : Heap) (CH : Addr) : Prop where
  nb : NoB mg
  gH : mg "House" = some (.ref CH)
  by_ : ClsS P w K mg base (L2.CX P w) CH "by_number" 4 (spBy CH)
  ka : Cl P w K mg base CX0 7 "kinds_at" (FreshR K R_ka)
  he : Cl P w K mg base CX0 8 "helpers" (spHP K CH fun M n ns p H Q => toL K M (stL n ns p) H Q)
  ks : Cl P w K mg base CX0 9 "keystone" (spHP K CH fun M n ns p H Q => ∀ v H', Evl.Ex H H' → Rp K M H' v (optD (onlyL (stL n ns p))) → Q v H')
  fr : Cl P w K mg base CX0 8 "is_free" (spHP K CH fun M n ns p H Q => ∀ H', Evl.Ex H H' → Q (.bl (decide (0 < (hIx n ns p).length))) H')
  lk : Cl P w K mg base CX0 1 "_law_kinds" (FreshR K R_lk)
  lf : Cl P w K mg base CX0 2 "_law_free" (PureR K R_lf)
  ln : Cl P w K mg base CX0 1 "_law_names" (FreshR K R_lnm)
  lc : Cl P w K mg base CX0 2 "_law_common" (FreshR K R_lco)
  lh : Cl P w K mg base CX0 2 "_law_helpers" (FreshR K R_lh)
  lk2 : Cl P w K mg base CX0 4 "_law_like" (PureR K (R_alk 2))
section
variable {X : Cx} {CH : Addr} {σ : St} {H : Hp} {e1 e2 e3 : Expr} {p1 p2 : Pos} {j : Nat} {h n p : Nat} {ns : List Int} {tp : Bool}
theorem run_HP {f : Str} {k : Nat} {then_ : (Addr → Prop) → Nat → List Int → Nat → Hp → VK → Prop} {Q : VK} (cl : Cl X.prog X.w X.K X.mg X.base CX0 k f (spHP X.K CH then_)) (hr : Room j X.A) (hj : k ≤ j) (hg : Gl X f) (hdb : (f == ("__debug__" : Str)) = false)
    (a1 : PD X M0 e1 σ H (sqD tp (ns.map PyData.int))) (a2 : PD X M0 e2 σ H (natD p)) (a3 : ∀ H2 (Q : VK), Q (.ref h) H2 → wE X e3 σ H2 Q) (hp : p + 1 < ns.length) (hrow : RowL ns) (hh : HAt CH n H h) (H1 : Hp) (x1 : ExM M0 H H1) (q : ∀ H2, Evl.Ex H1 H2 → then_ M0 n ns p H2 Q)
    (hs : starEach (e1 :: [e2, e3]) X.env = (false, eval e1 X.env) :: starEach [e2, e3] X.env := by rfl) (hs2 : starEach (e2 :: [e3]) X.env = (false, eval e2 X.env) :: starEach [e3] X.env := by rfl) (hs3 : starEach (e3 :: []) X.env = (false, eval e3 X.env) :: starEach [] X.env := by rfl) (hpl : (backTo p2 (starEach [e2, e3] X.env)).any (·.1) = false := by rfl) :
    wE X (.Call (.Name f p1) [e1, e2, e3] [] p2) σ H1 Q := by
  refine ce_call cl hr hj hg (ca_cons (a1.run H1 x1 alive0 _ fun u H2 x2 r2 => ca_cons (a2.run H2 (x1.trans (.of x2)) alive0 _ fun v H3 x3 r3 => ca_cons (a3 _ _ (ca_nil ?_)) hs3) hs2) hs) hdb hs hpl
  have x23 := x2.trans x3
  exact ⟨M0, u, v, h, n, tp, ns, p, rfl, alive0, r2.mono (fun _ z => z) (.of x3), r3, hp, hrow, (hh.exM (M := M0) (x1.trans (.of x23)) fun z => z), fun z => z, q H3 x23⟩
theorem pd_free (C : HouseC X.prog X.w X.K X.mg X.base CH) (hr : Room j X.A) (hj : 8 ≤ j) (hg : Gl X "is_free") (a1 : PD X M0 e1 σ H (sqD tp (ns.map PyData.int))) (a2 : PD X M0 e2 σ H (natD p)) (a3 : ∀ H2 (Q : VK), Q (.ref h) H2 → wE X e3 σ H2 Q) (hp : p + 1 < ns.length) (hrow : RowL ns) (hh : HAt CH n H h)
    (hs : starEach (e1 :: [e2, e3]) X.env = (false, eval e1 X.env) :: starEach [e2, e3] X.env := by rfl) (hs2 : starEach (e2 :: [e3]) X.env = (false, eval e2 X.env) :: starEach [e3] X.env := by rfl) (hs3 : starEach (e3 :: []) X.env = (false, eval e3 X.env) :: starEach [] X.env := by rfl) (hpl : (backTo p2 (starEach [e2, e3] X.env)).any (·.1) = false := by rfl) :
    PD X M0 (.Call (.Name "is_free" p1) [e1, e2, e3] [] p2) σ H (.bool (freeB n ns p)) := .mk fun H1 x1 al Q q => by
  refine run_HP C.fr hr hj hg (by decide) a1 a2 a3 hp hrow hh H1 x1 (fun H2 x2 H3 x3 => ?_) hs hs2 hs3 hpl
  rw [free_iff hp]
  exact q _ H3 (x2.trans x3) (.bl _)
theorem fd_helpers (C : HouseC X.prog X.w X.K X.mg X.base CH) (hr : Room j X.A) (hj : 8 ≤ j) (hg : Gl X "helpers") (a1 : PD X M0 e1 σ H (sqD tp (ns.map PyData.int))) (a2 : PD X M0 e2 σ H (natD p)) (a3 : ∀ H2 (Q : VK), Q (.ref h) H2 → wE X e3 σ H2 Q) (hp : p + 1 < ns.length) (hrow : RowL ns) (hh : HAt CH n H h)
    (hs : starEach (e1 :: [e2, e3]) X.env = (false, eval e1 X.env) :: starEach [e2, e3] X.env := by rfl) (hs2 : starEach (e2 :: [e3]) X.env = (false, eval e2 X.env) :: starEach [e3] X.env := by rfl) (hs3 : starEach (e3 :: []) X.env = (false, eval e3 X.env) :: starEach [] X.env := by rfl) (hpl : (backTo p2 (starEach [e2, e3] X.env)).any (·.1) = false := by rfl) :
    FD X M0 (.Call (.Name "helpers" p1) [e1, e2, e3] [] p2) σ H ((helpL n ns p ns.length).map PyData.int) := .mk fun H1 x1 al Q q => by
  refine run_HP C.he hr hj hg (by decide) a1 a2 a3 hp hrow hh H1 x1 (fun H2 x2 l ws H3 hl x3 h3 r3 => ?_) hs hs2 hs3 hpl
  rw [stL_helpL hp] at r3
  exact q l ws H3 (Evl.fresh_back x2 hl) (x2.trans x3) h3 r3
theorem pd_keystone (C : HouseC X.prog X.w X.K X.mg X.base CH) (hr : Room j X.A) (hj : 9 ≤ j) (hg : Gl X "keystone") (a1 : PD X M0 e1 σ H (sqD tp (ns.map PyData.int))) (a2 : PD X M0 e2 σ H (natD p)) (a3 : ∀ H2 (Q : VK), Q (.ref h) H2 → wE X e3 σ H2 Q) (hp : p + 1 < ns.length) (hrow : RowL ns) (hh : HAt CH n H h)
    (hs : starEach (e1 :: [e2, e3]) X.env = (false, eval e1 X.env) :: starEach [e2, e3] X.env := by rfl) (hs2 : starEach (e2 :: [e3]) X.env = (false, eval e2 X.env) :: starEach [e3] X.env := by rfl) (hs3 : starEach (e3 :: []) X.env = (false, eval e3 X.env) :: starEach [] X.env := by rfl) (hpl : (backTo p2 (starEach [e2, e3] X.env)).any (·.1) = false := by rfl) :
    PD X M0 (.Call (.Name "keystone" p1) [e1, e2, e3] [] p2) σ H (optD (onlyL (helpL n ns p ns.length))) := .mk fun H1 x1 al Q q => by
  refine run_HP C.ks hr hj hg (by decide) a1 a2 a3 hp hrow hh H1 x1 (fun H2 x2 v H3 x3 r3 => ?_) hs hs2 hs3 hpl
  rw [stL_helpL hp] at r3
  exact q v H3 (x2.trans x3) r3
end
def spTells (K : PySem.W.Frag) : Sp := fun vs H Q _ => ∃ (u : V) (ns : List Int) (p n : Nat), vs = [u, .int (p : Nat), .int (n : Nat)] ∧ Rp K M0 H u (.list (ns.map PyData.int)) ∧ RowL ns ∧ p + 1 < ns.length ∧ 1 ≤ n ∧ n < 64 ∧ ∀ H', Evl.Ex H H' → Q (.bl true) H'
theorem presL_eq (ns : List Int) (p : Nat) : presL ns p = (List.range 6).filter (presB ns p) := rfl
theorem presL_lt {ns : List Int} {p : Nat} : ∀ k ∈ (List.range 6).filter (presB ns p), k < 6 := fun k hk => List.mem_range.mp (List.mem_filter.mp hk).1
section
variable {P : Program} {w : World} {K : PySem.W.Frag} {mg : Str → Option Value} {base : Heap} {CH : Addr}
theorem cl_law_tells {f : Addr} {fd : FuncData} (F : At K mg "_law_place_tells" s_law_place_tells f fd) (C : HouseC P w K mg base CH) : Cl P w K mg base CX0 10 "_law_place_tells" (spTells K) := by
  refine ⟨f, fd, _, F.fn.ok sc_law_place_tells (fun vs H Q E h => ?_) (fun cdv A outer sh H vs Q E hr h => ⟨_, wB.ps, ?_⟩), F.gl, F.fn.kp, F.fn.binds fun _ _ _ _ _ _ us hl => match us, hl with | [_, _, _], _ => rfl⟩
  · obtain ⟨_, _, _, _, rfl, _⟩ := h
    rfl
  obtain ⟨u, ns, p, n, rfl, r, hrow, hp, n1, n2, q⟩ := h
  have nb := C.nb
  have hl := hrow.1
  have nd := hrow.2.2
  refine b_cons (cs_set (i := 3) sc_law_place_tells.nd rfl (by first | exact .inl rfl | exact .inr rfl) (ce_clsX (W := fun _ _ _ _ => False) C.by_ hr (by decide) (fun σ => passAt takes0 σ) rfl C.gH (ca_cons (ce_nm 2 (ca_nil ⟨n, rfl, n1, n2, fun h H1 x1 hh => ?_⟩)))))
  have r1 := r.mono (fun _ z => z) (ExM.of x1)
  refine b_cons (cs_set (i := 4) sc_law_place_tells.nd rfl (by first | exact .inl rfl | exact .inr rfl) (ce_fd (M := M0) alive0 (fd_listOf rfl nb.list (nm 0 r1) rfl) fun po wo H2 hpo x2 h2 ro => ?_))
  have ro2 : Rp K M0 H2 (.ref po) (.list (ns.map PyData.int)) := .lst (fun z => z) (.inl h2) ro
  have r2 := r1.mono (fun _ z => z) (ExM.of x2)
  refine b_cons (cs_set (i := 5) sc_law_place_tells.nd rfl (by first | exact .inl rfl | exact .inr rfl) (ce_fd (M := M0) alive0 (fd_callC C.lh hr (by decide) rfl (ad_cons (nm 0 r2) (ad_cons (nm 1 (.int (p : Nat))) (ad_cons (nm 2 (.int (n : Nat))) ad_nil))) ⟨false, ns, p, n, hp, by omega, nd, rfl, rfl⟩) fun pf wf H3 hpf x3 h3 rf => ?_))
  have hlen := helpL_len n ns p ns.length
  have rf3 : Rp K M0 H3 (.ref pf) (.list ((helpL n ns p ns.length).map PyData.int)) := .lst (fun z => z) (.inl h3) rf
  have r3 := r2.mono (fun _ z => z) (ExM.of x3)
  have ro3 := ro2.mono (fun _ z => z) (ExM.of x3)
  have hh3 := (hh.ex' x2).ex' x3
  refine b_cons (s_if (M := M0) (k := false) alive0 (td_not (k := true) (td_val (pd_callC C.lk2 hr (by decide) rfl (ad_cons (FD.pd (fd_callC C.ka hr (by decide) rfl (ad_cons (nm 4 ro3) (ad_cons (nm 1 (.int (p : Nat))) ad_nil)) ⟨false, ns, p, hrow, hp, rfl, rfl⟩)) (ad_cons (FD.pd (fd_callC C.ln hr (by decide) rfl (ad_cons (FD.pd (fd_callC C.lk hr (by decide) rfl (ad_cons (nm 0 r3) (ad_cons (nm 1 (.int (p : Nat))) ad_nil)) ⟨false, ns, p, hp, by omega, nd, rfl, rfl⟩)) ad_nil) ⟨presB ns p, rfl, rfl⟩)) ad_nil)) ⟨_, rfl, alk_kinds _ 1 presL_lt (Nat.le_trans (List.length_filter_le _ _) (by decide)), rfl⟩))) (fun k => by cases k) (fun _ H4 x4 => b_nil ?_))
  have r4 := r3.mono (fun _ z => z) (ExM.of x4)
  have ro4 := ro3.mono (fun _ z => z) (ExM.of x4)
  have rf4 := rf3.mono (fun _ z => z) (ExM.of x4)
  have hh4 := hh3.ex' x4
  refine b_cons (s_if (M := M0) (k := false) alive0 (td_not (k := true) (td_val (pd_callC C.lk2 hr (by decide) rfl (ad_cons (FD.pd (fd_helpers (tp := true) C hr (by decide) rfl (pd_tupleOf rfl nb.tuple (nm 0 r4) rfl) (nm 1 (.int (p : Nat))) (fun H2 Q q => ce_nm 3 q) hp hrow hh4)) (ad_cons (nm 5 rf4) ad_nil)) ⟨_, rfl, alk_ints false _ 1 (by omega), rfl⟩))) (fun k => by cases k) (fun _ H5 x5 => b_nil ?_))
  have ro5 := ro4.mono (fun _ z => z) (ExM.of x5)
  have rf5 := rf4.mono (fun _ z => z) (ExM.of x5)
  have hh5 := hh4.ex' x5
  have x05 := (x1.trans (x2.trans x3)).trans (x4.trans x5)
  have fin : ∀ (vk : V) (H6 : Hp), Evl.Ex H5 H6 → Rp K M0 H6 vk (optD (onlyL (helpL n ns p ns.length))) → wB (cxOf CX0 P w K mg base n_law_place_tells "_law_place_tells" (defScope s_law_place_tells) f cdv A outer sh H E).nox ((defBody s_law_place_tells).drop 7) { nx := fun _ H' => Q .non H', rt := Q } [some u, some (.int (p : Nat)), some (.int (n : Nat)), some (.ref h), some (.ref po), some (.ref pf), some vk] H6 := by
    intro vk H6 x6 rk
    have ro6 := ro5.mono (fun _ z => z) (ExM.of x6)
    refine b_cons (s_if (M := M0) (k := false) alive0 (td_not (k := true) (td_val (pd_callC C.lk2 hr (by decide) rfl (ad_cons (pd_keystone (tp := false) C hr (by decide) rfl (nm 4 ro6) (nm 1 (.int (p : Nat))) (fun H2 Q q => ce_nm 3 q) hp hrow (hh5.ex' x6)) (ad_cons (nm 6 rk) ad_nil)) ⟨_, rfl, alk_opt _ 2, rfl⟩))) (fun k => by cases k) (fun _ H7 x7 => b_nil ?_))
    have x07 := x05.trans (x6.trans x7)
    have ro7 := ro6.mono (fun _ z => z) (ExM.of x7)
    have rf7 := (rf5.mono (fun _ z => z) (ExM.of x6)).mono (fun _ z => z) (ExM.of x7)
    have r7 := r.mono (fun _ z => z) (ExM.of x07)
    refine b_cons (s_ret (M := M0) (d := .bool true) alive0 (PD.is (pd_and (k1 := true) (k2 := true) (pd_callC C.lk2 hr (by decide) rfl (ad_cons (pd_free (tp := false) C hr (by decide) rfl (nm 4 ro7) (nm 1 (.int (p : Nat))) (fun H2 Q q => ce_nm 3 q) hp hrow ((hh5.ex' x6).ex' x7)) (ad_cons (PD.is (pd_ne hr.units (nm 5 rf7) (FD.pd (fd_lst ad_nil (by simp))) (shaped_il _) (shaped_il [])) (congrArg PyData.bool ((eqv_nil _).trans (helpL_free hp)))) ad_nil)) ⟨_, rfl, alk_bool _ 2, rfl⟩) fun _ => pd_one (PD.is (pd_eq hr.units (nm 4 ro7) (FD.pd (fd_listOf rfl nb.list (nm 0 r7) rfl)) (shaped_il ns) (shaped_il ns)) (congrArg PyData.bool (eqv_il ns)))) rfl) fun v8 H8 x8 r8 => ?_)
    cases r8
    exact q H8 (x07.trans x8)
  refine b_cons (s_set (M := M0) (i := 6) (d := .none) alive0 sc_law_place_tells.nd rfl (by first | exact .inl rfl | exact .inr rfl) pd_non fun v6 H6 x6 r6 => ?_)
  have rf6 := rf5.mono (fun _ z => z) (ExM.of x6)
  have lnf : lenD (.list ((helpL n ns p ns.length).map PyData.int)) = some (helpL n ns p ns.length).length := by show some _ = _; rw [List.length_map]
  refine b_cons (s_if (M := M0) (k := decide ((helpL n ns p ns.length).length = 1)) alive0 (TD.is (td_eq hr.units (pd_len nb rfl (nm 5 rf6) lnf) pd_int rfl rfl) (by rw [eqv_int]; exact decide_eq_decide.mpr (by omega))) (fun hk H7 x7 => ?_) (fun hk H7 x7 => b_nil (fin v6 H7 (x6.trans x7) ?_)))
  · have hk := of_decide_eq_true hk
    have rf7 := rf6.mono (fun _ z => z) (ExM.of x7)
    obtain ⟨z, ez⟩ : ∃ z, helpL n ns p ns.length = [z] := List.length_eq_one_iff.mp hk
    refine b_cons (s_set (M := M0) (i := 6) (d := .int z) alive0 sc_law_place_tells.nd rfl (by first | exact .inl rfl | exact .inr rfl) (pd_ix (nm 5 rf7) pd_int (by rw [ez]; rfl)) fun v8 H8 x8 r8 => b_nil (fin v8 H8 (x6.trans (x7.trans x8)) (by rw [ez]; exact r8)))
  · have hk := of_decide_eq_false hk
    have e : onlyL (helpL n ns p ns.length) = none := by
      generalize helpL n ns p ns.length = l at hk
      match l, hk with
      | [], _ => rfl
      | _ :: _ :: _, _ => rfl
      | [_], k => exact absurd rfl k
    rw [e]
    exact r6.mono (fun _ z => z) (ExM.of x7)
end
end IK

namespace IK
open PySem PySem.Spec PyProof.Rows L2 GV
/-! ### a row about its place -/
def b2 (n : Nat) (x y : Int) (late : Bool) (z : Int) : Bool := bit n (kd z (min x y) (max x y) late)
theorem getD_A {A B : List Int} {i : Nat} (h : i < A.length) : (A ++ B).getD i 0 = A.getD i 0 := by
  rw [List.getD_eq_getElem?_getD, List.getD_eq_getElem?_getD, List.getElem?_append_left h]
theorem getD_B {A B : List Int} (i : Nat) : (A ++ B).getD (A.length + i) 0 = B.getD i 0 := by
  rw [List.getD_eq_getElem?_getD, List.getD_eq_getElem?_getD, List.getElem?_append_right (by omega), Nat.add_sub_cancel_left]
theorem lohi {A B : List Int} {x y : Int} : lo2 (A ++ x :: y :: B) A.length = min x y ∧ hi2 (A ++ x :: y :: B) A.length = max x y := by
  have e0 : (A ++ x :: y :: B).getD A.length 0 = x := by
    have := getD_B (A := A) (B := x :: y :: B) 0
    exact this
  have e1 : (A ++ x :: y :: B).getD (A.length + 1) 0 = y := by
    have := getD_B (A := A) (B := x :: y :: B) 1
    exact this
  unfold lo2 hi2
  rw [e0, e1]
  exact ⟨rfl, rfl⟩
theorem map_range_getD (A : List Int) : (List.range A.length).map (fun i => A.getD i 0) = A := by
  apply List.ext_getElem
  · simp
  · intro i h1 h2
    simp only [List.getElem_map, List.getElem_range]
    rw [List.getD_eq_getElem?_getD, List.getElem?_eq_getElem h2]
    rfl
theorem filt_map {α β : Type} (f : α → β) (g : α → Bool) (g' : β → Bool) (l : List α) (h : ∀ a ∈ l, g a = g' (f a)) : (l.filter g).map f = (l.map f).filter g' := by
  rw [List.filter_map]
  exact congrArg (List.map f) (List.filter_congr fun a ha => h a ha)
/-- the third stones with their kinds -/
theorem parts_of {β : Type} (A B : List Int) (x y : Int) (F : Nat → Int → β) : (thirds (A ++ x :: y :: B).length A.length).map (fun j => F (kAt (A ++ x :: y :: B) A.length j) ((A ++ x :: y :: B).getD j 0)) = A.map (fun z => F (kd z (min x y) (max x y) false) z) ++ B.map (fun z => F (kd z (min x y) (max x y) true) z) := by
  have hn : (A ++ x :: y :: B).length = A.length + 2 + B.length := by
    rw [List.length_append, List.length_cons, List.length_cons]
    omega
  obtain ⟨e1, e2⟩ := lohi (A := A) (B := B) (x := x) (y := y)
  rw [third_split (by omega), List.map_append]
  congr 1
  · conv => rhs; rw [← map_range_getD A, List.map_map]
    refine List.map_congr_left fun j hj => ?_
    have hj := List.mem_range.mp hj
    show F (kAt _ _ j) _ = F (kd (A.getD j 0) _ _ false) (A.getD j 0)
    unfold kAt
    rw [e1, e2, getD_A hj, decide_eq_false (by omega)]
  · conv => rhs; rw [← map_range_getD B, List.map_map]
    rw [show (A ++ x :: y :: B).length - (A.length + 2) = B.length by omega, List.map_map]
    refine List.map_congr_left fun j hj => ?_
    show F (kAt _ _ (A.length + 2 + j)) ((A ++ x :: y :: B).getD (A.length + 2 + j) 0) = F (kd (B.getD j 0) _ _ true) (B.getD j 0)
    have eg : (A ++ x :: y :: B).getD (A.length + 2 + j) 0 = B.getD j 0 := by
      have := getD_B (A := A) (B := x :: y :: B) (j + 2)
      rw [show A.length + 2 + j = A.length + (j + 2) by omega, this]
      rfl
    unfold kAt
    rw [e1, e2, eg, decide_eq_true (by omega)]
theorem helpL_parts (n : Nat) (A B : List Int) (x y : Int) : helpL n (A ++ x :: y :: B) A.length (A ++ x :: y :: B).length = A.filter (b2 n x y false) ++ B.filter (b2 n x y true) := by
  have h := parts_of A B x y (fun k z => (k, z))
  have e : helpL n (A ++ x :: y :: B) A.length (A ++ x :: y :: B).length = (((thirds (A ++ x :: y :: B).length A.length).map fun j => (kAt (A ++ x :: y :: B) A.length j, (A ++ x :: y :: B).getD j 0)).filter fun q => bit n q.1).map (·.2) := by
    unfold helpL
    rw [List.filter_map, List.map_map]
    rfl
  rw [e, h, List.filter_append, List.map_append, List.filter_map, List.filter_map, List.map_map, List.map_map]
  have i1 : (fun q : Nat × Int => q.2) ∘ (fun z : Int => (kd z (min x y) (max x y) false, z)) = id := rfl
  have i2 : (fun q : Nat × Int => q.2) ∘ (fun z : Int => (kd z (min x y) (max x y) true, z)) = id := rfl
  rw [i1, i2, List.map_id, List.map_id]
  rfl
theorem kLs_parts (A B : List Int) (x y : Int) : kLs (A ++ x :: y :: B) A.length = A.map (fun z => kd z (min x y) (max x y) false) ++ B.map (fun z => kd z (min x y) (max x y) true) := parts_of A B x y fun k _ => k
/-- every row is one about its place -/
theorem row_parts {ns : List Int} {p : Nat} (hp : p + 1 < ns.length) : ∃ A x y B, ns = A ++ x :: y :: B ∧ A.length = p := by
  refine ⟨ns.take p, ns[p], ns[p + 1], ns.drop (p + 2), ?_, by rw [List.length_take]; omega⟩
  rw [← List.drop_eq_getElem_cons hp, ← List.drop_eq_getElem_cons (show p < ns.length by omega), List.take_append_drop]
theorem free_parts (n : Nat) (A B : List Int) (x y : Int) : freeB n (A ++ x :: y :: B) A.length = decide (0 < (A.filter (b2 n x y false) ++ B.filter (b2 n x y true)).length) := by
  rw [← helpL_free (by rw [List.length_append, List.length_cons, List.length_cons]; omega), helpL_parts]
theorem out_parts {A B : List Int} {x y z : Int} (hx : x ≠ z) (hy : y ≠ z) : outL (A ++ x :: y :: B) z = (outL A z) ++ x :: y :: (outL B z) := by
  unfold outL
  rw [List.filter_append, List.filter_cons, List.filter_cons, if_pos (decide_eq_true hx), if_pos (decide_eq_true hy)]
theorem out_help (n : Nat) (A B : List Int) (x y z : Int) : (outL A z).filter (b2 n x y false) ++ (outL B z).filter (b2 n x y true) = outL (A.filter (b2 n x y false) ++ B.filter (b2 n x y true)) z := by
  unfold outL
  rw [List.filter_append, List.filter_filter, List.filter_filter, List.filter_filter, List.filter_filter]
  congr 1
  · exact List.filter_congr fun a _ => Bool.and_comm _ _
  · exact List.filter_congr fun a _ => Bool.and_comm _ _
theorem out_none {l : List Int} {z : Int} (h : z ∉ l) : outL l z = l := List.filter_eq_self.mpr fun a ha => decide_eq_true fun e => h (e ▸ ha)
theorem out_len : ∀ {l : List Int} {z : Int}, l.Nodup → z ∈ l → (outL l z).length + 1 = l.length
  | a :: l, z, nd, h => by
    obtain ⟨h1, h2⟩ := List.nodup_cons.mp nd
    unfold outL
    rw [List.filter_cons]
    by_cases e : a = z
    · rw [if_neg (by simp [e])]
      have := out_none (l := l) (z := z) (e ▸ h1)
      unfold outL at this
      rw [this]
      rfl
    · rw [if_pos (decide_eq_true e)]
      have ih := out_len (l := l) (z := z) h2 ((List.mem_cons.mp h).resolve_left fun z => e z.symm)
      unfold outL at ih
      rw [List.length_cons, List.length_cons]
      omega
/-- a third stone taken out: the row that is left, its place, and who is free -/
theorem taken_math {ns : List Int} {p i : Nat} (hrow : RowL ns) (hp : p + 1 < ns.length) (hi : i < ns.length) (h3 : i ≠ p ∧ i ≠ p + 1) : ∃ q, q = (if i < p then p - 1 else p) ∧ q + 1 < (outL ns (ns.getD i 0)).length ∧ ∀ n, helpL n (outL ns (ns.getD i 0)) q (outL ns (ns.getD i 0)).length = outL (helpL n ns p ns.length) (ns.getD i 0) := by
  obtain ⟨A, x, y, B, rfl, rfl⟩ := row_parts hp
  have nd := hrow.2.2
  generalize hz : (A ++ x :: y :: B).getD i 0 = z
  have hl : (A ++ x :: y :: B).length = A.length + 2 + B.length := by
    rw [List.length_append, List.length_cons, List.length_cons]
    omega
  have e0 : (A ++ x :: y :: B).getD A.length 0 = x := getD_B (A := A) (B := x :: y :: B) 0
  have e1 : (A ++ x :: y :: B).getD (A.length + 1) 0 = y := getD_B (A := A) (B := x :: y :: B) 1
  have hx : x ≠ z := fun e => neq_of nd hi (show A.length < _ by omega) h3.1 (by rw [hz, e0, e])
  have hy : y ≠ z := fun e => neq_of nd hi (show A.length + 1 < _ by omega) h3.2 (by rw [hz, e1, e])
  obtain ⟨ndA, ndB, dis⟩ := List.nodup_append.mp nd
  refine ⟨(outL A z).length, ?_, ?_, fun n => ?_⟩
  · by_cases h : i < A.length
    · rw [if_pos h]
      have mz : z ∈ A := by
        rw [← hz, getD_A h, List.getD_eq_getElem?_getD, List.getElem?_eq_getElem h]
        exact List.getElem_mem h
      have := out_len ndA mz
      omega
    · rw [if_neg h]
      have mz : z ∈ x :: y :: B := by
        have e : i = A.length + (i - A.length) := by omega
        rw [← hz, e, getD_B, List.getD_eq_getElem?_getD, List.getElem?_eq_getElem (show i - A.length < (x :: y :: B).length by rw [List.length_cons, List.length_cons]; omega)]
        exact List.getElem_mem _
      rw [out_none fun m => dis z m z mz rfl]
  · rw [out_parts hx hy, List.length_append, List.length_cons, List.length_cons]
    omega
  · rw [out_parts hx hy, helpL_parts, helpL_parts, out_help]
theorem rowL_sub {ns ms : List Int} (h : RowL ns) (s : ms.Sublist ns) : RowL ms := ⟨Nat.le_trans s.length_le h.1, fun z hz => h.2.1 z (s.subset hz), h.2.2.sublist s⟩
theorem helpL_nodup {n p : Nat} {ns : List Int} (hrow : RowL ns) (hp : p + 1 < ns.length) : (helpL n ns p ns.length).Nodup := by
  obtain ⟨A, x, y, B, rfl, rfl⟩ := row_parts hp
  rw [helpL_parts]
  have nd := hrow.2.2
  refine nd.sublist ?_
  refine List.Sublist.append List.filter_sublist ?_
  exact List.filter_sublist.trans ((List.sublist_cons_self y B).trans (List.sublist_cons_self x _))
theorem now_math {l : List Int} {z : Int} (nd : l.Nodup) : (∀ k, onlyL l = some k → decide (0 < (outL l z).length) = (decide (0 < l.length) && decide (z ≠ k))) ∧ (onlyL l = none → decide (0 < (outL l z).length) = decide (0 < l.length)) := by
  refine ⟨fun k h => ?_, fun h => ?_⟩
  · match l, h with
    | [a], h =>
      have ek : a = k := Option.some.inj h
      subst ek
      unfold outL
      rw [List.filter_cons]
      by_cases e : a = z
      · rw [if_neg (by simp [e])]
        simp [e]
      · rw [if_pos (decide_eq_true e)]
        rw [decide_eq_true (show z ≠ a from fun x => e x.symm)]
        rfl
  · by_cases m : z ∈ l
    · have := out_len nd m
      match l, h, m with
      | a :: b :: r, _, _ => exact decide_eq_decide.mpr (by simp only [List.length_cons] at this ⊢; omega)
    · rw [out_none m]
end IK

namespace IK
open PySem PySem.Spec PyProof.Rows L2 GV
/-! ### stones taken out, as the law asks -/
theorem out_cut {ns : List Int} {i : Nat} (nd : ns.Nodup) (hi : i < ns.length) : outL ns (ns.getD i 0) = ns.take i ++ ns.drop (i + 1) := by
  have eg : ns.getD i 0 = ns[i] := by
    rw [List.getD_eq_getElem?_getD, List.getElem?_eq_getElem hi]
    rfl
  have e : ns = ns.take i ++ ns[i] :: ns.drop (i + 1) := by
    rw [← List.drop_eq_getElem_cons hi, List.take_append_drop]
  rw [eg]
  generalize ns[i] = z at e
  have nd' := nd
  rw [e] at nd'
  obtain ⟨_, n2, n3⟩ := List.nodup_append.mp nd'
  obtain ⟨n4, _⟩ := List.nodup_cons.mp n2
  have a1 : z ∉ ns.take i := fun m => n3 z m z (List.mem_cons_self ..) rfl
  conv => lhs; rw [e]
  have o1 := out_none a1
  have o2 := out_none n4
  unfold outL at o1 o2 ⊢
  rw [List.filter_append, List.filter_cons, if_neg (by simp), o1, o2]
theorem eqv_bool (a b : Bool) : PyData.eqv (.bool a) (.bool b) = decide (a = b) := by cases a <;> cases b <;> rfl
section
variable {P : Program} {w : World} {K : PySem.W.Frag} {mg : Str → Option Value} {base : Heap} {CH CO : Addr}
theorem cl_law_taken {f : Addr} {fd : FuncData} (F : At K mg "_law_taken" s_law_taken f fd) (C : HouseC P w K mg base CH) (ct : Cl P w K mg base (L2.CX P w) 7 "taken_out" (spOut K CO)) : Cl P w K mg base CX0 10 "_law_taken" (spTells K) := by
  refine ⟨f, fd, _, F.fn.ok sc_law_taken (fun vs H Q E h => ?_) (fun cdv A outer sh H vs Q E hr h => ⟨_, wB.ps, ?_⟩), F.gl, F.fn.kp, F.fn.binds fun _ _ _ _ _ _ us hl => match us, hl with | [_, _, _], _ => rfl⟩
  · obtain ⟨_, _, _, _, rfl, _⟩ := h
    rfl
  obtain ⟨u, ns, p, n, rfl, r, hrow, hp, n1, n2, q⟩ := h
  have nb := C.nb
  have hl := hrow.1
  have nd := hrow.2.2
  refine b_cons (cs_set (i := 3) sc_law_taken.nd rfl (by first | exact .inl rfl | exact .inr rfl) (ce_clsX (W := fun _ _ _ _ => False) C.by_ hr (by decide) (fun σ => passAt takes0 σ) rfl C.gH (ca_cons (ce_nm 2 (ca_nil ⟨n, rfl, n1, n2, fun h H1 x1 hh => ?_⟩)))))
  have r1 := r.mono (fun _ z => z) (ExM.of x1)
  refine b_cons (s_set (M := M0) (i := 4) alive0 sc_law_taken.nd rfl (by first | exact .inl rfl | exact .inr rfl) (pd_keystone (tp := true) C hr (by decide) rfl (pd_tupleOf rfl nb.tuple (nm 0 r1) rfl) (nm 1 (.int (p : Nat))) (fun H2 Q q => ce_nm 3 q) hp hrow hh) fun vk H2 x2 rk => ?_)
  have r2 := r1.mono (fun _ z => z) (ExM.of x2)
  have hh2 := hh.ex' x2
  refine b_cons (s_set (M := M0) (i := 5) alive0 sc_law_taken.nd rfl (by first | exact .inl rfl | exact .inr rfl) (pd_free (tp := false) C hr (by decide) rfl (FD.pd (fd_listOf rfl nb.list (nm 0 r2) rfl)) (nm 1 (.int (p : Nat))) (fun H2 Q q => ce_nm 3 q) hp hrow hh2) fun vb H3 x3 rb => ?_)
  cases rb
  have x13 := x1.trans (x2.trans x3)
  have hh3 := hh2.ex' x3
  have rk3 := rk.mono (fun _ z => z) (ExM.of x3)
  have r3 := r.mono (fun _ z => z) (ExM.of x13)
  have ln : lenD (.list (ns.map PyData.int)) = some ns.length := by show some _ = _; rw [List.length_map]
  have fb := helpL_free (n := n) hp
  have ndL := helpL_nodup (n := n) hrow hp
  refine b_cons (s_forRW (slot := 6) PassesOwn.never rfl sc_law_taken.nd rfl (.inl rfl) rfl nb.range (ce_pd (M := M0) alive0 (pd_len nb rfl (nm 0 r3) ln) fun v4 H4 x4 r4 => ?_))
  cases r4
  refine ⟨ns.length, fun i σ' H' => ∃ y6 y7 y8 y9 y10 y11 : Option V, σ' = [some u, some (.int (p : Nat)), some (.int (n : Nat)), some (.ref h), some vk, some (.bl (freeB n ns p)), y6, y7, y8, y9, y10, y11] ∧ Evl.Ex H3 H', rfl, by omega, ⟨none, none, none, none, none, none, rfl, x4⟩, ?_, ?_⟩
  · rintro i σ' H' hi ⟨y6, y7, y8, y9, y10, y11, rfl, ex⟩
    obtain ⟨z, ez⟩ : ∃ z, ns.getD i 0 = z := ⟨_, rfl⟩
    have hz : z ∈ ns := by
      rw [← ez, List.getD_eq_getElem?_getD, List.getElem?_eq_getElem hi]
      exact List.getElem_mem hi
    have ixz : ∀ {tp : Bool}, ixD (sqD tp (ns.map PyData.int)) (natD i) = some (.int z) := fun {tp} => by rw [← ez]; exact ix_sq hi
    have oc := out_cut nd hi
    rw [ez] at oc
    have ra := r3.mono (fun _ z => z) (ExM.of ex)
    refine b_cons (cs_set (i := 7) sc_law_taken.nd rfl (by first | exact .inl rfl | exact .inr rfl) (ce_fd (M := M0) alive0 (fd_listOf rfl nb.list (nm 0 ra) rfl) fun po wo H6 hpo x6 h6 ro => ?_))
    have ro6 : Rp K M0 H6 (.ref po) (.list (ns.map PyData.int)) := .lst (fun z => z) (.inl h6) ro
    have rb6 := ra.mono (fun _ z => z) (ExM.of x6)
    have ed : cutD (ns.map PyData.int) none (some ((i : Nat) : Int)) ++ cutD (ns.map PyData.int) (some ((i + 1 : Nat) : Int)) none = (outL ns z).map PyData.int := by
      rw [cutD_take, cutD_drop, oc, List.map_append, List.map_take, List.map_drop]
    refine b_cons (cs_set (i := 8) sc_law_taken.nd rfl (by first | exact .inl rfl | exact .inr rfl) (ce_fd (M := M0) alive0 (fd_cat (FD.pd (fd_slice (nm 0 rb6) od_none (od_some (nm 6 (.int (i : Nat)))))) (FD.pd (fd_slice (nm 0 rb6) (od_some (PD.is (pd_add (nm 6 (.int (i : Nat))) pd_int) (congrArg PyData.int (show ((i : Nat) : Int) + 1 = ((i + 1 : Nat) : Int) by omega)))) od_none)) (by rw [cutD_take, cutD_drop, List.length_take, List.length_drop, List.length_map]; omega)) fun pr wr H7 hpr x7 h7 rr => ?_))
    rw [ed] at rr
    have rr7 : Rp K M0 H7 (.ref pr) (.list ((outL ns z).map PyData.int)) := .lst (fun z => z) (.inl h7) rr
    have ro7 := ro6.mono (fun _ z => z) (ExM.of x7)
    have rb7 := rb6.mono (fun _ z => z) (ExM.of x7)
    have okz : okW z := hrow.2.1 z hz
    refine b_cons (cs_set (i := 9) sc_law_taken.nd rfl (by first | exact .inl rfl | exact .inr rfl) (ce_callX (W := fun _ _ _ _ => False) ct hr (by decide) rfl takes0 (ca_cons (ce_nm 7 (ca_cons (ce_pd (M := M0) (d := .int z) alive0 (pd_ix (nm 0 rb7) (nm 6 (.int (i : Nat))) (ixz (tp := false))) fun vz H8 x8 rz => ca_nil ⟨.ref po, false, ns, z, by cases rz; rfl, ro7.mono (fun _ z => z) (ExM.of x8), hrow, okz, .inl ⟨hz, fun vt H9 x9 rt => ?_⟩⟩))))))
    have x79 := x8.trans x9
    have rr9 := rr7.mono (fun _ z => z) (ExM.of x79)
    have ro9 := ro7.mono (fun _ z => z) (ExM.of x79)
    have rb9 := rb7.mono (fun _ z => z) (ExM.of x79)
    have lo : (outL ns z).length ≤ ns.length := List.length_filter_le _ _
    have ex9 := ex.trans (x6.trans (x7.trans x79))
    refine b_cons (s_if (M := M0) (k := false) alive0 (TD.is (WD.td (wd_or (k1 := false) (k2 := false) (td_not (k := true) (td_val (pd_callC C.lk2 hr (by decide) rfl (ad_cons (nm 9 rt) (ad_cons (pd_tupleOf rfl nb.tuple (nm 8 rr9) rfl) ad_nil)) ⟨_, rfl, alk_ints true _ 1 (by omega), rfl⟩))) fun _ => wd_or1 (TD.is (td_ne hr.units (nm 7 ro9) (FD.pd (fd_listOf rfl nb.list (nm 0 rb9) rfl)) (shaped_il ns) (shaped_il ns)) (by rw [eqv_il]; rfl)))) rfl) (fun k => by cases k) (fun _ HA xA => b_nil ?_))
    have exA := ex9.trans xA
    refine b_cons (s_if (M := M0) (k := decide (i ≠ p) && decide (i ≠ p + 1)) alive0 (TD.is (WD.td (wd_or (td_lt (nm 6 (.int (i : Nat))) (nm 1 (.int (p : Nat)))) fun _ => wd_or1 (td_gt (nm 6 (.int (i : Nat))) (pd_add (nm 1 (.int (p : Nat))) pd_int)))) (third_iff i p)) (fun hk HB xB => ?_) (fun hk HB xB => b_nil (b_nil ⟨_, _, _, _, _, _, rfl, exA.trans xB⟩)))
    rw [Bool.and_eq_true, decide_eq_true_eq, decide_eq_true_eq] at hk
    obtain ⟨at_, ea, ha, hm⟩ := taken_math hrow hp hi hk
    rw [ez] at ha hm
    have hrowO : RowL (outL ns z) := rowL_sub hrow List.filter_sublist
    have lO := hrowO.1
    have exB := exA.trans xB
    refine b_cons (s_set (M := M0) (i := 10) (d := natD at_) alive0 sc_law_taken.nd rfl (by first | exact .inl rfl | exact .inr rfl) (PD.is (pd_sub (nm 1 (.int (p : Nat))) (pd_intB nb rfl (pd_lt (nm 6 (.int (i : Nat))) (nm 1 (.int (p : Nat)))))) (congrArg PyData.int (by
      rw [ea]
      by_cases hlt : i < p
      · rw [if_pos hlt, if_pos (decide_eq_true (by omega))]
        omega
      · rw [if_neg hlt, if_neg (by rw [decide_eq_true_eq]; omega)]
        omega))) fun vc HC xC rc => ?_)
    cases rc
    have xAC := xA.trans (xB.trans xC)
    have rtC := rt.mono (fun _ z => z) (ExM.of xAC)
    have rrC := rr9.mono (fun _ z => z) (ExM.of xAC)
    have exC := exB.trans xC
    have hhC := hh3.ex' exC
    refine b_cons (s_if (M := M0) (k := false) alive0 (td_not (k := true) (td_val (pd_callC C.lk2 hr (by decide) rfl (ad_cons (FD.pd (fd_callC C.ka hr (by decide) rfl (ad_cons (nm 9 rtC) (ad_cons (nm 10 (.int (at_ : Nat))) ad_nil)) ⟨true, outL ns z, at_, hrowO, ha, rfl, rfl⟩)) (ad_cons (FD.pd (fd_callC C.ln hr (by decide) rfl (ad_cons (FD.pd (fd_callC C.lk hr (by decide) rfl (ad_cons (nm 8 rrC) (ad_cons (nm 10 (.int (at_ : Nat))) ad_nil)) ⟨false, outL ns z, at_, ha, by omega, hrowO.2.2, rfl, rfl⟩)) ad_nil) ⟨presB (outL ns z) at_, rfl, rfl⟩)) ad_nil)) ⟨_, rfl, alk_kinds _ 1 presL_lt (Nat.le_trans (List.length_filter_le _ _) (by decide)), rfl⟩))) (fun k => by cases k) (fun _ HD xD => b_nil ?_))
    have rtD := rtC.mono (fun _ z => z) (ExM.of xD)
    have rrD := rrC.mono (fun _ z => z) (ExM.of xD)
    have hhD := hhC.ex' xD
    refine b_cons (s_set (M := M0) (i := 11) alive0 sc_law_taken.nd rfl (by first | exact .inl rfl | exact .inr rfl) (pd_free (tp := true) C hr (by decide) rfl (nm 9 rtD) (nm 10 (.int (at_ : Nat))) (fun H2 Q q => ce_nm 3 q) ha hrowO hhD) fun ve HE xE re => ?_)
    cases re
    have rrE := rrD.mono (fun _ z => z) (ExM.of xE)
    refine b_cons (s_if (M := M0) (k := false) alive0 (td_not (k := true) (td_val (pd_callC C.lk2 hr (by decide) rfl (ad_cons (nm 11 (.bl _)) (ad_cons (pd_callC C.lf hr (by decide) rfl (ad_cons (nm 8 rrE) (ad_cons (nm 10 (.int (at_ : Nat))) (ad_cons (nm 2 (.int (n : Nat))) ad_nil))) ⟨false, outL ns z, at_, n, ha, by omega, hrowO.2.2, rfl, rfl⟩) ad_nil)) ⟨_, rfl, alk_bool _ 2, rfl⟩))) (fun k => by cases k) (fun _ HF xF => b_nil ?_))
    have exF := exC.trans (xD.trans (xE.trans xF))
    have rkF := rk3.mono (fun _ z => z) (ExM.of exF)
    have rbF := r3.mono (fun _ z => z) (ExM.of exF)
    obtain ⟨m1, m2⟩ := now_math (z := z) ndL
    have nowE : freeB n (outL ns z) at_ = decide (0 < (outL (helpL n ns p ns.length) z).length) := by rw [← helpL_free ha, hm]
    rw [fb] at m1 m2
    rw [← nowE] at m1 m2
    cases hkey : onlyL (helpL n ns p ns.length) with
    | none =>
      rw [hkey] at rkF
      have m := m2 hkey
      refine b_cons (s_if (M := M0) (k := false) alive0 (TD.is (WD.td (wd_and (k1 := false) (k2 := false) (TD.is (td_notN (nm 4 rkF)) rfl) fun z => by cases z)) rfl) (fun k => by cases k) (fun _ HG xG => b_nil ?_))
      have rkG := rkF.mono (fun _ z => z) (ExM.of xG)
      refine b_cons (s_if (M := M0) (k := false) alive0 (TD.is (WD.td (wd_and (k1 := true) (k2 := false) (TD.is (td_isN (nm 4 rkG)) rfl) fun _ => wd_and1 (TD.is (td_ne hr.units (nm 11 (.bl _)) (nm 5 (.bl _)) rfl rfl) (by rw [eqv_bool, m, decide_eq_true rfl]; rfl)))) rfl) (fun k => by cases k) (fun _ HI xI => b_nil (b_nil (b_nil ⟨_, _, _, _, _, _, rfl, exF.trans (xG.trans xI)⟩))))
    | some k =>
      rw [hkey] at rkF
      have m := m1 k hkey
      have rkF : Rp K M0 HF vk (.int k) := rkF
      refine b_cons (s_if (M := M0) (k := false) alive0 (TD.is (WD.td (wd_and (k1 := true) (k2 := false) (TD.is (td_notN (nm 4 rkF)) rfl) fun _ => wd_and1 (TD.is (td_ne hr.units (nm 11 (.bl _)) (pd_and (k1 := freeB n ns p) (k2 := decide (z ≠ k)) (nm 5 (.bl _)) fun _ => pd_one (PD.is (pd_ne hr.units (pd_ix (nm 0 rbF) (nm 6 (.int (i : Nat))) (ixz (tp := false))) (nm 4 rkF) rfl rfl) (by rw [eqv_int]; by_cases e : z = k <;> simp [e]))) rfl rfl) (by rw [eqv_bool, m, decide_eq_true rfl]; rfl)))) rfl) (fun k => by cases k) (fun _ HG xG => b_nil ?_))
      have rkG := rkF.mono (fun _ z => z) (ExM.of xG)
      refine b_cons (s_if (M := M0) (k := false) alive0 (TD.is (WD.td (wd_and (k1 := false) (k2 := false) (TD.is (td_isN (nm 4 rkG)) rfl) fun z => by cases z)) rfl) (fun k => by cases k) (fun _ HI xI => b_nil (b_nil (b_nil ⟨_, _, _, _, _, _, rfl, exF.trans (xG.trans xI)⟩))))
  · rintro σ' H' ⟨y6, y7, y8, y9, y10, y11, rfl, ex⟩
    refine b_cons (s_ret (M := M0) alive0 pd_bl fun v8 H8 x8 r8 => ?_)
    cases r8
    exact q H8 (x13.trans (ex.trans x8))
end
end IK

/-! a walk over range(1, n + 1) -/
namespace GV
open PySem PySem.Spec PyProof.Rows L2
section
variable {X : Cx} {M : Addr → Prop} {σ : St} {H : Hp} {a b : Expr} {pos : Pos}
theorem s_forR1 {n slot : Nat} {x : Str} {p p1 p2 : Pos} {body : List Stmt} {D : Ends} (hp : PassesOwn (model X.prog X.w) X.A X.env X.xe) (hc : X.calm = true) (hN : X.N.Nodup) (hx : X.N[slot]? = some x) (hl : Loc X.env.scope x) (hg : Gl X "range") (hm : X.mg "range" = none) (ha : PD X M a σ H (.int 1)) (hb : PD X M b σ H (.int ((n + 1 : Nat) : Int))) (hn : n ≤ 1000000) (al : Alive M H) (J : Hp → Nat → St → Hp → Prop)
    (h0 : ∀ H1, Evl.Ex H H1 → J H1 0 σ H1) (hk : ∀ H1 i σ' H', Evl.Ex H H1 → J H1 i σ' H' → ExM M H1 H' ∧ Alive M H')
    (ht : ∀ H1 i σ' H' H2, Evl.Ex H H1 → i < n → J H1 i σ' H' → Evl.Ex H' H2 → wB X body { D with nx := J H1 (i + 1), ct := J H1 (i + 1), bk := D.nx } (σ'.set slot (some (.int ((i + 1 : Nat) : Int)))) H2)
    (hd : ∀ H1 σ' H', Evl.Ex H H1 → J H1 n σ' H' → D.nx σ' H') (hs : starEach [a, b] X.env = [(false, eval a X.env), (false, eval b X.env)] := by rfl) (hs2 : starEach [b] X.env = [(false, eval b X.env)] := by rfl)
    (hsa : starEach (a :: [b]) X.env = (false, eval a X.env) :: starEach [b] X.env := by rfl) (hsb : starEach (b :: []) X.env = (false, eval b X.env) :: starEach [] X.env := by rfl)
    (hf : ∀ x, foldedSetIterable (.Call (.Name "range" p) [a, b] [] p1) X.env x = pure x := by intro _; rfl) (hfn : X.fn x = true ∨ X.env.scope.names.lookup x = some .local := by first | exact .inl rfl | exact .inr rfl | assumption) : wS X (.For (.Name x p2) (.Call (.Name "range" p) [a, b] [] p1) body [] pos) D σ H := by
  have en : (((n + 1 : Nat) : Int) - 1).toNat = n := by omega
  refine s_for (t := .one slot) hp hc (src_range2 hg hm ha hb (by omega) (by omega) hs hs2 hsa hsb) (pg_name hN hx hl hfn) al J h0 hk (fun _ _ => trivial) ?_ ?_ hf
  · rintro H1 i d σ' H' H2 σ2 x1 hd j x2 ⟨v, rv, rfl⟩
    rw [List.getElem?_map, en] at hd
    obtain ⟨k, h1, rfl⟩ := Option.map_eq_some_iff.mp hd
    obtain ⟨h2, h3⟩ := List.getElem?_eq_some_iff.mp h1
    rw [List.getElem_range] at h3
    subst h3
    rw [List.length_range] at h2
    cases rv
    have e1 : (1 : Int) + ((i : Nat) : Int) = ((i + 1 : Nat) : Int) := by omega
    rw [e1]
    exact ht H1 i σ' H' H2 x1 h2 j x2
  · intro H1 σ' H' x1 j
    refine hd H1 σ' H' x1 ?_
    rw [List.length_map, List.length_range, en] at j
    exact j
end
end GV

namespace IK
open PySem PySem.Spec PyProof.Rows L2 GV
/-! ### stones put in, as the law asks -/
theorem put_perm (ns : List Int) (z : Int) (i : Nat) : (putL ns z i).Perm (z :: ns) := by
  unfold putL
  have e : ns.take i ++ [z] ++ ns.drop i = ns.take i ++ z :: ns.drop i := by simp
  rw [e]
  refine List.perm_middle.trans ?_
  rw [List.take_append_drop]
theorem put_len (ns : List Int) (z : Int) (i : Nat) : (putL ns z i).length = ns.length + 1 := (put_perm ns z i).length_eq
theorem put_row {ns : List Int} {z : Int} {i : Nat} (h : RowL ns) (hl : ns.length < 40) (hz : okW z) (hn : z ∉ ns) : RowL (putL ns z i) := by
  have p := put_perm ns z i
  refine ⟨by rw [put_len]; omega, fun x hx => ?_, p.nodup_iff.mpr (List.nodup_cons.mpr ⟨hn, h.2.2⟩)⟩
  rcases List.mem_cons.mp (p.mem_iff.mp hx) with rfl | hx
  · exact hz
  · exact h.2.1 x hx
theorem put_out {ns : List Int} {z : Int} {i : Nat} (hn : z ∉ ns) : outL (putL ns z i) z = ns := by
  have a := out_none (l := ns.take i) (z := z) fun m => hn (List.mem_of_mem_take m)
  have b := out_none (l := ns.drop i) (z := z) fun m => hn (List.mem_of_mem_drop m)
  unfold outL at a b ⊢
  unfold putL
  rw [List.filter_append, List.filter_append, a, b, List.filter_cons, if_neg (by simp)]
  show ns.take i ++ [] ++ ns.drop i = ns
  rw [List.append_nil, List.take_append_drop]
theorem put_mem {ns : List Int} {z x : Int} {i : Nat} (h : x ∈ ns) : x ∈ putL ns z i := (put_perm ns z i).mem_iff.mpr (List.mem_cons_of_mem _ h)
theorem put_math {ns : List Int} {p i : Nat} {z : Int} (hp : p + 1 < ns.length) (hi : i ≤ ns.length) (hne : i ≠ p + 1) : ∃ q, q = (if i ≤ p then p + 1 else p) ∧ q + 1 < (putL ns z i).length ∧ ∀ k, presB ns p k = true → presB (putL ns z i) q k = true := by
  obtain ⟨A, x, y, B, rfl, rfl⟩ := row_parts hp
  have hl : (A ++ x :: y :: B).length = A.length + 2 + B.length := by
    rw [List.length_append, List.length_cons, List.length_cons]
    omega
  have mono : ∀ (A' B' : List Int), (∀ x ∈ A, x ∈ A') → (∀ x ∈ B, x ∈ B') → ∀ k, presB (A ++ x :: y :: B) A.length k = true → presB (A' ++ x :: y :: B') A'.length k = true := by
    intro A' B' hA hB k hk
    have hk := of_decide_eq_true hk
    rw [kLs_parts] at hk
    refine decide_eq_true ?_
    rw [kLs_parts]
    rcases List.mem_append.mp hk with h | h
    · obtain ⟨z, hz, rfl⟩ := List.mem_map.mp h
      exact List.mem_append.mpr (.inl (List.mem_map.mpr ⟨z, hA z hz, rfl⟩))
    · obtain ⟨z, hz, rfl⟩ := List.mem_map.mp h
      exact List.mem_append.mpr (.inr (List.mem_map.mpr ⟨z, hB z hz, rfl⟩))
  refine ⟨_, rfl, ?_, ?_⟩
  · rw [put_len]
    split <;> omega
  · by_cases h : i ≤ A.length
    · rw [if_pos h]
      have e : putL (A ++ x :: y :: B) z i = putL A z i ++ x :: y :: B := by
        unfold putL
        rw [List.take_append_of_le_length h, List.drop_append_of_le_length h]
        simp
      rw [e, ← put_len A z i]
      exact mono _ _ (fun x hx => put_mem hx) fun x hx => hx
    · rw [if_neg h]
      have e : putL (A ++ x :: y :: B) z i = A ++ x :: y :: putL B z (i - (A.length + 2)) := by
        have ei : i = A.length + (2 + (i - (A.length + 2))) := by omega
        unfold putL
        generalize hj : i - (A.length + 2) = j at ei
        rw [ei, List.take_length_add_append, List.drop_length_add_append, show 2 + j = j + 1 + 1 by omega, List.take_succ_cons, List.take_succ_cons, List.drop_succ_cons, List.drop_succ_cons]
        simp
      rw [e]
      exact mono _ _ (fun x hx => hx) fun x hx => put_mem hx
def spAll (K : PySem.W.Frag) : Sp := fun vs H Q _ => ∃ (u vb w vm : V) (tp tq : Bool) (ns ms : List Int) (p q : Nat), vs = [u, .int (p : Nat), vb, w, .int (q : Nat), vm] ∧ Rp K M0 H u (sqD tp (ns.map PyData.int)) ∧ RowL ns ∧ p + 1 < ns.length ∧ Rp K M0 H vb (.list (sixB (presB ns p))) ∧ Rp K M0 H w (sqD tq (ms.map PyData.int)) ∧ RowL ms ∧ q + 1 < ms.length ∧ Rp K M0 H vm (.list (sixB (presB ms q))) ∧ ∀ H', Evl.Ex H H' → Q (.bl true) H'
theorem nat_ints (l : List Nat) : l.map natD = (l.map fun k => ((k : Nat) : Int)).map PyData.int := by rw [List.map_map]; rfl
section
variable {P : Program} {w : World} {K : PySem.W.Frag} {mg : Str → Option Value} {base : Heap} {CH CO CS CT : Addr}
section
variable {X : Cx} {σ : St} {H : Hp} {e1 e2 : Expr} {p1 p2 pos : Pos} {j : Nat} {n p : Nat} {ns : List Int}
/-- common kinds there are -/
theorem pd_common {pz : Pos} (C : HouseC X.prog X.w X.K X.mg X.base CH) (hr : Room j X.A) (hj : 2 ≤ j) (hu : X.A.units + 64 < cLine) (hg : Gl X "_law_common") (a1 : PD X M0 e1 σ H (.list (sixB (presB ns p)))) (a2 : PD X M0 e2 σ H (natD n))
    (hs : starEach (e1 :: [e2]) X.env = (false, eval e1 X.env) :: starEach [e2] X.env := by rfl) (hs2 : starEach (e2 :: []) X.env = (false, eval e2 X.env) :: starEach [] X.env := by rfl) (hpl : (backTo p2 (starEach [e2] X.env)).any (·.1) = false := by rfl) : PD X M0 (.Compare (.Call (.Name "_law_common" p1) [e1, e2] [] p2) [.NotEq] [.List [] pz] pos) σ H (.bool (freeB n ns p)) :=
  PD.is (pd_ne hu (PD.is (FD.pd (fd_callC C.lc hr hj hg (ad_cons a1 (ad_cons a2 ad_nil hs2) hs) ⟨presB ns p, n, rfl, rfl⟩ (by decide) hs hpl)) (congrArg PyData.list (nat_ints _))) (FD.pd (fd_lst ad_nil (by simp))) (shaped_il _) (shaped_il [])) (congrArg PyData.bool ((eqv_nil _).trans (by rw [List.length_map]; exact common_iff)))
end
theorem cl_law_all {f : Addr} {fd : FuncData} (F : At K mg "_law_all_houses" s_law_all_houses f fd) (C : HouseC P w K mg base CH) : Cl P w K mg base CX0 9 "_law_all_houses" (spAll K) := by
  refine ⟨f, fd, _, F.fn.ok sc_law_all_houses (fun vs H Q E h => ?_) (fun cdv A outer sh H vs Q E hr h => ⟨_, wB.ps, ?_⟩), F.gl, F.fn.kp, F.fn.binds fun _ _ _ _ _ _ us hl => match us, hl with | [_, _, _, _, _, _], _ => rfl⟩
  · obtain ⟨_, _, _, _, _, _, _, _, _, _, rfl, _⟩ := h
    rfl
  obtain ⟨u, vb, w', vm, tp, tq, ns, ms, p, q', rfl, r, hrow, hp, rb, r', hrow', hp', rm, q⟩ := h
  have nb := C.nb
  refine b_cons (s_forR1 (M := M0) (n := 63) (slot := 6) PassesOwn.never rfl sc_law_all_houses.nd rfl (.inl rfl) rfl nb.range pd_int pd_int (by decide) alive0 (fun Hs i σ' H' => ∃ y6 y7 y8 y9 : Option V, σ' = [some u, some (.int (p : Nat)), some vb, some w', some (.int (q' : Nat)), some vm, y6, y7, y8, y9] ∧ Evl.Ex Hs H') ?_ ?_ ?_ ?_)
  · exact fun Hs xs => ⟨none, none, none, none, rfl, Evl.Ex.refl _⟩
  · rintro Hs i σ' H' xs ⟨_, _, _, _, _, e⟩
    exact ⟨.of e, alive0⟩
  · rintro Hs i σ' H' H5 xs hi ⟨y6, y7, y8, y9, rfl, e⟩ x5
    have x05 := xs.trans (e.trans x5)
    refine b_cons (cs_set (i := 7) sc_law_all_houses.nd rfl (by first | exact .inl rfl | exact .inr rfl) (ce_clsX (W := fun _ _ _ _ => False) C.by_ hr (by decide) (fun σ => passAt takes0 σ) rfl C.gH (ca_cons (ce_nm 6 (ca_nil ⟨i + 1, rfl, by omega, by omega, fun h H6 x6 hh => ?_⟩)))))
    have x06 := x05.trans x6
    have ra := r.mono (fun _ z => z) (ExM.of x06)
    refine b_cons (s_set (M := M0) (i := 8) alive0 sc_law_all_houses.nd rfl (by first | exact .inl rfl | exact .inr rfl) (pd_free C hr (by decide) rfl (nm 0 ra) (nm 1 (.int (p : Nat))) (fun H2 Q q => ce_nm 7 q) hp hrow hh) fun v8 H8 x8 r8 => ?_)
    cases r8
    have x08 := x06.trans x8
    have ra' := r'.mono (fun _ z => z) (ExM.of x08)
    refine b_cons (s_set (M := M0) (i := 9) alive0 sc_law_all_houses.nd rfl (by first | exact .inl rfl | exact .inr rfl) (pd_free C hr (by decide) rfl (nm 3 ra') (nm 4 (.int (q' : Nat))) (fun H2 Q q => ce_nm 7 q) hp' hrow' (hh.ex' x8)) fun v9 H9 x9 r9 => ?_)
    cases r9
    have x09 := x08.trans x9
    have rb9 := rb.mono (fun _ z => z) (ExM.of x09)
    refine b_cons (s_if (M := M0) (k := false) alive0 (td_not (k := true) (td_val (pd_callC C.lk2 hr (by decide) rfl (ad_cons (nm 8 (.bl _)) (ad_cons (pd_common (n := i + 1) C hr (by decide) hr.units rfl (nm 2 rb9) (nm 6 (.int ((i + 1 : Nat) : Int)))) ad_nil)) ⟨_, rfl, alk_bool _ 2, rfl⟩))) (fun k => by cases k) (fun _ HA xA => b_nil ?_))
    have x0A := x09.trans xA
    have rmA := rm.mono (fun _ z => z) (ExM.of x0A)
    exact b_cons (s_if (M := M0) (k := false) alive0 (td_not (k := true) (td_val (pd_callC C.lk2 hr (by decide) rfl (ad_cons (nm 9 (.bl _)) (ad_cons (pd_common (n := i + 1) C hr (by decide) hr.units rfl (nm 5 rmA) (nm 6 (.int ((i + 1 : Nat) : Int)))) ad_nil)) ⟨_, rfl, alk_bool _ 2, rfl⟩))) (fun k => by cases k) (fun _ HB xB => b_nil (b_nil ⟨_, _, _, _, rfl, e.trans (x5.trans (x6.trans (x8.trans (x9.trans (xA.trans xB)))))⟩)))
  · rintro Hs σ' H' xs ⟨y6, y7, y8, y9, rfl, e⟩
    refine b_cons (s_ret (M := M0) alive0 pd_bl fun v8 H8 x8 r8 => ?_)
    cases r8
    exact q H8 (xs.trans (e.trans x8))
end
end IK

namespace IK
open PySem PySem.Spec PyProof.Rows L2 GV
/-! ### stones put in -/
def spPutL (K : PySem.W.Frag) : Sp := fun vs H Q _ => ∃ (b a : Addr) (ns : List Int) (p n : Nat) (z : Int), vs = [.ref b, .ref a, .int (p : Nat), .int (n : Nat), .int z] ∧ PotAt H b ∧ a ≠ b ∧ H a = some (.lst (ns.map V.int)) ∧ RowL ns ∧ ns.length < 40 ∧ p + 1 < ns.length ∧ 1 ≤ n ∧ n < 64 ∧ okW z ∧ z ∉ ns ∧ ∀ H', ExB b H H' → PotAt H' b → Q (.bl true) H'
section
variable {P : Program} {w : World} {K : PySem.W.Frag} {mg : Str → Option Value} {base : Heap} {CH CO CS CT : Addr}
theorem cl_law_put {f : Addr} {fd : FuncData} (F : At K mg "_law_put" s_law_put f fd) (C : HouseC P w K mg base CH) (cd : Cl P w K mg base CX0 1 "_law_draw" spDraw) (cp : Cl P w K mg base (L2.CX P w) 8 "put_in" (spPut K CS CT)) (ct : Cl P w K mg base (L2.CX P w) 7 "taken_out" (spOut K CO)) (ca : Cl P w K mg base CX0 9 "_law_all_houses" (spAll K)) : Cl P w K mg base CX0 10 "_law_put" (spPutL K) := by
  refine ⟨f, fd, _, F.fn.ok sc_law_put (fun vs H Q E h => ?_) (fun cdv A outer sh H vs Q E hr h => ⟨_, wB.ps, ?_⟩), F.gl, F.fn.kp, F.fn.binds fun _ _ _ _ _ _ us hl => match us, hl with | [_, _, _, _, _], _ => rfl⟩
  · obtain ⟨_, _, _, _, _, _, rfl, _⟩ := h
    rfl
  obtain ⟨b, a, ns, p, n, z, rfl, hb, ab, ha, hrow, h40, hp, n1, n2, okz, hz, q⟩ := h
  have nb := C.nb
  have nd := hrow.2.2
  have rowA : ∀ {M : Addr → Prop} {H2 : Hp}, ¬ M a → H2 a = some (.lst (ns.map V.int)) → Rp K M H2 (.ref a) (.list (ns.map PyData.int)) := fun m h => .lst m (.inl h) (.ints ns)
  have row0 : ∀ {H2 : Hp}, H2 a = some (.lst (ns.map V.int)) → Rp K M0 H2 (.ref a) (.list (ns.map PyData.int)) := fun h => rowA (fun z => z) h
  have rowB : ∀ {H2 : Hp}, H2 a = some (.lst (ns.map V.int)) → Rp K (Ma b) H2 (.ref a) (.list (ns.map PyData.int)) := fun h => rowA ab h
  have ln : lenD (.list (ns.map PyData.int)) = some ns.length := by show some _ = _; rw [List.length_map]
  refine b_cons (cs_set (i := 5) sc_law_put.nd rfl (by first | exact .inl rfl | exact .inr rfl) (ce_clsX (W := fun _ _ _ _ => False) C.by_ hr (by decide) (fun σ => passAt takes0 σ) rfl C.gH (ca_cons (ce_nm 3 (ca_nil ⟨n, rfl, n1, n2, fun h H1 x1 hh => ?_⟩)))))
  have hb1 := hb.ex x1
  have nh : h ≠ b := fun e => by
    obtain ⟨dx, e1⟩ := hh
    obtain ⟨_, _, _, e2⟩ := hb1
    rw [e, e2] at e1
    cases e1
  -- the walk over the indexes
  have walk : ∀ (pi : Addr) (is : List Nat) (ch : Nat) (H2 : Hp), ExB b H H2 → PotAt H2 b → HAt CH n H2 h → H2 pi = some (.lst (is.map fun k => V.int ((k : Nat) : Int))) → is.length ≤ 100 → (∀ i ∈ is, i ≤ ns.length) → wB (cxOf CX0 P w K mg base n_law_put "_law_put" (defScope s_law_put) f cdv A outer sh H E).nox ((defBody s_law_put).drop 4) { nx := fun _ H' => Q .non H', rt := Q } [some (.ref b), some (.ref a), some (.int (p : Nat)), some (.int (n : Nat)), some (.int z), some (.ref h), some (.ref pi), some (.int (ch : Nat)), none, none, none, none, none, none, none] H2 := by
    intro pi is ch H2 e2 hb2 hh2 hpi hlen his
    have ha2 := e2 _ _ ab ha
    refine b_cons (cs_set (i := 8) sc_law_put.nd rfl (by first | exact .inl rfl | exact .inr rfl) (ce_fd (M := M0) alive0 (fd_callC C.lk hr (by decide) rfl (ad_cons (nm 1 (row0 ha2)) (ad_cons (nm 2 (.int (p : Nat))) ad_nil)) ⟨false, ns, p, hp, by omega, nd, rfl, rfl⟩) fun pb wb H3 hpb x3 h3 rb => ?_))
    have rb3 : Rp K M0 H3 (.ref pb) (.list (sixB (presB ns p))) := .lst (fun z => z) (.inl h3) rb
    have ri3 : Rp K M0 H3 (.ref pi) (.list (is.map natD)) := by
      refine .lst (fun z => z) (.inl (x3 _ _ hpi)) ?_
      have := RpAll.ints (K := K) (M := M0) (H := H3) (is.map fun k => ((k : Nat) : Int))
      rw [List.map_map, List.map_map] at this
      exact this
    have hh3 := hh2.ex' x3
    refine b_cons (s_for (M := M0) (t := .one 9) PassesOwn.never rfl (src_list (nm 6 ri3)) (pg_name (i := 9) sc_law_put.nd rfl (.inl rfl)) alive0 (fun Hs j σ' H' => ∃ y9 y10 y11 y12 y13 y14 : Option V, σ' = [some (.ref b), some (.ref a), some (.int (p : Nat)), some (.int (n : Nat)), some (.int z), some (.ref h), some (.ref pi), some (.int (ch : Nat)), some (.ref pb), y9, y10, y11, y12, y13, y14] ∧ Evl.Ex Hs H') ?_ ?_ (fun _ _ => trivial) ?_ ?_)
    · exact fun Hs xs => ⟨none, none, none, none, none, none, rfl, Evl.Ex.refl _⟩
    · rintro Hs j σ' H' xs ⟨_, _, _, _, _, _, _, e⟩
      exact ⟨.of e, alive0⟩
    · rintro Hs j d σ' H' H5 σ2 xs hd ⟨y9, y10, y11, y12, y13, y14, rfl, e⟩ x5 ⟨vi, rv, rfl⟩
      rw [List.getElem?_map] at hd
      obtain ⟨i, hii, rfl⟩ := Option.map_eq_some_iff.mp hd
      have hi := his i (List.mem_of_getElem? hii)
      cases rv
      have x35 := xs.trans (e.trans x5)
      have ha5 := x35 _ _ (x3 _ _ ha2)
      have ed : cutD (ns.map PyData.int) none (some ((i : Nat) : Int)) ++ [PyData.int z] ++ cutD (ns.map PyData.int) (some ((i : Nat) : Int)) none = (putL ns z i).map PyData.int := by
        unfold putL
        rw [cutD_take, cutD_drop, List.map_append, List.map_append, List.map_take, List.map_drop]
        rfl
      have l1 : (cutD (ns.map PyData.int) none (some ((i : Nat) : Int))).length ≤ 100 := by
        rw [cutD_take, List.length_take, List.length_map]
        omega
      have l2 : (cutD (ns.map PyData.int) (some ((i : Nat) : Int)) none).length ≤ 100 := by
        rw [cutD_drop, List.length_drop, List.length_map]
        omega
      have pl := put_len ns z i
      have hrowP := put_row (i := i) hrow h40 okz hz
      refine b_cons (cs_set (i := 10) sc_law_put.nd rfl (by first | exact .inl rfl | exact .inr rfl) (ce_fd (M := M0) alive0 (fd_cat (FD.pd (fd_cat (FD.pd (fd_slice (nm 1 (row0 ha5)) od_none (od_some (nm 9 (.int (i : Nat)))))) (FD.pd (fd_lst (ad_cons (nm 4 (.int z)) ad_nil) (by simp))) (by simp only [List.length_singleton]; omega))) (FD.pd (fd_slice (nm 1 (row0 ha5)) (od_some (nm 9 (.int (i : Nat)))) od_none)) (by simp only [List.length_append, List.length_singleton]; omega)) fun pg wg H6 hpg x6 h6 rg => ?_))
      rw [ed] at rg
      have rg6 : Rp K M0 H6 (.ref pg) (.list ((putL ns z i).map PyData.int)) := .lst (fun z => z) (.inl h6) rg
      have ha6 := x6 _ _ ha5
      refine b_cons (cs_set (i := 11) sc_law_put.nd rfl (by first | exact .inl rfl | exact .inr rfl) (ce_callX (W := fun _ _ _ _ => False) cp hr (by decide) rfl takes0 (ca_cons (ce_pd (M := M0) (d := tintsD ns) alive0 (pd_tupleOf rfl nb.tuple (nm 1 (row0 ha6)) rfl) fun vt H7 x7 r7 => ca_cons (ce_nm 4 (ca_cons (ce_nm 9 (ca_nil ⟨vt, true, ns, z, i, rfl, r7, hrow, okz, hi, .inl ⟨hz, h40, fun vo H8 x8 r8 => ?_⟩⟩))))))))
      have x78 := x7.trans x8
      have rg8 := rg6.mono (fun _ z => z) (ExM.of x78)
      have ha8 := x78 _ _ ha6
      have x38 := x35.trans (x6.trans x78)
      -- taken out again
      refine b_cons (cs_if (ct_w (cw_or (ct_not (ct_val (ce_pd (M := M0) (d := .bool true) alive0 (pd_callC C.lk2 hr (by decide) rfl (ad_cons (nm 11 r8) (ad_cons (pd_tupleOf rfl nb.tuple (nm 10 rg8) rfl) ad_nil)) ⟨_, rfl, alk_ints true _ 1 (by omega), rfl⟩) fun v9 H9 x9 r9 => ?_))))))
      cases r9
      refine ⟨true, rfl, ⟨fun _ => cw_or1 (ct_not (ct_val ?_)), fun z => by cases z⟩⟩
      have r89 := r8.mono (fun _ z => z) (ExM.of x9)
      refine ce_call C.lk2 hr (by decide) rfl (ca_cons (ce_callX (W := fun _ _ _ _ => False) ct hr (by decide) rfl takes0 (ca_cons (ce_nm 11 (ca_cons (ce_nm 4 (ca_nil ⟨vo, true, putL ns z i, z, rfl, r89, hrowP, okz, .inl ⟨(put_perm ns z i).mem_iff.mpr (List.mem_cons_self ..), fun vu HA xA rA => ?_⟩⟩)))))))
      rw [put_out hz] at rA
      refine ca_cons (ce_pd (M := M0) (d := tintsD ns) alive0 (pd_tupleOf rfl nb.tuple (nm 1 (row0 (xA _ _ (x9 _ _ ha8)))) rfl) fun vB HB xB rB => ca_nil ⟨M0, [tintsD ns, tintsD ns], _, alive0, .cons (rA.mono (fun _ z => z) (.of xB)) (.cons rB .nil), ⟨_, rfl, alk_ints true _ 1 (by omega), rfl⟩, fun vC HC xC rC => ?_⟩)
      cases rC
      refine ⟨true, rfl, ?_⟩
      show (if (false : Bool) = true then _ else _)
      rw [if_neg (by decide)]
      have x9C := x9.trans (xA.trans (xB.trans xC))
      have x3C := x38.trans x9C
      have c1 : (!PyData.eqv (natD i) (natD (p + 1))) = decide (i ≠ p + 1) := by
        rw [eqvN]
        by_cases e : i = p + 1 <;> simp [e]
      refine b_nil (b_cons (s_if (M := M0) (k := decide (i ≠ p + 1)) alive0 (TD.is (td_ne hr.units (nm 9 (.int (i : Nat))) (PD.is (pd_add (nm 2 (.int (p : Nat))) pd_int) (congrArg PyData.int (show ((p : Nat) : Int) + 1 = ((p + 1 : Nat) : Int) by omega))) rfl rfl) c1) (fun hk HD xD => ?_) (fun hk HD xD => b_nil (b_nil ⟨_, _, _, _, _, _, rfl, e.trans (x5.trans (x6.trans (x78.trans (x9C.trans xD))))⟩))))
      obtain ⟨at_, ea, hat, sup⟩ := put_math (z := z) hp hi (of_decide_eq_true hk)
      refine b_cons (s_set (M := M0) (i := 12) (d := natD at_) alive0 sc_law_put.nd rfl (by first | exact .inl rfl | exact .inr rfl) (PD.is (pd_add (nm 2 (.int (p : Nat))) (pd_intB nb rfl (pd_le (nm 9 (.int (i : Nat))) (nm 2 (.int (p : Nat)))))) (congrArg PyData.int (by
        rw [ea]
        by_cases hlt : i ≤ p
        · rw [if_pos hlt, if_pos (decide_eq_true (by omega))]
          omega
        · rw [if_neg hlt, if_neg (by rw [decide_eq_true_eq]; omega)]
          omega))) fun vE HE xE rE => ?_)
      cases rE
      have x8E := x9C.trans (xD.trans xE)
      have rgE := rg8.mono (fun _ z => z) (ExM.of x8E)
      have r8E := r8.mono (fun _ z => z) (ExM.of x8E)
      refine b_cons (cs_set (i := 13) sc_law_put.nd rfl (by first | exact .inl rfl | exact .inr rfl) (ce_fd (M := M0) alive0 (fd_callC C.lk hr (by decide) rfl (ad_cons (nm 10 rgE) (ad_cons (nm 12 (.int (at_ : Nat))) ad_nil)) ⟨false, putL ns z i, at_, hat, by omega, hrowP.2.2, rfl, rfl⟩) fun pm wm HF hpm xF hF rm => ?_))
      have rmF : Rp K M0 HF (.ref pm) (.list (sixB (presB (putL ns z i) at_))) := .lst (fun z => z) (.inl hF) rm
      have x3F := x38.trans (x8E.trans xF)
      have rbF := rb3.mono (fun _ z => z) (ExM.of x3F)
      have e0 : ((List.range 6).filter fun k => presB ns p k && !presB (putL ns z i) at_ k) = [] := List.filter_eq_nil_iff.mpr fun k _ => by
        cases hk : presB ns p k with
        | false => simp
        | true => rw [sup k hk]; decide
      refine b_cons (s_if (M := M0) (k := false) alive0 (TD.is (td_ne hr.units (PD.is (FD.pd (fd_filterA natD_inj (fun k => presB ns p k && !presB (putL ns z i) at_ k) natD (l := List.range 6) (t := .one 14) (own := [("kind", 14)]) rfl sc_law_put.nd (src_rangeN rfl nb.range pd_int (by decide)) (blkOk_by (N := n_law_put) (sc := defScope s_law_put) (by decide +kernel)) (fun _ _ _ _ _ => pg_name (i := 14) sc_law_put.nd rfl (.inl rfl)) (fun _ _ => trivial) ?_ (by decide) ?_)) (show PyData.list _ = .list [] by rw [e0]; rfl)) (FD.pd (fd_lst ad_nil (by simp))) (shaped_il []) (shaped_il [])) rfl) (fun k => by cases k) (fun _ HG xG => b_nil ?_))
      · rintro M H d σ' ⟨_, _, rfl⟩
        rfl
      · rintro s0 H0 C' cl fp M' H' k σ' hM lift kp hk ⟨v', rv, rfl⟩
        have hk := List.mem_range.mp hk
        exact ⟨WD.td (wd_and (td_val (pd_ix (nm 8 (lift _ _ rbF)) (nm 14 rv) (six_ix hk))) fun _ => wd_and1 (td_not (td_val (pd_ix (nm 13 (lift _ _ rmF)) (nm 14 rv) (six_ix hk))))), nm 14 rv⟩
      have x8G := x8E.trans (xF.trans xG)
      have r8G := r8.mono (fun _ z => z) (ExM.of x8G)
      have rmG := rmF.mono (fun _ z => z) (ExM.of xG)
      refine b_cons (s_if (M := M0) (k := false) alive0 (td_not (k := true) (td_val (pd_callC C.lk2 hr (by decide) rfl (ad_cons (FD.pd (fd_callC C.ka hr (by decide) rfl (ad_cons (nm 11 r8G) (ad_cons (nm 12 (.int (at_ : Nat))) ad_nil)) ⟨true, putL ns z i, at_, hrowP, hat, rfl, rfl⟩)) (ad_cons (FD.pd (fd_callC C.ln hr (by decide) rfl (ad_cons (nm 13 rmG) ad_nil) ⟨presB (putL ns z i) at_, rfl, rfl⟩)) ad_nil)) ⟨_, rfl, alk_kinds _ 1 presL_lt (Nat.le_trans (List.length_filter_le _ _) (by decide)), rfl⟩))) (fun k => by cases k) (fun _ HI xI => b_nil ?_))
      have x8I := x8G.trans xI
      have r8I := r8.mono (fun _ z => z) (ExM.of x8I)
      have rgI := rg8.mono (fun _ z => z) (ExM.of x8I)
      have hhI := hh3.ex' (x38.trans x8I)
      refine b_cons (s_if (M := M0) (k := false) alive0 (td_not (k := true) (td_val (pd_callC C.lk2 hr (by decide) rfl (ad_cons (pd_free (tp := true) C hr (by decide) rfl (nm 11 r8I) (nm 12 (.int (at_ : Nat))) (fun H2 Q q => ce_nm 5 q) hat hrowP hhI) (ad_cons (pd_callC C.lf hr (by decide) rfl (ad_cons (nm 10 rgI) (ad_cons (nm 12 (.int (at_ : Nat))) (ad_cons (nm 3 (.int (n : Nat))) ad_nil))) ⟨false, putL ns z i, at_, n, hat, by omega, hrowP.2.2, rfl, rfl⟩) ad_nil)) ⟨_, rfl, alk_bool _ 2, rfl⟩))) (fun k => by cases k) (fun _ HJ xJ => b_nil ?_))
      have x8J := x8I.trans xJ
      have x3J := x38.trans x8J
      refine b_cons (cs_if (ct_w (cw_and (ct_td (M := M0) alive0 (td_eq hr.units (nm 9 (.int (i : Nat))) (nm 7 (.int (ch : Nat))) rfl rfl) fun HL xL => ⟨fun _ => cw_and1 (ct_not (ct_val ?_)), fun _ => ?_⟩))))
      · have x8L := x8J.trans xL
        have x3L := x3J.trans xL
        refine ce_call ca hr (by decide) rfl (ca_cons (ce_pd (M := M0) (d := tintsD ns) alive0 (pd_tupleOf rfl nb.tuple (nm 1 (row0 (x3L _ _ (x3 _ _ ha2)))) rfl) fun vN HN xN rN => ca_cons (ce_nm 2 (ca_cons (ce_nm 8 (ca_cons (ce_nm 11 (ca_cons (ce_nm 12 (ca_cons (ce_nm 13 (ca_nil ⟨vN, .ref pb, vo, .ref pm, true, true, ns, putL ns z i, p, at_, rfl, rN, hrow, hp, rb3.mono (fun _ z => z) (ExM.of (x3L.trans xN)), r8.mono (fun _ z => z) (ExM.of (x8L.trans xN)), hrowP, hat, rmF.mono (fun _ z => z) (ExM.of (xG.trans (xI.trans (xJ.trans (xL.trans xN))))), fun HO xO => ⟨true, rfl, ?_⟩⟩))))))))))))
        show (if (false : Bool) = true then _ else _)
        rw [if_neg (by decide)]
        exact b_nil (b_nil (b_nil ⟨_, _, _, _, _, _, rfl, e.trans (x5.trans (x6.trans (x78.trans (x8L.trans (xN.trans xO)))))⟩))
      · rw [if_neg (by decide)]
        exact b_nil (b_nil (b_nil ⟨_, _, _, _, _, _, rfl, e.trans (x5.trans (x6.trans (x78.trans (x8J.trans xL))))⟩))
    · rintro Hs σ' H' xs ⟨y9, y10, y11, y12, y13, y14, rfl, e⟩
      refine b_cons (s_ret (M := M0) alive0 pd_bl fun v8 H8 x8 r8 => ?_)
      cases r8
      have x38 := x3.trans (xs.trans (e.trans x8))
      exact q H8 (e2.trE x38) (hb2.ex x38)
  -- the indexes
  have choose : ∀ (pi : Addr) (is : List Nat) (H2 : Hp), pi ≠ b → ExB b H H2 → PotAt H2 b → HAt CH n H2 h → H2 pi = some (.lst (is.map fun k => V.int ((k : Nat) : Int))) → 0 < is.length → is.length ≤ 100 → (∀ i ∈ is, i ≤ ns.length) → wB (cxOf CX0 P w K mg base n_law_put "_law_put" (defScope s_law_put) f cdv A outer sh H E).nox ((defBody s_law_put).drop 3) { nx := fun _ H' => Q .non H', rt := Q } [some (.ref b), some (.ref a), some (.int (p : Nat)), some (.int (n : Nat)), some (.int z), some (.ref h), some (.ref pi), none, none, none, none, none, none, none, none] H2 := by
    intro pi is H2 npi e2 hb2 hh2 hpi h0 hlen his
    have ri : ∀ {M : Addr → Prop} {H3 : Hp}, ¬ M pi → H3 pi = some (.lst (is.map fun k => V.int ((k : Nat) : Int))) → Rp K M H3 (.ref pi) (.list (is.map natD)) := fun {M H3} m h => by
      refine .lst m (.inl h) ?_
      have := RpAll.ints (K := K) (M := M) (H := H3) (is.map fun k => ((k : Nat) : Int))
      rw [List.map_map, List.map_map] at this
      exact this
    refine b_cons (cs_set (i := 7) sc_law_put.nd rfl (by first | exact .inl rfl | exact .inr rfl) (ce_ix (ce_nm 6 (ce_draw cd hr (by decide) rfl (fun H1 Q hq => ce_nm 0 hq) (pd_len nb rfl (nm 6 (ri npi hpi)) (n := is.length) (by show some _ = _; rw [List.length_map])) hb2 (by omega) (n8000 (by omega) (by omega)) fun z3 H3 z30 z31 e3 hb3 => ?_))))
    obtain ⟨ch, hch⟩ : ∃ n, is[z3.toNat]? = some n := ⟨_, List.getElem?_eq_getElem (show z3.toNat < is.length by omega)⟩
    have hpi3 := e3 _ _ npi hpi
    refine rIx_of (M := M0) (da := .list (is.map natD)) (d := natD ch) (ri (fun z => z) hpi3) (by rw [show z3 = ((z3.toNat : Nat) : Int) by omega]; exact ixD_list (by rw [List.getElem?_map, hch]; rfl)) fun vX rX => ?_
    cases rX
    exact walk pi is ch H3 (e2.trans e3) hb3 (hh2.exM e3.exM nh) hpi3 hlen his
  refine b_cons (cs_set (i := 6) sc_law_put.nd rfl (by first | exact .inl rfl | exact .inr rfl) (ce_fd (M := M0) alive0 (fd_listRange rfl rfl nb.list rfl nb.range (PD.is (pd_add (pd_len nb rfl (nm 1 (row0 (x1 _ _ ha))) ln) pd_int) (congrArg PyData.int (show ((ns.length : Nat) : Int) + 1 = ((ns.length + 1 : Nat) : Int) by omega))) (by omega) (by omega)) fun pi wi H2 hpi x2 h2 ri => ?_))
  have x12 := x1.trans x2
  have ewi : wi = (List.range (ns.length + 1)).map fun k => V.int ((k : Nat) : Int) := by
    have h := RpAll.of_ints ri
    rw [h, List.map_map]
    exact congrArg (List.map _) (by rw [Int.toNat_natCast])
  subst ewi
  have hb2 := hb.ex x12
  refine b_cons (s_if (M := M0) alive0 (td_gt (pd_len nb rfl (nm 1 (row0 (x12 _ _ ha))) ln) pd_int) (fun _ H3 x3 => ?_) (fun _ H3 x3 => b_nil (choose pi (List.range (ns.length + 1)) H3 (hb1.ne hpi).symm (.of (x12.trans x3)) (hb2.ex x3) ((hh.ex' x2).ex' x3) (x3 _ _ h2) (by rw [List.length_range]; omega) (by rw [List.length_range]; omega) fun i hi => by have := List.mem_range.mp hi; omega)))
  have x13 := x12.trans x3
  have hb3 := hb2.ex x3
  have hh3 := (hh.ex' x2).ex' x3
  refine b_cons (cs_set (i := 6) sc_law_put.nd rfl (by first | exact .inl rfl | exact .inr rfl) (ce_lst (ca_cons (ce_draw cd hr (by decide) rfl (fun H1 Q hq => ce_nm 0 hq) (pd_add (pd_len nb rfl (nm 1 (rowB (x13 _ _ ha))) ln) pd_int) hb3 (by omega) (n8000 (by omega) (by omega)) fun z4 H4 z40 z41 e4 hb4 => ca_cons (ce_draw cd hr (by decide) rfl (fun H1 Q hq => ce_nm 0 hq) (pd_add (nm 2 (.int (p : Nat))) pd_int) hb4 (by omega) (n8000 (by omega) (by omega)) fun z5 H5 z50 z51 e5 hb5 => ca_cons (ce_pd (M := M0) (d := natD ns.length) alive0 (pd_len nb rfl (nm 1 (row0 (e5 _ _ ab (e4 _ _ ab (x13 _ _ ha))))) ln) fun v6 H6 x6 r6 => ca_nil ⟨(by show 3 ≤ 1000; decide), fun pl hpl => ?_⟩))))))
  cases r6
  obtain ⟨i4, rfl⟩ : ∃ t : Nat, z4 = (t : Nat) := ⟨z4.toNat, by omega⟩
  obtain ⟨i5, rfl⟩ : ∃ t : Nat, z5 = (t : Nat) := ⟨z5.toNat, by omega⟩
  have e6 : ExB b H H6 := (((ExB.of x13).trans e4).trans e5).trE x6
  have hb6 := hb5.ex x6
  have xl : Evl.Ex H6 (upd H6 pl (.lst [.int (i4 : Nat), .int (i5 : Nat), .int (ns.length : Nat)])) := Evl.Ex.new hpl
  have hh6 : HAt CH n H6 h := ((hh3.exM e4.exM nh).exM e5.exM nh).ex' x6
  refine b_nil (choose pl [i4, i5, ns.length] _ (hb6.ne hpl).symm (e6.trE xl) (hb6.ex xl) (hh6.ex' xl) upd_same (by simp) (by simp) fun i hi => ?_)
  simp only [List.mem_cons, List.not_mem_nil, or_false] at hi
  rcases hi with rfl | rfl | rfl <;> omega
end
end IK

namespace IK
open PySem PySem.Spec PyProof.Rows L2 GV
/-! ### what is refused, and the law -/
structure ErX (K : PySem.W.Frag) (mg : Str → Option Value) (x : Str) (C : Addr) (fs : List Str) : Prop where
  g : mg x = some (.ref C)
  xf : XfC K C
  nf : ∀ f ∈ fs, PySem.W.findIn K (.ref C) f = some none
  ee : PySem.W.exmOne K (.ref C) (.ref C) = some true
def spRefused (K : PySem.W.Frag) : Sp := fun vs H Q _ => ∃ (a : Addr) (ns : List Int) (z : Int) (i : Nat), vs = [.ref a, .int z, .int (i : Nat)] ∧ H a = some (.lst (ns.map V.int)) ∧ RowL ns ∧ 2 ≤ ns.length ∧ okW z ∧ z ∉ ns ∧ i ≤ ns.length ∧ ∀ H', Evl.Ex H H' → Q (.bl true) H'
section
variable {P : Program} {w : World} {K : PySem.W.Frag} {mg : Str → Option Value} {base : Heap} {CH CO CS CT : Addr}
theorem cl_law_refused {f : Addr} {fd : FuncData} (F : At K mg "_law_refused" s_law_refused f fd) (nb : NoB mg) (cp : Cl P w K mg base (L2.CX P w) 8 "put_in" (spPut K CS CT)) (ct : Cl P w K mg base (L2.CX P w) 7 "taken_out" (spOut K CO)) (cl : Cl P w K mg base CX0 4 "_law_like" (PureR K (R_alk 2))) (es : ErX K mg "StoneThere" CS ["weight"]) (eo : ErX K mg "NoStone" CO ["weight"]) (et : ErX K mg "TooMany" CT ["most", "given"]) : Cl P w K mg base CX0 9 "_law_refused" (spRefused K) := by
  refine ⟨f, fd, _, F.fn.ok sc_law_refused (fun vs H Q E h => ?_) (fun cdv A outer sh H vs Q E hr h => ⟨_, wB.ps, ?_⟩), F.gl, F.fn.kp, F.fn.binds fun _ _ _ _ _ _ us hl => match us, hl with | [_, _, _], _ => rfl⟩
  · obtain ⟨_, _, _, _, rfl, _⟩ := h
    rfl
  obtain ⟨a, ns, z, i, rfl, ha, hrow, h2, okz, hz, hi, q⟩ := h
  have hl := hrow.1
  have row0 : ∀ {H2 : Hp}, H2 a = some (.lst (ns.map V.int)) → Rp K M0 H2 (.ref a) (.list (ns.map PyData.int)) := fun h => .lst (fun z => z) (.inl h) (.ints ns)
  have ln : lenD (.list (ns.map PyData.int)) = some ns.length := by show some _ = _; rw [List.length_map]
  refine b_cons (cs_set (i := 3) sc_law_refused.nd rfl (by first | exact .inl rfl | exact .inr rfl) (ce_fd (M := M0) alive0 (fd_lst ad_nil (by simp)) fun pg wg H1 hpg x1 h1 r1 => ?_))
  cases r1
  have ag : a ≠ pg := fun e => by
    rw [← e, ha] at hpg
    cases hpg
  have him : i % ns.length < ns.length := Nat.mod_lt _ (by omega)
  obtain ⟨t, et0⟩ : ∃ t, ns.getD (i % ns.length) 0 = t := ⟨_, rfl⟩
  have ht : t ∈ ns := by
    rw [← et0, List.getD_eq_getElem?_getD, List.getElem?_eq_getElem him]
    exact List.getElem_mem him
  have okt : okW t := hrow.2.1 t ht
  refine b_cons (s_set (M := M0) (i := 4) (d := .int t) alive0 sc_law_refused.nd rfl (by first | exact .inl rfl | exact .inr rfl) (pd_ix (nm 0 (row0 (x1 _ _ ha))) (PD.is (pd_mod (pd_intI nb rfl (nm 2 (.int (i : Nat)))) (pd_len nb rfl (nm 0 (row0 (x1 _ _ ha))) ln) (by omega)) (congrArg PyData.int (show ((i : Nat) : Int) % (ns.length : Nat) = ((i % ns.length : Nat) : Int) by omega))) (by rw [← et0]; exact ix_sq (tp := false) him)) fun v2 H2 x2 r2 => ?_)
  cases r2
  have keep : ∀ {H3 H4 : Hp} {o : HO}, H4 a = some (.lst (ns.map V.int)) → (upd H4 pg o) a = some (.lst (ns.map V.int)) := fun h => by rw [upd_ne ag]; exact h
  have ha2 := x2 _ _ (x1 _ _ ha)
  have hg2 := x2 _ _ h1
  have e02 : Evl.Ex H H2 := x1.trans x2
  -- the last rows
  have last : ∀ (gs : List Int) (ds : List Int) (H5 : Hp), True := fun _ _ _ => trivial
  have part3 : ∀ H5, Evl.Ex H H5 → H5 a = some (.lst (ns.map V.int)) → H5 pg = some (.lst ([t, z].map V.int)) → wB (cxOf CX0 P w K mg base n_law_refused "_law_refused" (defScope s_law_refused) f cdv A outer sh H E).nox ((defBody s_law_refused).drop 4) { nx := fun _ H' => Q .non H', rt := Q } [some (.ref a), some (.int z), some (.int (i : Nat)), some (.ref pg), some (.int t), none] H5 := by
    intro H5 e5 ha5 hg5
    have fin : ∀ (D : Ends) (gs : List Int) (H6 : Hp), D.rt = Q → True := fun _ _ _ _ => trivial
    refine b_cons (s_if (M := M0) alive0 (td_eq hr.units (pd_len nb rfl (nm 0 (row0 ha5)) ln) pd_int rfl rfl) (fun hk H6 x6 => ?_) (fun hk H6 x6 => b_nil ?_))
    · rw [eqv_int] at hk
      have hk := of_decide_eq_true hk
      have ha6 := x6 _ _ ha5
      have hg6 := x6 _ _ hg5
      refine b_cons (s_try (Wout := fun _ _ _ _ => False) rfl rfl sc_law_refused.nd takes0 (.as_ (i := 5) ⟨rfl, by decide, .inl et.g⟩ rfl rfl (fun a oe cls d pn hz hd => psW hz hd) .nil) fun pn xe tk => ?_)
      refine b_cons (cs_expr (ce_callX (W := _) cp hr (by decide) rfl tk (ca_cons (ce_fd (M := M0) alive0 (fd_listOf rfl nb.list (nm 0 (row0 ha6)) rfl) fun pl wl H7 hpl x7 h7 r7 => ca_cons (ce_nm 1 (ca_cons (ce_nm 2 (ca_nil ⟨.ref pl, false, ns, z, i, rfl, .lst (fun z => z) (.inl h7) r7, hrow, okz, hi, .inr (.inr ⟨hz, by omega, fun H8 x8 dd H9 hdd x9 h9 => ?_⟩)⟩))))))))
      refine ⟨true, et.ee, fun _ ea hea hlt => ?_, fun z => by cases z⟩
      intro oe pn2 hz2 hd
      have x69 := x7.trans (x8.trans x9)
      have hg9 := x69 _ _ hg6
      have ndg : dd ≠ pg := fun e => by rw [e, hg9] at h9; cases h9
      refine b_cons (cs_expr (ce_append (ce_nm 3 ⟨pg, _, rfl, hg9, ce_xf et.xf (et.nf "most" (by simp)) hz2 hd (ce_nm 5 ⟨rfl, rfl, dd, _, .int 40, rfl, h9, rfl, ⟨_, hg9, (by simp), ?_⟩⟩)⟩)))
      have h9' : (upd H9 pg (.lst (([t, z].map V.int) ++ [.int 40]))) dd = some (.xd [("given", .int 41), ("most", .int 40)]) := by rw [upd_ne ndg]; exact h9
      have eA : Evl.Ex H (upd H9 pg (.lst (([t, z].map V.int) ++ [.int 40]))) := ex_upd (e5.trans (x6.trans x69)) hpg
      refine b_cons (cs_expr (ce_append (ce_nm 3 ⟨pg, _, rfl, upd_same, ce_xf et.xf (et.nf "given" (by simp)) hz2 hd (ce_nm 5 ⟨rfl, rfl, dd, _, .int 41, rfl, h9', rfl, ⟨_, upd_same, (by simp), b_nil ?_⟩⟩)⟩)))
      have eB := ex_upd (o := .lst (([t, z].map V.int) ++ [.int 40] ++ [.int 41])) eA hpg
      have rg : Rp K M0 (upd (upd H9 pg (.lst (([t, z].map V.int) ++ [.int 40]))) pg (.lst (([t, z].map V.int) ++ [.int 40] ++ [.int 41]))) (.ref pg) (.list ([t, z, 40, 41].map PyData.int)) := .lst (fun z => z) (.inl upd_same) (.ints [t, z, 40, 41])
      generalize upd (upd H9 pg (.lst (([t, z].map V.int) ++ [.int 40]))) pg (.lst (([t, z].map V.int) ++ [.int 40] ++ [.int 41])) = HB at eB rg
      change wB (cxOf CX0 P w K mg base n_law_refused "_law_refused" (defScope s_law_refused) f cdv A outer sh H E).nox _ _ [some (.ref a), some (.int z), some (.int (i : Nat)), some (.ref pg), some (.int t), none] _
      refine b_cons (s_ret (M := M0) (d := .bool true) alive0 (pd_callC cl hr (by decide) rfl (ad_cons (nm 3 rg) (ad_cons (FD.pd (fd_lst (ds := [t, z, 40, 41].map PyData.int) (ad_cons (nm 4 (.int t)) (ad_cons (nm 1 (.int z)) (ad_cons pd_int (ad_cons pd_int ad_nil)))) (by simp))) ad_nil)) ⟨_, rfl, alk_ints false [t, z, 40, 41] 1 (by simp), rfl⟩) fun vC HC xC rC => ?_)
      cases rC
      exact q HC (eB.trans xC)
    · have rg : Rp K M0 H6 (.ref pg) (.list ([t, z].map PyData.int)) := .lst (fun z => z) (.inl (x6 _ _ hg5)) (.ints [t, z])
      refine b_cons (s_ret (M := M0) (d := .bool true) alive0 (pd_callC cl hr (by decide) rfl (ad_cons (nm 3 rg) (ad_cons (FD.pd (fd_lst (ds := [t, z].map PyData.int) (ad_cons (nm 4 (.int t)) (ad_cons (nm 1 (.int z)) ad_nil)) (by simp))) ad_nil)) ⟨_, rfl, alk_ints false [t, z] 1 (by simp), rfl⟩) fun vC HC xC rC => ?_)
      cases rC
      exact q HC (e5.trans (x6.trans xC))
  have part2 : ∀ H5, Evl.Ex H H5 → H5 a = some (.lst (ns.map V.int)) → H5 pg = some (.lst ([t].map V.int)) → wB (cxOf CX0 P w K mg base n_law_refused "_law_refused" (defScope s_law_refused) f cdv A outer sh H E).nox ((defBody s_law_refused).drop 3) { nx := fun _ H' => Q .non H', rt := Q } [some (.ref a), some (.int z), some (.int (i : Nat)), some (.ref pg), some (.int t), none] H5 := by
    intro H5 e5 ha5 hg5
    refine b_cons (s_try (Wout := fun _ _ _ _ => False) rfl rfl sc_law_refused.nd takes0 (.as_ (i := 5) ⟨rfl, by decide, .inl eo.g⟩ rfl rfl (fun a oe cls d pn hz hd => psW hz hd) .nil) fun pn xe tk => ?_)
    refine b_cons (cs_expr (ce_callX (W := _) ct hr (by decide) rfl tk (ca_cons (ce_pd (M := M0) (d := tintsD ns) alive0 (pd_tupleOf rfl nb.tuple (nm 0 (row0 ha5)) rfl) fun vt H7 x7 r7 => ca_cons (ce_nm 1 (ca_nil ⟨vt, true, ns, z, rfl, r7, hrow, okz, .inr ⟨hz, fun H8 x8 dd H9 hdd x9 h9 => ?_⟩⟩))))))
    refine ⟨true, eo.ee, fun _ ea hea hlt => ?_, fun z => by cases z⟩
    intro oe pn2 hz2 hd
    have x59 := x7.trans (x8.trans x9)
    have hg9 := x59 _ _ hg5
    refine b_cons (cs_expr (ce_append (ce_nm 3 ⟨pg, _, rfl, hg9, ce_xf eo.xf (eo.nf "weight" (by simp)) hz2 hd (ce_nm 5 ⟨rfl, rfl, dd, _, .int z, rfl, h9, rfl, ⟨_, hg9, (by simp), b_nil ?_⟩⟩)⟩)))
    exact part3 _ (ex_upd (e5.trans x59) hpg) (by rw [upd_ne ag]; exact x59 _ _ ha5) (by rw [upd_same]; rfl)
  refine b_cons (s_try (Wout := fun _ _ _ _ => False) rfl rfl sc_law_refused.nd takes0 (.as_ (i := 5) ⟨rfl, by decide, .inl es.g⟩ rfl rfl (fun a oe cls d pn hz hd => psW hz hd) .nil) fun pn xe tk => ?_)
  refine b_cons (cs_expr (ce_callX (W := _) cp hr (by decide) rfl tk (ca_cons (ce_fd (M := M0) alive0 (fd_listOf rfl nb.list (nm 0 (row0 ha2)) rfl) fun pl wl H7 hpl x7 h7 r7 => ca_cons (ce_nm 4 (ca_cons (ce_nm 2 (ca_nil ⟨.ref pl, false, ns, t, i, rfl, .lst (fun z => z) (.inl h7) r7, hrow, okt, hi, .inr (.inl ⟨ht, fun H8 x8 dd H9 hdd x9 h9 => ?_⟩)⟩))))))))
  refine ⟨true, es.ee, fun _ ea hea hlt => ?_, fun z => by cases z⟩
  intro oe pn2 hz2 hd
  have x29 := x7.trans (x8.trans x9)
  have hg9 := x29 _ _ hg2
  refine b_cons (cs_expr (ce_append (ce_nm 3 ⟨pg, _, rfl, hg9, ce_xf es.xf (es.nf "weight" (by simp)) hz2 hd (ce_nm 5 ⟨rfl, rfl, dd, _, .int t, rfl, h9, rfl, ⟨_, hg9, (by simp), b_nil ?_⟩⟩)⟩)))
  exact part2 _ (ex_upd (e02.trans x29) hpg) (by rw [upd_ne ag]; exact x29 _ _ ha2) (by rw [upd_same]; rfl)
end
end IK

/-! tuple(reversed(e)), e a list -/
namespace GV
open PySem PySem.Spec PyProof.Rows L2
section
variable {X : Cx} {σ : St} {H : Hp} {a : Expr}
def tTupRev (t : TE) : TE := fun σ H Q => t σ H fun x H1 => ∃ (l : Addr) (xs : List V), x = .ref l ∧ H1 l = some (.lst xs) ∧ xs.length ≤ 1000 ∧ ∀ q H', H1 q = none → Evl.Ex H1 H' → H' q = some (.tup xs.reverse) → Q (.ref q) H'
theorem pe_tupRev {t : TE} {p p2 p4 pos : Pos} (hc : X.calm = true) (hg : Gl X "tuple") (hm : X.mg "tuple" = none) (hg2 : Gl X "reversed") (hm2 : X.mg "reversed" = none) (he : PE X a t)
    (na : starEach [a] X.env = (false, eval a X.env) :: starEach [] X.env := by rfl) (nc : starEach [.Call (.Name "reversed" p2) [a] [] p4] X.env = (false, eval (.Call (.Name "reversed" p2) [a] [] p4) X.env) :: starEach [] X.env := by rfl) :
    PE X (.Call (.Name "tuple" p) [.Call (.Name "reversed" p2) [a] [] p4] [] pos) (tTupRev t) := by
  refine ⟨fun pins s σ H Q I h => ?_⟩
  refine Call_ (ld_blt I hg hm PyProof.Rows.boot_tuple (PyProof.Rows.callWith_type1 (args_cons ?_ nc) nc))
  refine Call_ (ld_blt I hg2 hm2 PyProof.Rows.boot_reversed (PyProof.Rows.callWith_type1 (args_cons (thn (he.run pins s σ H _ I h) fun v s1 ⟨x, H1, I1, r1, l, xs, ex, hl, hn, q⟩ => args_nil ?_) na) na))
  subst ex
  cases (show v = Value.ref l from r1)
  obtain ⟨_, its, n, rw1, e2⟩ := I1.hok l _ hl
  have len : its.length = xs.length := rw1.length.symm
  refine call_reversed_list (items := its.toArray) ⟨_, e2, rfl, n, rfl⟩ (args_nil ?_)
  have hd : X.A.handled = none := I.ok.hd hc
  have lt : l < s1.heap.objs.size := Heap.lt_size e2
  refine RT.call_tuple_rev (l := l) (items := its.toArray) hd ⟨_, Heap.get?_push_size _ rfl, rfl, rfl⟩ ⟨_, Heap.get?_push_of_some _ e2, rfl, n, rfl⟩ (Nat.ne_of_lt lt) (by rw [List.size_toArray, sizeLine_eq]; omega) fun h' tk acc hk hacc => ?_
  have k1 : ∀ b o, s1.heap.get? b = some o → h'.get? b = some o := fun b o e => hk b o (Nat.ne_of_lt (Heap.lt_size e)) (Heap.get?_push_of_some _ e)
  obtain ⟨hs, hi⟩ := hacc
  have hsz : acc.size = its.length := hs.trans (List.size_toArray ..)
  have eacc : acc.toList = its.reverse := by
    apply List.ext_getElem?
    intro i
    by_cases c : i < its.length
    · have hv : acc[i]? = some (acc[i]'(by rw [hsz]; exact c)) := Array.getElem?_eq_getElem (by rw [hsz]; exact c)
      have hp := hi i _ hv
      rw [List.size_toArray] at hp
      rw [List.getElem?_reverse c, Array.getElem?_toList, hv, ← hp, List.getElem?_toArray]
    · rw [List.getElem?_eq_none (by rw [Array.length_toList, hsz]; omega), List.getElem?_eq_none (by rw [List.length_reverse]; omega)]
  have ea : acc = its.reverse.toArray := by
    rw [← eacc]
  subst ea
  have I2 : Inv X pins σ H1 { s1 with heap := h', toks := tk } := I1.kept (t' := tk) k1
  have I3 : Inv X pins σ (upd H1 h'.objs.size (.tup xs.reverse)) { s1 with heap := h'.push { cls := .type "tuple", data := .seq its.reverse.toArray }, toks := tk } :=
    I2.laid (t' := tk) (fun b o e => Heap.get?_push_of_some _ e) (Nat.le_refl _) (show ObjOk X.prog X.w _ _ _ (.tup xs.reverse) from ⟨by rw [List.length_reverse, sizeLine_eq]; omega, its.reverse, rw1.reverse, IsTup.new _ _⟩)
  have nn := I2.hok.fresh (Nat.le_refl h'.objs.size)
  exact ⟨.ref h'.objs.size, _, I3, rfl, q _ _ nn (Evl.Ex.new nn) upd_same⟩
theorem ce_tupRev {p p2 p4 pos : Pos} {Q : VK} (hc : X.calm = true) (hg : Gl X "tuple") (hm : X.mg "tuple" = none) (hg2 : Gl X "reversed") (hm2 : X.mg "reversed" = none)
    (h : wE X a σ H fun x H1 => ∃ (l : Addr) (xs : List V), x = .ref l ∧ H1 l = some (.lst xs) ∧ xs.length ≤ 1000 ∧ ∀ q H', H1 q = none → Evl.Ex H1 H' → H' q = some (.tup xs.reverse) → Q (.ref q) H')
    (na : starEach [a] X.env = (false, eval a X.env) :: starEach [] X.env := by rfl) (nc : starEach [.Call (.Name "reversed" p2) [a] [] p4] X.env = (false, eval (.Call (.Name "reversed" p2) [a] [] p4) X.env) :: starEach [] X.env := by rfl) :
    wE X (.Call (.Name "tuple" p) [.Call (.Name "reversed" p2) [a] [] p4] [] pos) σ H Q := ⟨_, pe_tupRev hc hg hm hg2 hm2 wE.pe na nc, h⟩
/-- sorted(e), e a tuple of fewer than 64 whole numbers whose order is known -/
theorem fd_sortT {M : Addr → Prop} {pos p : Pos} {ns out : List Int} (hg : Gl X "sorted") (hm : X.mg "sorted" = none) (ha : PD X M a σ H (.tuple (ns.map PyData.int))) (hl : ns.length < 64) (ho : out.Pairwise (· ≤ ·)) (hp : out.Perm ns) (hs : starEach (a :: []) X.env = (false, eval a X.env) :: starEach [] X.env := by rfl) (hpl : (backTo pos (starEach [] X.env)).any (·.1) = false := by rfl) :
    FD X M (.Call (.Name "sorted" p) [a] [] pos) σ H (out.map PyData.int) := by
  refine fd_callB cr_sortQ hg hm PyProof.Rows.boot_sorted (ad_cons ha ad_nil hs) (fun vs H1 r al Q q => ?_) (by decide) (by decide) hs hpl
  obtain ⟨v, rfl, r1⟩ := rpa1 r
  cases r1 with
  | tup m h rs =>
    rw [rs.of_ints] at h
    refine ⟨_, ns, rfl, .inr (.inl h), hl, fun ns' p' hp' hs' hn => ?_⟩
    rw [List.Perm.eq_of_pairwise (le := (· ≤ ·)) (fun a b _ _ h1 h2 => Int.le_antisymm h1 h2) hs' ho (hp'.trans hp.symm)]
    exact q p' _ _ hn (Evl.Ex.new hn) upd_same (RpAll.ints _)
end
end GV

namespace IK
open PySem PySem.Spec PyProof.Rows L2 GV
/-! ### the probe, as the law asks -/
theorem ordK_lay : ∀ k ∈ ordK, (PyData.str k).canLay0 = true ∧ (PyData.str k).depth = 0 := by decide +kernel
theorem shaped_ks {ks : List Str} (h : ∀ k ∈ ks, k ∈ ordK) : SeqAt.shaped (strsD ks) = true := by
  have key : ∀ ks : List Str, (∀ k ∈ ks, k ∈ ordK) → PyData.canLayAll0 (ks.map PyData.str) = true ∧ PyData.depthAll (ks.map PyData.str) ≤ 1 := by
    intro ks
    induction ks with
    | nil => exact fun _ => ⟨rfl, Nat.zero_le _⟩
    | cons d r ih =>
      intro h
      obtain ⟨a, b⟩ := ordK_lay d (h d (List.mem_cons_self))
      obtain ⟨a2, b2⟩ := ih fun x hx => h x (List.mem_cons_of_mem _ hx)
      refine ⟨?_, ?_⟩
      · show ((PyData.str d).canLay0 && PyData.canLayAll0 (r.map PyData.str)) = true
        rw [a, a2]
        rfl
      · show max (PyData.str d).depth (PyData.depthAll (r.map PyData.str)) ≤ 1
        omega
  obtain ⟨a, b⟩ := key ks h
  exact shaped_of (d := strsD ks) a (by show PyData.depthAll (ks.map PyData.str) + 1 ≤ 64; omega)
theorem perm_row {ks ls : List Str} (h : ks.Perm ls) : rowI ks = rowI ls ∧ plI ks = plI ls := by
  have e : ∀ p, decide (p ∈ heldL ks) = decide (p ∈ heldL ls) := fun p => decide_eq_decide.mpr (by
    unfold heldL
    simp only [List.mem_cons, h.mem_iff])
  have e : (fun p => decide (p ∈ heldL ks)) = (fun p => decide (p ∈ heldL ls)) := funext e
  have b : bwL ks = bwL ls := by
    unfold bwL
    rw [e]
  have r : rowI ks = rowI ls := by
    unfold rowI
    rw [e, b]
  refine ⟨r, ?_⟩
  unfold plI
  rw [r, b]
def pOk (c : Nat) : Bool := decide (plI (kindsL c) + 1 < (rowI (kindsL c)).length) && decide ((rowI (kindsL c)).length = (kindsL c).length + 2) && (rowI (kindsL c)).all (fun z => decide (-1000000000000 ≤ z) && decide (z ≤ 1000000000000)) && decide (rowI (kindsL c)).Nodup && decide (plI (kindsL c) ≤ (kindsL c).length) && ((List.range ((kindsL c).length + 2)).map fun k => ((k : Nat) : Int) + 1).isPerm (rowI (kindsL c)) && ((List.range 6).filter (bitN c)).isPerm (kLs (rowI (kindsL c)) (plI (kindsL c)))
theorem pOk_all : (List.range 64).all pOk = true := by decide +kernel
theorem kinds_of (f : Nat → Bool) : ∃ c, c < 64 ∧ ∀ k, k < 6 → f k = bitN c k := by
  have h : ∀ b0 b1 b2 b3 b4 b5 : Bool, ∃ c : Fin 64, bitN c.val 0 = b0 ∧ bitN c.val 1 = b1 ∧ bitN c.val 2 = b2 ∧ bitN c.val 3 = b3 ∧ bitN c.val 4 = b4 ∧ bitN c.val 5 = b5 := by
    intro b0 b1 b2 b3 b4 b5
    cases b0 <;> cases b1 <;> cases b2 <;> cases b3 <;> cases b4 <;> cases b5 <;> first
      | exact ⟨⟨0, by decide⟩, by decide⟩
      | exact ⟨⟨1, by decide⟩, by decide⟩
      | exact ⟨⟨2, by decide⟩, by decide⟩
      | exact ⟨⟨3, by decide⟩, by decide⟩
      | exact ⟨⟨4, by decide⟩, by decide⟩
      | exact ⟨⟨5, by decide⟩, by decide⟩
      | exact ⟨⟨6, by decide⟩, by decide⟩
      | exact ⟨⟨7, by decide⟩, by decide⟩
      | exact ⟨⟨8, by decide⟩, by decide⟩
      | exact ⟨⟨9, by decide⟩, by decide⟩
      | exact ⟨⟨10, by decide⟩, by decide⟩
      | exact ⟨⟨11, by decide⟩, by decide⟩
      | exact ⟨⟨12, by decide⟩, by decide⟩
      | exact ⟨⟨13, by decide⟩, by decide⟩
      | exact ⟨⟨14, by decide⟩, by decide⟩
      | exact ⟨⟨15, by decide⟩, by decide⟩
      | exact ⟨⟨16, by decide⟩, by decide⟩
      | exact ⟨⟨17, by decide⟩, by decide⟩
      | exact ⟨⟨18, by decide⟩, by decide⟩
      | exact ⟨⟨19, by decide⟩, by decide⟩
      | exact ⟨⟨20, by decide⟩, by decide⟩
      | exact ⟨⟨21, by decide⟩, by decide⟩
      | exact ⟨⟨22, by decide⟩, by decide⟩
      | exact ⟨⟨23, by decide⟩, by decide⟩
      | exact ⟨⟨24, by decide⟩, by decide⟩
      | exact ⟨⟨25, by decide⟩, by decide⟩
      | exact ⟨⟨26, by decide⟩, by decide⟩
      | exact ⟨⟨27, by decide⟩, by decide⟩
      | exact ⟨⟨28, by decide⟩, by decide⟩
      | exact ⟨⟨29, by decide⟩, by decide⟩
      | exact ⟨⟨30, by decide⟩, by decide⟩
      | exact ⟨⟨31, by decide⟩, by decide⟩
      | exact ⟨⟨32, by decide⟩, by decide⟩
      | exact ⟨⟨33, by decide⟩, by decide⟩
      | exact ⟨⟨34, by decide⟩, by decide⟩
      | exact ⟨⟨35, by decide⟩, by decide⟩
      | exact ⟨⟨36, by decide⟩, by decide⟩
      | exact ⟨⟨37, by decide⟩, by decide⟩
      | exact ⟨⟨38, by decide⟩, by decide⟩
      | exact ⟨⟨39, by decide⟩, by decide⟩
      | exact ⟨⟨40, by decide⟩, by decide⟩
      | exact ⟨⟨41, by decide⟩, by decide⟩
      | exact ⟨⟨42, by decide⟩, by decide⟩
      | exact ⟨⟨43, by decide⟩, by decide⟩
      | exact ⟨⟨44, by decide⟩, by decide⟩
      | exact ⟨⟨45, by decide⟩, by decide⟩
      | exact ⟨⟨46, by decide⟩, by decide⟩
      | exact ⟨⟨47, by decide⟩, by decide⟩
      | exact ⟨⟨48, by decide⟩, by decide⟩
      | exact ⟨⟨49, by decide⟩, by decide⟩
      | exact ⟨⟨50, by decide⟩, by decide⟩
      | exact ⟨⟨51, by decide⟩, by decide⟩
      | exact ⟨⟨52, by decide⟩, by decide⟩
      | exact ⟨⟨53, by decide⟩, by decide⟩
      | exact ⟨⟨54, by decide⟩, by decide⟩
      | exact ⟨⟨55, by decide⟩, by decide⟩
      | exact ⟨⟨56, by decide⟩, by decide⟩
      | exact ⟨⟨57, by decide⟩, by decide⟩
      | exact ⟨⟨58, by decide⟩, by decide⟩
      | exact ⟨⟨59, by decide⟩, by decide⟩
      | exact ⟨⟨60, by decide⟩, by decide⟩
      | exact ⟨⟨61, by decide⟩, by decide⟩
      | exact ⟨⟨62, by decide⟩, by decide⟩
      | exact ⟨⟨63, by decide⟩, by decide⟩
  obtain ⟨c, h0, h1, h2, h3, h4, h5⟩ := h (f 0) (f 1) (f 2) (f 3) (f 4) (f 5)
  refine ⟨c.val, c.isLt, fun k hk => ?_⟩
  match k, hk with
  | 0, _ => exact h0.symm
  | 1, _ => exact h1.symm
  | 2, _ => exact h2.symm
  | 3, _ => exact h3.symm
  | 4, _ => exact h4.symm
  | 5, _ => exact h5.symm
structure PrF (c : Nat) (R : List Int) (L : Nat) : Prop where
  row : RowL R
  pl : L + 1 < R.length
  len : R.length = (kindsL c).length + 2
  le : L ≤ (kindsL c).length
  so : ((List.range ((kindsL c).length + 2)).map fun k => ((k : Nat) : Int) + 1).Perm R
  ks : ((List.range 6).filter (bitN c)).Perm (kLs R L)
theorem prf {c : Nat} (h : c < 64) : PrF c (rowI (kindsL c)) (plI (kindsL c)) := by
  have := List.all_eq_true.mp pOk_all c (List.mem_range.mpr h)
  unfold pOk at this
  simp only [Bool.and_eq_true, decide_eq_true_eq] at this
  obtain ⟨⟨⟨⟨⟨⟨h1, h2⟩, h3⟩, h4⟩, h5⟩, h6⟩, h7⟩ := this
  have l6 : (kindsL c).length ≤ 6 := by
    unfold kindsL
    rw [List.length_map]
    exact Nat.le_trans (List.length_filter_le _ _) (by decide)
  exact ⟨⟨by omega, fun z hz => by
    have := List.all_eq_true.mp h3 z hz
    simp only [Bool.and_eq_true, decide_eq_true_eq] at this
    exact this, h4⟩, h1, h2, h5, List.isPerm_iff.mp h6, List.isPerm_iff.mp h7⟩
theorem PrF.pres {c L : Nat} {R : List Int} (h : PrF c R L) {k : Nat} (hk : k < 6) : presB R L k = bitN c k := by
  unfold presB
  rw [Bool.eq_iff_iff, decide_eq_true_eq, ← h.ks.mem_iff, List.mem_filter]
  exact ⟨fun z => z.2, fun z => ⟨List.mem_range.mpr hk, z⟩⟩
theorem six_congr {f g : Nat → Bool} (h : ∀ k, k < 6 → f k = g k) : sixB f = sixB g := List.map_congr_left fun k hk => congrArg PyData.bool (h k (List.mem_range.mp hk))
theorem filt_congr {f g : Nat → Bool} (h : ∀ k, k < 6 → f k = g k) : (List.range 6).filter f = (List.range 6).filter g := List.filter_congr fun k hk => h k (List.mem_range.mp hk)
theorem PrF.help {c L : Nat} {R : List Int} (h : PrF c R L) (n : Nat) : (helpL n R L R.length).length = ((List.range 6).filter fun k => bitN c k && bit n k).length := by
  have e : (helpL n R L R.length).length = ((kLs R L).filter (bit n)).length := by
    unfold helpL kLs
    rw [List.length_map, List.filter_map, List.length_map]
    rfl
  have e2 : ((List.range 6).filter fun k => bitN c k && bit n k) = ((List.range 6).filter (bitN c)).filter (bit n) := by
    rw [List.filter_filter]
    exact List.filter_congr fun k _ => Bool.and_comm _ _
  rw [e, e2]
  exact ((h.ks.filter (bit n)).length_eq).symm
def spProbed (K : PySem.W.Frag) : Sp := fun vs H Q _ => ∃ (b a : Addr) (ns : List Int) (p n : Nat), vs = [.ref b, .ref a, .int (p : Nat), .int (n : Nat)] ∧ PotAt H b ∧ a ≠ b ∧ H a = some (.lst (ns.map V.int)) ∧ RowL ns ∧ p + 1 < ns.length ∧ 1 ≤ n ∧ n < 64 ∧ ∀ H', ExB b H H' → PotAt H' b → Q (.bl true) H'
section
variable {P : Program} {w : World} {K : PySem.W.Frag} {mg : Str → Option Value} {base : Heap} {CH : Addr}
theorem cl_law_probed {f : Addr} {fd : FuncData} (F : At K mg "_law_probed" s_law_probed f fd) (C : HouseC P w K mg base CH) (nr : mg "reversed" = none) (ci : Cl P w K mg base CX0 1 "_law_integer" (PureR K R_is_integer)) (co : Cl P w K mg base CX0 2 "_law_order" (spOrd V.str)) (cp : Cl P w K mg base CX0 2 "probe" (PureR K R_pk)) (ca : Cl P w K mg base CX0 9 "_law_all_houses" (spAll K)) (ct : Cl P w K mg base CX0 10 "_law_place_tells" (spTells K)) : Cl P w K mg base CX0 11 "_law_probed" (spProbed K) := by
  refine ⟨f, fd, _, F.fn.ok sc_law_probed (fun vs H Q E h => ?_) (fun cdv A outer sh H vs Q E hr h => ⟨_, wB.ps, ?_⟩), F.gl, F.fn.kp, F.fn.binds fun _ _ _ _ _ _ us hl => match us, hl with | [_, _, _, _], _ => rfl⟩
  · obtain ⟨_, _, _, _, _, rfl, _⟩ := h
    rfl
  obtain ⟨b, a, ns, p, n, rfl, hb, ab, ha, hrow, hp, n1, n2, q⟩ := h
  have nb := C.nb
  have hl := hrow.1
  have row0 : ∀ {H2 : Hp}, H2 a = some (.lst (ns.map V.int)) → Rp K M0 H2 (.ref a) (.list (ns.map PyData.int)) := fun h => .lst (fun z => z) (.inl h) (.ints ns)
  obtain ⟨c, hc, fc⟩ := kinds_of (presB ns p)
  have pf := prf hc
  obtain ⟨_, k1, k2, k3⟩ := kindsK_ok ⟨c, hc⟩
  have k1 : (kindsL c).Nodup := k1
  have k2 : (kindsL c).length ≤ 6 := k2
  have k3 : ∀ k ∈ kindsL c, k ∈ ordK := k3
  have nmE : ((List.range 6).filter (presB ns p)).map (fun k => PyData.str (ordK.getD k "")) = (kindsL c).map PyData.str := by
    rw [filt_congr fc]
    unfold kindsL
    rw [List.map_map]
    rfl
  have shN := shaped_ks k3
  generalize hR : rowI (kindsL c) = R at pf
  generalize hL : plI (kindsL c) = L at pf
  refine b_cons (cs_set (i := 4) sc_law_probed.nd rfl (by first | exact .inl rfl | exact .inr rfl) (ce_fd (M := M0) alive0 (fd_callC C.lk hr (by decide) rfl (ad_cons (nm 1 (row0 ha)) (ad_cons (nm 2 (.int (p : Nat))) ad_nil)) ⟨false, ns, p, hp, by omega, hrow.2.2, rfl, rfl⟩) fun pp wp H1 hpp x1 h1 r1 => ?_))
  have ewp := six_of r1
  subst ewp
  have rp : ∀ {H2 : Hp}, H2 pp = some (.lst (sixV (presB ns p))) → Rp K M0 H2 (.ref pp) (.list (sixB (presB ns p))) := fun h => .lst (fun z => z) (.inl h) (six_rp _)
  refine b_cons (cs_set (i := 5) sc_law_probed.nd rfl (by first | exact .inl rfl | exact .inr rfl) (ce_fd (M := M0) alive0 (fd_callC C.ln hr (by decide) rfl (ad_cons (nm 4 (rp h1)) ad_nil) ⟨presB ns p, rfl, rfl⟩) fun pn wn H2 hpn x2 h2 r2 => ?_))
  rw [nmE] at r2
  have ewn := flvS.of r2
  subst ewn
  have rn : ∀ {H2 : Hp}, H2 pn = some (.lst ((kindsL c).map V.str)) → Rp K M0 H2 (.ref pn) (strsD (kindsL c)) := fun h => .lst (fun z => z) (.inl h) (flvS.all _)
  have x12 := x1.trans x2
  have hb2 := hb.ex x12
  have bp : pp ≠ b := (hb.ne hpp).symm
  have bn : pn ≠ b := ((hb.ex x1).ne hpn).symm
  refine b_cons (cs_set (i := 6) sc_law_probed.nd rfl (by first | exact .inl rfl | exact .inr rfl) (ce_call co hr (by decide) rfl (ca_cons (ce_nm 0 (ca_cons (ce_nm 5 (ca_nil ⟨b, pn, kindsL c, rfl, hb2, h2, bn, by omega, fun pm ks H3 hpm e3 hb3 h3 pmk => ?_⟩)))))))
  have e03 : ExB b H H3 := (ExB.of x12).trans e3
  have ha3 := e03 _ _ ab ha
  have hp3 := e3 _ _ bp (x2 _ _ h1)
  have hn3 := e3 _ _ bn h2
  have rm3 : Rp K M0 H3 (.ref pm) (strsD ks) := .lst (fun z => z) (.inl h3) (flvS.all _)
  have hk : ∀ k ∈ ks, k ∈ ordK := fun k h => k3 k (pmk.mem_iff.mp h)
  have hnd : ks.Nodup := pmk.nodup_iff.mpr k1
  have hlk : ks.length ≤ 6 := by rw [pmk.length_eq]; exact k2
  have due : ∀ {tp : Bool} {ks : List Str}, ks.Perm (kindsL c) → R_pk [sqD tp (ks.map PyData.str)] (.tuple [tintsD R, natD L]) := fun {tp ks} pm => by
    obtain ⟨er, ep⟩ := perm_row pm
    exact ⟨tp, ks, fun k h => k3 k (pm.mem_iff.mp h), pm.nodup_iff.mpr k1, by rw [pm.length_eq]; omega, rfl, by rw [er, ep, hR, hL]⟩
  have shk := shaped_ks hk
  refine b_cons (cs_set (i := 7) sc_law_probed.nd rfl (by first | exact .inl rfl | exact .inr rfl) (ce_fd (M := M0) alive0 (fd_listOf rfl nb.list (nm 6 rm3) rfl) fun pk wk H4 hpk x4 h4 r4 => ?_))
  have rk4 : Rp K M0 H4 (.ref pk) (strsD ks) := .lst (fun z => z) (.inl h4) r4
  have rm4 := rm3.mono (fun _ z => z) (ExM.of x4)
  refine b_cons (s_set (M := M0) (i := 8) (d := .tuple [tintsD R, natD L]) alive0 sc_law_probed.nd rfl (by first | exact .inl rfl | exact .inr rfl) (pd_callC cp hr (by decide) rfl (ad_cons (nm 6 rm4) ad_nil) (due (tp := false) pmk)) fun vt H5 x5 rt => ?_)
  have x35 := x4.trans x5
  have hn5 := x35 _ _ hn3
  have rev : ∀ {q1 q2 q3 q4 q5 : Pos}, PD (cxOf CX0 P w K mg base n_law_probed "_law_probed" (defScope s_law_probed) f cdv A outer sh H E).nox M0 (.Call (.Name "tuple" q1) [.Call (.Name "reversed" q2) [.Name "names" q3] [] q4] [] q5) [some (.ref b), some (.ref a), some (.int (p : Nat)), some (.int (n : Nat)), some (.ref pp), some (.ref pn), some (.ref pm), some (.ref pk), some vt, none, none, none] H5 (.tuple ((kindsL c).reverse.map PyData.str)) := fun {q1 q2 q3 q4 q5} => .mk fun H6 e6 al Q q => ce_tupRev rfl rfl nb.tuple rfl nr (ce_nm 5 ⟨pn, _, rfl, e6 _ _ hn5 (fun z => z) (fun _ z => by cases z), by rw [List.length_map]; omega, fun qa H7 hqa x7 h7 => q _ H7 x7 (.tup (fun z => z) (.inl h7) (by rw [← List.map_reverse]; exact flvS.all _))⟩)
  have alkT : alk 2 (.tuple [tintsD R, natD L]) := .inr ⟨true, _, rfl, by simp, fun e he => by
    rcases List.mem_cons.mp he with rfl | he
    · exact alk_ints true R 0 (by have := pf.row.1; omega)
    · cases List.mem_singleton.mp he
      exact .inl rfl⟩
  refine b_cons (s_if (M := M0) (k := false) alive0 (TD.is (WD.td (wd_or (k1 := false) (k2 := false) (td_not (k := true) (td_val (pd_callC C.lk2 hr (by decide) rfl (ad_cons (pd_callC cp hr (by decide) rfl (ad_cons rev ad_nil) (due (tp := true) (List.reverse_perm _))) (ad_cons (nm 8 rt) ad_nil)) ⟨_, rfl, alkT, rfl⟩))) fun _ => wd_or1 (TD.is (td_ne hr.units (nm 6 (rm4.mono (fun _ z => z) (ExM.of x5))) (nm 7 (rk4.mono (fun _ z => z) (ExM.of x5))) shk shk) (by rw [SeqAt.eqv_refl _ (SeqAt.canLay_of_shaped shk)]; rfl)))) rfl) (fun k => by cases k) (fun _ H6 x6 => b_nil ?_))
  have rt6 := rt.mono (fun _ z => z) (ExM.of x6)
  have ix0 : ixD (.tuple [tintsD R, natD L]) (.int 0) = some (tintsD R) := rfl
  have ix1 : ixD (.tuple [tintsD R, natD L]) (.int 1) = some (natD L) := rfl
  refine b_cons (s_if (M := M0) (k := false) alive0 (TD.is (WD.td (wd_or (k1 := false) (k2 := false) (td_not (k := true) (td_val (pd_isi rfl nb.isinstance rfl nb.tuple PyProof.Rows.boot_tuple (nm 8 rt6) (kit_t _)))) fun _ => wd_or (k1 := false) (k2 := false) (TD.is (td_ne hr.units (pd_len nb rfl (nm 8 rt6) (n := 2) rfl) pd_int rfl rfl) rfl) fun _ => wd_or1 (td_not (k := true) (td_val (pd_isi rfl nb.isinstance rfl nb.tuple PyProof.Rows.boot_tuple (pd_ix (nm 8 rt6) pd_int ix0) (kit_t _)))))) rfl) (fun k => by cases k) (fun _ H7 x7 => b_nil ?_))
  have rt7 := rt6.mono (fun _ z => z) (ExM.of x7)
  have x37 := x35.trans (x6.trans x7)
  have rn7 := rn (x37 _ _ hn3)
  have lnn : lenD (strsD (kindsL c)) = some (kindsL c).length := by show some _ = _; rw [List.length_map]
  have outP : ((List.range ((kindsL c).length + 2)).map fun k => ((k : Nat) : Int) + 1).Pairwise (· ≤ ·) := by
    refine List.pairwise_iff_getElem.mpr fun i j hi hj hij => ?_
    simp only [List.getElem_map, List.getElem_range]
    omega
  refine b_cons (s_if (M := M0) (k := false) alive0 (TD.is (WD.td (wd_or (k1 := false) (k2 := false) (td_not (k := true) (td_val (pd_callC ci hr (by decide) rfl (ad_cons (pd_ix (nm 8 rt7) pd_int ix1) ad_nil) ⟨natD L, rfl, rfl⟩))) fun _ => wd_or1 (td_not (k := true) (td_val (pd_callC C.lk2 hr (by decide) rfl (ad_cons (FD.pd (fd_sortT rfl nb.sorted (pd_ix (nm 8 rt7) pd_int ix0) (by have := pf.row.1; omega) outP pf.so)) (ad_cons (PD.is (FD.pd (fd_mapA natD_inj (fun k => .int (((k : Nat) : Int) + 1)) (l := List.range ((kindsL c).length + 2)) (t := .one 11) (own := [("k", 11)]) rfl sc_law_probed.nd (src_rangeN rfl nb.range (PD.is (pd_add (pd_len nb rfl (nm 5 rn7) lnn) pd_int) (congrArg PyData.int (show (((kindsL c).length : Nat) : Int) + 2 = (((kindsL c).length + 2 : Nat) : Int) by omega))) (by omega)) (blkOk_by (N := n_law_probed) (sc := defScope s_law_probed) (by decide +kernel)) (fun _ _ _ _ _ => pg_name (i := 11) sc_law_probed.nd rfl (.inl rfl)) (fun _ _ => trivial) ?_ (by rw [List.length_range]; omega) ?_)) (congrArg PyData.list (by rw [List.map_map]; rfl))) ad_nil)) ⟨_, rfl, alk_ints false _ 1 (by rw [List.length_map, List.length_range]; omega), rfl⟩))))) rfl) (fun k => by cases k) (fun _ H8 x8 => b_nil ?_))
  · rintro M H d σ' ⟨_, _, rfl⟩
    rfl
  · rintro s0 H0 C' cl fp M' H' k σ' hM lift kp hk ⟨v', rv, rfl⟩
    exact pd_add (nm 11 rv) pd_int
  have rt8 := rt7.mono (fun _ z => z) (ExM.of x8)
  have x38 := x37.trans x8
  have rn8 := rn (x38 _ _ hn3)
  have kaE : (presL R L).map (fun k => PyData.str (ordK.getD k "")) = (kindsL c).map PyData.str := by
    rw [presL_eq, filt_congr fun k hk => pf.pres hk]
    unfold kindsL
    rw [List.map_map]
    rfl
  have alkN : alk 2 (strsD (kindsL c)) := by
    have := alk_kinds ((List.range 6).filter (presB ns p)) 1 presL_lt (Nat.le_trans (List.length_filter_le _ _) (by decide))
    rw [nmE] at this
    exact this
  have hLc := pf.le
  refine b_cons (s_if (M := M0) (k := false) alive0 (TD.is (WD.td (wd_or (k1 := false) (k2 := false) (TD.is (td_lt (pd_ix (nm 8 rt8) pd_int ix1) pd_int) (decide_eq_false (by omega))) fun _ => wd_or (k1 := false) (k2 := false) (TD.is (td_gt (pd_ix (nm 8 rt8) pd_int ix1) (pd_len nb rfl (nm 5 rn8) lnn)) (decide_eq_false (by omega))) fun _ => wd_or1 (td_not (k := true) (td_val (pd_callC C.lk2 hr (by decide) rfl (ad_cons (PD.is (FD.pd (fd_callC C.ka hr (by decide) rfl (ad_cons (pd_ix (nm 8 rt8) pd_int ix0) (ad_cons (pd_ix (nm 8 rt8) pd_int ix1) ad_nil)) ⟨true, R, L, pf.row, pf.pl, rfl, rfl⟩)) (congrArg PyData.list kaE)) (ad_cons (nm 5 rn8) ad_nil)) ⟨_, rfl, alkN, rfl⟩))))) rfl) (fun k => by cases k) (fun _ H9 x9 => b_nil ?_))
  have rt9 := rt8.mono (fun _ z => z) (ExM.of x9)
  have x39 := x38.trans x9
  have rn9 := rn (x39 _ _ hn3)
  have lR := pf.row.1
  refine b_cons (s_if (M := M0) (k := false) alive0 (TD.is (td_ne hr.units (PD.is (FD.pd (fd_callC C.ln hr (by decide) rfl (ad_cons (FD.pd (fd_callC C.lk hr (by decide) rfl (ad_cons (pd_ix (nm 8 rt9) pd_int ix0) (ad_cons (pd_ix (nm 8 rt9) pd_int ix1) ad_nil)) ⟨true, R, L, pf.pl, by omega, pf.row.2.2, rfl, rfl⟩)) ad_nil) ⟨presB R L, rfl, rfl⟩)) (show PyData.list _ = strsD (kindsL c) from congrArg PyData.list (by rw [← presL_eq]; exact kaE))) (nm 5 rn9) shN shN) (by rw [SeqAt.eqv_refl _ (SeqAt.canLay_of_shaped shN)]; rfl)) (fun k => by cases k) (fun _ HA xA => b_nil ?_))
  have x3A := x39.trans xA
  have rtA := rt9.mono (fun _ z => z) (ExM.of xA)
  have six : sixB (presB ns p) = sixB (presB R L) := six_congr fun k hk => (fc k hk).trans (pf.pres hk).symm
  refine b_cons (cs_if (ct_not (ct_val (ce_call ca hr (by decide) rfl (ca_cons (ce_pd (M := M0) (d := tintsD ns) alive0 (pd_tupleOf rfl nb.tuple (nm 1 (row0 (x3A _ _ ha3))) rfl) fun vN HB xB rN => ca_cons (ce_nm 2 (ca_cons (ce_nm 4 (ca_cons (ce_pd (M := M0) (d := tintsD R) alive0 (pd_ix (nm 8 (rtA.mono (fun _ z => z) (ExM.of xB))) pd_int ix0) fun vR HC xC rR => ca_cons (ce_pd (M := M0) (d := natD L) alive0 (pd_ix (nm 8 ((rtA.mono (fun _ z => z) (ExM.of xB)).mono (fun _ z => z) (ExM.of xC))) pd_int ix1) fun vL HD xD rL => ca_cons (ce_nm 4 (ca_nil ⟨vN, .ref pp, vR, .ref pp, true, true, ns, R, p, L, by cases rL; rfl, rN.mono (fun _ z => z) (ExM.of (xC.trans xD)), hrow, hp, rp ((x3A.trans (xB.trans (xC.trans xD))) _ _ hp3), rR.mono (fun _ z => z) (ExM.of xD), pf.row, pf.pl, six ▸ rp ((x3A.trans (xB.trans (xC.trans xD))) _ _ hp3), fun HE xE => ⟨true, rfl, ?_⟩⟩))))))))))))))
  show (if (false : Bool) = true then _ else _)
  rw [if_neg (by decide)]
  have xAE := xB.trans (xC.trans (xD.trans xE))
  have x3E := x3A.trans xAE
  have rtE := rtA.mono (fun _ z => z) (ExM.of xAE)
  have lco : ((List.range 6).filter fun k => presB ns p k && bit n k) = (List.range 6).filter fun k => bitN c k && bit n k := filt_congr fun k hk => by rw [fc k hk]
  refine b_nil (b_cons (cs_set (i := 9) sc_law_probed.nd rfl (by first | exact .inl rfl | exact .inr rfl) (ce_fd (M := M0) alive0 (fd_callC C.lc hr (by decide) rfl (ad_cons (nm 4 (rp (x3E _ _ hp3))) (ad_cons (nm 3 (.int (n : Nat))) ad_nil)) ⟨presB ns p, n, rfl, rfl⟩) fun pc wc HF hpc xF hF rc => ?_)))
  rw [lco] at rc
  have rcF : Rp K M0 HF (.ref pc) (.list (((List.range 6).filter fun k => bitN c k && bit n k).map natD)) := .lst (fun z => z) (.inl hF) rc
  refine b_cons (cs_set (i := 10) sc_law_probed.nd rfl (by first | exact .inl rfl | exact .inr rfl) (ce_fd (M := M0) alive0 (fd_callC C.lh hr (by decide) rfl (ad_cons (pd_ix (nm 8 (rtE.mono (fun _ z => z) (ExM.of xF))) pd_int ix0) (ad_cons (pd_ix (nm 8 (rtE.mono (fun _ z => z) (ExM.of xF))) pd_int ix1) (ad_cons (nm 3 (.int (n : Nat))) ad_nil))) ⟨true, R, L, n, pf.pl, by omega, pf.row.2.2, rfl, rfl⟩) fun pf2 wf HG hpf xG hG rf => ?_))
  have rfG : Rp K M0 HG (.ref pf2) (.list ((helpL n R L R.length).map PyData.int)) := .lst (fun z => z) (.inl hG) rf
  have xEG := xF.trans xG
  refine b_cons (s_if (M := M0) (k := false) alive0 (TD.is (td_ne hr.units (pd_len nb rfl (nm 10 rfG) (n := (helpL n R L R.length).length) (by show some _ = _; rw [List.length_map])) (pd_len nb rfl (nm 9 (rcF.mono (fun _ z => z) (ExM.of xG))) (n := ((List.range 6).filter fun k => bitN c k && bit n k).length) (by show some _ = _; rw [List.length_map])) rfl rfl) (by rw [eqv_int, pf.help n, decide_eq_true rfl]; rfl)) (fun k => by cases k) (fun _ HI xI => b_nil ?_))
  have x3I := x3E.trans (xEG.trans xI)
  have rtI := rtE.mono (fun _ z => z) (ExM.of (xEG.trans xI))
  refine b_cons (cs_ret (ce_call ct hr (by decide) rfl (ca_cons (ce_fd (M := M0) alive0 (fd_listOf rfl nb.list (pd_ix (nm 8 rtI) pd_int ix0) rfl) fun pl wl HJ hpl xJ hJ rJ => ca_cons (ce_pd (M := M0) (d := natD L) alive0 (pd_ix (nm 8 (rtI.mono (fun _ z => z) (ExM.of xJ))) pd_int ix1) fun vL HK xK rL => ca_cons (ce_nm 3 (ca_nil ⟨.ref pl, R, L, n, by cases rL; rfl, (Rp.lst (M := M0) (fun z => z) (.inl hJ) rJ).mono (fun _ z => z) (ExM.of xK), pf.row, pf.pl, n1, n2, fun HL xL => ?_⟩)))))))
  have xx := x3I.trans (xJ.trans (xK.trans xL))
  exact q HL (e03.trE xx) (hb3.ex xx)
end
end IK

namespace IK
open PySem PySem.Spec PyProof.Rows L2 GV
/-! ### the law -/
def Off (K : PySem.W.Frag) (a0 : Addr) (ns : List Int) (x : Addr) : Prop := (∀ H', SqL K H' a0 (ns.map V.int)) ∨ a0 ≠ x
theorem ScAt.off {K : PySem.W.Frag} {H H' : Hp} {a0 : Addr} {ns : List Int} {S : Addr → Prop} (h : ScAt K M0 H a0 ns) (e : ExM S H H') (o : ∀ x, S x → Off K a0 ns x) : ScAt K M0 H' a0 ns := by
  rcases h with ⟨_, h⟩ | h
  · by_cases s : S a0
    · rcases o _ s with z | z
      · exact .inr z
      · exact absurd rfl z
    · exact .inl ⟨fun z => z, Rd.exM h s e⟩
  · exact .inr h
theorem ScAt.fresh {K : PySem.W.Frag} {H : Hp} {a0 p : Addr} {ns : List Int} (h : ScAt K M0 H a0 ns) (hp : H p = none) : Off K a0 ns p := by
  rcases h with ⟨_, h⟩ | h
  · exact .inr fun e => Rd.there h (by rw [e]; exact hp)
  · exact .inl h
abbrev manyL : List Nat := [2, 2, 3, 3, 4, 4, 5, 5, 6, 6, 7, 8, 9, 12, 39, 40]
theorem many_ok : ∀ n ∈ manyL, 2 ≤ n ∧ n ≤ 40 := by decide
def spLaw (K : PySem.W.Frag) : Sp := fun vs H Q _ => ∃ (a : Addr) (ns : List Int), vs = [.ref a] ∧ SqL K H a (ns.map V.int) ∧ ns.length ≤ 63 ∧ ∀ H', Q (.bl true) H'
structure LawC (P : Program) (w : World) (K : PySem.W.Frag) (mg : Str → Option Value) (base : Heap) : Prop where
  nb : NoB mg
  purse : Cl P w K mg base CX0 1 "_law_purse" (spPurse K)
  draw : Cl P w K mg base CX0 1 "_law_draw" spDraw
  stones : Cl P w K mg base CX0 2 "_law_stones" (spStones K)
  order : Cl P w K mg base CX0 2 "_law_order" (spOrd V.int)
  house : Cl P w K mg base CX0 2 "_law_house" spHouse
  tells : Cl P w K mg base CX0 10 "_law_place_tells" (spTells K)
  taken : Cl P w K mg base CX0 10 "_law_taken" (spTells K)
  put : Cl P w K mg base CX0 10 "_law_put" (spPutL K)
  probed : Cl P w K mg base CX0 11 "_law_probed" (spProbed K)
  refused : Cl P w K mg base CX0 9 "_law_refused" (spRefused K)
section
variable {P : Program} {w : World} {K : PySem.W.Frag} {mg : Str → Option Value} {base : Heap}
theorem ok_law {f : Addr} {fd : FuncData} (F : At K mg "law" s_law f fd) (C : LawC P w K mg base) : FnOk P w K mg base CX0 12 f fd ["script"] (spLaw K) := by
  refine F.fn.ok sc_law (fun vs H Q E h => ?_) (fun cdv A outer sh H vs Q E hr h => ⟨_, wB.ps, ?_⟩)
  · obtain ⟨a, ns, rfl, _⟩ := h
    rfl
  obtain ⟨a0, script, rfl, hS, hlen, q⟩ := h
  have sc0 : ScAt K M0 H a0 script := ScAt.of hS fun z => z
  have nb := C.nb
  refine b_cons (cs_set (i := 1) sc_law.nd rfl (by first | exact .inl rfl | exact .inr rfl) (ce_call C.purse hr (by decide) rfl (ca_cons (ce_nm 0 (ca_cons (ce_intC (ca_nil ⟨M0, a0, script, 0, rfl, alive0, sc0, fun b H1 hb0 x1 pot1 => ?_⟩)))))))
  have ob := ScAt.fresh sc0 hb0
  have sc1 := sc0.mono (M' := M0) (fun _ z => z) (ExM.of x1)
  refine b_cons (cs_set (i := 2) sc_law.nd rfl (by first | exact .inl rfl | exact .inr rfl) (ce_ix (ce_pd (M := Ma b) (d := .list (manyL.map natD)) (al_pot pot1) (FD.pd (fd_lst (ds := manyL.map natD) (ad_cons pd_int (ad_cons pd_int (ad_cons pd_int (ad_cons pd_int (ad_cons pd_int (ad_cons pd_int (ad_cons pd_int (ad_cons pd_int (ad_cons pd_int (ad_cons pd_int (ad_cons pd_int (ad_cons pd_int (ad_cons pd_int (ad_cons pd_int (ad_cons pd_int (ad_cons pd_int ad_nil)))))))))))))))) (by simp))) fun v2 H2 x2 r2 => ce_draw C.draw hr (by decide) rfl (fun H1 Q hq => ce_nm 1 hq) pd_int (pot1.ex x2) (by decide) (by decide +kernel) fun z3 H3 z30 z31 e3 pot3 => ?_)))
  obtain ⟨m, hm⟩ : ∃ n, manyL[z3.toNat]? = some n := ⟨_, List.getElem?_eq_getElem (show z3.toNat < 16 by omega)⟩
  obtain ⟨m2, m40⟩ := many_ok m (List.mem_of_getElem? hm)
  refine rIx_of (M := Ma b) (da := .list (manyL.map natD)) (d := natD m) (r2.mono (fun _ z => z) e3.exM) (by rw [show z3 = ((z3.toNat : Nat) : Int) by omega]; exact ixD_list (by rw [List.getElem?_map, hm]; rfl)) fun vX rX => ?_
  cases rX
  refine b_cons (cs_set (i := 3) sc_law.nd rfl (by first | exact .inl rfl | exact .inr rfl) (ce_call C.stones hr (by decide) rfl (ca_cons (ce_nm 1 (ca_cons (ce_pd (M := M0) (d := natD (m + 1)) alive0 (PD.is (pd_add (nm 2 (.int (m : Nat))) pd_int) (congrArg PyData.int (by omega))) fun v4 H4 x4 r4 => ca_nil ⟨b, m + 1, by cases r4; rfl, pot3.ex x4, by omega, fun ps st H5 hps e5 pot5 hst ls oks nds => ?_⟩))))))
  have psb : ps ≠ b := ((pot3.ex x4).ne hps).symm
  refine b_cons (cs_set (i := 4) sc_law.nd rfl (by first | exact .inl rfl | exact .inr rfl) (ce_draw C.draw hr (by decide) rfl (fun H1 Q hq => ce_nm 1 hq) (pd_add (nm 2 (.int (m : Nat))) pd_int) pot5 (by omega) (n8000 (by omega) (by omega)) fun z6 H6 z60 z61 e6 pot6 => ?_))
  obtain ⟨o, rfl⟩ : ∃ o : Nat, z6 = (o : Nat) := ⟨z6.toNat, by omega⟩
  have ho : o < st.length := by omega
  have hst6 := e6 _ _ psb hst
  have rs6 : ∀ {H2 : Hp}, H2 ps = some (.lst (st.map V.int)) → Rp K M0 H2 (.ref ps) (.list (st.map PyData.int)) := fun h => .lst (fun z => z) (.inl h) (.ints st)
  refine b_cons (s_set (M := M0) (i := 5) (d := .int st[o]) alive0 sc_law.nd rfl (by first | exact .inl rfl | exact .inr rfl) (pd_ix (nm 3 (rs6 hst6)) (nm 4 (.int (o : Nat))) (ixD_list (by rw [List.getElem?_map, List.getElem?_eq_getElem ho]; rfl))) fun v7 H7 x7 r7 => ?_)
  cases r7
  have e17 : ExB b H1 H7 := ((((ExB.of x2).trans e3).trans (ExB.of x4)).trans (e5.trans e6)).trE x7
  have sc7 := ScAt.off sc1 e17.exM fun x z => z ▸ ob
  have hst7 := x7 _ _ hst6
  have spl : st = st.take o ++ st[o] :: st.drop (o + 1) := by rw [← List.drop_eq_getElem_cons ho, List.take_append_drop]
  have lrow : (st.take o ++ st.drop (o + 1)).length = m := by
    rw [List.length_append, List.length_take, List.length_drop]
    omega
  have inrow : ∀ z ∈ st.take o ++ st.drop (o + 1), z ∈ st := fun z h => (List.mem_append.mp h).elim List.mem_of_mem_take List.mem_of_mem_drop
  have nds2 := nds
  rw [spl] at nds2
  have ndrow : (st.take o ++ st.drop (o + 1)).Nodup ∧ st[o] ∉ st.take o ++ st.drop (o + 1) := by
    obtain ⟨n1, n2, n3⟩ := List.nodup_append.mp nds2
    obtain ⟨n4, n5⟩ := List.nodup_cons.mp n2
    exact ⟨List.nodup_append.mpr ⟨n1, n5, fun x hx y hy => n3 x hx y (List.mem_cons_of_mem _ hy)⟩, fun h => (List.mem_append.mp h).elim (fun h => n3 _ h _ (List.mem_cons_self ..) rfl) n4⟩
  have okz : okW st[o] := oks _ (List.getElem_mem ho)
  generalize st[o] = z at okz ndrow
  have ceq : cutD (st.map PyData.int) none (some ((o : Nat) : Int)) ++ cutD (st.map PyData.int) (some (((o : Nat) : Int) + 1)) none = (st.take o ++ st.drop (o + 1)).map PyData.int := by
    rw [show ((o : Nat) : Int) + 1 = ((o + 1 : Nat) : Int) by omega, cutD_take, cutD_drop, List.map_append, List.map_take, List.map_drop]
  have clen : (cutD (st.map PyData.int) none (some ((o : Nat) : Int))).length + (cutD (st.map PyData.int) (some (((o : Nat) : Int) + 1)) none).length ≤ 100000 := by
    rw [← List.length_append, ceq, List.length_map, lrow]
    omega
  generalize st.take o ++ st.drop (o + 1) = r0 at lrow inrow ndrow ceq
  refine b_cons (cs_set (i := 6) sc_law.nd rfl (by first | exact .inl rfl | exact .inr rfl) (ce_call C.order hr (by decide) rfl (ca_cons (ce_call C.purse hr (by decide) rfl (ca_cons (ce_nm 0 (ca_cons (ce_intC (ca_nil ⟨M0, a0, script, 1, rfl, alive0, sc7, fun b2 H8 hb2 x8 pot8 => ca_cons (ce_fd (M := M0) alive0 (fd_cat (FD.pd (fd_slice (nm 3 (rs6 (x8 _ _ hst7))) od_none (od_some (nm 4 (.int (o : Nat)))))) (FD.pd (fd_slice (nm 3 (rs6 (x8 _ _ hst7))) (od_some (pd_add (nm 4 (.int (o : Nat))) pd_int)) od_none)) clen) fun pl wl H9 hpl x9 h9 r9 => ca_nil ?_)⟩)))))))))
  rw [ceq] at r9
  have ewl := flvI.of r9
  subst ewl
  refine ⟨b2, pl, r0, rfl, pot8.ex x9, h9, ((pot8).ne hpl).symm, by omega, fun pr row HA hpr eA potA hrow prm => ?_⟩
  have sc8 := sc7.mono (M' := M0) (fun _ z => z) (ExM.of x8)
  have sc9 := sc8.mono (M' := M0) (fun _ z => z) (ExM.of x9)
  have scA := ScAt.off sc9 eA.exM fun x z => z ▸ ScAt.fresh sc7 hb2
  have hl : row.length = m := prm.length_eq.trans lrow
  have rl : RowL row := ⟨by omega, fun y hy => oks y (inrow y (prm.mem_iff.mp hy)), prm.nodup_iff.mpr ndrow.1⟩
  have hz : z ∉ row := fun h => ndrow.2 (prm.mem_iff.mp h)
  refine b_cons (cs_set (i := 7) sc_law.nd rfl (by first | exact .inl rfl | exact .inr rfl) (ce_call C.house hr (by decide) rfl (ca_cons (ce_call C.purse hr (by decide) rfl (ca_cons (ce_nm 0 (ca_cons (ce_intC (ca_nil ⟨M0, a0, script, 2, rfl, alive0, scA, fun b3 HB hb3 xB potB => ca_nil ⟨b3, rfl, potB, fun n HC n1 n2 eC potC => ?_⟩⟩))))))))) 
  have prb3 : pr ≠ b3 := fun e => by
    rw [← e, hrow] at hb3
    cases hb3
  have hrowC := eC _ _ prb3 (xB _ _ hrow)
  have scC := ScAt.off (scA.mono (M' := M0) (fun _ z => z) (ExM.of xB)) eC.exM fun x z => z ▸ ScAt.fresh scA hb3
  refine b_cons (cs_set (i := 1) sc_law.nd rfl (by first | exact .inl rfl | exact .inr rfl) (ce_call C.purse hr (by decide) rfl (ca_cons (ce_nm 0 (ca_cons (ce_intC (ca_nil ⟨M0, a0, script, 3, rfl, alive0, scC, fun c HD hc xD potD => ?_⟩)))))))
  have prc : pr ≠ c := fun e => by
    rw [← e, hrowC] at hc
    cases hc
  have hrowD := xD _ _ hrowC
  refine b_cons (cs_set (i := 8) sc_law.nd rfl (by first | exact .inl rfl | exact .inr rfl) (ce_draw C.draw hr (by decide) rfl (fun H1 Q hq => ce_nm 1 hq) (pd_sub (nm 2 (.int (m : Nat))) pd_int) potD (by omega) (n8000 (by omega) (by omega)) fun zE HE zE0 zE1 eE potE => ?_))
  obtain ⟨p, rfl⟩ : ∃ p : Nat, zE = (p : Nat) := ⟨zE.toNat, by omega⟩
  have hp : p + 1 < row.length := by omega
  have hrowE := eE _ _ prc hrowD
  have rr : ∀ {H2 : Hp}, H2 pr = some (.lst (row.map V.int)) → Rp K M0 H2 (.ref pr) (.list (row.map PyData.int)) := fun h => .lst (fun z => z) (.inl h) (.ints row)
  have fin : ∀ H2, PotAt H2 c → H2 pr = some (.lst (row.map V.int)) → wB (cxOf CX0 P w K mg base n_law "law" (defScope s_law) f cdv A outer sh H E).nox ((defBody s_law).drop 11) { nx := fun _ H' => Q .non H', rt := Q } [some (.ref a0), some (.ref c), some (.int (m : Nat)), some (.ref ps), some (.int (o : Nat)), some (.int z), some (.ref pr), some (.int (n : Nat)), some (.int (p : Nat))] H2 := by
    intro H2 pt hr2
    refine b_cons (cs_if (ct_not (ct_val (ce_call C.probed hr (by decide) rfl (ca_cons (ce_nm 1 (ca_cons (ce_nm 6 (ca_cons (ce_nm 8 (ca_cons (ce_nm 7 (ca_nil ⟨c, pr, row, p, n, rfl, pt, prc, hr2, rl, hp, n1, n2, fun H3 e3 pt3 => ⟨true, rfl, ?_⟩⟩)))))))))))) )
    show (if (false : Bool) = true then _ else _)
    rw [if_neg (by decide)]
    have hr3 := e3 _ _ prc hr2
    refine b_nil (b_cons (cs_ret (ce_call C.refused hr (by decide) rfl (ca_cons (ce_nm 6 (ca_cons (ce_nm 5 (ca_cons (ce_draw C.draw hr (by decide) rfl (fun H1 Q hq => ce_nm 1 hq) (pd_add (nm 2 (.int (m : Nat))) pd_int) pt3 (by omega) (n8000 (by omega) (by omega)) fun zF HF zF0 zF1 eF potF => ca_nil ?_))))))))) 
    exact ⟨pr, row, z, zF.toNat, by rw [Int.toNat_of_nonneg zF0], eF _ _ prc hr3, rl, by omega, okz, hz, by omega, fun H4 _ => q H4⟩
  refine b_cons (cs_if (ct_w (cw_or (ct_not (ct_val (ce_call C.tells hr (by decide) rfl (ca_cons (ce_nm 6 (ca_cons (ce_nm 8 (ca_cons (ce_nm 7 (ca_nil ⟨.ref pr, row, p, n, rfl, rr hrowE, rl, hp, n1, n2, fun HF xF => ⟨true, rfl, ⟨fun _ => cw_or1 (ct_not (ct_val (ce_call C.taken hr (by decide) rfl (ca_cons (ce_nm 6 (ca_cons (ce_nm 8 (ca_cons (ce_nm 7 (ca_nil ⟨.ref pr, row, p, n, rfl, rr (xF _ _ hrowE), rl, hp, n1, n2, fun HG xG => ⟨true, rfl, ?_⟩⟩)))))))))), fun z => by cases z⟩⟩⟩)))))))))))))
  show (if (false : Bool) = true then _ else _)
  rw [if_neg (by decide)]
  have xEG := xF.trans xG
  have hrowG := xEG _ _ hrowE
  have potG := potE.ex xEG
  refine b_nil (b_cons (cs_if (ct_w (cw_and (ct_lt (ce_nm 2 (ce_intC ⟨((m : Nat) : Int), 40, rfl, rfl, ⟨fun hk => cw_and1 (ct_not (ct_val (ce_call C.put hr (by decide) rfl (ca_cons (ce_nm 1 (ca_cons (ce_nm 6 (ca_cons (ce_nm 8 (ca_cons (ce_nm 7 (ca_cons (ce_nm 5 (ca_nil ⟨c, pr, row, p, n, z, rfl, potG, prc, hrowG, rl, by have := of_decide_eq_true hk; omega, hp, n1, n2, okz, hz, fun HI eI potI => ⟨true, rfl, ?_⟩⟩)))))))))))))), fun _ => ?_⟩⟩)))))))
  · show (if (false : Bool) = true then _ else _)
    rw [if_neg (by decide)]
    exact b_nil (fin HI potI (eI _ _ prc hrowG))
  · show (if (false : Bool) = true then _ else _)
    rw [if_neg (by decide)]
    exact b_nil (fin HG potG hrowG)
end
end IK

namespace IK
open PySem PySem.Spec PyProof.Rows L2 GV
theorem at_mk {K : PySem.W.Frag} {h : Heap} {mg : Str → Option Value} {x : Str} {st : Stmt} {f : Addr} {od an : Option Addr} {sl : Array (Option Value)} {oc kV dc pm cd ct : Value} (X : K.In h) (G : h.Ns mainGlobals mg) (a : PySem.W.nsIn K mainGlobals x = some (some (.ref f)))
    (l : K.lookup f = some ⟨oc, od, .func (PySem.W.fnOf x x (defArgs st) (defBody st) (defScope st) .none kV dc pm an cd ct), sl⟩) (c : PySem.W.codeIn K cd x = true) (k : PySem.W.keepIn K (.ref f) = true) : ∃ f fd, At K mg x st f fd :=
  ⟨f, _, fun_mk l c k, PySem.W.mg_of X G a⟩
theorem exm_of {K : PySem.W.Frag} {S D : Addr} {b : Bool} (h1 : PySem.W.subIn K (.ref S) (.type "BaseException") = some true) (h0 : PySem.W.subIn K (.ref D) (.type "BaseException") = some true) (h2 : PySem.W.isClsIn K D = true) (h3 : PySem.W.typeIn K (.ref D) = some (.type "type")) (h4 : PySem.W.subIn K (.ref S) (.ref D) = some b) : PySem.W.exmOne K (.ref S) (.ref D) = some b := by
  have e1 : (PySem.W.subIn K (.ref D) (.type "BaseException") == some true) = true := by rw [h0] <;> rfl
  have e2 : ((PySem.W.clsIn K D).isSome && PySem.W.typeIn K (.ref D) == some (.type "type")) = true := by
    have h2' : (PySem.W.clsIn K D).isSome = true := h2
    rw [h2', h3] <;> rfl
  show (if (PySem.W.subIn K (.ref D) (.type "BaseException") == some true) = true then (if ((PySem.W.clsIn K D).isSome && PySem.W.typeIn K (.ref D) == some (.type "type")) = true then PySem.W.subIn K (.ref S) (.ref D) else none) else none) = some b
  rw [if_pos e1, if_pos e2]
  exact h4
theorem gi_mk {K : PySem.W.Frag} {h : Heap} {mg : Str → Option Value} {x : Str} {i : Int} {t : Tok} (X : K.In h) (G : h.Ns mainGlobals mg) (a : PySem.W.nsIn K mainGlobals x = some (some (.int i t))) : ∃ t, mg x = some (.int i t) := ⟨t, PySem.W.mg_of X G a⟩
structure Facts (K : PySem.W.Frag) (mg : Str → Option Value) : Prop where
  nb : NoB mg
  is_integer : ∃ f fd, At K mg "is_integer" s_is_integer f fd
  is_number : ∃ f fd, At K mg "is_number" s_is_number f fd
  check_number : ∃ f fd, At K mg "check_number" s_check_number f fd
  is_weight : ∃ f fd, At K mg "is_weight" s_is_weight f fd
  is_bag_row : ∃ f fd, At K mg "is_bag_row" s_is_bag_row f fd
  is_row : ∃ f fd, At K mg "is_row" s_is_row f fd
  is_place : ∃ f fd, At K mg "is_place" s_is_place f fd
  check_weight : ∃ f fd, At K mg "check_weight" s_check_weight f fd
  check_row : ∃ f fd, At K mg "check_row" s_check_row f fd
  check_place : ∃ f fd, At K mg "check_place" s_check_place f fd
  put_in : ∃ f fd, At K mg "put_in" s_put_in f fd
  taken_out : ∃ f fd, At K mg "taken_out" s_taken_out f fd
  text_of_number : ∃ f fd, At K mg "text_of_number" s_text_of_number f fd
  number_of_text : ∃ f fd, At K mg "number_of_text" s_number_of_text f fd
  check_house : ∃ f fd, At K mg "check_house" s_check_house f fd
  check_all : ∃ f fd, At K mg "_check_all" s_check_all f fd
  third_kinds : ∃ f fd, At K mg "_third_kinds" s_third_kinds f fd
  helper_indexes : ∃ f fd, At K mg "_helper_indexes" s_helper_indexes f fd
  frees : ∃ f fd, At K mg "frees" s_frees f fd
  present_kinds : ∃ f fd, At K mg "present_kinds" s_present_kinds f fd
  kinds_at : ∃ f fd, At K mg "kinds_at" s_kinds_at f fd
  helpers : ∃ f fd, At K mg "helpers" s_helpers f fd
  keystone : ∃ f fd, At K mg "keystone" s_keystone f fd
  is_free : ∃ f fd, At K mg "is_free" s_is_free f fd
  check_kinds : ∃ f fd, At K mg "_check_kinds" s_check_kinds f fd
  probe_of : ∃ f fd, At K mg "_probe_of" s_probe_of f fd
  probe : ∃ f fd, At K mg "probe" s_probe f fd
  law_integer : ∃ f fd, At K mg "_law_integer" s_law_integer f fd
  law_purse : ∃ f fd, At K mg "_law_purse" s_law_purse f fd
  law_draw : ∃ f fd, At K mg "_law_draw" s_law_draw f fd
  law_stones : ∃ f fd, At K mg "_law_stones" s_law_stones f fd
  law_order : ∃ f fd, At K mg "_law_order" s_law_order f fd
  law_house : ∃ f fd, At K mg "_law_house" s_law_house f fd
  law_kinds : ∃ f fd, At K mg "_law_kinds" s_law_kinds f fd
  law_free : ∃ f fd, At K mg "_law_free" s_law_free f fd
  law_like : ∃ f fd, At K mg "_law_like" s_law_like f fd
  law_names : ∃ f fd, At K mg "_law_names" s_law_names f fd
  law_named : ∃ f fd, At K mg "_law_named" s_law_named f fd
  law_common : ∃ f fd, At K mg "_law_common" s_law_common f fd
  law_helpers : ∃ f fd, At K mg "_law_helpers" s_law_helpers f fd
  law_place_tells : ∃ f fd, At K mg "_law_place_tells" s_law_place_tells f fd
  law_taken : ∃ f fd, At K mg "_law_taken" s_law_taken f fd
  law_put : ∃ f fd, At K mg "_law_put" s_law_put f fd
  law_all_houses : ∃ f fd, At K mg "_law_all_houses" s_law_all_houses f fd
  law_probed : ∃ f fd, At K mg "_law_probed" s_law_probed f fd
  law_refused : ∃ f fd, At K mg "_law_refused" s_law_refused f fd
  law : ∃ f fd, At K mg "law" s_law f fd
  gW : ∃ t, mg "MOST_WEIGHT" = some (.int mostW t)
  gS : ∃ t, mg "MOST_STONES" = some (.int 40 t)
  gH : ∃ t, mg "_MOST_HOUSES" = some (.int 63 t)
open PySem.W (nsIn findIn typeIn subIn keepIn isClsIn hasDictIn codeIn fnOf specialIn takesIn mroIn kitOne recIn fnIn)
/-- the class House -/
structure HFacts (K : PySem.W.Frag) (mg : Str → Option Value) (CH : Addr) : Prop where
  hc : HouC K CH
  gH : mg "House" = some (.ref CH)
  init : ∃ f fd, Mk K CH f ∧ Fun K "__init__" "House.__init__" s_House_init f fd
theorem hf_mk {K : PySem.W.Frag} {h : Heap} {mg : Str → Option Value} {C f1 : Addr} (X : K.In h) (G : h.Ns mainGlobals mg) {od1 an1 : Option Addr} {sl1 : Array (Option Value)} {oc1 kV1 dc1 pm1 cd1 ct1 : Value}
    (aC : nsIn K mainGlobals "House" = some (some (.ref C)))
    (pg : PySem.W.plainGet K C Str.empty = true) (hd : hasDictIn K C = true) (po : PySem.W.plainOver K C = true) (sa : findIn K (.ref C) "__setattr__" = some (some (.builtin "object.__setattr__"))) (mk : PySem.W.makesIn K C = true) (kc : keepIn K (.ref C) = true) (nT : findIn K (.ref C) "text" = some none) (nN : findIn K (.ref C) "number" = some none)
    (ha : findIn K (.ref C) "__class__" = some (some (.builtin "object.__class__"))) (hn : specialIn K (.builtin "object.__class__") "__get__" = some (some (.builtin "getset_descriptor.__get__"))) (ht : takesIn K (.builtin "object.__class__") = some true) (hm : mroIn K C (.type "object") = some true) (s01 : kitOne K (.ref C) (.ref C) = some true)
    (a1 : findIn K (.ref C) "__init__" = some (some (.ref f1))) (i1 : PySem.W.isFn K (.ref f1) = true) (l1 : K.lookup f1 = some ⟨oc1, od1, .func (fnOf "__init__" "House.__init__" (defArgs s_House_init) (defBody s_House_init) (defScope s_House_init) .none kV1 dc1 pm1 an1 cd1 ct1), sl1⟩) (c1 : codeIn K cd1 "House.__init__" = true) (k1 : keepIn K (.ref f1) = true) : HFacts K mg C :=
  ⟨⟨⟨⟨pg, hd, po, sa⟩, ha, hn, ht, hm, s01⟩, nT, nN⟩, PySem.W.mg_of X G aC, ⟨f1, _, ⟨mk, a1, i1, kc⟩, fun_mk l1 c1 k1⟩⟩
abbrev ME (K : PySem.W.Frag) (C : Addr) (m q : Str) (st : Stmt) : Prop := ∃ f fd, Meth K C m f ∧ Fun K m q st f fd
theorem me_mk {K : PySem.W.Frag} {h : Heap} {mg : Str → Option Value} {C f1 : Addr} {m q : Str} {st : Stmt} {od1 an1 : Option Addr} {sl1 : Array (Option Value)} {oc1 kV1 dc1 pm1 cd1 ct1 : Value} (X : K.In h) (G : h.Ns mainGlobals mg)
    (a1 : findIn K (.ref C) m = some (some (.ref f1))) (i1 : PySem.W.isFn K (.ref f1) = true) (l1 : K.lookup f1 = some ⟨oc1, od1, .func (fnOf m q (defArgs st) (defBody st) (defScope st) .none kV1 dc1 pm1 an1 cd1 ct1), sl1⟩) (c1 : codeIn K cd1 q = true) (k1 : keepIn K (.ref f1) = true) : ME K C m q st :=
  ⟨f1, _, ⟨a1, i1, k1⟩, fun_mk l1 c1 k1⟩
theorem kk_mk {K : PySem.W.Frag} {h : Heap} {mg : Str → Option Value} {C t : Addr} {od : Option Addr} {its : Array Value} {n : Nat} {sl : Array (Option Value)} (X : K.In h) (G : h.Ns mainGlobals mg)
    (rd : PySem.W.readsIn K C (.type "type") = true) (ga : specialIn K (.ref C) "__getattribute__" = some (some (.builtin "type.__getattribute__"))) (fc : PySem.W.findCls K (.ref C) (.type "type") "KINDS" = some (.val (.ref t)))
    (lt : K.lookup t = some ⟨.type "tuple", od, .seq its n, sl⟩) (sz : its.size ≤ 1000) (v6 : Vals (ordK.map V.str) its.toList) : KindsK K C :=
  ⟨t, .type "type", ⟨rd, ga⟩, ⟨fc, rfl⟩, _, its, n, lt, rfl, rfl, Nat.le_trans sz (by rw [sizeLine_eq]; decide), v6⟩
theorem bw_mk {K : PySem.W.Frag} {h : Heap} {mg : Str → Option Value} {t t' : Addr} {od od' : Option Addr} {its its' : Array Value} {n n' : Nat} {sl sl' : Array (Option Value)} (X : K.In h) (G : h.Ns mainGlobals mg)
    (aT : nsIn K mainGlobals "_BY_WEIGHT" = some (some (.ref t))) (lt : K.lookup t = some ⟨.type "tuple", od, .seq its n, sl⟩) (sz : its.size ≤ 1000) (v8 : Vals (BW.map V.str) its.toList)
    (bT : nsIn K mainGlobals "_BY_INDEX" = some (some (.ref t'))) (lu : K.lookup t' = some ⟨.type "tuple", od', .seq its' n', sl'⟩) (sz : its'.size ≤ 1000) (v8 : Vals (BI.map V.str) its'.toList) : ByW K mg :=
  ⟨⟨t, PySem.W.mg_of X G aT, _, its, n, lt, rfl, rfl, Nat.le_trans ‹its.size ≤ 1000› (by rw [sizeLine_eq]; decide), ‹Vals (BW.map V.str) its.toList›⟩, ⟨t', PySem.W.mg_of X G bT, _, its', n', lu, rfl, rfl, Nat.le_trans ‹its'.size ≤ 1000› (by rw [sizeLine_eq]; decide), ‹Vals (BI.map V.str) its'.toList›⟩⟩
theorem sd_mk {K : PySem.W.Frag} {h : Heap} {mg : Str → Option Value} {w : World} {d : Addr} {es : Array DictEntry} {n : Nat} {t0 t1 t2 t3 t4 t5 t6 t7 : Tok} (X : K.In h) (G : h.Ns mainGlobals mg) (aD : nsIn K mainGlobals "_SIDES" = some (some (.ref d))) (lD : K.lookup d = some ⟨.type "dict", none, .dict es n, #[]⟩) (kl : PySem.W.KeysLit w.params es.toList) (lo : (d == sysModules) = false)
    (n0 : nsIn K d "" = some (some (.int 0 t0))) (n1 : nsIn K d "l" = some (some (.int 1 t1))) (n2 : nsIn K d "b" = some (some (.int 2 t2))) (n3 : nsIn K d "lb" = some (some (.int 3 t3))) (n4 : nsIn K d "h" = some (some (.int 4 t4))) (n5 : nsIn K d "lh" = some (some (.int 5 t5))) (n6 : nsIn K d "bh" = some (some (.int 6 t6))) (n7 : nsIn K d "lbh" = some (some (.int 7 t7))) (kt : KeysT es.toList sidesL) : Sides K mg w ∧ SidesK K mg w := ⟨⟨d, es, n, PySem.W.mg_of X G aD, ⟨lD, kl, lo⟩, fun i hi => by
  match i, hi with
  | 0, _ => exact ⟨_, n0⟩
  | 1, _ => exact ⟨_, n1⟩
  | 2, _ => exact ⟨_, n2⟩
  | 3, _ => exact ⟨_, n3⟩
  | 4, _ => exact ⟨_, n4⟩
  | 5, _ => exact ⟨_, n5⟩
  | 6, _ => exact ⟨_, n6⟩
  | 7, _ => exact ⟨_, n7⟩
⟩, ⟨d, es, n, PySem.W.mg_of X G aD, ⟨lD, kl, lo⟩, kt⟩⟩
structure ECls (K : PySem.W.Frag) (mg : Str → Option Value) (x q : Str) (st : Stmt) (C : Addr) : Prop where
  g : mg x = some (.ref C)
  o : OexC K C
  xf : XfC K C
  be : PySem.W.subIn K (.ref C) (.type "BaseException") = some true
  ty : PySem.W.typeIn K (.ref C) = some (.type "type")
  ci : PySem.W.isClsIn K C = true
  i : ∃ f fd, PySem.W.findIn K (.ref C) "__init__" = some (some (.ref f)) ∧ PySem.W.typeIn K (.ref f) = some (.type "function") ∧ Fun K "__init__" q st f fd
theorem ec_mk {K : PySem.W.Frag} {h : Heap} {mg : Str → Option Value} {x q : Str} {st : Stmt} {CW fW : Addr} (X : K.In h) (G : h.Ns mainGlobals mg)
    {nmW qW : Str} {NW : Addr} {bsW bmW : List Value} {snW : List Str} {subW : List Value} {abW : Bool} {colW : Option Bool} {ddW : Option Addr} {w0 w1 w2 w3 w5 : Option Value}
    {od1 an1 : Option Addr} {sl1 : Array (Option Value)} {oc1 kV1 dc1 pm1 cd1 ct1 : Value}
    (aW : nsIn K mainGlobals x = some (some (.ref CW)))
    (lW : K.lookup CW = some (excClassObj nmW qW CW NW bsW bmW true snW subW abW colW ddW w0 w1 w2 w3 w5 "ValueError.__new__")) (rW : HandSPX.refsVE bmW = true)
    (saW : findIn K (.ref CW) "__setattr__" = some (some (.builtin "object.__setattr__")))
    (eW : subIn K (.ref CW) (.type "BaseException") = some true)
    (tW : typeIn K (.ref CW) = some (.type "type"))
    (kW : keepIn K (.ref CW) = true)
    (gaW : findIn K (.ref CW) "__getattribute__" = some (some (.builtin "BaseException.__getattribute__")))
    (ggW : findIn K (.ref CW) "__getattr__" = some none) (hdW : hasDictIn K CW = true)
    (cW : isClsIn K CW = true)
    (iW : findIn K (.ref CW) "__init__" = some (some (.ref fW))) (yW : typeIn K (.ref fW) = some (.type "function")) (l1 : K.lookup fW = some ⟨oc1, od1, .func (fnOf "__init__" q (defArgs st) (defBody st) (defScope st) .none kV1 dc1 pm1 an1 cd1 ct1), sl1⟩) (c1 : codeIn K cd1 q = true) (k1 : keepIn K (.ref fW) = true) : ECls K mg x q st CW :=
  ⟨PySem.W.mg_of X G aW, ⟨⟨_, _, _, _, _, _, _, _, _, _, _, _, _, _, _, lW, rW⟩, saW, eW, tW, kW⟩, ⟨gaW, ggW, eW, hdW⟩, eW, tW, cW, ⟨fW, _, iW, yW, fun_mk l1 c1 k1⟩⟩
structure ByK (K : PySem.W.Frag) (C : Addr) : Prop where
  ex : ∃ (f : Addr) (fd : FuncData) (p : Addr) (mc : Value), ClX.CRead K C mc ∧ ClX.CMet K C mc "by_number" p f ∧ Fun K "by_number" "House.by_number" s_House_by_number f fd
theorem cb_mk {K : PySem.W.Frag} {h : Heap} {mg : Str → Option Value} {C p f1 : Addr} {rest : List Value} {od1 an1 : Option Addr} {sl1 : Array (Option Value)} {oc1 kV1 dc1 pm1 cd1 ct1 : Value} (X : K.In h) (G : h.Ns mainGlobals mg)
    (rd : PySem.W.readsIn K C (.type "type") = true) (ga : specialIn K (.ref C) "__getattribute__" = some (some (.builtin "type.__getattribute__"))) (fc : PySem.W.findCls K (.ref C) (.type "type") "by_number" = some (.get (.builtin "classmethod.__get__") (.ref p) .none (.ref C))) (rc : recIn K p "classmethod" = some (.ref f1 :: rest))
    (l1 : K.lookup f1 = some ⟨oc1, od1, .func (fnOf "by_number" "House.by_number" (defArgs s_House_by_number) (defBody s_House_by_number) (defScope s_House_by_number) .none kV1 dc1 pm1 an1 cd1 ct1), sl1⟩) (c1 : codeIn K cd1 "House.by_number" = true) (k1 : keepIn K (.ref f1) = true) (fi : fnIn K f1 = true) : ByK K C :=
  ⟨f1, _, p, .type "type", ⟨rd, ga⟩, ⟨fc, ⟨rest, rc⟩, fi⟩, fun_mk l1 c1 k1⟩
structure NRaw (K : PySem.W.Frag) (mg : Str → Option Value) (CN CS CO CT : Addr) : Prop where
  gR : mg "reversed" = none
  nN : findIn K (.ref CN) "number" = some none
  nS : findIn K (.ref CS) "weight" = some none
  nO : findIn K (.ref CO) "weight" = some none
  nM : findIn K (.ref CT) "most" = some none
  nG : findIn K (.ref CT) "given" = some none
  aS : subIn K (.ref CS) (.ref CS) = some true
  aO : subIn K (.ref CO) (.ref CO) = some true
  aT : subIn K (.ref CT) (.ref CT) = some true
theorem nr_mk {K : PySem.W.Frag} {h : Heap} {mg : Str → Option Value} {CN CS CO CT : Addr} (X : K.In h) (G : h.Ns mainGlobals mg) (gR : nsIn K mainGlobals "reversed" = some none) (nN : findIn K (.ref CN) "number" = some none) (nS : findIn K (.ref CS) "weight" = some none) (nO : findIn K (.ref CO) "weight" = some none) (nM : findIn K (.ref CT) "most" = some none) (nG : findIn K (.ref CT) "given" = some none) (aS : subIn K (.ref CS) (.ref CS) = some true) (aO : subIn K (.ref CO) (.ref CO) = some true) (aT : subIn K (.ref CT) (.ref CT) = some true) : NRaw K mg CN CS CO CT :=
  ⟨PySem.W.mg_none_of X G gR, nN, nS, nO, nM, nG, aS, aO, aT⟩
theorem ok_initNumber {P : Program} {w : World} {K : PySem.W.Frag} {mg : Str → Option Value} {base : Heap} {f C : Addr} {fd : FuncData} (F : Fun K "__init__" "InvalidNumber.__init__" s_InvalidNumber_init f fd) (o : OexC K C) (n : PySem.W.findIn K (.ref C) "number" = some none) : FnOk P w K mg base CX0 1 f fd ["self", "number"] (spInit C ["number"]) := by
  refine F.ok sc_InvalidNumber_init (fun vs H Q E h => ?_) (fun cdv A outer s H vs Q E hr h => ⟨_, wB.ps, ?_⟩)
  · obtain ⟨a, xs, rfl, hl, _⟩ := h
    exact congrArg (· + 1) hl
  · obtain ⟨a, xs, rfl, hl, ha, q⟩ := h
    match xs, hl with
    | [v], _ =>
      refine b_cons (cs_ost (ce_name (i := 1) rfl (.inl rfl) rfl (ce_name (i := 0) rfl (.inl rfl) rfl ⟨a, C, rfl, o, n, .inl ⟨ha, fun dx hdx ne => b_nil (q _ dx (fun b o hb nb => ?_) hdx ne upd_same ?_)⟩⟩)))
      · rw [upd_ne nb, upd_ne (ne_of_none hb hdx)]
        exact hb
      · rw [upd_ne ne, upd_same]
        rfl
theorem ok_initThere {P : Program} {w : World} {K : PySem.W.Frag} {mg : Str → Option Value} {base : Heap} {f C : Addr} {fd : FuncData} (F : Fun K "__init__" "StoneThere.__init__" s_StoneThere_init f fd) (o : OexC K C) (n : PySem.W.findIn K (.ref C) "weight" = some none) : FnOk P w K mg base CX0 1 f fd ["self", "weight"] (spInit C ["weight"]) := by
  refine F.ok sc_StoneThere_init (fun vs H Q E h => ?_) (fun cdv A outer s H vs Q E hr h => ⟨_, wB.ps, ?_⟩)
  · obtain ⟨a, xs, rfl, hl, _⟩ := h
    exact congrArg (· + 1) hl
  · obtain ⟨a, xs, rfl, hl, ha, q⟩ := h
    match xs, hl with
    | [v], _ =>
      refine b_cons (cs_ost (ce_name (i := 1) rfl (.inl rfl) rfl (ce_name (i := 0) rfl (.inl rfl) rfl ⟨a, C, rfl, o, n, .inl ⟨ha, fun dx hdx ne => b_nil (q _ dx (fun b o hb nb => ?_) hdx ne upd_same ?_)⟩⟩)))
      · rw [upd_ne nb, upd_ne (ne_of_none hb hdx)]
        exact hb
      · rw [upd_ne ne, upd_same]
        rfl
theorem ok_initNo {P : Program} {w : World} {K : PySem.W.Frag} {mg : Str → Option Value} {base : Heap} {f C : Addr} {fd : FuncData} (F : Fun K "__init__" "NoStone.__init__" s_NoStone_init f fd) (o : OexC K C) (n : PySem.W.findIn K (.ref C) "weight" = some none) : FnOk P w K mg base CX0 1 f fd ["self", "weight"] (spInit C ["weight"]) := by
  refine F.ok sc_NoStone_init (fun vs H Q E h => ?_) (fun cdv A outer s H vs Q E hr h => ⟨_, wB.ps, ?_⟩)
  · obtain ⟨a, xs, rfl, hl, _⟩ := h
    exact congrArg (· + 1) hl
  · obtain ⟨a, xs, rfl, hl, ha, q⟩ := h
    match xs, hl with
    | [v], _ =>
      refine b_cons (cs_ost (ce_name (i := 1) rfl (.inl rfl) rfl (ce_name (i := 0) rfl (.inl rfl) rfl ⟨a, C, rfl, o, n, .inl ⟨ha, fun dx hdx ne => b_nil (q _ dx (fun b o hb nb => ?_) hdx ne upd_same ?_)⟩⟩)))
      · rw [upd_ne nb, upd_ne (ne_of_none hb hdx)]
        exact hb
      · rw [upd_ne ne, upd_same]
        rfl
section
variable {P : Program} {w : World} {K : PySem.W.Frag} {mg : Str → Option Value} {base : Heap}
theorem ok_initT {f C : Addr} {fd : FuncData} (F : Fun K "__init__" "TooMany.__init__" s_TooMany_init f fd) (o : OexC K C) (n : PySem.W.findIn K (.ref C) "most" = some none) (n2 : PySem.W.findIn K (.ref C) "given" = some none) : FnOk P w K mg base CX0 1 f fd ["self", "most", "given"] (spInit C ["most", "given"]) := by
  refine F.ok sc_TooMany_init (fun vs H Q E h => ?_) (fun cdv A outer s H vs Q E hr h => ⟨_, wB.ps, ?_⟩)
  · obtain ⟨a, xs, rfl, hl, _⟩ := h
    exact congrArg (· + 1) hl
  · obtain ⟨a, xs, rfl, hl, ha, q⟩ := h
    match xs, hl with
    | [v, u], _ =>
      refine b_cons (cs_ost (ce_name (i := 1) rfl (.inl rfl) rfl (ce_name (i := 0) rfl (.inl rfl) rfl ⟨a, C, rfl, o, n, .inl ⟨ha, fun dx hdx ne => ?_⟩⟩)))
      refine b_cons (cs_ost (ce_name (i := 2) rfl (.inl rfl) rfl (ce_name (i := 0) rfl (.inl rfl) rfl ⟨a, C, rfl, o, n2, .inr ⟨dx, [("most", v)], upd_same, ?_, ?_, b_nil (q _ dx (fun b o hb nb => ?_) hdx ne ?_ ?_)⟩⟩)))
      · rw [upd_ne ne, upd_same]
      · show 1 ≤ 900
        decide
      · rw [upd_ne (ne_of_none hb hdx), upd_ne nb, upd_ne (ne_of_none hb hdx)]
        exact hb
      · rw [upd_ne (Ne.symm ne), upd_same]
      · rw [upd_same]
        rfl
theorem lcall {CH CN CS CO CT : Addr} (FA : Facts K mg) (HF : HFacts K mg CH) (m1 : ME K CH "names_index" "House.names_index" s_House_names_index)
    (CB : ByK K CH) (KK : KindsK K CH) (SS : Sides K mg w ∧ SidesK K mg w) (BY : ByW K mg) (EN : ECls K mg "InvalidNumber" "InvalidNumber.__init__" s_InvalidNumber_init CN) (ES : ECls K mg "StoneThere" "StoneThere.__init__" s_StoneThere_init CS) (EO : ECls K mg "NoStone" "NoStone.__init__" s_NoStone_init CO) (ET : ECls K mg "TooMany" "TooMany.__init__" s_TooMany_init CT) (NR : NRaw K mg CN CS CO CT) : LawC P w K mg base := by
  have nb := FA.nb
  obtain ⟨_, _, a0⟩ := FA.is_integer
  obtain ⟨_, _, a1⟩ := FA.is_number
  obtain ⟨_, _, a2⟩ := FA.check_number
  obtain ⟨_, _, a3⟩ := FA.is_weight
  obtain ⟨_, _, a4⟩ := FA.is_bag_row
  obtain ⟨_, _, a5⟩ := FA.is_row
  obtain ⟨_, _, a6⟩ := FA.is_place
  obtain ⟨_, _, a7⟩ := FA.check_weight
  obtain ⟨_, _, a8⟩ := FA.check_row
  obtain ⟨_, _, a9⟩ := FA.check_place
  obtain ⟨_, _, a10⟩ := FA.put_in
  obtain ⟨_, _, a11⟩ := FA.taken_out
  obtain ⟨_, _, a12⟩ := FA.text_of_number
  obtain ⟨_, _, a13⟩ := FA.number_of_text
  obtain ⟨_, _, a14⟩ := FA.check_house
  obtain ⟨_, _, a15⟩ := FA.check_all
  obtain ⟨_, _, a16⟩ := FA.third_kinds
  obtain ⟨_, _, a17⟩ := FA.helper_indexes
  obtain ⟨_, _, a18⟩ := FA.frees
  obtain ⟨_, _, a19⟩ := FA.present_kinds
  obtain ⟨_, _, a20⟩ := FA.kinds_at
  obtain ⟨_, _, a21⟩ := FA.helpers
  obtain ⟨_, _, a22⟩ := FA.keystone
  obtain ⟨_, _, a23⟩ := FA.is_free
  obtain ⟨_, _, a24⟩ := FA.check_kinds
  obtain ⟨_, _, a25⟩ := FA.probe_of
  obtain ⟨_, _, a26⟩ := FA.probe
  obtain ⟨_, _, a27⟩ := FA.law_integer
  obtain ⟨_, _, a28⟩ := FA.law_purse
  obtain ⟨_, _, a29⟩ := FA.law_draw
  obtain ⟨_, _, a30⟩ := FA.law_stones
  obtain ⟨_, _, a31⟩ := FA.law_order
  obtain ⟨_, _, a32⟩ := FA.law_house
  obtain ⟨_, _, a33⟩ := FA.law_kinds
  obtain ⟨_, _, a34⟩ := FA.law_free
  obtain ⟨_, _, a35⟩ := FA.law_like
  obtain ⟨_, _, a36⟩ := FA.law_names
  obtain ⟨_, _, a37⟩ := FA.law_named
  obtain ⟨_, _, a38⟩ := FA.law_common
  obtain ⟨_, _, a39⟩ := FA.law_helpers
  obtain ⟨_, _, a40⟩ := FA.law_place_tells
  obtain ⟨_, _, a41⟩ := FA.law_taken
  obtain ⟨_, _, a42⟩ := FA.law_put
  obtain ⟨_, _, a43⟩ := FA.law_all_houses
  obtain ⟨_, _, a44⟩ := FA.law_probed
  obtain ⟨_, _, a45⟩ := FA.law_refused
  obtain ⟨_, _, a46⟩ := FA.law
  obtain ⟨_, gW⟩ := FA.gW
  obtain ⟨_, gS⟩ := FA.gS
  have cnot : Cl P w K mg base CX0 1 "number_of_text" _ := cl_number_of_text a13 nb SS.1
  have cton : Cl P w K mg base CX0 1 "text_of_number" _ := cl_text_of_number a12 nb SS.2
  have cint : Cl P w K mg base CX0 1 "is_integer" _ := cl_is_integer a0 nb
  have cnum := cl_is_number a1 cint
  have cwei := cl_is_weight a3 cnum gW
  have cbag := cl_is_bag_row a4 nb cwei gS
  have crow := cl_is_row a5 nb cbag
  have ccro := cl_check_row a8 crow
  have cpla := cl_is_place a6 nb cnum
  have ccpl := cl_check_place a9 cpla
  have ccwe := cl_check_weightA a7 cwei
  have ccho : Cl P w K mg base CX0 1 "check_house" (spHoOk CH) := cl_check_house a14 nb HF.hc HF.gH
  have cthi : Cl P w K mg base CX0 1 "_third_kinds" _ := cl_third_kinds a16 nb
  have cpre := cl_present_kinds a19 nb cthi
  obtain ⟨fen, fden, ien1, ien2, ien3⟩ := EN.i
  have en : ErrC P w K mg base "InvalidNumber" CN ["number"] := ⟨EN.g, EN.o, EN.xf, fun f hf => by
    cases List.mem_singleton.mp hf
    exact NR.nN, fen, fden, _, ien1, ien2, ok_initNumber ien3 EN.o NR.nN, ien3.binds fun _ _ _ _ _ _ us hl => match us, hl with | [_, _], _ => rfl⟩
  obtain ⟨fes, fdes, ies1, ies2, ies3⟩ := ES.i
  have es : ErrC P w K mg base "StoneThere" CS ["weight"] := ⟨ES.g, ES.o, ES.xf, fun f hf => by
    cases List.mem_singleton.mp hf
    exact NR.nS, fes, fdes, _, ies1, ies2, ok_initThere ies3 ES.o NR.nS, ies3.binds fun _ _ _ _ _ _ us hl => match us, hl with | [_, _], _ => rfl⟩
  obtain ⟨feo, fdeo, ieo1, ieo2, ieo3⟩ := EO.i
  have eo : ErrC P w K mg base "NoStone" CO ["weight"] := ⟨EO.g, EO.o, EO.xf, fun f hf => by
    cases List.mem_singleton.mp hf
    exact NR.nO, feo, fdeo, _, ieo1, ieo2, ok_initNo ieo3 EO.o NR.nO, ieo3.binds fun _ _ _ _ _ _ us hl => match us, hl with | [_, _], _ => rfl⟩
  obtain ⟨fet, fdet, iet1, iet2, iet3⟩ := ET.i
  have et : ErrC P w K mg base "TooMany" CT ["most", "given"] := ⟨ET.g, ET.o, ET.xf, fun f hf => by
    rcases List.mem_cons.mp hf with rfl | hf
    · exact NR.nM
    · cases List.mem_singleton.mp hf
      exact NR.nG, fet, fdet, _, iet1, iet2, ok_initT iet3 ET.o NR.nM NR.nG, iet3.binds fun _ _ _ _ _ _ us hl => match us, hl with | [_, _, _], _ => rfl⟩
  have xs : ErX K mg "StoneThere" CS ["weight"] := ⟨ES.g, ES.xf, es.no, exm_of ES.be ES.be ES.ci ES.ty NR.aS⟩
  have xo : ErX K mg "NoStone" CO ["weight"] := ⟨EO.g, EO.xf, eo.no, exm_of EO.be EO.be EO.ci EO.ty NR.aO⟩
  have xt : ErX K mg "TooMany" CT ["most", "given"] := ⟨ET.g, ET.xf, et.no, exm_of ET.be ET.be ET.ci ET.ty NR.aT⟩
  have cchk := cl_check_number a2 cnum en
  obtain ⟨fi, fdi, i1, i2⟩ := HF.init
  have mkH : MkH P w K mg base CH := ⟨fi, fdi, i1, ok_hinit i2 HF.hc cnot, i2.binds fun _ _ _ _ _ _ us hl => match us, hl with | [_, _], _ => rfl⟩
  obtain ⟨fb, fdb, pb, mcb, rb, cb, ub⟩ := CB.ex
  have byn : ClsS P w K mg base (L2.CX P w) CH "by_number" 4 (spBy CH) := ⟨fb, fdb, ["cls", "number"], pb, mcb, rb, cb, ok_by_number ub cchk cton mkH FA.gH, ub.binds fun _ _ _ _ _ _ us hl => match us, hl with | [_, _], _ => rfl⟩
  obtain ⟨_, _, p1, q1⟩ := m1
  have bm : BitM P w K mg base CH := ⟨_, _, p1, ok_bit q1 HF.hc, q1.binds fun _ _ _ _ _ _ us hl => match us, hl with | [_, _], _ => rfl⟩
  have cka := cl_check_all a15 ccro ccpl ccho
  have chi := cl_helper_indexes a17 HF.hc bm cthi
  have cfr := cl_frees a18 nb chi
  have che := cl_helpers a21 cka chi
  have cke := cl_keystone a22 nb che
  have cif := cl_is_free a23 cka cfr
  have ckat := cl_kinds_at a20 HF.gH KK ccro ccpl cpre
  have cprb : Cl P w K mg base CX0 1 "_probe_of" _ := cl_probe_of a25 nb BY
  have cckk : Cl P w K mg base CX0 1 "_check_kinds" _ := cl_check_kinds a24 nb HF.gH KK
  have cpro := cl_probe a26 cckk cprb
  have cput := cl_put_in a10 nb gS ccro ccwe cchk es et
  have cout := cl_taken_out a11 nb ccro ccwe eo
  have lint : Cl P w K mg base CX0 1 "_law_integer" _ := cl_law_integer a27 nb
  have lpur : Cl P w K mg base CX0 1 "_law_purse" _ := cl_law_purse a28 nb
  have ldra : Cl P w K mg base CX0 1 "_law_draw" _ := cl_law_draw a29 nb
  have lsto := cl_law_stones (K := K) a30 nb ldra
  have lorI := cl_law_order flvI a31 nb ldra
  have lorS := cl_law_order flvS a31 nb ldra
  have lhou := cl_law_house a32 nb ldra
  have lkin : Cl P w K mg base CX0 1 "_law_kinds" _ := cl_law_kinds a33 nb
  have lfre := cl_law_free a34 nb lkin
  have lnmd : Cl P w K mg base CX0 1 "_law_named" _ := cl_law_named a37 nb
  have lnam : Cl P w K mg base CX0 1 "_law_names" _ := cl_law_names a36 nb
  have lcom := cl_law_common a38 nb lnmd
  have lhel := cl_law_helpers a39 nb lnmd
  have llik : Cl P w K mg base CX0 4 "_law_like" (PureR K (R_alk 2)) := cl_law_like a35 nb lint 2
  have C : HouseC P w K mg base CH := ⟨nb, HF.gH, byn, ckat, che, cke, cif, lkin, lfre, lnam, lcom, lhel, llik⟩
  have lall := cl_law_all a43 C
  have ltel := cl_law_tells a40 C
  exact ⟨nb, lpur, ldra, lsto, lorI, lhou, ltel, cl_law_taken a41 C cout, cl_law_put a42 C ldra cput cout lall, cl_law_probed a44 C NR.gR lint lorS cpro lall ltel, cl_law_refused a45 nb cput cout llik xs xo xt⟩
end
theorem law_at {l : PySem.W.OpenLaw} {w : World} {K : PySem.W.Frag} {h : Heap} {mg : Str → Option Value} {fa CH CN CS CO CT : Addr} (hfa : mg "law" = some (.ref fa)) (A : Facts K mg) (HF : HFacts K mg CH) (m1 : ME K CH "names_index" "House.names_index" s_House_names_index)
    (CB : ByK K CH) (KK : KindsK K CH) (SS : Sides K mg w ∧ SidesK K mg w) (BY : ByW K mg) (EN : ECls K mg "InvalidNumber" "InvalidNumber.__init__" s_InvalidNumber_init CN) (ES : ECls K mg "StoneThere" "StoneThere.__init__" s_StoneThere_init CS) (EO : ECls K mg "NoStone" "NoStone.__init__" s_NoStone_init CO) (ET : ECls K mg "TooMany" "TooMany.__init__" s_TooMany_init CT) (NR : NRaw K mg CN CS CO CT) : LamX.LawAtS l w K CX0 12 63 "script" mg fa h := by
  obtain ⟨f, fd, AL⟩ := A.law
  have e := hfa.symm.trans AL.gl
  cases e
  obtain ⟨oc, od, kV, doc, pm, an, cdv, ct, osl, e1, _, _⟩ := AL.fn.ex
  refine ⟨fd, [], spLaw K, ?_, ?_, ?_, ?_, ?_, ?_⟩
  · intro p hp
    cases hp
  · intro p hp
    cases hp
  · intro p hp
    cases hp
  · intro s u
    rw [e1]
    exact .of_eq rfl
  · intro H a ns hl _ _ hS
    exact ⟨a, ns, rfl, hS, hl, fun _ => rfl⟩
  · intro base KB GB tb
    exact ok_law AL (lcall (P := l.prog) (w := w) (base := base) A HF m1 CB KK SS BY EN ES EO ET NR)
end IK

open PySem PySem.W PyProof.Rows in
set_option maxRecDepth 100000 in
set_option maxHeartbeats 0 in
theorem PySem.Challenge.cw_millbrook_k95_stones_taken_out_and_put_i_holds : PySem.Challenge.rw_millbrook_k95_stones_taken_out_and_put_i.Holds := by
  w_on; o_law; k_head; (case hw => w_witness2)
  k_fill
  refine LamX.walk_ofTs (l := PySem.Challenge.rw_millbrook_k95_stones_taken_out_and_put_i) (n := 63) (k := 12) (x := "script") (CX := fun _ => L2.CX0) rfl (by rw [sizeLine_eq]; decide) rfl ⟨rfl, by decide, by decide⟩ (fun w h Y => PySem.W.kIn_of Y) ?F (fun _ _ _ _ _ z => z)
  case F =>
    intro w mg fa h Y KX G hmg
    refine' IK.law_at hmg ⟨⟨PySem.W.mg_none_of KX G ?z_0, PySem.W.mg_none_of KX G ?z_1, PySem.W.mg_none_of KX G ?z_2, PySem.W.mg_none_of KX G ?z_3, PySem.W.mg_none_of KX G ?z_4, PySem.W.mg_none_of KX G ?z_5, PySem.W.mg_none_of KX G ?z_6, PySem.W.mg_none_of KX G ?z_7, PySem.W.mg_none_of KX G ?z_8, PySem.W.mg_none_of KX G ?z_9, PySem.W.mg_none_of KX G ?z_10, PySem.W.mg_none_of KX G ?z_11, PySem.W.mg_none_of KX G ?z_12, PySem.W.mg_none_of KX G ?z_13, PySem.W.mg_none_of KX G ?z_14, PySem.W.mg_none_of KX G ?z_15, PySem.W.mg_none_of KX G ?z_16⟩, IK.at_mk KX G ?a_17 ?l_18 ?c_19 ?k_20, IK.at_mk KX G ?a_21 ?l_22 ?c_23 ?k_24, IK.at_mk KX G ?a_25 ?l_26 ?c_27 ?k_28, IK.at_mk KX G ?a_29 ?l_30 ?c_31 ?k_32, IK.at_mk KX G ?a_33 ?l_34 ?c_35 ?k_36, IK.at_mk KX G ?a_37 ?l_38 ?c_39 ?k_40, IK.at_mk KX G ?a_41 ?l_42 ?c_43 ?k_44, IK.at_mk KX G ?a_45 ?l_46 ?c_47 ?k_48, IK.at_mk KX G ?a_49 ?l_50 ?c_51 ?k_52, IK.at_mk KX G ?a_53 ?l_54 ?c_55 ?k_56, IK.at_mk KX G ?a_57 ?l_58 ?c_59 ?k_60, IK.at_mk KX G ?a_61 ?l_62 ?c_63 ?k_64, IK.at_mk KX G ?a_65 ?l_66 ?c_67 ?k_68, IK.at_mk KX G ?a_69 ?l_70 ?c_71 ?k_72, IK.at_mk KX G ?a_73 ?l_74 ?c_75 ?k_76, IK.at_mk KX G ?a_77 ?l_78 ?c_79 ?k_80, IK.at_mk KX G ?a_81 ?l_82 ?c_83 ?k_84, IK.at_mk KX G ?a_85 ?l_86 ?c_87 ?k_88, IK.at_mk KX G ?a_89 ?l_90 ?c_91 ?k_92, IK.at_mk KX G ?a_93 ?l_94 ?c_95 ?k_96, IK.at_mk KX G ?a_97 ?l_98 ?c_99 ?k_100, IK.at_mk KX G ?a_101 ?l_102 ?c_103 ?k_104, IK.at_mk KX G ?a_105 ?l_106 ?c_107 ?k_108, IK.at_mk KX G ?a_109 ?l_110 ?c_111 ?k_112, IK.at_mk KX G ?a_113 ?l_114 ?c_115 ?k_116, IK.at_mk KX G ?a_117 ?l_118 ?c_119 ?k_120, IK.at_mk KX G ?a_121 ?l_122 ?c_123 ?k_124, IK.at_mk KX G ?a_125 ?l_126 ?c_127 ?k_128, IK.at_mk KX G ?a_129 ?l_130 ?c_131 ?k_132, IK.at_mk KX G ?a_133 ?l_134 ?c_135 ?k_136, IK.at_mk KX G ?a_137 ?l_138 ?c_139 ?k_140, IK.at_mk KX G ?a_141 ?l_142 ?c_143 ?k_144, IK.at_mk KX G ?a_145 ?l_146 ?c_147 ?k_148, IK.at_mk KX G ?a_149 ?l_150 ?c_151 ?k_152, IK.at_mk KX G ?a_153 ?l_154 ?c_155 ?k_156, IK.at_mk KX G ?a_157 ?l_158 ?c_159 ?k_160, IK.at_mk KX G ?a_161 ?l_162 ?c_163 ?k_164, IK.at_mk KX G ?a_165 ?l_166 ?c_167 ?k_168, IK.at_mk KX G ?a_169 ?l_170 ?c_171 ?k_172, IK.at_mk KX G ?a_173 ?l_174 ?c_175 ?k_176, IK.at_mk KX G ?a_177 ?l_178 ?c_179 ?k_180, IK.at_mk KX G ?a_181 ?l_182 ?c_183 ?k_184, IK.at_mk KX G ?a_185 ?l_186 ?c_187 ?k_188, IK.at_mk KX G ?a_189 ?l_190 ?c_191 ?k_192, IK.at_mk KX G ?a_193 ?l_194 ?c_195 ?k_196, IK.at_mk KX G ?a_197 ?l_198 ?c_199 ?k_200, IK.at_mk KX G ?a_201 ?l_202 ?c_203 ?k_204, IK.gi_mk KX G ?g_205, IK.gi_mk KX G ?g_206, IK.gi_mk KX G ?g_207⟩ (IK.hf_mk KX G ?e_208 ?e_209 ?e_210 ?e_211 ?e_212 ?e_213 ?e_214 ?e_215 ?e_216 ?e_217 ?e_218 ?e_219 ?e_220 ?sub_221 ?e_222 ?e_223 ?e_224 ?e_225 ?e_226) (IK.me_mk KX G ?e_227 ?e_228 ?e_229 ?e_230 ?e_231) (IK.cb_mk KX G ?e_232 ?e_233 ?e_234 ?e_235 ?e_236 ?e_237 ?e_238 ?e_239) (IK.kk_mk KX G ?e_240 ?e_241 ?e_242 ?e_243 ?low_244 ?v6_245) (IK.sd_mk KX G ?e_246 ?e_247 ?kl_248 ?low_249 ?e_250 ?e_251 ?e_252 ?e_253 ?e_254 ?e_255 ?e_256 ?e_257 ?kt_258) (IK.bw_mk KX G ?e_259 ?e_260 ?low_261 ?v8_262 ?e_263 ?e_264 ?low_265 ?v8_266) (IK.ec_mk KX G ?e_267 ?e_268 ?dec_269 ?e_270 ?e_271 ?e_272 ?e_273 ?e_274 ?e_275 ?e_276 ?e_277 ?e_278 ?e_279 ?e_280 ?e_281 ?e_282) (IK.ec_mk KX G ?e_283 ?e_284 ?dec_285 ?e_286 ?e_287 ?e_288 ?e_289 ?e_290 ?e_291 ?e_292 ?e_293 ?e_294 ?e_295 ?e_296 ?e_297 ?e_298) (IK.ec_mk KX G ?e_299 ?e_300 ?dec_301 ?e_302 ?e_303 ?e_304 ?e_305 ?e_306 ?e_307 ?e_308 ?e_309 ?e_310 ?e_311 ?e_312 ?e_313 ?e_314) (IK.ec_mk KX G ?e_315 ?e_316 ?dec_317 ?e_318 ?e_319 ?e_320 ?e_321 ?e_322 ?e_323 ?e_324 ?e_325 ?e_326 ?e_327 ?e_328 ?e_329 ?e_330) (IK.nr_mk KX G ?e_331 ?e_332 ?e_333 ?e_334 ?e_335 ?e_336 ?e_337 ?e_338 ?e_339) 
    (case z_0 => k_is)
    (case z_1 => k_is)
    (case z_2 => k_is)
    (case z_3 => k_is)
    (case z_4 => k_is)
    (case z_5 => k_is)
    (case z_6 => k_is)
    (case z_7 => k_is)
    (case z_8 => k_is)
    (case z_9 => k_is)
    (case z_10 => k_is)
    (case z_11 => k_is)
    (case z_12 => k_is)
    (case z_13 => k_is)
    (case z_14 => k_is)
    (case z_15 => k_is)
    (case z_16 => k_is)
    (case a_17 => k_is)
    (case l_18 => k_is)
    (case c_19 => k_is)
    (case k_20 => k_is)
    (case a_21 => k_is)
    (case l_22 => k_is)
    (case c_23 => k_is)
    (case k_24 => k_is)
    (case a_25 => k_is)
    (case l_26 => k_is)
    (case c_27 => k_is)
    (case k_28 => k_is)
    (case a_29 => k_is)
    (case l_30 => k_is)
    (case c_31 => k_is)
    (case k_32 => k_is)
    (case a_33 => k_is)
    (case l_34 => k_is)
    (case c_35 => k_is)
    (case k_36 => k_is)
    (case a_37 => k_is)
    (case l_38 => k_is)
    (case c_39 => k_is)
    (case k_40 => k_is)
    (case a_41 => k_is)
    (case l_42 => k_is)
    (case c_43 => k_is)
    (case k_44 => k_is)
    (case a_45 => k_is)
    (case l_46 => k_is)
    (case c_47 => k_is)
    (case k_48 => k_is)
    (case a_49 => k_is)
    (case l_50 => k_is)
    (case c_51 => k_is)
    (case k_52 => k_is)
    (case a_53 => k_is)
    (case l_54 => k_is)
    (case c_55 => k_is)
    (case k_56 => k_is)
    (case a_57 => k_is)
    (case l_58 => k_is)
    (case c_59 => k_is)
    (case k_60 => k_is)
    (case a_61 => k_is)
    (case l_62 => k_is)
    (case c_63 => k_is)
    (case k_64 => k_is)
    (case a_65 => k_is)
    (case l_66 => k_is)
    (case c_67 => k_is)
    (case k_68 => k_is)
    (case a_69 => k_is)
    (case l_70 => k_is)
    (case c_71 => k_is)
    (case k_72 => k_is)
    (case a_73 => k_is)
    (case l_74 => k_is)
    (case c_75 => k_is)
    (case k_76 => k_is)
    (case a_77 => k_is)
    (case l_78 => k_is)
    (case c_79 => k_is)
    (case k_80 => k_is)
    (case a_81 => k_is)
    (case l_82 => k_is)
    (case c_83 => k_is)
    (case k_84 => k_is)
    (case a_85 => k_is)
    (case l_86 => k_is)
    (case c_87 => k_is)
    (case k_88 => k_is)
    (case a_89 => k_is)
    (case l_90 => k_is)
    (case c_91 => k_is)
    (case k_92 => k_is)
    (case a_93 => k_is)
    (case l_94 => k_is)
    (case c_95 => k_is)
    (case k_96 => k_is)
    (case a_97 => k_is)
    (case l_98 => k_is)
    (case c_99 => k_is)
    (case k_100 => k_is)
    (case a_101 => k_is)
    (case l_102 => k_is)
    (case c_103 => k_is)
    (case k_104 => k_is)
    (case a_105 => k_is)
    (case l_106 => k_is)
    (case c_107 => k_is)
    (case k_108 => k_is)
    (case a_109 => k_is)
    (case l_110 => k_is)
    (case c_111 => k_is)
    (case k_112 => k_is)
    (case a_113 => k_is)
    (case l_114 => k_is)
    (case c_115 => k_is)
    (case k_116 => k_is)
    (case a_117 => k_is)
    (case l_118 => k_is)
    (case c_119 => k_is)
    (case k_120 => k_is)
    (case a_121 => k_is)
    (case l_122 => k_is)
    (case c_123 => k_is)
    (case k_124 => k_is)
    (case a_125 => k_is)
    (case l_126 => k_is)
    (case c_127 => k_is)
    (case k_128 => k_is)
    (case a_129 => k_is)
    (case l_130 => k_is)
    (case c_131 => k_is)
    (case k_132 => k_is)
    (case a_133 => k_is)
    (case l_134 => k_is)
    (case c_135 => k_is)
    (case k_136 => k_is)
    (case a_137 => k_is)
    (case l_138 => k_is)
    (case c_139 => k_is)
    (case k_140 => k_is)
    (case a_141 => k_is)
    (case l_142 => k_is)
    (case c_143 => k_is)
    (case k_144 => k_is)
    (case a_145 => k_is)
    (case l_146 => k_is)
    (case c_147 => k_is)
    (case k_148 => k_is)
    (case a_149 => k_is)
    (case l_150 => k_is)
    (case c_151 => k_is)
    (case k_152 => k_is)
    (case a_153 => k_is)
    (case l_154 => k_is)
    (case c_155 => k_is)
    (case k_156 => k_is)
    (case a_157 => k_is)
    (case l_158 => k_is)
    (case c_159 => k_is)
    (case k_160 => k_is)
    (case a_161 => k_is)
    (case l_162 => k_is)
    (case c_163 => k_is)
    (case k_164 => k_is)
    (case a_165 => k_is)
    (case l_166 => k_is)
    (case c_167 => k_is)
    (case k_168 => k_is)
    (case a_169 => k_is)
    (case l_170 => k_is)
    (case c_171 => k_is)
    (case k_172 => k_is)
    (case a_173 => k_is)
    (case l_174 => k_is)
    (case c_175 => k_is)
    (case k_176 => k_is)
    (case a_177 => k_is)
    (case l_178 => k_is)
    (case c_179 => k_is)
    (case k_180 => k_is)
    (case a_181 => k_is)
    (case l_182 => k_is)
    (case c_183 => k_is)
    (case k_184 => k_is)
    (case a_185 => k_is)
    (case l_186 => k_is)
    (case c_187 => k_is)
    (case k_188 => k_is)
    (case a_189 => k_is)
    (case l_190 => k_is)
    (case c_191 => k_is)
    (case k_192 => k_is)
    (case a_193 => k_is)
    (case l_194 => k_is)
    (case c_195 => k_is)
    (case k_196 => k_is)
    (case a_197 => k_is)
    (case l_198 => k_is)
    (case c_199 => k_is)
    (case k_200 => k_is)
    (case a_201 => k_is)
    (case l_202 => k_is)
    (case c_203 => k_is)
    (case k_204 => k_is)
    (case g_205 => k_is)
    (case g_206 => k_is)
    (case g_207 => k_is)
    (case e_208 => k_is)
    (case e_209 => k_is)
    (case e_210 => k_is)
    (case e_211 => k_is)
    (case e_212 => k_is)
    (case e_213 => k_is)
    (case e_214 => k_is)
    (case e_215 => k_is)
    (case e_216 => k_is)
    (case e_217 => k_is)
    (case e_218 => k_is)
    (case e_219 => k_is)
    (case e_220 => k_is)
    (case sub_221 => first | rfl | k_is)
    (case e_222 => k_is)
    (case e_223 => k_is)
    (case e_224 => k_is)
    (case e_225 => k_is)
    (case e_226 => k_is)
    (case e_227 => k_is)
    (case e_228 => k_is)
    (case e_229 => k_is)
    (case e_230 => k_is)
    (case e_231 => k_is)
    (case e_232 => k_is)
    (case e_233 => k_is)
    (case e_234 => k_is)
    (case e_235 => k_is)
    (case e_236 => k_is)
    (case e_237 => k_is)
    (case e_238 => k_is)
    (case e_239 => k_is)
    (case e_240 => k_is)
    (case e_241 => k_is)
    (case e_242 => k_is)
    (case e_243 => k_is)
    (case low_244 => first | decide | decide +kernel)
    (case v6_245 => exact .cons ⟨_, rfl⟩ (.cons ⟨_, rfl⟩ (.cons ⟨_, rfl⟩ (.cons ⟨_, rfl⟩ (.cons ⟨_, rfl⟩ (.cons ⟨_, rfl⟩ (.nil)))))))
    (case e_246 => k_is)
    (case e_247 => k_is)
    (case kl_248 => exact ⟨⟨_, _, rfl, rfl⟩, ⟨_, _, rfl, rfl⟩, ⟨_, _, rfl, rfl⟩, ⟨_, _, rfl, rfl⟩, ⟨_, _, rfl, rfl⟩, ⟨_, _, rfl, rfl⟩, ⟨_, _, rfl, rfl⟩, ⟨_, _, rfl, rfl⟩, True.intro⟩)
    (case low_249 => first | decide | decide +kernel)
    (case e_250 => k_is)
    (case e_251 => k_is)
    (case e_252 => k_is)
    (case e_253 => k_is)
    (case e_254 => k_is)
    (case e_255 => k_is)
    (case e_256 => k_is)
    (case e_257 => k_is)
    (case kt_258 => exact .cons ⟨_, rfl⟩ (.cons ⟨_, rfl⟩ (.cons ⟨_, rfl⟩ (.cons ⟨_, rfl⟩ (.cons ⟨_, rfl⟩ (.cons ⟨_, rfl⟩ (.cons ⟨_, rfl⟩ (.cons ⟨_, rfl⟩ (.nil)))))))))
    (case e_259 => k_is)
    (case e_260 => k_is)
    (case low_261 => first | decide | decide +kernel)
    (case v8_262 => exact .cons ⟨_, rfl⟩ (.cons ⟨_, rfl⟩ (.cons ⟨_, rfl⟩ (.cons ⟨_, rfl⟩ (.cons ⟨_, rfl⟩ (.cons ⟨_, rfl⟩ (.cons ⟨_, rfl⟩ (.cons ⟨_, rfl⟩ (.nil)))))))))
    (case e_263 => k_is)
    (case e_264 => k_is)
    (case low_265 => first | decide | decide +kernel)
    (case v8_266 => exact .cons ⟨_, rfl⟩ (.cons ⟨_, rfl⟩ (.cons ⟨_, rfl⟩ (.cons ⟨_, rfl⟩ (.cons ⟨_, rfl⟩ (.cons ⟨_, rfl⟩ (.cons ⟨_, rfl⟩ (.cons ⟨_, rfl⟩ (.nil)))))))))
    (case e_267 => k_is)
    (case e_268 => k_is)
    (case dec_269 => decide +kernel)
    (case e_270 => k_is)
    (case e_271 => k_is)
    (case e_272 => k_is)
    (case e_273 => k_is)
    (case e_274 => k_is)
    (case e_275 => k_is)
    (case e_276 => k_is)
    (case e_277 => k_is)
    (case e_278 => k_is)
    (case e_279 => k_is)
    (case e_280 => k_is)
    (case e_281 => k_is)
    (case e_282 => k_is)
    (case e_283 => k_is)
    (case e_284 => k_is)
    (case dec_285 => decide +kernel)
    (case e_286 => k_is)
    (case e_287 => k_is)
    (case e_288 => k_is)
    (case e_289 => k_is)
    (case e_290 => k_is)
    (case e_291 => k_is)
    (case e_292 => k_is)
    (case e_293 => k_is)
    (case e_294 => k_is)
    (case e_295 => k_is)
    (case e_296 => k_is)
    (case e_297 => k_is)
    (case e_298 => k_is)
    (case e_299 => k_is)
    (case e_300 => k_is)
    (case dec_301 => decide +kernel)
    (case e_302 => k_is)
    (case e_303 => k_is)
    (case e_304 => k_is)
    (case e_305 => k_is)
    (case e_306 => k_is)
    (case e_307 => k_is)
    (case e_308 => k_is)
    (case e_309 => k_is)
    (case e_310 => k_is)
    (case e_311 => k_is)
    (case e_312 => k_is)
    (case e_313 => k_is)
    (case e_314 => k_is)
    (case e_315 => k_is)
    (case e_316 => k_is)
    (case dec_317 => decide +kernel)
    (case e_318 => k_is)
    (case e_319 => k_is)
    (case e_320 => k_is)
    (case e_321 => k_is)
    (case e_322 => k_is)
    (case e_323 => k_is)
    (case e_324 => k_is)
    (case e_325 => k_is)
    (case e_326 => k_is)
    (case e_327 => k_is)
    (case e_328 => k_is)
    (case e_329 => k_is)
    (case e_330 => k_is)
    (case e_331 => k_is)
    (case e_332 => k_is)
    (case e_333 => k_is)
    (case e_334 => k_is)
    (case e_335 => k_is)
    (case e_336 => k_is)
    (case e_337 => k_is)
    (case e_338 => k_is)
    (case e_339 => k_is)

