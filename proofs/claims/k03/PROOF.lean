import PyProof.Rows.All
import Wide.All
import OpenK.AllK
import Wide.FinOn
import HandS.ForMost
import HandS.SetFor
import HandS.ForExc
import HandS.IsInst
import HandS.Evl
import HandS.Flow
import HandS.Codes
import HandS.Wide
import HandS.TupAny
import HandS.Conv
import HandS.Strs
import HandS.SortInts
import KE.DataMinMax
import KE.DataAny
import KE.SortData
import HandS.SortKw
import HandS.ExcInit
import HandS.ExcField
import HandS.Small
import HandS.TryMany
import HandS.Property
import HandS.Lambda
import KE.GoesEnum
import HandS.More
import HandS.NoneIn
import HandS.TupLe
import PyProof.TupleOfSeq
import HandS.WideBits
import HandS.ExcIs
import KE.KExcIs
import PyProof.NeKinds
import KE.DataMinKey
import HandS.Text
import KE.KNest
import KE.KNestM
import HandS.EndTab
import PySem.Challenge.RW_millbrook_k03_helpers
set_option Elab.async false
set_option linter.all false
set_option maxRecDepth 100000
namespace GV
open PySem PySem.Spec PyProof.Rows L2
/-- a set as it is new -/
abbrev nset (w : World) : Obj := { cls := .type "set", dict := none, data := .set #[] 0 (.fresh 0 0 (!w.params.followText "set-order")) }
section
variable {P : Program} {w : World} {A : Around} {E : Value → Shared → Prop} {s : Shared}
set_option maxHeartbeats 3200000 in
/-- set(l), l a list of ints: its members in the order of the world -/
theorem set_ofL {l : Addr} {items : Array Value} (ns : List Int) {Q : Value → Shared → Prop} (hh : A.handled = none) (hl : s.heap.IsList l items) (hit : IntsAre items.toList ns) (hb : ns.length + 1 < scanBound)
    (fin : ∀ (g : Heap) (tk c : Nat), SetR w g s.heap.objs.size (fun j => decide (j ∈ ns)) c → c ≤ ns.length → (∀ b o, s.heap.get? b = some o → g.get? b = some o) → Q (.ref s.heap.objs.size) { s with heap := g, toks := tk }) :
    wpAny (model P w) A (call (.type "set") [.ref l]) Q E s := by
  have size : items.size = ns.length := by
    have q := IntsAre.length hit
    rwa [Array.length_toList] at q
  obtain ⟨c, tl, hmro⟩ := F.called_set.mro
  have a1 := F.called_set.made
  have a2 := F.called_set.sub
  refine wpAny_call (codeAny_of_tree (show wpAny _ _ (callAny (.type "set") _) _ _ _ from wpAny_pure ⟨Code.quiet_builtin _ (by decide +kernel), codeAny_builtin F.entry_type_call ?_⟩))
  rw [Around.under_plain (weight_type_call_type "set" [.ref l] []) rfl]
  have a3 := F.called_set.notType
  have a4 := F.called_set.canCreate
  have a5 := F.typeCall_set_1 (.ref l)
  repeat (any_goals first | assumption | wp_step)
  refine codeAny_mono (code_set_led1 (.ref l) (E := E) (Q₁ := fun o s₁ => o = .ref s.heap.objs.size ∧ s₁ = { s with heap := s.heap.push (nset w) }) ⟨rfl, rfl⟩) fun r s₁ hr => ?_
  rcases r with er | fl
  · exact hr
  rcases fl with _ | _ | _ | ob
  iterate 3 exact hr.elim
  obtain ⟨rfl, rfl⟩ := hr
  have at0 : (s.heap.push (nset w)).get? s.heap.objs.size = some (nset w) := Heap.get?_push_size _ rfl
  have ty0 : Shared.TypeIs { s with heap := s.heap.push (nset w) } (.ref s.heap.objs.size) "set" := ⟨_, at0, rfl⟩
  have b1 := F.called_set.init.lookup
  have b2 := F.called_set.init.bind (.ref s.heap.objs.size)
  repeat (any_goals first | assumption | wp_step)
  refine codeAny_mono (codeAny_call_builtin (R := wants (fun r s₂ => r = .none ∧ ∃ g tk c, s₂ = { s with heap := g, toks := tk } ∧ SetR w g s.heap.objs.size (fun j => decide (j ∈ ns)) c ∧ c ≤ ns.length ∧ (∀ b o, s.heap.get? b = some o → g.get? b = some o)) E)
    F.called_set.init.plain F.entry_set_init (check_set_init_1 ty0 ?_)) fun r₂ s₂ hr₂ => ?_
  · obtain ⟨⟨oc, od, odt, osl⟩, hol, hcl, nl, hdl⟩ := hl
    simp only at hcl hdl
    subst hcl hdl
    have ol : (s.heap.push (nset w)).get? l = some { cls := .type "list", dict := od, data := .seq items nl, slots := osl } := Heap.get?_push_of_some _ hol
    have c1 := F.sub_list_set
    have c2 := F.sub_list_frozenset
    have c3 : (Value.type "list" == Value.type "dict") = false := by decide
    have isl : (s.heap.push (nset w)).IsList l items := ⟨_, ol, rfl, nl, rfl⟩
    unfold Builtin.«set.__init__» noKeywords Builtin.Frozenset.updateFrom
    generalize hPI : pyIter = PI
    wp_walk
    subst hPI
    refine wpAny_pyIter_list isl (wpAny_bind (wpAny_runValue ?_))
    have lt : l < s.heap.objs.size := Heap.lt_size hol
    have hh3 : A.in1.in1.in1.handled = none := by simp [hh]
    have neI : l ≠ (s.heap.push (nset w)).objs.size := by
      rw [Heap.size_push]
      exact Nat.ne_of_lt (Nat.lt_succ_of_lt lt)
    have nf : s.heap.objs.size ∉ [(s.heap.push (nset w)).objs.size, l] := by
      rw [Heap.size_push]
      simp only [List.mem_cons, List.not_mem_nil, or_false, not_or]
      exact And.intro (Nat.ne_of_lt (Nat.lt_succ_self _)) (Nat.ne_of_gt lt)
    have val : ∀ (i : Nat) (v : Value), items[i]? = some v → ∃ k t, ns[i]? = some k ∧ v = .int k t := fun i v hv => by
      have hi : i < ns.length := by rw [← size]; exact (Array.getElem?_eq_some_iff.mp hv).1
      obtain ⟨t, e⟩ := PyProof.Rows.IntsAre.int_at hit i v (by rwa [Array.getElem?_toList])
      refine ⟨ns[i], t, List.getElem?_eq_getElem hi, ?_⟩
      rw [e, List.getD_eq_getElem?_getD, List.getElem?_eq_getElem hi, Option.getD_some]
    refine set_update_ints ((Walks.list hh3 _ l neI items).toS) s.heap.objs.size nf ns size hb val (items.size - 0) 0 _ (by omega) (Nat.zero_le _) ⟨⟨_, Heap.get?_push_size _ rfl, rfl, rfl⟩, isl.push _⟩ ?z ?y
    case z => exact ⟨0, Nat.le_refl 0, setR_new_at (Heap.get?_push_of_some _ at0)⟩
    case y =>
      rintro ⟨g, gn, dr, tk, os⟩ c' hm hc' hS'
      obtain rfl : gn = s.gens := hm.gens
      obtain rfl : dr = s.drawn := hm.drawn
      obtain rfl : os = s.os := hm.os
      refine wpAny_pure (show wpAny _ _ (ret Value.none) _ _ _ from wpAny_pure ⟨rfl, g, tk, c', rfl, hS', size ▸ hc', fun b o e => ?_⟩)
      have b0 : b < s.heap.objs.size := Heap.lt_size e
      refine hm.heap b o ?_ (Heap.get?_push_of_some _ (Heap.get?_push_of_some _ e))
      rw [Heap.size_push]
      simp only [List.mem_cons, List.not_mem_nil, or_false, not_or]
      exact And.intro (Nat.ne_of_lt b0) (Nat.ne_of_lt (Nat.lt_succ_of_lt b0))
  · rcases r₂ with er | fl₂
    · exact hr₂
    rcases fl₂ with _ | _ | _ | r
    iterate 3 exact hr₂.elim
    obtain ⟨rfl, g, tk, c', rfl, hS', hc', hk'⟩ := hr₂
    repeat (any_goals first | assumption | wp_step)
    exact fin _ _ _ hS' hc' hk'
end
end GV

/-! Rules upon the syntax itself: the weakest reading of a piece of text, and what it gives on data. -/
namespace GV
open PySem PySem.Spec PyProof.Rows L2
abbrev St := L2.St

/-! ### the weakest readings -/
def wE (X : Cx) (e : Expr) : TE := fun σ H Q => ∃ t, PE X e t ∧ t σ H Q
def wT (X : Cx) (e : Expr) : TT := fun σ H Q => ∃ t, PT X e t ∧ t σ H Q
def wA (X : Cx) (es : List Expr) : TA := fun σ H Q => ∃ t, PA X es t ∧ t σ H Q
def wS (X : Cx) (st : Stmt) : TS := fun D σ H => ∃ t, PS X st t ∧ t D σ H
def wB (X : Cx) (st : List Stmt) : TS := fun D σ H => ∃ t, PSs X st t ∧ t D σ H
section
variable {X : Cx}
theorem wE.pe {e : Expr} : PE X e (wE X e) := ⟨fun pins s σ H Q I ⟨_, h, q⟩ => h.run pins s σ H Q I q⟩
theorem wT.pt {e : Expr} : PT X e (wT X e) := ⟨fun pins s σ H Q I ⟨_, h, q⟩ => h.run pins s σ H Q I q⟩
theorem wA.pa {es : List Expr} : PA X es (wA X es) := ⟨fun pos pins s σ H Q I ⟨_, h, q⟩ => h.run pos pins s σ H Q I q⟩
theorem wS.ps {st : Stmt} : PS X st (wS X st) := ⟨fun pins s σ H D I ⟨_, h, q⟩ => h.run pins s σ H D I q⟩
theorem wB.ps {st : List Stmt} : PSs X st (wB X st) := ⟨fun pins s σ H D I ⟨_, h, q⟩ => h.run pins s σ H D I q⟩
end

/-! ### what is known of the heap: all but the mutable things at M and the tables -/
def NT (o : HO) : Prop := ∀ ps, o ≠ .tbl ps
def ExM (M : Addr → Prop) (H H' : Hp) : Prop := ∀ a o, H a = some o → ¬ M a → NT o → H' a = some o
def Alive (M : Addr → Prop) (H : Hp) : Prop := ∀ a, M a → ∃ o, H a = some o
theorem ExM.refl {M : Addr → Prop} (H : Hp) : ExM M H H := fun _ _ h _ _ => h
theorem ExM.trans {M : Addr → Prop} {H H1 H2 : Hp} (a : ExM M H H1) (b : ExM M H1 H2) : ExM M H H2 := fun x o h m n => b x o (a x o h m n) m n
theorem ExM.of {M : Addr → Prop} {H H' : Hp} (e : Evl.Ex H H') : ExM M H H' := fun a o h _ _ => e a o h
theorem Alive.mono {M : Addr → Prop} {H H' : Hp} (a : Alive M H) (e : Evl.Ex H H') : Alive M H' := fun x m => let ⟨o, h⟩ := a x m; ⟨o, e x o h⟩
theorem Alive.fresh {M : Addr → Prop} {H : Hp} {p : Addr} (a : Alive M H) (h : H p = none) : ¬ M p := fun m => by
  obtain ⟨o, q⟩ := a p m
  rw [h] at q
  cases q

mutual
/-- v is the datum d, none of whose parts lies in M -/
inductive Rp (K : PySem.W.Frag) (M : Addr → Prop) (H : Hp) : V → PyData → Prop
  | non : Rp K M H .non .none
  | bl (b : Bool) : Rp K M H (.bl b) (.bool b)
  | int (i : Int) : Rp K M H (.int i) (.int i)
  | str (x : Str) : Rp K M H (.str x) (.str x)
  | lst {a : Addr} {xs : List V} {ds : List PyData} : ¬ M a → Rd H a (.lst xs) → RpAll K M H xs ds → Rp K M H (.ref a) (.list ds)
  | tup {a : Addr} {xs : List V} {ds : List PyData} : ¬ M a → Rd H a (.tup xs) → RpAll K M H xs ds → Rp K M H (.ref a) (.tuple ds)
inductive RpAll (K : PySem.W.Frag) (M : Addr → Prop) (H : Hp) : List V → List PyData → Prop
  | nil : RpAll K M H [] []
  | cons {v : V} {vs : List V} {d : PyData} {ds : List PyData} : Rp K M H v d → RpAll K M H vs ds → RpAll K M H (v :: vs) (d :: ds)
end

section
variable {K : PySem.W.Frag} {M M' : Addr → Prop} {H H' : Hp}
theorem Rd.exM {a : Addr} {xs : List V} (h : Rd H a (.lst xs)) (m : ¬ M a) (e : ExM M H H') : Rd H' a (.lst xs) := by
  rcases h with h | ⟨o, h⟩
  · exact .inl (e _ _ h m (fun _ z => by cases z))
  · exact .inr ⟨o, e _ _ h m (fun _ z => by cases z)⟩
theorem Rd.exT {a : Addr} {xs : List V} (h : Rd H a (.tup xs)) (m : ¬ M a) (e : ExM M H H') : Rd H' a (.tup xs) := by
  rcases h with h | ⟨o, h⟩
  · exact .inl (e _ _ h m (fun _ z => by cases z))
  · exact .inr ⟨o, e _ _ h m (fun _ z => by cases z)⟩
theorem Rd.there {a : Addr} {u : HO} (h : Rd H a u) : H a ≠ none := by
  rcases h with h | ⟨o, h⟩ <;> rw [h] <;> exact fun z => by cases z
mutual
theorem Rp.mono {v : V} {d : PyData} : (r : Rp K M H v d) → (hm : ∀ a, M' a → M a) → ExM M H H' → Rp K M' H' v d
  | .non, _, _ => .non
  | .bl b, _, _ => .bl b
  | .int i, _, _ => .int i
  | .str x, _, _ => .str x
  | .lst m h r, hm, e => .lst (fun z => m (hm _ z)) (Rd.exM h m e) (RpAll.mono r hm e)
  | .tup m h r, hm, e => .tup (fun z => m (hm _ z)) (Rd.exT h m e) (RpAll.mono r hm e)
theorem RpAll.mono {vs : List V} {ds : List PyData} : (r : RpAll K M H vs ds) → (hm : ∀ a, M' a → M a) → ExM M H H' → RpAll K M' H' vs ds
  | .nil, _, _ => .nil
  | .cons r rs, hm, e => .cons (Rp.mono r hm e) (RpAll.mono rs hm e)
end
mutual
/-- further mutable things, none of which was there -/
theorem Rp.wide {v : V} {d : PyData} : (r : Rp K M H v d) → (∀ a, M' a → M a ∨ H a = none) → Rp K M' H v d
  | .non, _ => .non
  | .bl b, _ => .bl b
  | .int i, _ => .int i
  | .str x, _ => .str x
  | .lst m h r, hm => .lst (fun z => (hm _ z).elim m (Rd.there h)) h (RpAll.wide r hm)
  | .tup m h r, hm => .tup (fun z => (hm _ z).elim m (Rd.there h)) h (RpAll.wide r hm)
theorem RpAll.wide {vs : List V} {ds : List PyData} : (r : RpAll K M H vs ds) → (∀ a, M' a → M a ∨ H a = none) → RpAll K M' H vs ds
  | .nil, _ => .nil
  | .cons r rs, hm => .cons (Rp.wide r hm) (RpAll.wide rs hm)
end
mutual
theorem Rp.dp {v : V} {d : PyData} : (r : Rp K M H v d) → Dp K H v d
  | .non => .non
  | .bl b => .bl b
  | .int i => .int i
  | .str x => .str x
  | .lst _ h r => .lst (.inl h) (RpAll.dp r)
  | .tup _ h r => .tup (.inl h) (RpAll.dp r)
theorem RpAll.dp {vs : List V} {ds : List PyData} : (r : RpAll K M H vs ds) → DpAll K H vs ds
  | .nil => .nil
  | .cons r rs => .cons (Rp.dp r) (RpAll.dp rs)
end
theorem RpAll.length : ∀ {vs : List V} {ds : List PyData}, RpAll K M H vs ds → vs.length = ds.length
  | _, _, .nil => rfl
  | _, _, .cons _ rs => congrArg (· + 1) rs.length
theorem RpAll.get : ∀ {vs : List V} {ds : List PyData} {i : Nat} {d : PyData}, RpAll K M H vs ds → ds[i]? = some d → ∃ v, vs[i]? = some v ∧ Rp K M H v d
  | _, _, 0, _, .cons r _, e => by
    simp at e
    subst e
    exact ⟨_, rfl, r⟩
  | _, _, i + 1, d, .cons _ rs, e => by
    obtain ⟨v, h1, h2⟩ := RpAll.get (i := i) (d := d) rs (by simpa using e)
    exact ⟨v, by simpa using h1, h2⟩
  | _, _, _, _, .nil, e => by simp at e
theorem RpAll.append : ∀ {vs ws : List V} {ds es : List PyData}, RpAll K M H vs ds → RpAll K M H ws es → RpAll K M H (vs ++ ws) (ds ++ es)
  | _, _, _, _, .nil, s => s
  | _, _, _, _, .cons r rs, s => .cons r (RpAll.append rs s)
theorem RpAll.ints : ∀ ns : List Int, RpAll K M H (ns.map V.int) (ns.map PyData.int)
  | [] => .nil
  | n :: r => .cons (.int n) (RpAll.ints r)
theorem RpAll.strs : ∀ ns : List Str, RpAll K M H (ns.map V.str) (ns.map PyData.str)
  | [] => .nil
  | n :: r => .cons (.str n) (RpAll.strs r)
theorem RpAll.of_ints : ∀ {vs : List V} {ns : List Int}, RpAll K M H vs (ns.map PyData.int) → vs = ns.map V.int
  | [], [], .nil => rfl
  | _ :: _, n :: r, .cons h hs => by
    cases h
    rw [RpAll.of_ints hs]
    rfl
end

/-! ### what a piece of text gives -/
structure PD (X : Cx) (M : Addr → Prop) (e : Expr) (σ : St) (H : Hp) (d : PyData) : Prop where
  run : ∀ H1, ExM M H H1 → Alive M H1 → ∀ Q : VK, (∀ v H2, Evl.Ex H1 H2 → Rp X.K M H2 v d → Q v H2) → wE X e σ H1 Q
structure TD (X : Cx) (M : Addr → Prop) (e : Expr) (σ : St) (H : Hp) (b : Bool) : Prop where
  run : ∀ H1, ExM M H H1 → Alive M H1 → ∀ Q : Bool → Hp → Prop, (∀ H2, Evl.Ex H1 H2 → Q b H2) → wT X e σ H1 Q
structure AD (X : Cx) (M : Addr → Prop) (es : List Expr) (σ : St) (H : Hp) (ds : List PyData) : Prop where
  run : ∀ H1, ExM M H H1 → Alive M H1 → ∀ Q : List V → Hp → Prop, (∀ vs H2, Evl.Ex H1 H2 → RpAll X.K M H2 vs ds → Q vs H2) → wA X es σ H1 Q

section
variable {X : Cx} {M : Addr → Prop} {σ : St} {H H' : Hp} {a b c e : Expr} {da db d : PyData} {pos : Pos}
theorem PD.mono (h : PD X M e σ H d) (x : ExM M H H') : PD X M e σ H' d := ⟨fun H1 e1 al Q q => h.run H1 (x.trans e1) al Q q⟩
theorem TD.mono {k : Bool} (h : TD X M e σ H k) (x : ExM M H H') : TD X M e σ H' k := ⟨fun H1 e1 al Q q => h.run H1 (x.trans e1) al Q q⟩
theorem AD.mono {es : List Expr} {ds : List PyData} (h : AD X M es σ H ds) (x : ExM M H H') : AD X M es σ H' ds := ⟨fun H1 e1 al Q q => h.run H1 (x.trans e1) al Q q⟩
theorem PD.is {d' : PyData} (h : PD X M e σ H d) (q : d = d') : PD X M e σ H d' := q ▸ h
theorem TD.is {k k' : Bool} (h : TD X M e σ H k) (q : k = k') : TD X M e σ H k' := q ▸ h
/-- names and constants -/
theorem pd_name {i : Nat} {x : Str} {v : V} (hN : X.N[i]? = some x) (hv : Vis X.env.scope x) (hs : σ[i]? = some (some v)) (r : Rp X.K M H v d)
    (hd : (x == ("__debug__" : Str)) = false := by decide) (hcd : (x == ("__classdict__" : Str)) = false := by decide) : PD X M (.Name x pos) σ H d :=
  ⟨fun H1 e1 _ Q q => ⟨_, pe_var hN hv hd hcd, v, hs, q v H1 (Evl.Ex.refl H1) (r.mono (fun _ z => z) e1)⟩⟩
theorem pd_int {i : Int} {j} : PD X M (.Constant (.int i) j pos) σ H (.int i) := ⟨fun H1 _ _ Q q => ⟨_, pe_int, q _ H1 (Evl.Ex.refl H1) (.int i)⟩⟩
theorem pd_bl {k : Bool} {j} : PD X M (.Constant (.bool k) j pos) σ H (.bool k) := ⟨fun H1 _ _ Q q => ⟨_, pe_bl, q _ H1 (Evl.Ex.refl H1) (.bl k)⟩⟩
theorem pd_non {j} : PD X M (.Constant .none j pos) σ H .none := ⟨fun H1 _ _ Q q => ⟨_, pe_non, q _ H1 (Evl.Ex.refl H1) .non⟩⟩
theorem pd_str {x : Str} {j} : PD X M (.Constant (.str x) j pos) σ H (.str x) := ⟨fun H1 _ _ Q q => ⟨_, pe_str, q _ H1 (Evl.Ex.refl H1) (.str x)⟩⟩
theorem pd_globI {x : Str} {i : Int} {t : Tok} (hg : Gl X x) (hm : X.mg x = some (.int i t)) (hd : (x == ("__debug__" : Str)) = false := by decide) : PD X M (.Name x pos) σ H (.int i) :=
  ⟨fun H1 _ _ Q q => ⟨_, pe_glob hg hm (v := .int i) ⟨t, rfl⟩ hd, q _ H1 (Evl.Ex.refl H1) (.int i)⟩⟩

/-! ### two operands -/
/-- an operator by values -/
def RD2 (X : Cx) (M : Addr → Prop) (r : R2) (da db d : PyData) : Prop :=
  ∀ x y H1, Rp X.K M H1 x da → Rp X.K M H1 y db → Alive M H1 → ∀ Q : VK, (∀ v H2, Evl.Ex H1 H2 → Rp X.K M H2 v d → Q v H2) → r x y H1 Q
theorem pd_binR {op : Operator} {r : R2} (ho : OpR X (binaryOp op) r) (hr : RD2 X M r da db d) (ha : PD X M a σ H da) (hb : PD X M b σ H db) : PD X M (.BinOp a op b pos) σ H d := ⟨fun H1 e1 al Q q =>
  ⟨_, pe_op ho wE.pe wE.pe, ha.run H1 e1 al _ fun x H2 x2 rx => hb.run H2 (e1.trans (.of x2)) (al.mono x2) _ fun y H3 x3 ry =>
    hr x y H3 (rx.mono (fun _ z => z) (.of x3)) ry ((al.mono x2).mono x3) Q fun v H4 x4 rv => q v H4 ((x2.trans x3).trans x4) rv⟩⟩
theorem pd_cmpR {op : CmpOp} {r : R2} (ho : OpR X (compareOp op) r) (hm : behindInMarks op b = false) (hr : RD2 X M r da db d) (ha : PD X M a σ H da) (hb : PD X M b σ H db) : PD X M (.Compare a [op] [b] pos) σ H d := ⟨fun H1 e1 al Q q =>
  ⟨_, pe_cmpR ho wE.pe wE.pe hm, ha.run H1 e1 al _ fun x H2 x2 rx => hb.run H2 (e1.trans (.of x2)) (al.mono x2) _ fun y H3 x3 ry =>
    hr x y H3 (rx.mono (fun _ z => z) (.of x3)) ry ((al.mono x2).mono x3) Q fun v H4 x4 rv => q v H4 ((x2.trans x3).trans x4) rv⟩⟩
theorem rd_I0 {g : Int → Int → Int} {i j : Int} : RD2 X M (rI0 fun i j => .int (g i j)) (.int i) (.int j) (.int (g i j)) := fun x y H1 rx ry _ Q q => by
  cases rx
  cases ry
  exact ⟨i, j, rfl, rfl, q _ H1 (Evl.Ex.refl H1) (.int _)⟩
theorem rd_I {C : Int → Int → Prop} {g : Int → Int → Int} {i j : Int} (hc : C i j) : RD2 X M (rI C fun i j => .int (g i j)) (.int i) (.int j) (.int (g i j)) := fun x y H1 rx ry _ Q q => by
  cases rx
  cases ry
  exact ⟨i, j, rfl, rfl, hc, q _ H1 (Evl.Ex.refl H1) (.int _)⟩
theorem rd_B0 {g : Int → Int → Bool} {i j : Int} : RD2 X M (rI0 fun i j => .bl (g i j)) (.int i) (.int j) (.bool (g i j)) := fun x y H1 rx ry _ Q q => by
  cases rx
  cases ry
  exact ⟨i, j, rfl, rfl, q _ H1 (Evl.Ex.refl H1) (.bl _)⟩
theorem pd_add {i j : Int} (ha : PD X M a σ H (.int i)) (hb : PD X M b σ H (.int j)) : PD X M (.BinOp a .Add b pos) σ H (.int (i + j)) := pd_binR op_add rd_I0 ha hb
theorem pd_sub {i j : Int} (ha : PD X M a σ H (.int i)) (hb : PD X M b σ H (.int j)) : PD X M (.BinOp a .Sub b pos) σ H (.int (i - j)) := pd_binR op_sub rd_I0 ha hb
theorem pd_mul {i j : Int} (ha : PD X M a σ H (.int i)) (hb : PD X M b σ H (.int j)) (hc : CMul i j) : PD X M (.BinOp a .Mult b pos) σ H (.int (i * j)) := pd_binR op_mul (rd_I hc) ha hb
theorem pd_lt {i j : Int} (ha : PD X M a σ H (.int i)) (hb : PD X M b σ H (.int j)) : PD X M (.Compare a [.Lt] [b] pos) σ H (.bool (decide (i < j))) := pd_cmpR op_lt (nomark _) rd_B0 ha hb
theorem pd_le {i j : Int} (ha : PD X M a σ H (.int i)) (hb : PD X M b σ H (.int j)) : PD X M (.Compare a [.LtE] [b] pos) σ H (.bool (decide (i ≤ j))) := pd_cmpR op_le (nomark _) rd_B0 ha hb
theorem pd_gt {i j : Int} (ha : PD X M a σ H (.int i)) (hb : PD X M b σ H (.int j)) : PD X M (.Compare a [.Gt] [b] pos) σ H (.bool (decide (j < i))) := pd_cmpR op_gt (nomark _) rd_B0 ha hb
theorem pd_ge {i j : Int} (ha : PD X M a σ H (.int i)) (hb : PD X M b σ H (.int j)) : PD X M (.Compare a [.GtE] [b] pos) σ H (.bool (decide (j ≤ i))) := pd_cmpR op_ge (nomark _) rd_B0 ha hb
end
end GV

namespace GV
open PySem PySem.Spec PyProof.Rows L2
section
variable {X : Cx} {M : Addr → Prop} {σ : St} {H H' : Hp} {a b c e : Expr} {da db d : PyData} {pos : Pos} {es : List Expr} {ds : List PyData}

/-! ### truth, and, or, not -/
theorem pd_and {k1 k2 : Bool} {rest : List Expr} (ha : PD X M a σ H (.bool k1)) (hb : k1 = true → PD X M (.BoolOp .And (b :: rest) pos) σ H (.bool k2)) : PD X M (.BoolOp .And (a :: b :: rest) pos) σ H (.bool (k1 && k2)) := .mk fun H1 e1 al Q q =>
  ⟨_, pe_and wE.pe wE.pe, ha.run H1 e1 al _ fun x H2 x2 rx => by
    cases rx
    refine ⟨k1, rfl, ?_⟩
    cases k1 with
    | true => exact (hb rfl).run H2 (e1.trans (.of x2)) (al.mono x2) Q fun v H3 x3 rv => q v H3 (x2.trans x3) rv
    | false => exact q _ H2 x2 (.bl _)⟩
theorem pd_or {k1 k2 : Bool} {rest : List Expr} (ha : PD X M a σ H (.bool k1)) (hb : k1 = false → PD X M (.BoolOp .Or (b :: rest) pos) σ H (.bool k2)) : PD X M (.BoolOp .Or (a :: b :: rest) pos) σ H (.bool (k1 || k2)) := .mk fun H1 e1 al Q q =>
  ⟨_, pe_or wE.pe wE.pe, ha.run H1 e1 al _ fun x H2 x2 rx => by
    cases rx
    refine ⟨k1, rfl, ?_⟩
    cases k1 with
    | false => exact (hb rfl).run H2 (e1.trans (.of x2)) (al.mono x2) Q fun v H3 x3 rv => q v H3 (x2.trans x3) rv
    | true => exact q _ H2 x2 (.bl _)⟩
theorem pd_one {op} (h : PD X M a σ H d) : PD X M (.BoolOp op [a] pos) σ H d := .mk fun H1 e1 al Q q => ⟨_, pe_one wE.pe, h.run H1 e1 al Q q⟩
theorem pd_not {k : Bool} (h : PD X M a σ H (.bool k)) : PD X M (.UnaryOp .Not a pos) σ H (.bool (!k)) := .mk fun H1 e1 al Q q =>
  ⟨_, pe_not wE.pe, h.run H1 e1 al _ fun x H2 x2 rx => by
    cases rx
    exact ⟨k, rfl, q _ H2 x2 (.bl _)⟩⟩
theorem td_val {k : Bool} (h : PD X M e σ H (.bool k)) (he : ∀ whole, isTrue e X.env whole = (do let v ← whole; standAt e.pos; holding [v] (truthy v)) := by intro _; rfl) : TD X M e σ H k := .mk fun H1 e1 al Q q =>
  ⟨_, pt_val wE.pe he, h.run H1 e1 al _ fun x H2 x2 rx => by
    cases rx
    exact ⟨k, rfl, q H2 x2⟩⟩
theorem td_not {k : Bool} (h : TD X M a σ H k) : TD X M (.UnaryOp .Not a pos) σ H (!k) := .mk fun H1 e1 al Q q => ⟨_, pt_not wT.pt, h.run H1 e1 al _ fun H2 x2 => q H2 x2⟩
/-- a chain of tests -/
structure WD (X : Cx) (M : Addr → Prop) (e : Expr) (σ : St) (H : Hp) (k : Bool) : Prop where
  ex : ∃ t, PW X e t ∧ ∀ H1, ExM M H H1 → Alive M H1 → ∀ Q : Bool → Hp → Prop, (∀ H2, Evl.Ex H1 H2 → Q k H2) → t σ H1 Q
theorem WD.td {k : Bool} (h : WD X M e σ H k) : TD X M e σ H k := .mk fun H1 e1 al Q q => let ⟨t, p, r⟩ := h.ex; ⟨t, p.pt, r H1 e1 al Q q⟩
theorem wd_and1 {k : Bool} (h : TD X M a σ H k) : WD X M (.BoolOp .And [a] pos) σ H k := .mk ⟨_, pw_and1 wT.pt, h.run⟩
theorem wd_or1 {k : Bool} (h : TD X M a σ H k) : WD X M (.BoolOp .Or [a] pos) σ H k := .mk ⟨_, pw_or1 wT.pt, h.run⟩
/-- the reading of a chain, of any of its ends -/
def wW (X : Cx) (e : Expr) : TT := fun σ H Q => ∃ t, PW X e t ∧ t σ H Q
theorem wW.pw {e : Expr} : PW X e (wW X e) := ⟨fun pins s σ H whole Q I ⟨_, h, q⟩ => h.run pins s σ H whole Q I q⟩
theorem wd_and {k1 k2 : Bool} {rest : List Expr} (ha : TD X M a σ H k1) (hb : k1 = true → WD X M (.BoolOp .And (b :: rest) pos) σ H k2) : WD X M (.BoolOp .And (a :: b :: rest) pos) σ H (k1 && k2) :=
  .mk ⟨_, pw_and wT.pt wW.pw, fun H1 e1 al Q q => ha.run H1 e1 al _ fun H2 x2 => by
    cases k1 with
    | true =>
      obtain ⟨t, p, r⟩ := (hb rfl).ex
      exact ⟨t, p, r H2 (e1.trans (.of x2)) (al.mono x2) Q fun H3 x3 => q H3 (x2.trans x3)⟩
    | false => exact q H2 x2⟩
theorem wd_or {k1 k2 : Bool} {rest : List Expr} (ha : TD X M a σ H k1) (hb : k1 = false → WD X M (.BoolOp .Or (b :: rest) pos) σ H k2) : WD X M (.BoolOp .Or (a :: b :: rest) pos) σ H (k1 || k2) :=
  .mk ⟨_, pw_or wT.pt wW.pw, fun H1 e1 al Q q => ha.run H1 e1 al _ fun H2 x2 => by
    cases k1 with
    | false =>
      obtain ⟨t, p, r⟩ := (hb rfl).ex
      exact ⟨t, p, r H2 (e1.trans (.of x2)) (al.mono x2) Q fun H3 x3 => q H3 (x2.trans x3)⟩
    | true => exact q H2 x2⟩
theorem pd_if {k : Bool} (ht : TD X M c σ H k) (ha : k = true → PD X M a σ H d) (hb : k = false → PD X M b σ H d) : PD X M (.IfExp c a b pos) σ H d := .mk fun H1 e1 al Q q =>
  ⟨_, pe_ifExp wT.pt wE.pe wE.pe, ht.run H1 e1 al _ fun H2 x2 => by
    cases k with
    | true => exact (ha rfl).run H2 (e1.trans (.of x2)) (al.mono x2) Q fun v H3 x3 rv => q v H3 (x2.trans x3) rv
    | false => exact (hb rfl).run H2 (e1.trans (.of x2)) (al.mono x2) Q fun v H3 x3 rv => q v H3 (x2.trans x3) rv⟩

/-! ### lists of parts, displays -/
theorem ad_nil : AD X M [] σ H [] := .mk fun H1 _ _ Q q => ⟨_, pa_nil, q [] H1 (Evl.Ex.refl H1) .nil⟩
theorem ad_cons (h : PD X M e σ H d) (hr : AD X M es σ H ds) (hs : starEach (e :: es) X.env = (false, eval e X.env) :: starEach es X.env := by rfl) : AD X M (e :: es) σ H (d :: ds) := .mk fun H1 e1 al Q q =>
  ⟨_, pa_cons wE.pe wA.pa hs, h.run H1 e1 al _ fun v H2 x2 rv => hr.run H2 (e1.trans (.of x2)) (al.mono x2) _ fun vs H3 x3 rvs =>
    q (v :: vs) H3 (x2.trans x3) (.cons (rv.mono (fun _ z => z) (.of x3)) rvs)⟩
theorem Rp.newT {p : Addr} {xs : List V} (al : Alive M H) (hp : H p = none) (r : RpAll X.K M H xs ds) : Rp X.K M (upd H p (.tup xs)) (.ref p) (.tuple ds) :=
  .tup (al.fresh hp) (.inl upd_same) (r.mono (fun _ z => z) (.of (Evl.Ex.new hp)))
theorem Rp.newL {p : Addr} {xs : List V} (al : Alive M H) (hp : H p = none) (r : RpAll X.K M H xs ds) : Rp X.K M (upd H p (.lst xs)) (.ref p) (.list ds) :=
  .lst (al.fresh hp) (.inl upd_same) (r.mono (fun _ z => z) (.of (Evl.Ex.new hp)))
theorem pd_tup {x1} (h : AD X M es σ H ds) (hl : ds.length ≤ 100000) : PD X M (.Tuple es x1 pos) σ H (.tuple ds) := .mk fun H1 e1 al Q q =>
  ⟨_, pe_tup wA.pa, h.run H1 e1 al _ fun vs H2 x2 r => ⟨by rw [r.length]; exact Evl.sz_of hl, fun p hp => q _ _ (x2.trans (Evl.Ex.new hp)) (.newT (al.mono x2) hp r)⟩⟩
/-- .. a new one -/
structure FD (X : Cx) (M : Addr → Prop) (e : Expr) (σ : St) (H : Hp) (ds : List PyData) : Prop where
  run : ∀ H1, ExM M H H1 → Alive M H1 → ∀ Q : VK, (∀ p vs H2, H1 p = none → Evl.Ex H1 H2 → H2 p = some (.lst vs) → RpAll X.K M H2 vs ds → Q (.ref p) H2) → wE X e σ H1 Q
theorem FD.mono (h : FD X M e σ H ds) (x : ExM M H H') : FD X M e σ H' ds := .mk fun H1 e1 al Q q => h.run H1 (x.trans e1) al Q q
theorem FD.pd (h : FD X M e σ H ds) : PD X M e σ H (.list ds) := .mk fun H1 e1 al Q q => h.run H1 e1 al Q fun p vs H2 hp x2 h2 r => q _ H2 x2 (.lst (al.fresh hp) (.inl h2) r)
theorem fd_lst (h : AD X M es σ H ds) (hl : ds.length ≤ 100000) : FD X M (.List es pos) σ H ds := .mk fun H1 e1 al Q q =>
  ⟨_, pe_lst wA.pa, h.run H1 e1 al _ fun vs H2 x2 r => ⟨by rw [r.length]; exact Evl.sz_of hl, fun p hp => q p vs _ (Evl.fresh_back x2 hp) (x2.trans (Evl.Ex.new hp)) upd_same (r.mono (fun _ z => z) (.of (Evl.Ex.new hp)))⟩⟩

/-! ### == and is -/
theorem pd_eq (hu : X.A.units + 64 < cLine) (ha : PD X M a σ H da) (hb : PD X M b σ H db) (sa : SeqAt.shaped da = true) (sb : SeqAt.shaped db = true) : PD X M (.Compare a [.Eq] [b] pos) σ H (.bool (PyData.eqv da db)) :=
  pd_cmpR (op_eqD hu) (nomark _) (fun x y H1 rx ry _ Q q => ⟨da, db, rx.dp, ry.dp, sa, sb, q _ H1 (Evl.Ex.refl H1) (.bl _)⟩) ha hb
theorem pd_ne (hu : X.A.units + 64 < cLine) (ha : PD X M a σ H da) (hb : PD X M b σ H db) (sa : SeqAt.shaped da = true) (sb : SeqAt.shaped db = true) : PD X M (.Compare a [.NotEq] [b] pos) σ H (.bool (!PyData.eqv da db)) :=
  pd_cmpR (op_neD hu) (nomark _) (fun x y H1 rx ry _ Q q => ⟨da, db, rx.dp, ry.dp, sa, sb, q _ H1 (Evl.Ex.refl H1) (.bl _)⟩) ha hb
def isNone : PyData → Bool
  | .none => true
  | _ => false
theorem Rp.isN {K : PySem.W.Frag} {x : V} (r : Rp K M H x d) : decide (x = .non) = isNone d := by
  cases r <;> rfl
theorem pd_isN {j p2} (ha : PD X M a σ H da) : PD X M (.Compare a [.Is] [.Constant .none j p2] pos) σ H (.bool (isNone da)) :=
  pd_cmpR op_isN (nomark _) (fun x y H1 rx ry _ Q q => by
    cases ry
    exact ⟨rfl, q _ H1 (Evl.Ex.refl H1) (by rw [rx.isN]; exact .bl _)⟩) ha pd_non
theorem pd_notN {j p2} (ha : PD X M a σ H da) : PD X M (.Compare a [.IsNot] [.Constant .none j p2] pos) σ H (.bool (!isNone da)) :=
  pd_cmpR op_notN (nomark _) (fun x y H1 rx ry _ Q q => by
    cases ry
    exact ⟨rfl, q _ H1 (Evl.Ex.refl H1) (by rw [rx.isN]; exact .bl _)⟩) ha pd_non

/-! ### items -/
def ixD : PyData → PyData → Option PyData
  | .list ds, .int i => atI ds i
  | .tuple ds, .int i => atI ds i
  | .str z, .int i => if z.length ≤ sizeLine then (atI z.cps.toList i).map fun c => .str ⟨#[c]⟩ else none
  | _, _ => none
theorem atI_rp {K : PySem.W.Frag} {xs : List V} {i : Int} (r : RpAll K M H xs ds) (h : atI ds i = some d) : ∃ v, atI xs i = some v ∧ Rp K M H v d := by
  unfold atI at h ⊢
  rw [r.length]
  cases e : ixN ds.length i with
  | none =>
    rw [e] at h
    cases h
  | some j =>
    rw [e] at h
    obtain ⟨v, h1, h2⟩ := r.get h
    exact ⟨v, h1, h2⟩
theorem pd_ix (ha : PD X M a σ H da) (hb : PD X M b σ H db) (h : ixD da db = some d) (hs : PlainIx b := by exact fun _ _ => rfl) : PD X M (.Subscript a b pos) σ H d := .mk fun H1 e1 al Q q =>
  ⟨_, pe_ix ix_seq wE.pe wE.pe hs, ha.run H1 e1 al _ fun x H2 x2 rx => hb.run H2 (e1.trans (.of x2)) (al.mono x2) _ fun y H3 x3 ry => by
    have rx' := rx.mono (fun _ z => z) (.of x3)
    have fin : ∀ v, Rp X.K M H3 v d → Q v H3 := fun v rv => q v H3 (x2.trans x3) rv
    cases ry with
    | int i =>
      cases rx' with
      | lst m hs rs =>
        obtain ⟨v, hv, rv⟩ := atI_rp rs h
        exact .inl ⟨_, _, i, v, rfl, rfl, .inl hs, hv, fin v rv⟩
      | tup m hs rs =>
        obtain ⟨v, hv, rv⟩ := atI_rp rs h
        exact .inr (.inl ⟨_, _, i, v, rfl, rfl, .inl hs, hv, fin v rv⟩)
      | str z =>
        simp only [ixD] at h
        split at h
        · rename_i hz
          cases e : atI z.cps.toList i with
          | none =>
            rw [e] at h
            cases h
          | some c =>
            rw [e] at h
            cases h
            exact .inr (.inr ⟨z, i, c, rfl, rfl, hz, e, fin _ (.str _)⟩)
        · cases h
      | _ => cases h
    | _ => cases da <;> cases h⟩

/-! ### own defs that leave all as it is -/
def PureR (K : PySem.W.Frag) (R : List PyData → PyData → Prop) : Sp := fun vs H Q _ => ∃ M ds d, Alive M H ∧ RpAll K M H vs ds ∧ R ds d ∧ ∀ v H', Evl.Ex H H' → Rp K M H' v d → Q v H'
theorem pd_call {R : List PyData → PyData → Prop} {CX : CXT} {E : XK} {k : Nat} {f : Addr} {fd : FuncData} {ps : List Str} {x : Str} {p : Pos} (F : FnOk X.prog X.w X.K X.mg X.base CX k f fd ps (PureR X.K R)) (hr : Room k X.A) (hg : Gl X x) (hm : X.mg x = some (.ref f)) (hk : PySem.W.keepIn X.K (.ref f) = true)
    (hb : Binds X.K fd ps []) (hx : Passes CX X E) (h : AD X M (e :: es) σ H ds) (hR : R ds d)
    (hdb : (x == ("__debug__" : Str)) = false := by decide) (he : starEach (e :: es) X.env = (false, eval e X.env) :: starEach es X.env := by rfl) (hpl : (backTo pos (starEach es X.env)).any (·.1) = false := by rfl) : PD X M (.Call (.Name x p) (e :: es) [] pos) σ H d := .mk fun H1 e1 al Q q =>
  ⟨_, pe_call F hr hg hm hk hb .nil hx wA.pa hdb he hpl, h.run H1 e1 al _ fun vs H2 x2 r => by
    rw [List.append_nil]
    exact ⟨M, ds, d, al.mono x2, r, hR, fun v H3 x3 rv => q v H3 (x2.trans x3) rv⟩⟩
end

/-! ### statements -/
section
variable {X : Cx} {M : Addr → Prop} {σ : St} {H : Hp} {c e : Expr} {d : PyData} {pos : Pos} {st : Stmt} {sts A B : List Stmt} {D : Ends}
theorem b_nil (h : D.nx σ H) : wB X [] D σ H := ⟨_, pss_nil, h⟩
theorem b_cons (h : wS X st { D with nx := wB X sts D } σ H) : wB X (st :: sts) D σ H := ⟨_, pss_cons wS.ps wB.ps, h⟩
theorem s_ret (al : Alive M H) (h : PD X M e σ H d) (q : ∀ v H2, Evl.Ex H H2 → Rp X.K M H2 v d → D.rt v H2) : wS X (.Return (some e) pos) D σ H := ⟨_, ps_ret wE.pe, h.run H (ExM.refl H) al _ q⟩
theorem s_retN (q : D.rt .non H) : wS X (.Return none pos) D σ H := ⟨_, ps_retN, q⟩
theorem s_if {k : Bool} (al : Alive M H) (h : TD X M c σ H k) (h1 : k = true → ∀ H2, Evl.Ex H H2 → wB X A D σ H2) (h2 : k = false → ∀ H2, Evl.Ex H H2 → wB X B D σ H2) : wS X (.If c A B pos) D σ H :=
  ⟨_, ps_if wT.pt wB.ps wB.ps, h.run H (ExM.refl H) al _ fun H2 x2 => by
    cases k with
    | true => exact h1 rfl H2 x2
    | false => exact h2 rfl H2 x2⟩
theorem s_set {i : Nat} {x : Str} {p : Pos} (al : Alive M H) (hN : X.N.Nodup) (hi : X.N[i]? = some x) (hx : Loc X.env.scope x) (h : PD X M e σ H d) (q : ∀ v H2, Evl.Ex H H2 → Rp X.K M H2 v d → D.nx (σ.set i (some v)) H2)
    (hs : swapsWith e (some (.Name x p)) pos.line X.env = pure false := by rfl) (hf : X.fn x = true ∨ X.env.scope.names.lookup x = some .local := by first | exact .inl rfl | exact .inr rfl | assumption) : wS X (.Assign [.Name x p] e pos) D σ H :=
  ⟨_, ps_set hN hi hx wE.pe hs hf, h.run H (ExM.refl H) al _ fun v H2 x2 r => q v H2 x2 r⟩
end
end GV

namespace GV
open PySem PySem.Spec PyProof.Rows L2
section
variable {X : Cx} {M : Addr → Prop} {σ : St} {H H' : Hp} {a b c e : Expr} {da db d : PyData} {pos : Pos} {es : List Expr} {ds : List PyData}

/-! ### more of ints -/
theorem pd_neg {i : Int} (ha : PD X M a σ H (.int i)) : PD X M (.UnaryOp .USub a pos) σ H (.int (-i)) := .mk fun H1 e1 al Q q =>
  ⟨_, pe_un un_neg wE.pe, ha.run H1 e1 al _ fun x H2 x2 rx => by
    cases rx
    exact ⟨i, rfl, q _ H2 x2 (.int _)⟩⟩
theorem pd_mulW {i j : Int} (ha : PD X M a σ H (.int i)) (hb : PD X M b σ H (.int j)) (hc : CMulW i j) : PD X M (.BinOp a .Mult b pos) σ H (.int (i * j)) := pd_binR op_mulW (rd_I hc) ha hb
theorem pd_div {i j : Int} (ha : PD X M a σ H (.int i)) (hb : PD X M b σ H (.int j)) (hc : CDivW i j) : PD X M (.BinOp a .FloorDiv b pos) σ H (.int (i / j)) := pd_binR op_fdivW (rd_I hc) ha hb
theorem pd_mod {i j : Int} (ha : PD X M a σ H (.int i)) (hb : PD X M b σ H (.int j)) (hc : 0 < j) : PD X M (.BinOp a .Mod b pos) σ H (.int (i % j)) := pd_binR op_mod (rd_I (C := fun _ j => 0 < j) hc) ha hb
theorem pd_pow {i j : Int} (ha : PD X M a σ H (.int i)) (hb : PD X M b σ H (.int j)) (hc : CPow i j) : PD X M (.BinOp a .Pow b pos) σ H (.int (i ^ j.toNat)) := pd_binR op_pow (rd_I hc) ha hb

/-! ### built-ins, by values -/
def RDn (X : Cx) (M : Addr → Prop) (r : List V → Hp → VK → Prop) (ds : List PyData) (d : PyData) : Prop :=
  ∀ vs H1, RpAll X.K M H1 vs ds → Alive M H1 → ∀ Q : VK, (∀ v H2, Evl.Ex H1 H2 → Rp X.K M H2 v d → Q v H2) → r vs H1 Q
def RFn (X : Cx) (M : Addr → Prop) (r : List V → Hp → VK → Prop) (ds es : List PyData) : Prop :=
  ∀ vs H1, RpAll X.K M H1 vs ds → Alive M H1 → ∀ Q : VK, (∀ p ws H2, H1 p = none → Evl.Ex H1 H2 → H2 p = some (.lst ws) → RpAll X.K M H2 ws es → Q (.ref p) H2) → r vs H1 Q
theorem pd_callB {id : String} {x : Str} {p : Pos} {r : List V → Hp → VK → Prop} (hc : CallR X (.builtin id) r) (hg : Gl X x) (hm : X.mg x = none) (hv : bootBuiltins x = some (.builtin id)) (h : AD X M (e :: es) σ H ds) (hr : RDn X M r ds d)
    (hn : x ≠ "__name__" := by decide) (hdb : (x == ("__debug__" : Str)) = false := by decide) (he : starEach (e :: es) X.env = (false, eval e X.env) :: starEach es X.env := by rfl) (hpl : (backTo pos (starEach es X.env)).any (·.1) = false := by rfl) :
    PD X M (.Call (.Name x p) (e :: es) [] pos) σ H d := .mk fun H1 e1 al Q q =>
  ⟨_, pe_callB hc hg hm hv wA.pa hn hdb he hpl, h.run H1 e1 al _ fun vs H2 x2 rs => hr vs H2 rs (al.mono x2) Q fun v H3 x3 rv => q v H3 (x2.trans x3) rv⟩
theorem pd_callTy {T : String} {x : Str} {p : Pos} {r : List V → Hp → VK → Prop} (hc : CallR X (.type T) r) (hg : Gl X x) (hm : X.mg x = none) (hv : bootBuiltins x = some (.type T)) (h : AD X M (e :: es) σ H ds) (hr : RDn X M r ds d)
    (hn : x ≠ "__name__" := by decide) (hdb : (x == ("__debug__" : Str)) = false := by decide) (he : starEach (e :: es) X.env = (false, eval e X.env) :: starEach es X.env := by rfl) (hpl : (backTo pos (starEach es X.env)).any (·.1) = false := by rfl) :
    PD X M (.Call (.Name x p) (e :: es) [] pos) σ H d := .mk fun H1 e1 al Q q =>
  ⟨_, pe_callTy hc hg hm hv wA.pa hn hdb he hpl, h.run H1 e1 al _ fun vs H2 x2 rs => hr vs H2 rs (al.mono x2) Q fun v H3 x3 rv => q v H3 (x2.trans x3) rv⟩
theorem fd_callTy {T : String} {x : Str} {p : Pos} {r : List V → Hp → VK → Prop} {fs : List PyData} (hc : CallR X (.type T) r) (hg : Gl X x) (hm : X.mg x = none) (hv : bootBuiltins x = some (.type T)) (h : AD X M (e :: es) σ H ds) (hr : RFn X M r ds fs)
    (hn : x ≠ "__name__" := by decide) (hdb : (x == ("__debug__" : Str)) = false := by decide) (he : starEach (e :: es) X.env = (false, eval e X.env) :: starEach es X.env := by rfl) (hpl : (backTo pos (starEach es X.env)).any (·.1) = false := by rfl) :
    FD X M (.Call (.Name x p) (e :: es) [] pos) σ H fs := .mk fun H1 e1 al Q q =>
  ⟨_, pe_callTy hc hg hm hv wA.pa hn hdb he hpl, h.run H1 e1 al _ fun vs H2 x2 rs => hr vs H2 rs (al.mono x2) Q fun p ws H3 hp x3 h3 rv => q p ws H3 (Evl.fresh_back x2 hp) (x2.trans x3) h3 rv⟩
theorem fd_callB {id : String} {x : Str} {p : Pos} {r : List V → Hp → VK → Prop} {fs : List PyData} (hc : CallR X (.builtin id) r) (hg : Gl X x) (hm : X.mg x = none) (hv : bootBuiltins x = some (.builtin id)) (h : AD X M (e :: es) σ H ds) (hr : RFn X M r ds fs)
    (hn : x ≠ "__name__" := by decide) (hdb : (x == ("__debug__" : Str)) = false := by decide) (he : starEach (e :: es) X.env = (false, eval e X.env) :: starEach es X.env := by rfl) (hpl : (backTo pos (starEach es X.env)).any (·.1) = false := by rfl) :
    FD X M (.Call (.Name x p) (e :: es) [] pos) σ H fs := .mk fun H1 e1 al Q q =>
  ⟨_, pe_callB hc hg hm hv wA.pa hn hdb he hpl, h.run H1 e1 al _ fun vs H2 x2 rs => hr vs H2 rs (al.mono x2) Q fun p ws H3 hp x3 h3 rv => q p ws H3 (Evl.fresh_back x2 hp) (x2.trans x3) h3 rv⟩
theorem rpa1 {vs : List V} {K : PySem.W.Frag} (r : RpAll K M H vs [d]) : ∃ v, vs = [v] ∧ Rp K M H v d := by
  obtain ⟨⟩ | ⟨r1, r⟩ := r
  obtain ⟨⟩ := r
  exact ⟨_, rfl, r1⟩
theorem rpa2 {vs : List V} {K : PySem.W.Frag} (r : RpAll K M H vs [da, db]) : ∃ v w, vs = [v, w] ∧ Rp K M H v da ∧ Rp K M H w db := by
  obtain ⟨⟩ | ⟨r1, r⟩ := r
  obtain ⟨v, rfl, r2⟩ := rpa1 r
  exact ⟨_, _, rfl, r1, r2⟩
/-- int(n), int(True) -/
theorem rn_int {i : Int} : RDn X M (fun xs H Q => (∃ i, xs = [.int i] ∧ Q (.int i) H) ∨ ∃ k, xs = [.bl k] ∧ Q (.int (if k then 1 else 0)) H) [.int i] (.int i) := fun vs H1 r _ Q q => by
  obtain ⟨v, rfl, r1⟩ := rpa1 r
  cases r1
  exact .inl ⟨i, rfl, q _ H1 (Evl.Ex.refl H1) (.int _)⟩
theorem rn_intB {k : Bool} : RDn X M (fun xs H Q => (∃ i, xs = [.int i] ∧ Q (.int i) H) ∨ ∃ k, xs = [.bl k] ∧ Q (.int (if k then 1 else 0)) H) [.bool k] (.int (if k then 1 else 0)) := fun vs H1 r _ Q q => by
  obtain ⟨v, rfl, r1⟩ := rpa1 r
  cases r1
  exact .inr ⟨k, rfl, q _ H1 (Evl.Ex.refl H1) (.int _)⟩
theorem rn_abs {i : Int} : RDn X M (fun xs H Q => ∃ i, xs = [.int i] ∧ Q (.int (if i < 0 then -i else i)) H) [.int i] (.int (if i < 0 then -i else i)) := fun vs H1 r _ Q q => by
  obtain ⟨v, rfl, r1⟩ := rpa1 r
  cases r1
  exact ⟨i, rfl, q _ H1 (Evl.Ex.refl H1) (.int _)⟩
theorem rn_max2 {i j : Int} : RDn X M (fun xs H Q => ∃ i j, xs = [.int i, .int j] ∧ Q (.int (if j > i then j else i)) H) [.int i, .int j] (.int (if j > i then j else i)) := fun vs H1 r _ Q q => by
  obtain ⟨v, w, rfl, r1, r2⟩ := rpa2 r
  cases r1
  cases r2
  exact ⟨i, j, rfl, q _ H1 (Evl.Ex.refl H1) (.int _)⟩
theorem rn_min2 {i j : Int} : RDn X M (fun xs H Q => ∃ i j, xs = [.int i, .int j] ∧ Q (.int (if j < i then j else i)) H) [.int i, .int j] (.int (if j < i then j else i)) := fun vs H1 r _ Q q => by
  obtain ⟨v, w, rfl, r1, r2⟩ := rpa2 r
  cases r1
  cases r2
  exact ⟨i, j, rfl, q _ H1 (Evl.Ex.refl H1) (.int _)⟩
/-- len -/
def lenD : PyData → Option Nat
  | .list ds => some ds.length
  | .tuple ds => some ds.length
  | .str z => if z.length ≤ sizeLine then some z.length else none
  | _ => none
theorem rn_len {n : Nat} (h : lenD d = some n) : RDn X M (fun xs H Q => ∃ x n, xs = [x] ∧ LenV X.K x H n ∧ Q (.int n) H) [d] (.int n) := fun vs H1 r _ Q q => by
  obtain ⟨v, rfl, r1⟩ := rpa1 r
  have fin := q (.int n) H1 (Evl.Ex.refl H1) (.int _)
  cases r1 with
  | lst m hs rs =>
    cases h
    exact ⟨_, _, rfl, .inl ⟨_, .inl hs, rs.length.symm⟩, fin⟩
  | tup m hs rs =>
    cases h
    exact ⟨_, _, rfl, .inr ⟨_, .inl hs, rs.length.symm⟩, fin⟩
  | str z =>
    simp only [lenD] at h
    split at h
    · rename_i hz
      cases h
      exact ⟨_, _, rfl, ⟨hz, rfl⟩, fin⟩
    · cases h
  | _ => cases h
/-- list(xs), tuple(xs) -/
def itemsD : PyData → Option (List PyData)
  | .list ds => some ds
  | .tuple ds => some ds
  | _ => none
theorem rf_list (h : itemsD d = some ds) : RFn X M (fun xs H Q => ∃ p ys, xs = [.ref p] ∧ (SqL X.K H p ys ∨ SqT X.K H p ys) ∧ ∀ l, H l = none → Q (.ref l) (upd H l (.lst ys))) [d] ds := fun vs H1 r al Q q => by
  obtain ⟨v, rfl, r1⟩ := rpa1 r
  cases r1 with
  | lst m hs rs =>
    cases h
    exact ⟨_, _, rfl, .inl (.inl hs), fun l hl => q l _ _ hl (Evl.Ex.new hl) upd_same (rs.mono (fun _ z => z) (.of (Evl.Ex.new hl)))⟩
  | tup m hs rs =>
    cases h
    exact ⟨_, _, rfl, .inr (.inl hs), fun l hl => q l _ _ hl (Evl.Ex.new hl) upd_same (rs.mono (fun _ z => z) (.of (Evl.Ex.new hl)))⟩
  | _ => cases h
theorem rn_tuple (h : itemsD d = some ds) : RDn X M (fun xs H Q => ∃ p ys, xs = [.ref p] ∧ ((SqL X.K H p ys ∧ ∀ l, H l = none → Q (.ref l) (upd H l (.tup ys))) ∨ (SqT X.K H p ys ∧ Q (.ref p) H))) [d] (.tuple ds) := fun vs H1 r al Q q => by
  obtain ⟨v, rfl, r1⟩ := rpa1 r
  cases r1 with
  | lst m hs rs =>
    cases h
    exact ⟨_, _, rfl, .inl ⟨.inl hs, fun l hl => q _ _ (Evl.Ex.new hl) (.newT (X := X) al hl rs)⟩⟩
  | tup m hs rs =>
    cases h
    exact ⟨_, _, rfl, .inr ⟨.inl hs, q _ H1 (Evl.Ex.refl H1) (.tup m hs rs)⟩⟩
  | _ => cases h

/-! ### slices of a list -/
theorem cutV_map (xs : List V) (lo hi : Option Int) : True := True.intro
def cutD (xs : List PyData) (lo hi : Option Int) : List PyData := (xs.drop (HT.sIx xs.length 0 lo)).take (HT.sIx xs.length xs.length hi - HT.sIx xs.length 0 lo)
theorem RpAll.take {K : PySem.W.Frag} : ∀ {vs : List V} {ds : List PyData} (n : Nat), RpAll K M H vs ds → RpAll K M H (vs.take n) (ds.take n)
  | _, _, 0, _ => .nil
  | _, _, n + 1, .nil => .nil
  | _, _, n + 1, .cons r rs => .cons r (RpAll.take n rs)
theorem RpAll.drop {K : PySem.W.Frag} : ∀ {vs : List V} {ds : List PyData} (n : Nat), RpAll K M H vs ds → RpAll K M H (vs.drop n) (ds.drop n)
  | _, _, 0, r => r
  | _, _, n + 1, .nil => .nil
  | _, _, n + 1, .cons r rs => RpAll.drop n rs
theorem RpAll.cut {K : PySem.W.Frag} {vs : List V} {ds : List PyData} (lo hi : Option Int) (r : RpAll K M H vs ds) : RpAll K M H (cutV vs lo hi) (cutD ds lo hi) := by
  unfold cutV cutD
  rw [r.length]
  exact (r.drop _).take _
/-- an optional part of a slice -/
structure OD (X : Cx) (M : Addr → Prop) (e : Option Expr) (σ : St) (H : Hp) (o : Option Int) : Prop where
  ex : ∃ t, PO X e t ∧ ∀ H1, ExM M H H1 → Alive M H1 → ∀ Q : Option Int → Hp → Prop, (∀ H2, Evl.Ex H1 H2 → Q o H2) → t σ H1 Q
theorem od_none : OD X M none σ H none := ⟨_, po_none, fun H1 _ _ Q q => q H1 (Evl.Ex.refl H1)⟩
theorem od_some {i : Int} (h : PD X M e σ H (.int i)) : OD X M (some e) σ H (some i) := ⟨_, po_some wE.pe, fun H1 e1 al Q q => h.run H1 e1 al _ fun x H2 x2 r => by
  cases r
  exact ⟨i, rfl, q H2 x2⟩⟩
theorem fd_slice {lo hi : Option Expr} {l u : Option Int} {p2 : Pos} (h : PD X M e σ H (.list ds)) (hl : OD X M lo σ H l) (hu : OD X M hi σ H u) : FD X M (.Subscript e (.Slice lo hi none p2) pos) σ H (cutD ds l u) := by
  obtain ⟨tl, pl, rl⟩ := hl.ex
  obtain ⟨tu, pu, ru⟩ := hu.ex
  refine .mk fun H1 e1 al Q q => ⟨_, pe_slice sl_list wE.pe pl pu, h.run H1 e1 al _ fun x H2 x2 r => ?_⟩
  refine rl H2 (e1.trans (.of x2)) (al.mono x2) _ fun H3 x3 => ru H3 ((e1.trans (.of x2)).trans (.of x3)) ((al.mono x2).mono x3) _ fun H4 x4 => ?_
  have r4 := r.mono (fun _ z => z) (.of (x3.trans x4))
  cases r4 with
  | lst m hs rs =>
    exact ⟨_, _, rfl, .inl hs, fun p hp => q p _ _ (Evl.fresh_back (x2.trans (x3.trans x4)) hp) ((x2.trans (x3.trans x4)).trans (Evl.Ex.new hp)) upd_same ((rs.cut l u).mono (fun _ z => z) (.of (Evl.Ex.new hp)))⟩

/-! ### list + list -/
def rCatR : R2 := fun x y H Q => ∃ l b xs zs, x = .ref l ∧ y = .ref b ∧ Rd H l (.lst xs) ∧ Rd H b (.lst zs) ∧ xs.length + zs.length ≤ sizeLine ∧ ∀ p, H p = none → Q (.ref p) (upd H p (.lst (xs ++ zs)))
theorem op_catR : OpR X (binaryOp .Add) rCatR := by
  intro pins s σ H x y v u Q I rx ry h
  obtain ⟨l, b, xs, zs, rfl, rfl, hH, hB, hz, q⟩ := h
  cases rx
  cases ry
  obtain ⟨z, its, n, r, e⟩ := hH.ok I.hok
  obtain ⟨z2, its2, n2, r2, e2⟩ := hB.ok I.hok
  have hl := r.length
  have hl2 := r2.length
  refine PySem.P.add_list e e2 ?_ (by rw [List.size_toArray, List.size_toArray]; omega)
  have ea : its.toArray ++ its2.toArray = (its ++ its2).toArray := by simp
  rw [ea]
  exact ⟨.ref _, _, I.lnew (t' := s.toks) (r.append r2) (by rw [List.length_append]; omega), rfl, q _ I.fresh⟩
theorem fd_cat {es fs : List PyData} (ha : PD X M a σ H (.list es)) (hb : PD X M b σ H (.list fs)) (hl : es.length + fs.length ≤ 100000) : FD X M (.BinOp a .Add b pos) σ H (es ++ fs) := .mk fun H1 e1 al Q q =>
  ⟨_, pe_op op_catR wE.pe wE.pe, ha.run H1 e1 al _ fun x H2 x2 rx => hb.run H2 (e1.trans (.of x2)) (al.mono x2) _ fun y H3 x3 ry => by
    have rx' := rx.mono (fun _ z => z) (.of x3)
    cases rx' with
    | lst m1 h1 r1 =>
      cases ry with
      | lst m2 h2 r2 =>
        exact ⟨_, _, _, _, rfl, rfl, h1, h2, by rw [r1.length, r2.length]; exact Evl.sz_of hl, fun p hp => q p _ _ (Evl.fresh_back (x2.trans x3) hp) ((x2.trans x3).trans (Evl.Ex.new hp)) upd_same
          ((r1.append r2).mono (fun _ z => z) (.of (Evl.Ex.new hp)))⟩⟩
end
end GV

namespace GV
open PySem PySem.Spec PyProof.Rows L2

/-! ### what is walked -/
/-- from H0 on the iterator gives these data, one after another -/
structure Wk (K : PySem.W.Frag) (M : Addr → Prop) (J : It) (H0 : Hp) (ds : List PyData) : Prop where
  go : ∀ M' i H, (∀ a, M' a → M a ∨ H0 a = none) → ExM M' H0 H → i < ds.length → J.go i H
  stop : ∀ M' H, (∀ a, M' a → M a ∨ H0 a = none) → ExM M' H0 H → J.stop ds.length H
  yld : ∀ M' i H x H', (∀ a, M' a → M a ∨ H0 a = none) → ExM M' H0 H → Alive M' H → J.yld i H x H' → Evl.Ex H H' ∧ ∀ d, ds[i]? = some d → Rp K M' H' x d
structure Src (X : Cx) (M : Addr → Prop) (tg iter : Expr) (σ : St) (H : Hp) (ds : List PyData) : Prop where
  ex : ∃ wi, PI X tg iter wi ∧ ∀ H1, ExM M H H1 → Alive M H1 → ∀ R, (∀ J H2, Evl.Ex H1 H2 → Wk X.K M J H2 ds → R J H2) → wi σ H1 R
section
variable {X : Cx} {K : PySem.W.Frag} {M : Addr → Prop} {σ : St} {H H' : Hp} {a b c e tg iter : Expr} {da db d : PyData} {pos : Pos} {es : List Expr} {ds : List PyData}
theorem rd_inj {a : Addr} {u w : HO} (h : Rd H a u) (h' : H a = some w ∨ ∃ o, H a = some (.frz o w)) (hf : ∀ o z, u ≠ .frz o z) (hf' : ∀ o z, w ≠ .frz o z) : u = w := by
  rcases h with h | ⟨o, h⟩ <;> rcases h' with h' | ⟨o', h'⟩ <;> rw [h] at h' <;> cases h'
  · rfl
  · exact absurd rfl (hf _ _)
  · exact absurd rfl (hf' _ _)
  · rfl
theorem wk_list {a : Addr} {xs : List V} (m : ¬ M a) (h : Rd H a (.lst xs)) (r : RpAll K M H xs ds) : Wk K M (Itl K a) H ds := by
  have nm : ∀ M' : Addr → Prop, (∀ a, M' a → M a ∨ H a = none) → ¬ M' a := fun M' hm z => (hm a z).elim m (Rd.there h)
  have at_ : ∀ (M' : Addr → Prop) (H' : Hp), (∀ a, M' a → M a ∨ H a = none) → ExM M' H H' → Rd H' a (.lst xs) := fun M' H' hm e => Rd.exM (M := M') h (nm M' hm) e
  refine ⟨fun M' i H' hm e hi => ?_, fun M' H' hm e => ?_, fun M' i H' x H'' hm e al y => ?_⟩
  · have hx : i < xs.length := by rw [r.length]; exact hi
    exact ⟨xs, xs[i], .inl (at_ M' H' hm e), List.getElem?_eq_getElem hx⟩
  · exact ⟨xs, .inl (at_ M' H' hm e), by rw [r.length]; exact Nat.le_refl _⟩
  · obtain ⟨rfl, y⟩ := y
    refine ⟨Evl.Ex.refl _, fun d hd => ?_⟩
    obtain ⟨v, hv, rv⟩ := r.get hd
    have q := y xs (.inl (at_ M' _ hm e))
    rw [hv] at q
    cases q
    exact (rv.wide hm).mono (fun _ z => z) e
theorem wk_tup {a : Addr} {xs : List V} (m : ¬ M a) (h : Rd H a (.tup xs)) (r : RpAll K M H xs ds) : Wk K M (Itt K a) H ds := by
  have nm : ∀ M' : Addr → Prop, (∀ a, M' a → M a ∨ H a = none) → ¬ M' a := fun M' hm z => (hm a z).elim m (Rd.there h)
  have at_ : ∀ (M' : Addr → Prop) (H' : Hp), (∀ a, M' a → M a ∨ H a = none) → ExM M' H H' → Rd H' a (.tup xs) := fun M' H' hm e => Rd.exT (M := M') h (nm M' hm) e
  refine ⟨fun M' i H' hm e hi => ?_, fun M' H' hm e => ?_, fun M' i H' x H'' hm e al y => ?_⟩
  · have hx : i < xs.length := by rw [r.length]; exact hi
    exact ⟨xs, xs[i], .inl (at_ M' H' hm e), List.getElem?_eq_getElem hx⟩
  · exact ⟨xs, .inl (at_ M' H' hm e), by rw [r.length]; exact Nat.le_refl _⟩
  · obtain ⟨rfl, y⟩ := y
    refine ⟨Evl.Ex.refl _, fun d hd => ?_⟩
    obtain ⟨v, hv, rv⟩ := r.get hd
    have q := y xs (.inl (at_ M' _ hm e))
    rw [hv] at q
    cases q
    exact (rv.wide hm).mono (fun _ z => z) e
theorem wk_range (lo : Int) (n : Nat) : Wk K M (Itr lo n) H ((List.range n).map fun i => PyData.int (lo + (i : Nat))) := by
  refine ⟨fun M' i H' hm e hi => ?_, fun M' H' hm e => ?_, fun M' i H' x H'' hm e al y => ?_⟩
  · rw [List.length_map, List.length_range] at hi
    exact hi
  · rw [List.length_map, List.length_range]
    exact Nat.le_refl _
  · obtain ⟨rfl, rfl⟩ := y
    refine ⟨Evl.Ex.refl _, fun d hd => ?_⟩
    rw [List.getElem?_map] at hd
    obtain ⟨j, hj, rfl⟩ := Option.map_eq_some_iff.mp hd
    obtain ⟨h1, h2⟩ := List.getElem?_eq_some_iff.mp hj
    rw [List.getElem_range] at h2
    subst h2
    exact .int _
def enumD (ds : List PyData) : List PyData := ds.zipIdx.map fun p => .tuple [.int (p.2 : Nat), p.1]
theorem enumD_get {i : Nat} {d : PyData} (h : (enumD ds)[i]? = some d) : ∃ e, ds[i]? = some e ∧ d = .tuple [.int (i : Nat), e] := by
  unfold enumD at h
  rw [List.getElem?_map] at h
  obtain ⟨p, hp, rfl⟩ := Option.map_eq_some_iff.mp h
  rw [List.getElem?_zipIdx] at hp
  obtain ⟨e, he, rfl⟩ := Option.map_eq_some_iff.mp hp
  exact ⟨e, he, by simp⟩
theorem enumD_length : (enumD ds).length = ds.length := by
  unfold enumD
  rw [List.length_map, List.length_zipIdx]
theorem wk_enum {a : Addr} {xs : List V} (m : ¬ M a) (h : Rd H a (.lst xs)) (r : RpAll K M H xs ds) : Wk K M (Ite K a) H (enumD ds) := by
  have nm : ∀ M' : Addr → Prop, (∀ a, M' a → M a ∨ H a = none) → ¬ M' a := fun M' hm z => (hm a z).elim m (Rd.there h)
  have at_ : ∀ (M' : Addr → Prop) (H' : Hp), (∀ a, M' a → M a ∨ H a = none) → ExM M' H H' → Rd H' a (.lst xs) := fun M' H' hm e => Rd.exM (M := M') h (nm M' hm) e
  refine ⟨fun M' i H' hm e hi => ?_, fun M' H' hm e => ?_, fun M' i H' x H'' hm e al y => ?_⟩
  · have hx : i < xs.length := by rw [r.length, ← enumD_length]; exact hi
    exact ⟨xs, xs[i], .inl (at_ M' H' hm e), List.getElem?_eq_getElem hx⟩
  · exact ⟨xs, .inl (at_ M' H' hm e), by rw [r.length, enumD_length]; exact Nat.le_refl _⟩
  · obtain ⟨T, z, rfl, hT, rfl, y⟩ := y
    refine ⟨Evl.Ex.new hT, fun d hd => ?_⟩
    obtain ⟨e', he, rfl⟩ := enumD_get hd
    obtain ⟨v, hv, rv⟩ := r.get he
    have q := y xs (.inl (at_ M' _ hm e))
    rw [hv] at q
    cases q
    exact .tup (al.fresh hT) (.inl upd_same) (.cons (.int _) (.cons (((rv.wide hm).mono (fun _ z => z) e).mono (fun _ z => z) (.of (Evl.Ex.new hT))) .nil))
theorem src_list (h : PD X M iter σ H (.list ds)) : Src X M tg iter σ H ds := ⟨_, pi_list wE.pe, fun H1 e1 al R q => h.run H1 e1 al _ fun v H2 x2 r => by
  cases r with
  | lst m hr rs => exact ⟨_, rfl, ⟨_, .inl hr⟩, q _ H2 x2 (wk_list m hr rs)⟩⟩
theorem src_tup (h : PD X M iter σ H (.tuple ds)) : Src X M tg iter σ H ds := ⟨_, pi_tup wE.pe, fun H1 e1 al R q => h.run H1 e1 al _ fun v H2 x2 r => by
  cases r with
  | tup m hr rs => exact ⟨_, rfl, ⟨_, .inl hr⟩, q _ H2 x2 (wk_tup m hr rs)⟩⟩
theorem src_enum {p tpos : Pos} {elts : List Expr} {kk : Nat} (hg : Gl X "enumerate") (hm : X.mg "enumerate" = none) (h : PD X M e σ H (.list ds)) (hs : starEach [e] X.env = [(false, eval e X.env)] := by rfl)
    (hs' : starEach (e :: []) X.env = (false, eval e X.env) :: starEach [] X.env := by rfl) : Src X M (.Tuple elts kk tpos) (.Call (.Name "enumerate" p) [e] [] pos) σ H (enumD ds) :=
  ⟨_, pi_enum hg hm wA.pa hs, fun H1 e1 al R q => (ad_cons h ad_nil hs').run H1 e1 al _ fun vs H2 x2 rs => by
    obtain ⟨v, rfl, r⟩ := rpa1 rs
    cases r with
    | lst m hr rr => exact ⟨_, _, rfl, .inl hr, q _ H2 x2 (wk_enum m hr rr)⟩⟩
theorem src_range1 {p : Pos} {j : Int} (hg : Gl X "range") (hm : X.mg "range" = none) (h : PD X M e σ H (.int j)) (h1 : -(2 ^ 62) ≤ j) (h2 : j < 2 ^ 62) (hs : starEach [e] X.env = [(false, eval e X.env)] := by rfl)
    (hs' : starEach (e :: []) X.env = (false, eval e X.env) :: starEach [] X.env := by rfl) : Src X M tg (.Call (.Name "range" p) [e] [] pos) σ H ((List.range j.toNat).map fun i => PyData.int (0 + (i : Nat))) :=
  ⟨_, pi_range1 hg hm wA.pa hs, fun H1 e1 al R q => (ad_cons h ad_nil hs').run H1 e1 al _ fun vs H2 x2 rs => by
    obtain ⟨v, rfl, r⟩ := rpa1 rs
    cases r
    exact ⟨j, rfl, h1, h2, q _ H2 x2 (wk_range 0 j.toNat)⟩⟩
theorem src_range2 {p : Pos} {a b : Expr} {i j : Int} (hg : Gl X "range") (hm : X.mg "range" = none) (ha : PD X M a σ H (.int i)) (hb : PD X M b σ H (.int j)) (h1 : -(2 ^ 62) ≤ i ∧ i < 2 ^ 62) (h2 : -(2 ^ 62) ≤ j ∧ j < 2 ^ 62)
    (hs : starEach [a, b] X.env = [(false, eval a X.env), (false, eval b X.env)] := by rfl) (hs2 : starEach [b] X.env = [(false, eval b X.env)] := by rfl)
    (hsa : starEach (a :: [b]) X.env = (false, eval a X.env) :: starEach [b] X.env := by rfl) (hsb : starEach (b :: []) X.env = (false, eval b X.env) :: starEach [] X.env := by rfl) :
    Src X M tg (.Call (.Name "range" p) [a, b] [] pos) σ H ((List.range (j - i).toNat).map fun k => PyData.int (i + (k : Nat))) :=
  ⟨_, pi_range2 hg hm wA.pa hs hs2, fun H1 e1 al R q => (ad_cons ha (ad_cons hb ad_nil hsb) hsa).run H1 e1 al _ fun vs H2 x2 rs => by
    obtain ⟨v, w, rfl, r1, r2⟩ := rpa2 rs
    cases r1
    cases r2
    exact ⟨i, j, rfl, ⟨h1.1, h1.2, h2.1, h2.2⟩, q _ H2 x2 (wk_range i (j - i).toNat)⟩⟩

/-! ### targets: a name, two names -/
inductive Tg where
  | one (i : Nat)
  | two (i j : Nat)
def Tg.g (K : PySem.W.Frag) : Tg → TG
  | .one i => gName i
  | .two i j => gTup K 2 (gCons (gName i) (gCons (gName j) gNil))
def Tg.Ok (K : PySem.W.Frag) (M : Addr → Prop) (H : Hp) (d : PyData) (σ : St) : Tg → St → Prop
  | .one i, σ' => ∃ v, Rp K M H v d ∧ σ' = σ.set i (some v)
  | .two i j, σ' => ∃ da db v w, d = .tuple [da, db] ∧ Rp K M H v da ∧ Rp K M H w db ∧ σ' = (σ.set i (some v)).set j (some w)
def Tg.Fits : Tg → PyData → Prop
  | .one _, _ => True
  | .two _ _, d => ∃ da db, d = .tuple [da, db]
theorem Tg.run {t : Tg} {v : V} {Q : St → Hp → Prop} (f : t.Fits d) (r : Rp K M H v d) (q : ∀ σ', t.Ok K M H d σ σ' → Q σ' H) : t.g K v σ H Q := by
  cases t with
  | one i => exact q _ ⟨v, r, rfl⟩
  | two i j =>
    obtain ⟨da, db, rfl⟩ := f
    cases r with
    | tup m h rs =>
      obtain ⟨v1, w1, rfl, r1, r2⟩ := rpa2 rs
      exact ⟨_, _, rfl, .inl h, rfl, v1, [w1], rfl, w1, [], rfl, rfl, q _ ⟨da, db, v1, w1, rfl, r1, r2, rfl⟩⟩

/-! ### for -/
theorem s_for {t : Tg} {body : List Stmt} {D : Ends} (hp : PassesOwn (model X.prog X.w) X.A X.env X.xe) (hc : X.calm = true) (hi : Src X M tg iter σ H ds) (hg : PG X tg (t.g X.K)) (al : Alive M H) (J : Hp → Nat → St → Hp → Prop)
    (h0 : ∀ H1, Evl.Ex H H1 → J H1 0 σ H1) (hk : ∀ H1 i σ' H', Evl.Ex H H1 → J H1 i σ' H' → ExM M H1 H' ∧ Alive M H') (hf : ∀ d ∈ ds, t.Fits d)
    (ht : ∀ H1 i d σ' H' H2 σ2, Evl.Ex H H1 → ds[i]? = some d → J H1 i σ' H' → Evl.Ex H' H2 → t.Ok X.K M H2 d σ' σ2 → wB X body { D with nx := J H1 (i + 1), ct := J H1 (i + 1), bk := D.nx } σ2 H2)
    (hd : ∀ H1 σ' H', Evl.Ex H H1 → J H1 ds.length σ' H' → D.nx σ' H') (hs : ∀ x, foldedSetIterable iter X.env x = pure x := by intro _; rfl) : wS X (.For tg iter body [] pos) D σ H := by
  obtain ⟨wi, pi, run⟩ := hi.ex
  refine ⟨_, ps_for hp hc pi hg wB.ps hs, run H (ExM.refl H) al _ fun It H1 x1 wk => ?_⟩
  refine ⟨fun i m σ' H' => m = ds.length - i ∧ i ≤ ds.length ∧ J H1 i σ' H', ⟨ds.length, rfl, Nat.zero_le _, h0 H1 x1⟩, ?_⟩
  rintro i m σ' H' ⟨rfl, hi', j⟩
  obtain ⟨e, al'⟩ := hk H1 i σ' H' x1 j
  by_cases hlt : i < ds.length
  · refine .inr ⟨wk.go M i H' (fun _ z => .inl z) e hlt, J H1 (i + 1), fun σ2 H2 j2 => ⟨ds.length - (i + 1), by omega, rfl, hlt, j2⟩, fun x H2 y => ?_⟩
    obtain ⟨x2, r⟩ := wk.yld M i H' x H2 (fun _ z => .inl z) e al' y
    have hd' : ds[i]? = some ds[i] := List.getElem?_eq_getElem hlt
    exact Tg.run (hf _ (List.getElem_mem hlt)) (r _ hd') fun σ2 ok => ht H1 i _ σ' H' H2 σ2 x1 hd' j x2 ok
  · have e2 : i = ds.length := by omega
    subst e2
    exact .inl ⟨wk.stop M H' (fun _ z => .inl z) e, hd H1 σ' H' x1 j⟩

/-! ### [elt for target in iter if ..] -/
def wTs (X : Cx) (ifs : List Expr) : TT := fun σ H Q => ∃ t, PTs X ifs t ∧ t σ H Q
theorem wTs.pts {ifs : List Expr} : PTs X ifs (wTs X ifs) := ⟨fun pins s σ H Q I ⟨_, h, q⟩ => h.run pins s σ H Q I q⟩
/-- the tests' answer -/
structure TsD (X : Cx) (M : Addr → Prop) (ifs : List Expr) (σ : St) (H : Hp) (k : Bool) : Prop where
  run : ∀ H1, ExM M H H1 → Alive M H1 → ∀ Q : Bool → Hp → Prop, (∀ H2, Evl.Ex H1 H2 → Q k H2) → wTs X ifs σ H1 Q
theorem tsd_nil : TsD X M [] σ H true := ⟨fun H1 _ _ Q q => ⟨_, pts_nil, q H1 (Evl.Ex.refl H1)⟩⟩
theorem tsd_one {k : Bool} (h : TD X M c σ H k) : TsD X M [c] σ H k := ⟨fun H1 e1 al Q q => ⟨_, pts_one wT.pt, h.run H1 e1 al Q q⟩⟩
abbrev Cx.lc (X : Cx) (s : Shared) (H : Hp) (scope : Scope) (C : Addr) (cl : List (Str × Addr)) (fp : List Addr) : Cx := X.blk s H scope (compEnvC scope cl C X.env) fp
theorem lc_core {t : Tg} {elt : Expr} {ifs : List Expr} {scope : Scope} {own : List (Str × Nat)} (hc : X.calm = true) (hN : X.N.Nodup) (hi : Src X M tg iter σ H ds) (ok : BlkOk X.N X.env.scope scope own)
    (hg : ∀ s H C cl fp, PG (Cx.lc X s H scope C cl fp) tg (t.g X.K)) (hf : ∀ d ∈ ds, t.Fits d) (hw : ∀ M H d σ', t.Ok X.K M H d (wipe σ (own.map (·.2))) σ' → wipe σ' (own.map (·.2)) = wipe σ (own.map (·.2)))
    (p : PyData → Bool) (f : PyData → PyData) (hl : ds.length ≤ 100000)
    (body : ∀ s0 H0 C cl fp M' H' d σ', (∀ a, M a → M' a) → (∀ v e, Rp X.K M H v e → Rp X.K M' H' v e) → d ∈ ds → t.Ok X.K M' H' d (wipe σ (own.map (·.2))) σ' →
      TsD (Cx.lc X s0 H0 scope C cl fp) M' ifs σ' H' (p d) ∧ (p d = true → PD (Cx.lc X s0 H0 scope C cl fp) M' elt σ' H' (f d))) :
    ∃ wi, PI X tg iter wi ∧ ∀ H1, ExM M H H1 → Alive M H1 → ∀ Q : VK, (∀ l ws H2, H1 l = none → Evl.Ex H1 H2 → H2 l = some (.lst ws) → RpAll X.K M H2 ws ((ds.filter p).map f) → Q (.ref l) H2) →
      tLc wi (t.g X.K) (fun σ H Q => ∀ s0 H0 C cl fp, wTs (Cx.lc X s0 H0 scope C cl fp) ifs σ H Q) (fun σ H Q => ∀ s0 H0 C cl fp, wE (Cx.lc X s0 H0 scope C cl fp) elt σ H Q) (own.map (·.2)) σ H1 Q := by
  obtain ⟨wi, pi, run⟩ := hi.ex
  refine ⟨wi, pi, fun H1 e1 al Q q => ?_⟩
  refine run H1 e1 al _ fun It Hs xs wk D hD => ?_
  have alS := al.mono xs
  -- D is mutable meanwhile
  let M' : Addr → Prop := fun a => M a ∨ a = D
  have hm : ∀ a, M' a → M a ∨ Hs a = none := fun a z => z.elim .inl fun e => .inr (by rw [e]; exact hD)
  have al2 : ∀ H', Evl.Ex Hs H' → (∃ acc, H' D = some (.lst acc)) → Alive M' H' := fun H' e ⟨acc, h⟩ a z => by
    rcases z with z | z
    · exact (alS.mono e) a z
    · subst z
      exact ⟨_, h⟩
  refine ⟨fun i m H' => m = ds.length - i ∧ i ≤ ds.length ∧ Evl.Ex Hs H' ∧ ∃ acc, H' D = some (.lst acc) ∧ acc.length ≤ i ∧ RpAll X.K M' H' acc (((ds.take i).filter p).map f), ⟨ds.length, rfl, Nat.zero_le _, Evl.Ex.new hD, [], upd_same, Nat.le_refl _, by simpa using RpAll.nil⟩, ?_⟩
  rintro i m H' ⟨rfl, hi', x, acc, hacc, hlen, racc⟩
  have eM : ExM M' Hs H' := .of x
  have al' := al2 H' x ⟨acc, hacc⟩
  by_cases hlt : i < ds.length
  · refine .inr ⟨wk.go M' i H' hm eM hlt, fun H2 => Evl.Ex Hs H2 ∧ ∃ acc, H2 D = some (.lst acc) ∧ acc.length ≤ i + 1 ∧ RpAll X.K M' H2 acc (((ds.take (i + 1)).filter p).map f), fun H2 ⟨a1, a2⟩ => ⟨ds.length - (i + 1), by omega, rfl, hlt, a1, a2⟩, fun v H2 y => ?_⟩
    obtain ⟨x2, r⟩ := wk.yld M' i H' v H2 hm eM al' y
    have hd' : ds[i]? = some ds[i] := List.getElem?_eq_getElem hlt
    have hmem := List.getElem_mem hlt
    have hacc2 : H2 D = some (.lst acc) := x2 _ _ hacc
    have lift : ∀ v e, Rp X.K M H v e → Rp X.K M' H2 v e := fun v e rv => ((rv.mono (fun _ z => z) (e1.trans (.of xs))).wide hm).mono (fun _ z => z) (.of (x.trans x2))
    have al3 := al2 H2 (x.trans x2) ⟨acc, hacc2⟩
    refine Tg.run (hf _ hmem) (r _ hd') fun σ2 okk => ⟨hw _ _ _ _ okk, ?_⟩
    have all := fun s0 H0 C cl fp => body s0 H0 C cl fp M' H2 ds[i] σ2 (fun _ z => .inl z) lift hmem okk
    -- the test
    have tk : (ds.take (i + 1)).filter p = (ds.take i).filter p ++ (if p ds[i] = true then [ds[i]] else []) := by
      rw [List.take_add_one, hd', List.filter_append]
      simp only [Option.toList_some, List.filter_cons, List.filter_nil]
    have fin : ∀ b, b = p ds[i] → ∀ H3, Evl.Ex H2 H3 → (if b = true then (∀ s0 H0 C cl fp, wE (Cx.lc X s0 H0 scope C cl fp) elt σ2 H3 fun y H4 => ∃ acc, H4 D = some (.lst acc) ∧ acc.length < sizeLine ∧
        (Evl.Ex Hs (upd H4 D (.lst (acc ++ [y]))) ∧ ∃ acc', (upd H4 D (.lst (acc ++ [y]))) D = some (.lst acc') ∧ acc'.length ≤ i + 1 ∧ RpAll X.K M' (upd H4 D (.lst (acc ++ [y]))) acc' (((ds.take (i + 1)).filter p).map f)))
        else (Evl.Ex Hs H3 ∧ ∃ acc, H3 D = some (.lst acc) ∧ acc.length ≤ i + 1 ∧ RpAll X.K M' H3 acc (((ds.take (i + 1)).filter p).map f))) := by
      intro b hb H3 x3
      have hacc3 := x3 _ _ hacc2
      cases b with
      | true =>
        rw [if_pos rfl]
        intro s0 H0 C cl fp
        refine ((all s0 H0 C cl fp).2 hb.symm).run H3 (.of x3) (al3.mono x3) _ fun y H4 x4 ry => ?_
        have x5 : Evl.Ex Hs H4 := ((x.trans x2).trans x3).trans x4
        refine ⟨acc, x4 _ _ hacc3, ?_, Evl.Ex.mut x5 hD, _, upd_same, ?_, ?_⟩
        · exact Nat.lt_of_lt_of_le (Nat.lt_of_le_of_lt hlen hlt) (Evl.sz_of hl)
        · rw [List.length_append, List.length_singleton]
          omega
        · rw [tk, if_pos hb.symm, List.map_append]
          have eD : ExM M' H4 (upd H4 D (.lst (acc ++ [y]))) := fun a o h nm _ => by
            rw [upd_ne (fun e => nm (.inr e))]
            exact h
          exact (racc.mono (fun _ z => z) (.of ((x2.trans x3).trans x4))).append (.cons ry .nil) |>.mono (fun _ z => z) eD
      | false =>
        rw [if_neg Bool.false_ne_true]
        refine ⟨(x.trans x2).trans x3, acc, hacc3, by omega, ?_⟩
        rw [tk, if_neg (by rw [← hb]; exact Bool.false_ne_true), List.append_nil]
        exact racc.mono (fun _ z => z) (.of (x2.trans x3))
    intro s0 H0 C cl fp
    exact (all s0 H0 C cl fp).1.run H2 (ExM.refl H2) al3 _ fun H3 x3 => fin _ rfl H3 x3
  · have e2 : i = ds.length := by omega
    subst e2
    refine .inl ⟨wk.stop M' H' hm eM, q D acc H' (Evl.fresh_back xs hD) (xs.trans x) hacc ?_⟩
    rw [List.take_length] at racc
    exact racc.mono (fun _ z => .inl z) (ExM.refl _)
theorem fd_lc {t : Tg} {elt : Expr} {ifs : List Expr} {scope : Scope} {own : List (Str × Nat)} (hc : X.calm = true) (hN : X.N.Nodup) (hi : Src X M tg iter σ H ds) (ok : BlkOk X.N X.env.scope scope own)
    (hg : ∀ s H C cl fp, PG (Cx.lc X s H scope C cl fp) tg (t.g X.K)) (hf : ∀ d ∈ ds, t.Fits d) (hw : ∀ M H d σ', t.Ok X.K M H d (wipe σ (own.map (·.2))) σ' → wipe σ' (own.map (·.2)) = wipe σ (own.map (·.2)))
    (p : PyData → Bool) (f : PyData → PyData) (hl : ds.length ≤ 100000)
    (body : ∀ s0 H0 C cl fp M' H' d σ', (∀ a, M a → M' a) → (∀ v e, Rp X.K M H v e → Rp X.K M' H' v e) → d ∈ ds → t.Ok X.K M' H' d (wipe σ (own.map (·.2))) σ' →
      TsD (Cx.lc X s0 H0 scope C cl fp) M' ifs σ' H' (p d) ∧ (p d = true → PD (Cx.lc X s0 H0 scope C cl fp) M' elt σ' H' (f d)))
    (hs : ∀ x, foldedSetIterable iter X.env x = pure x := by intro _; rfl) : FD X M (.ListComp elt [⟨tg, iter, ifs, 0⟩] scope pos) σ H ((ds.filter p).map f) := by
  obtain ⟨wi, pi, run⟩ := lc_core hc hN hi ok hg hf hw p f hl body
  exact .mk fun H1 e1 al Q q => ⟨_, pe_lc hc hN pi ok hg (fun s0 H0 C cl fp => ⟨fun pins s σ H Q I h => wTs.pts.run pins s σ H Q I (h s0 H0 C cl fp)⟩) (fun s0 H0 C cl fp => ⟨fun pins s σ H Q I h => wE.pe.run pins s σ H Q I (h s0 H0 C cl fp)⟩) hs, run H1 e1 al Q q⟩
/-- y = [elt for target in iter if ..], where y stands in the block alone -/
theorem s_setLc {t : Tg} {elt : Expr} {ifs : List Expr} {scope : Scope} {own : List (Str × Nat)} (hc : X.calm = true) (hN : X.N.Nodup) (hi : Src X M tg iter σ H ds) (ok : BlkOk X.N X.env.scope scope own)
    (hg : ∀ s H C cl fp, PG (Cx.lc X s H scope C cl fp) tg (t.g X.K)) (hf : ∀ d ∈ ds, t.Fits d) (hw : ∀ M H d σ', t.Ok X.K M H d (wipe σ (own.map (·.2))) σ' → wipe σ' (own.map (·.2)) = wipe σ (own.map (·.2)))
    (p : PyData → Bool) (f : PyData → PyData) (hl : ds.length ≤ 100000)
    (body : ∀ s0 H0 C cl fp M' H' d σ', (∀ a, M a → M' a) → (∀ v e, Rp X.K M H v e → Rp X.K M' H' v e) → d ∈ ds → t.Ok X.K M' H' d (wipe σ (own.map (·.2))) σ' →
      TsD (Cx.lc X s0 H0 scope C cl fp) M' ifs σ' H' (p d) ∧ (p d = true → PD (Cx.lc X s0 H0 scope C cl fp) M' elt σ' H' (f d)))
    {i : Nat} {y : Str} {py spos : Pos} {D : Ends} (al : Alive M H) (hy : X.N[i]? = some y) (hyl : X.env.scope.names.lookup y = some .local) (hsw : swapsWith (.ListComp elt [⟨tg, iter, ifs, 0⟩] scope pos) (some (.Name y py)) spos.line X.env = pure true) (q : ∀ l ws H2, H l = none → Evl.Ex H H2 → H2 l = some (.lst ws) → RpAll X.K M H2 ws ((ds.filter p).map f) → D.nx (σ.set i (some (.ref l))) H2)
    (hs : ∀ x, foldedSetIterable iter X.env x = pure x := by intro _; rfl) : wS X (.Assign [.Name y py] (.ListComp elt [⟨tg, iter, ifs, 0⟩] scope pos) spos) D σ H := by
  obtain ⟨wi, pi, run⟩ := lc_core hc hN hi ok hg hf hw p f hl body
  exact ⟨_, ps_setLc hc hN hy hyl hsw pi ok hg (fun s0 H0 C cl fp => ⟨fun pins s σ H Q I h => wTs.pts.run pins s σ H Q I (h s0 H0 C cl fp)⟩) (fun s0 H0 C cl fp => ⟨fun pins s σ H Q I h => wE.pe.run pins s σ H Q I (h s0 H0 C cl fp)⟩) hs, run H (ExM.refl H) al _ q⟩
end
end GV

namespace GV
open PySem PySem.Spec PyProof.Rows L2
/-- the names of the built-ins that the text asks for are the built-ins' own -/
structure NoB (mg : Str → Option Value) : Prop where
  isinstance : mg "isinstance" = none
  int : mg "int" = none
  bool : mg "bool" = none
  str : mg "str" = none
  list : mg "list" = none
  tuple : mg "tuple" = none
  set : mg "set" = none
  len : mg "len" = none
  range : mg "range" = none
  enumerate : mg "enumerate" = none
  abs : mg "abs" = none
  min : mg "min" = none
  max : mg "max" = none
  sum : mg "sum" = none
  any : mg "any" = none
  all : mg "all" = none
  sorted : mg "sorted" = none
section
variable {X : Cx} {M : Addr → Prop} {σ : St} {H H' : Hp} {a b c e : Expr} {da db d : PyData} {pos : Pos} {es : List Expr} {ds : List PyData}

/-! ### isinstance of data, by one built-in class -/
def tyD : PyData → String
  | .none => "NoneType"
  | .bool _ => "bool"
  | .int _ => "int"
  | .str _ => "str"
  | .list _ => "list"
  | .tuple _ => "tuple"
  | .dict _ => "dict"
theorem Rp.tyX {K : PySem.W.Frag} {v : V} (r : Rp K M H v d) : TyX K H v (.type (tyD d)) := by
  cases r with
  | non => exact .base .non
  | bl b => exact .base (.bl b)
  | int i => exact .base (.int i)
  | str x => exact .base (.str x)
  | lst m h rs =>
    rcases h with h | ⟨o, h⟩
    · exact .base (.lst h)
    · exact .base (.frz h)
  | tup m h rs =>
    rcases h with h | ⟨o, h⟩
    · exact .base (.tup h)
    · exact .fTuple h
theorem pd_isi {T : String} {x : Str} {p p2 : Pos} {k : Bool} (hg : Gl X "isinstance") (hm : X.mg "isinstance" = none) (hgT : Gl X x) (hmT : X.mg x = none) (hv : bootBuiltins x = some (.type T)) (ha : PD X M a σ H d) (hk : kitB (tyD d) T = some k)
    (hn : x ≠ "__name__" := by decide) (hd : (x == ("__debug__" : Str)) = false := by decide)
    (h1 : starEach (a :: [.Name x p2]) X.env = (false, eval a X.env) :: starEach [.Name x p2] X.env := by rfl) (h2 : starEach (.Name x p2 :: []) X.env = (false, eval (.Name x p2) X.env) :: starEach [] X.env := by rfl)
    (hpl : (backTo pos (starEach [.Name x p2] X.env)).any (·.1) = false := by rfl) :
    PD X M (.Call (.Name "isinstance" p) [a, .Name x p2] [] pos) σ H (.bool k) := .mk fun H1 e1 al Q q =>
  ⟨_, pe_callB call_isi hg hm PyProof.Rows.boot_isinstance (pa_cons wE.pe (pa_cons (pe_bltn (v := .ty T) hgT hmT hv rfl hn hd) pa_nil h2) h1) (by decide) (by decide) h1 hpl, ha.run H1 e1 al _ fun v H2 x2 r =>
    ⟨v, .ty T, .type (tyD d), .type T, k, rfl, .ty T, r.tyX, kit_ty hk, q _ H2 x2 (.bl k)⟩⟩

/-! ### a chain of two comparisons of ints -/
theorem pd_leLe {i j k : Int} (ha : PD X M a σ H (.int i)) (hb : PD X M b σ H (.int j)) (hc : PD X M c σ H (.int k)) (h1 : lastMarks [.LtE, .LtE] [b, c] = false := by with_unfolding_all rfl) : PD X M (.Compare a [.LtE, .LtE] [b, c] pos) σ H (.bool (decide (i ≤ j) && decide (j ≤ k))) := .mk fun H1 e1 al Q q =>
  ⟨_, pe_chain op_le op_le wE.pe wE.pe wE.pe h1, ha.run H1 e1 al _ fun x H2 x2 rx => hb.run H2 (e1.trans (.of x2)) (al.mono x2) _ fun y H3 x3 ry => by
    cases rx
    cases ry
    refine ⟨i, j, rfl, rfl, _, rfl, ?_⟩
    by_cases h : i ≤ j
    · rw [if_pos (decide_eq_true h)]
      refine hc.run H3 ((e1.trans (.of x2)).trans (.of x3)) ((al.mono x2).mono x3) _ fun z H4 x4 rz => ?_
      cases rz
      refine ⟨j, k, rfl, rfl, q _ H4 ((x2.trans x3).trans x4) ?_⟩
      rw [decide_eq_true h]
      exact .bl _
    · rw [if_neg (by rw [decide_eq_false h]; exact Bool.false_ne_true)]
      refine q _ H3 (x2.trans x3) ?_
      rw [decide_eq_false h]
      exact .bl _⟩

/-! ### any, all, sum, min, max, in -/
theorem RpAll.of_bools {K : PySem.W.Frag} : ∀ {vs : List V} {bs : List Bool}, RpAll K M H vs (bs.map PyData.bool) → vs = bs.map V.bl
  | [], [], .nil => rfl
  | _ :: _, n :: r, .cons h hs => by
    cases h
    rw [RpAll.of_bools hs]
    rfl
theorem rn_any {bs : List Bool} : RDn X M (rAny X.K) [.list (bs.map PyData.bool)] (.bool (bs.any id)) := fun vs H1 r _ Q q => by
  obtain ⟨v, rfl, r1⟩ := rpa1 r
  cases r1 with
  | lst m hs rs => exact ⟨_, bs, rfl, .inl (by rw [← rs.of_bools]; exact hs), q _ H1 (Evl.Ex.refl H1) (.bl _)⟩
theorem rn_all {bs : List Bool} : RDn X M (rAll X.K) [.list (bs.map PyData.bool)] (.bool (bs.all id)) := fun vs H1 r _ Q q => by
  obtain ⟨v, rfl, r1⟩ := rpa1 r
  cases r1 with
  | lst m hs rs => exact ⟨_, bs, rfl, .inl (by rw [← rs.of_bools]; exact hs), q _ H1 (Evl.Ex.refl H1) (.bl _)⟩
theorem rn_sum {ns : List Int} : RDn X M (rSum X.K) [.list (ns.map PyData.int)] (.int ns.sum) := fun vs H1 r _ Q q => by
  obtain ⟨v, rfl, r1⟩ := rpa1 r
  cases r1 with
  | lst m hs rs => exact ⟨_, ns, rfl, .inl (by rw [← rs.of_ints]; exact hs), q _ H1 (Evl.Ex.refl H1) (.int _)⟩
theorem rn_max {ns : List Int} {m : Int} (hm : m ∈ ns) (hx : ∀ y ∈ ns, y ≤ m) : RDn X M (rMax X.K) [.list (ns.map PyData.int)] (.int m) := fun vs H1 r _ Q q => by
  obtain ⟨v, rfl, r1⟩ := rpa1 r
  cases r1 with
  | lst m' hs rs =>
    refine ⟨_, ns, rfl, .inl (by rw [← rs.of_ints]; exact hs), List.length_pos_of_mem hm, fun k hk hkx => q _ H1 (Evl.Ex.refl H1) ?_⟩
    rw [Int.le_antisymm (hx k hk) (hkx m hm)]
    exact .int _
theorem rn_min {ns : List Int} {m : Int} (hm : m ∈ ns) (hx : ∀ y ∈ ns, m ≤ y) : RDn X M (rMin X.K) [.list (ns.map PyData.int)] (.int m) := fun vs H1 r _ Q q => by
  obtain ⟨v, rfl, r1⟩ := rpa1 r
  cases r1 with
  | lst m' hs rs =>
    refine ⟨_, ns, rfl, .inl (by rw [← rs.of_ints]; exact hs), List.length_pos_of_mem hm, fun k hk hkx => q _ H1 (Evl.Ex.refl H1) ?_⟩
    rw [Int.le_antisymm (hkx m hm) (hx k hk)]
    exact .int _

/-! ### min(e, default=f) of a list of ints -/
def minOr (d : PyData) : List Int → PyData
  | [] => d
  | n :: r => .int (r.foldl min n)
theorem ints_alike (ns : List Int) : PySem.W.AlikeAll (ns.map PyData.int) := by
  refine ⟨fun x hx y hy => ?_, fun x hx => ?_⟩
  · obtain ⟨i, _, rfl⟩ := List.mem_map.mp hx
    obtain ⟨j, _, rfl⟩ := List.mem_map.mp hy
    rfl
  · obtain ⟨i, _, rfl⟩ := List.mem_map.mp hx
    exact fun z => by cases z
theorem ints_depth (ns : List Int) : PyData.depthAll (ns.map PyData.int) = 0 := by
  induction ns with
  | nil => rfl
  | cons n r ih =>
    show max (PyData.depth (.int n)) (PyData.depthAll (r.map PyData.int)) = 0
    rw [ih]
    rfl
theorem dpAll_ints {K : PySem.W.Frag} (ns : List Int) : DpAll K H (ns.map V.int) (ns.map PyData.int) := (RpAll.ints (M := fun _ => False) ns).dp
def rMinDf (K : PySem.W.Frag) : List V → List V → Hp → VK → Prop := fun xs zs H Q => ∃ (a : Addr) (ns : List Int) (z : V), xs = [.ref a] ∧ zs = [z] ∧ SqL K H a (ns.map V.int) ∧ (ns = [] → Q z H) ∧ (∀ n r, ns = n :: r → Q (.int (r.foldl min n)) H)
theorem cr_minDf (hc : X.calm = true) (hu : X.A.units + 2 < cLine) : CallRK X (.builtin "min") ["default"] (rMinDf X.K) := by
  intro pins s σ H xs zs us ws Q I rx rz h
  obtain ⟨a, ns, z, rfl, rfl, hs, q0, q1⟩ := h
  obtain ⟨w, rfl, rw'⟩ := vals1 rz
  rw [Vals.ref1 rx]
  obtain ⟨its, rv, pl, _⟩ := I.list hs
  obtain ⟨as, hr⟩ := Dp.readsAll I _ _ its (dpAll_ints ns) rv
  refine PySem.W.min_list_default (I.ok.hd hc) pl.isList hr (ints_alike ns) (by rw [ints_depth]; omega) (fun e h' tk k => ?_) (fun y ys i v h' tk bs e hv hrd k => ?_)
  · refine ⟨z, H, I.kept k, rw', q0 ?_⟩
    cases ns with
    | nil => rfl
    | cons n r => cases e
  · cases ns with
    | nil => cases e
    | cons n r =>
      cases e
      rw [PySem.W.minD_ints] at hrd
      cases hrd with
      | int i t => exact ⟨.int _, H, I.kept k, ⟨t, rfl⟩, q1 n r rfl⟩
theorem pd_minDf {p kp : Pos} {ns : List Int} (hc : X.calm = true) (hu : X.A.units + 2 < cLine) (hg : Gl X "min") (hm : X.mg "min" = none) (ha : PD X M a σ H (.list (ns.map PyData.int))) (hb : PD X M b σ H d)
    (h1 : starEach (a :: []) X.env = (false, eval a X.env) :: starEach [] X.env := by rfl)
    (he : backTo pos (starEach (a :: []) X.env) = (false, eval a X.env) :: backTo pos (starEach [] X.env) := by rfl) (hpl : (backTo pos (starEach (a :: []) X.env)).any (·.1) = false := by rfl)
    (hall : (backToKw pos (keywordEach [⟨some "default", b, kp⟩] X.env)).all (·.1.isSome) = true := by rfl) (hnone : (backToKw pos (keywordEach [⟨some "default", b, kp⟩] X.env)).any (·.1.isNone) = false := by rfl)
    (hks : (backToKw pos (keywordEach [⟨some "default", b, kp⟩] X.env)).filterMap (·.1) = (["default"] : List Str) := by rfl) :
    PD X M (.Call (.Name "min" p) [a] [⟨some "default", b, kp⟩] pos) σ H (minOr d ns) := .mk fun H1 e1 al Q q =>
  ⟨_, pe_callBK (cr_minDf hc hu) hg hm PyProof.Rows.boot_min (pa_cons wE.pe pa_nil h1) (pk_cons wE.pe pk_nil) (by decide) (by decide) he hpl hall hnone hks, ha.run H1 e1 al _ fun v H2 x2 r => hb.run H2 (e1.trans (.of x2)) (al.mono x2) _ fun w H3 x3 rw' => by
    have r3 := r.mono (fun _ z => z) (.of x3)
    cases r3 with
    | lst m hs rs =>
      refine ⟨_, ns, w, rfl, rfl, .inl (by rw [← rs.of_ints]; exact hs), fun e => q _ H3 (x2.trans x3) ?_, fun n r e => q _ H3 (x2.trans x3) ?_⟩
      · rw [e]
        exact rw'
      · rw [e]
        exact .int _⟩
end
end GV

namespace GV
open PySem PySem.Spec PyProof.Rows L2
section
variable {X : Cx} {M : Addr → Prop} {σ : St} {H H' : Hp} {a b c e : Expr} {pos : Pos}
theorem up_ext : ∀ {l m : List Int}, l.Pairwise (· < ·) → m.Pairwise (· < ·) → (∀ k, k ∈ l ↔ k ∈ m) → l = m
  | [], [], _, _, _ => rfl
  | [], y :: m, _, _, h => absurd ((h y).mpr (List.mem_cons_self ..)) (by simp)
  | x :: l, [], _, _, h => absurd ((h x).mp (List.mem_cons_self ..)) (by simp)
  | x :: l, y :: m, p, q, h => by
    obtain ⟨p1, p2⟩ := List.pairwise_cons.mp p
    obtain ⟨q1, q2⟩ := List.pairwise_cons.mp q
    have hx := (h x).mp (List.mem_cons_self ..)
    have hy := (h y).mpr (List.mem_cons_self ..)
    have e : x = y := by
      rcases List.mem_cons.mp hx with e | hx
      · exact e
      · rcases List.mem_cons.mp hy with e | hy
        · exact e.symm
        · have := q1 x hx
          have := p1 y hy
          omega
    subst e
    rw [up_ext p2 q2 fun k => ?_]
    constructor
    · intro hk
      rcases List.mem_cons.mp ((h k).mp (List.mem_cons_of_mem _ hk)) with e | e
      · subst e
        exact absurd (p1 _ hk) (Int.lt_irrefl _)
      · exact e
    · intro hk
      rcases List.mem_cons.mp ((h k).mpr (List.mem_cons_of_mem _ hk)) with e | e
      · subst e
        exact absurd (q1 _ hk) (Int.lt_irrefl _)
      · exact e
/-- sorted(set(e)), e a list of ints, fewer than 64 -/
theorem fd_sortedSet {p p2 q2 : Pos} {ns out : List Int} (hc : X.calm = true) (hg : Gl X "sorted") (hm : X.mg "sorted" = none) (hg2 : Gl X "set") (hm2 : X.mg "set" = none) (ha : PD X M a σ H (.list (ns.map PyData.int)))
    (hl : ns.length < 64) (ho : out.Pairwise (· < ·)) (hmem : ∀ k, k ∈ out ↔ k ∈ ns)
    (na : starEach [a] X.env = (false, eval a X.env) :: starEach [] X.env := by rfl) : FD X M (.Call (.Name "sorted" p) [.Call (.Name "set" p2) [a] [] q2] [] pos) σ H (out.map PyData.int) := .mk fun H1 e1 al Q q => by
  refine ⟨fun σ H Q => wE X a σ H fun x H1 => ∃ l, x = V.ref l ∧ SqL X.K H1 l (ns.map V.int) ∧ ∀ p, H1 p = none → Q (.ref p) (upd H1 p (.lst (out.map V.int))), ⟨fun pins s σ H Q I h => ?_⟩, ?_⟩
  · refine Call_ (ld_blt I hg hm PyProof.Rows.boot_sorted ?_)
    refine PyProof.Rows.callWith_builtin1 (PyProof.Rows.args_cons ?_ rfl) rfl rfl
    refine Call_ (ld_blt I hg2 hm2 PyProof.Rows.boot_set (PyProof.Rows.callWith_type1 (PyProof.Rows.args_cons (thn (wE.pe.run pins s σ H _ I h) fun v s1 ⟨x, H1, I1, r1, l, e2, hq, q1⟩ => PyProof.Rows.args_nil ?_) na) na rfl))
    subst e2
    cases r1
    obtain ⟨its, r, pl, hz⟩ := I1.list hq
    refine set_ofL ns (I1.ok.hd hc) pl.isList (by simpa using r.ints) (by unfold scanBound; omega) fun g tk c R hcl k => PyProof.Rows.args_nil ?_
    have I2 : Inv X pins σ H1 { s1 with heap := g, toks := tk } := I1.kept k
    refine sorted_set R (I1.ok.hd hc) (by omega) fun s' p o c' ns' k2 g2 o2 hp hgp hi hs hm' hlen => ?_
    have en : ns' = out := up_ext hs ho fun z => by
      rw [hm' z, hmem z]
      exact decide_eq_true_iff
    subst en
    have hn : H1 p = none := I2.hok.fresh hp
    have ln : (ns'.map V.int).length ≤ sizeLine := by
      rw [List.length_map]
      refine Evl.sz_of (Nat.le_trans ?_ (show 64 ≤ 100000 by decide))
      omega
    have J : Inv X pins σ (upd H1 p (.lst (ns'.map V.int))) { ({ s1 with heap := g, toks := tk } : Shared) with heap := s'.heap, gens := s'.gens, drawn := s'.drawn, toks := s'.toks } := I2.call (ch := []) (Un.laid k2 hp hn) (I2.hok.laid k2 hp ⟨ln, o.toList, c', vals_of_ints hi, hgp⟩) (by rw [g2]; exact I2.bare) (fun _ z => nomatch z)
    obtain ⟨hp', g', d', t', os'⟩ := s'
    obtain rfl : os' = s1.os := o2
    exact ⟨.ref p, _, J, rfl, q1 p hn⟩
  · refine ha.run H1 e1 al _ fun v H2 x2 r => ?_
    cases r with
    | lst m hr rs => exact ⟨_, rfl, .inl (by rw [← rs.of_ints]; exact hr), fun p hp => q p _ _ (Evl.fresh_back x2 hp) (x2.trans (Evl.Ex.new hp)) upd_same (RpAll.ints out)⟩
end
end GV

namespace GV
open PySem PySem.Spec PyProof.Rows L2
/-! ### a def of the text that keeps a promise, by its name -/
structure Cl (P : Program) (w : World) (K : PySem.W.Frag) (mg : Str → Option Value) (base : Heap) (CX : CXT) (k : Nat) (x : Str) (sp : Sp) : Prop where
  ex : ∃ (f : Addr) (fd : FuncData) (ps : List Str), FnOk P w K mg base CX k f fd ps sp ∧ mg x = some (.ref f) ∧ PySem.W.keepIn K (.ref f) = true ∧ Binds K fd ps []
section
variable {P : Program} {w : World} {K : PySem.W.Frag} {mg : Str → Option Value} {base : Heap}
/-- where a def stands -/
structure At (K : PySem.W.Frag) (mg : Str → Option Value) (x : Str) (st : Stmt) (f : Addr) (fd : FuncData) : Prop where
  fn : Fun K x x st f fd
  gl : mg x = some (.ref f)
theorem pureR_len {R : List PyData → PyData → Prop} {n : Nat} (hR : ∀ ds d, R ds d → ds.length = n) : ∀ vs H Q E, PureR K R vs H Q E → vs.length = n := fun vs H Q E h => by
  obtain ⟨M, ds, d, al, r, hr, _⟩ := h
  rw [r.length]
  exact hR ds d hr
/-- a pure def -/
theorem cl_pure {x : Str} {st : Stmt} {f : Addr} {fd : FuncData} {N ps : List Str} {k : Nat} {R : List PyData → PyData → Prop} (F : At K mg x st f fd) (S : FnScope N ps (defScope st)) (hb : Binds K fd ps []) (hR : ∀ ds d, R ds d → ds.length = ps.length)
    (body : ∀ (X : Cx) (cdv : Value) (A : Around) (outer : List Env) (s : Shared) (H : Hp) (Q : VK) (E : XK) (M : Addr → Prop) (vs : List V) (ds : List PyData) (d : PyData), X = (cxOf CX0 P w K mg base N x (defScope st) f cdv A outer s H E).nox → Room k X.A → Alive M H → RpAll K M H vs ds → R ds d →
      (∀ v H', Evl.Ex H H' → Rp K M H' v d → Q v H') → wB X (defBody st) { nx := fun _ H' => Q .non H', rt := Q } (L2.start N vs) H) :
    Cl P w K mg base CX0 (k + 1) x (PureR K R) := by
  refine ⟨f, fd, ps, F.fn.ok S (pureR_len hR) (fun cdv A outer s H vs Q E hr h => ⟨_, wB.ps, ?_⟩), F.gl, F.fn.kp, hb⟩
  obtain ⟨M, ds, d, al, r, hr', q⟩ := h
  exact body _ cdv A outer s H Q E M vs ds d rfl hr al r hr' q
end
section
variable {X : Cx} {M : Addr → Prop} {σ : St} {H H' : Hp} {a b c e : Expr} {da db d : PyData} {pos : Pos} {es : List Expr} {ds : List PyData}
theorem pd_callC {R : List PyData → PyData → Prop} {j k : Nat} {x : Str} {p : Pos} (cl : Cl X.prog X.w X.K X.mg X.base CX0 k x (PureR X.K R)) (hr : Room j X.A) (hkj : k ≤ j) (hg : Gl X x) (h : AD X M (e :: es) σ H ds) (hR : R ds d)
    (hdb : (x == ("__debug__" : Str)) = false := by decide) (he : starEach (e :: es) X.env = (false, eval e X.env) :: starEach es X.env := by rfl) (hpl : (backTo pos (starEach es X.env)).any (·.1) = false := by rfl) : PD X M (.Call (.Name x p) (e :: es) [] pos) σ H d := by
  obtain ⟨f, fd, ps, F, hm, hk, hb⟩ := cl.ex
  exact pd_call F (hr.mono hkj) hg hm hk hb pass0 h hR hdb he hpl
/-- .. a def that makes a list -/
def FreshR (K : PySem.W.Frag) (R : List PyData → List PyData → Prop) : Sp := fun vs H Q _ => ∃ M ds es, Alive M H ∧ RpAll K M H vs ds ∧ R ds es ∧ ∀ p ws H', H p = none → Evl.Ex H H' → H' p = some (.lst ws) → RpAll K M H' ws es → Q (.ref p) H'
theorem fd_callC {R : List PyData → List PyData → Prop} {fs : List PyData} {j k : Nat} {x : Str} {p : Pos} (cl : Cl X.prog X.w X.K X.mg X.base CX0 k x (FreshR X.K R)) (hr : Room j X.A) (hkj : k ≤ j) (hg : Gl X x) (h : AD X M (e :: es) σ H ds) (hR : R ds fs)
    (hdb : (x == ("__debug__" : Str)) = false := by decide) (he : starEach (e :: es) X.env = (false, eval e X.env) :: starEach es X.env := by rfl) (hpl : (backTo pos (starEach es X.env)).any (·.1) = false := by rfl) : FD X M (.Call (.Name x p) (e :: es) [] pos) σ H fs := by
  obtain ⟨f, fd, ps, F, hm, hk, hb⟩ := cl.ex
  exact .mk fun H1 e1 al Q q => ⟨_, pe_call F (hr.mono hkj) hg hm hk hb .nil pass0 wA.pa hdb he hpl, h.run H1 e1 al _ fun vs H2 x2 r => by
    rw [List.append_nil]
    exact ⟨M, ds, fs, al.mono x2, r, hR, fun p ws H3 hp x3 h3 rv => q p ws H3 (Evl.fresh_back x2 hp) (x2.trans x3) h3 rv⟩⟩

/-! ### where things change: step by step -/
abbrev M0 : Addr → Prop := fun _ => False
theorem alive0 : Alive M0 H := fun _ z => z.elim
theorem Rp.m0 {K : PySem.W.Frag} {v : V} (r : Rp K M H v d) : Rp K M0 H v d := r.mono (fun _ z => z.elim) (ExM.refl H)
theorem RpAll.m0 {K : PySem.W.Frag} {vs : List V} (r : RpAll K M H vs ds) : RpAll K M0 H vs ds := r.mono (fun _ z => z.elim) (ExM.refl H)
theorem ce_pd {Q : VK} (al : Alive M H) (h : PD X M e σ H d) (q : ∀ v H2, Evl.Ex H H2 → Rp X.K M H2 v d → Q v H2) : wE X e σ H Q := h.run H (ExM.refl H) al Q q
theorem ce_fd {Q : VK} (al : Alive M H) (h : FD X M e σ H ds) (q : ∀ p ws H2, H p = none → Evl.Ex H H2 → H2 p = some (.lst ws) → RpAll X.K M H2 ws ds → Q (.ref p) H2) : wE X e σ H Q := h.run H (ExM.refl H) al Q q
/-! ### comparisons as tests -/
theorem td_cmpR {op : CmpOp} {r : R2} {k : Bool} (ho : OpR X (compareOp op) r) (hm : behindInMarks op b = false) (hr : RD2 X M r da db (.bool k)) (ha : PD X M a σ H da) (hb : PD X M b σ H db) : TD X M (.Compare a [op] [b] pos) σ H k := .mk fun H1 e1 al Q q =>
  ⟨_, pt_cmpR ho wE.pe wE.pe hm, ha.run H1 e1 al _ fun x H2 x2 rx => hb.run H2 (e1.trans (.of x2)) (al.mono x2) _ fun y H3 x3 ry =>
    hr x y H3 (rx.mono (fun _ z => z) (.of x3)) ry ((al.mono x2).mono x3) _ fun v H4 x4 rv => by
      cases rv
      exact ⟨k, rfl, q H4 ((x2.trans x3).trans x4)⟩⟩
theorem td_lt {i j : Int} (ha : PD X M a σ H (.int i)) (hb : PD X M b σ H (.int j)) : TD X M (.Compare a [.Lt] [b] pos) σ H (decide (i < j)) := td_cmpR op_lt (nomark _) rd_B0 ha hb
theorem td_le {i j : Int} (ha : PD X M a σ H (.int i)) (hb : PD X M b σ H (.int j)) : TD X M (.Compare a [.LtE] [b] pos) σ H (decide (i ≤ j)) := td_cmpR op_le (nomark _) rd_B0 ha hb
theorem td_gt {i j : Int} (ha : PD X M a σ H (.int i)) (hb : PD X M b σ H (.int j)) : TD X M (.Compare a [.Gt] [b] pos) σ H (decide (j < i)) := td_cmpR op_gt (nomark _) rd_B0 ha hb
theorem td_ge {i j : Int} (ha : PD X M a σ H (.int i)) (hb : PD X M b σ H (.int j)) : TD X M (.Compare a [.GtE] [b] pos) σ H (decide (j ≤ i)) := td_cmpR op_ge (nomark _) rd_B0 ha hb
theorem rd_eqD (hu : X.A.units + 64 < cLine) (sa : SeqAt.shaped da = true) (sb : SeqAt.shaped db = true) : RD2 X M (rEqD X.K) da db (.bool (PyData.eqv da db)) := fun x y H1 rx ry _ Q q => ⟨da, db, rx.dp, ry.dp, sa, sb, q _ H1 (Evl.Ex.refl H1) (.bl _)⟩
theorem rd_neD (hu : X.A.units + 64 < cLine) (sa : SeqAt.shaped da = true) (sb : SeqAt.shaped db = true) : RD2 X M (rNeD X.K) da db (.bool (!PyData.eqv da db)) := fun x y H1 rx ry _ Q q => ⟨da, db, rx.dp, ry.dp, sa, sb, q _ H1 (Evl.Ex.refl H1) (.bl _)⟩
theorem td_eq (hu : X.A.units + 64 < cLine) (ha : PD X M a σ H da) (hb : PD X M b σ H db) (sa : SeqAt.shaped da = true) (sb : SeqAt.shaped db = true) : TD X M (.Compare a [.Eq] [b] pos) σ H (PyData.eqv da db) := td_cmpR (op_eqD hu) (nomark _) (rd_eqD hu sa sb) ha hb
theorem td_ne (hu : X.A.units + 64 < cLine) (ha : PD X M a σ H da) (hb : PD X M b σ H db) (sa : SeqAt.shaped da = true) (sb : SeqAt.shaped db = true) : TD X M (.Compare a [.NotEq] [b] pos) σ H (!PyData.eqv da db) := td_cmpR (op_neD hu) (nomark _) (rd_neD hu sa sb) ha hb
theorem td_isN {j p2} (ha : PD X M a σ H da) : TD X M (.Compare a [.Is] [.Constant .none j p2] pos) σ H (isNone da) :=
  td_cmpR op_isN (nomark _) (fun x y H1 rx ry _ Q q => by
    cases ry
    exact ⟨rfl, q _ H1 (Evl.Ex.refl H1) (by rw [rx.isN]; exact .bl _)⟩) ha pd_non
theorem td_notN {j p2} (ha : PD X M a σ H da) : TD X M (.Compare a [.IsNot] [.Constant .none j p2] pos) σ H (!isNone da) :=
  td_cmpR op_notN (nomark _) (fun x y H1 rx ry _ Q q => by
    cases ry
    exact ⟨rfl, q _ H1 (Evl.Ex.refl H1) (by rw [rx.isN]; exact .bl _)⟩) ha pd_non
theorem snoc_ind {α : Type} {P : List α → Prop} (h0 : P []) (h1 : ∀ l x, P l → P (l ++ [x])) (l : List α) : P l := by
  have key : ∀ n (l : List α), l.length = n → P l := by
    intro n
    induction n with
    | zero =>
      intro l hl
      rw [List.eq_nil_of_length_eq_zero hl]
      exact h0
    | succ n ih =>
      intro l hl
      have hne : l ≠ [] := fun e => by
        rw [e] at hl
        cases hl
      rw [← List.dropLast_concat_getLast hne]
      refine h1 _ _ (ih _ ?_)
      rw [List.length_dropLast, hl]
      rfl
  exact key _ l rfl
theorem filt_all {α : Type} (l : List α) : (l.filter fun _ => true) = l := List.filter_eq_self.mpr fun _ _ => rfl
/-- [elt for target in iter] -/
theorem fd_map {tg iter : Expr} {t : Tg} {elt : Expr} {scope : Scope} {own : List (Str × Nat)} (f : PyData → PyData) (hc : X.calm = true) (hN : X.N.Nodup) (hi : Src X M tg iter σ H ds) (ok : BlkOk X.N X.env.scope scope own)
    (hg : ∀ s H C cl fp, PG (Cx.lc X s H scope C cl fp) tg (t.g X.K)) (hf : ∀ d ∈ ds, t.Fits d) (hw : ∀ M H d σ', t.Ok X.K M H d (wipe σ (own.map (·.2))) σ' → wipe σ' (own.map (·.2)) = wipe σ (own.map (·.2))) (hl : ds.length ≤ 100000)
    (body : ∀ s0 H0 C cl fp M' H' d σ', (∀ a, M a → M' a) → (∀ v e, Rp X.K M H v e → Rp X.K M' H' v e) → d ∈ ds → t.Ok X.K M' H' d (wipe σ (own.map (·.2))) σ' → PD (Cx.lc X s0 H0 scope C cl fp) M' elt σ' H' (f d))
    (hs : ∀ x, foldedSetIterable iter X.env x = pure x := by intro _; rfl) : FD X M (.ListComp elt [⟨tg, iter, [], 0⟩] scope pos) σ H (ds.map f) := by
  have h := fd_lc (pos := pos) hc hN hi ok hg hf hw (fun _ => true) f hl (fun s0 H0 C cl fp M' H' d σ' hM lift hd hok => ⟨tsd_nil, fun _ => body s0 H0 C cl fp M' H' d σ' hM lift hd hok⟩) hs
  rwa [filt_all] at h
/-- [elt for target in iter if test] -/
theorem fd_filter {tg iter tst : Expr} {t : Tg} {elt : Expr} {scope : Scope} {own : List (Str × Nat)} (p : PyData → Bool) (f : PyData → PyData) (hc : X.calm = true) (hN : X.N.Nodup) (hi : Src X M tg iter σ H ds) (ok : BlkOk X.N X.env.scope scope own)
    (hg : ∀ s H C cl fp, PG (Cx.lc X s H scope C cl fp) tg (t.g X.K)) (hf : ∀ d ∈ ds, t.Fits d) (hw : ∀ M H d σ', t.Ok X.K M H d (wipe σ (own.map (·.2))) σ' → wipe σ' (own.map (·.2)) = wipe σ (own.map (·.2))) (hl : ds.length ≤ 100000)
    (body : ∀ s0 H0 C cl fp M' H' d σ', (∀ a, M a → M' a) → (∀ v e, Rp X.K M H v e → Rp X.K M' H' v e) → d ∈ ds → t.Ok X.K M' H' d (wipe σ (own.map (·.2))) σ' → TD (Cx.lc X s0 H0 scope C cl fp) M' tst σ' H' (p d) ∧ PD (Cx.lc X s0 H0 scope C cl fp) M' elt σ' H' (f d))
    (hs : ∀ x, foldedSetIterable iter X.env x = pure x := by intro _; rfl) : FD X M (.ListComp elt [⟨tg, iter, [tst], 0⟩] scope pos) σ H ((ds.filter p).map f) :=
  fd_lc hc hN hi ok hg hf hw p f hl (fun s0 H0 C cl fp M' H' d σ' hM lift hd hok => let ⟨h1, h2⟩ := body s0 H0 C cl fp M' H' d σ' hM lift hd hok; ⟨tsd_one h1, fun _ => h2⟩) hs
/-- the name in slot i, by what is known of its value -/
theorem nm (i : Nat) {x : Str} {v : V} (r : Rp X.K M H v d) (hN : X.N[i]? = some x := by rfl) (hv : Vis X.env.scope x := by first | exact .inl rfl | exact .inr (.inl rfl) | exact .inr (.inr rfl)) (hs : σ[i]? = some (some v) := by rfl)
    (hd : (x == ("__debug__" : Str)) = false := by decide) (hcd : (x == ("__classdict__" : Str)) = false := by decide) : PD X M (.Name x pos) σ H d := pd_name hN hv hs r hd hcd
theorem ce_name {i : Nat} {x : Str} {v : V} {Q : VK} (hN : X.N[i]? = some x) (hv : Vis X.env.scope x) (hs : σ[i]? = some (some v)) (q : Q v H)
    (hd : (x == ("__debug__" : Str)) = false := by decide) (hcd : (x == ("__classdict__" : Str)) = false := by decide) : wE X (.Name x pos) σ H Q := ⟨_, pe_var hN hv hd hcd, v, hs, q⟩
theorem ca_nil {Q : List V → Hp → Prop} (q : Q [] H) : wA X [] σ H Q := ⟨_, pa_nil, q⟩
theorem ca_cons {Q : List V → Hp → Prop} (h : wE X e σ H fun v H2 => wA X es σ H2 fun vs H3 => Q (v :: vs) H3) (hs : starEach (e :: es) X.env = (false, eval e X.env) :: starEach es X.env := by rfl) : wA X (e :: es) σ H Q := ⟨_, pa_cons wE.pe wA.pa hs, h⟩
theorem ce_bin {op : Operator} {r : R2} {Q : VK} (ho : OpR X (binaryOp op) r) (h : wE X a σ H fun x H2 => wE X b σ H2 fun y H3 => r x y H3 Q) : wE X (.BinOp a op b pos) σ H Q := ⟨_, pe_op ho wE.pe wE.pe, h⟩
theorem ce_add {Q : VK} (h : wE X a σ H fun x H2 => wE X b σ H2 fun y H3 => ∃ i j, x = .int i ∧ y = .int j ∧ Q (.int (i + j)) H3) : wE X (.BinOp a .Add b pos) σ H Q := ce_bin op_add h
theorem ce_sub {Q : VK} (h : wE X a σ H fun x H2 => wE X b σ H2 fun y H3 => ∃ i j, x = .int i ∧ y = .int j ∧ Q (.int (i - j)) H3) : wE X (.BinOp a .Sub b pos) σ H Q := ce_bin op_sub h
theorem ce_call {sp : Sp} {Q : VK} {j k : Nat} {x : Str} {p : Pos} (cl : Cl X.prog X.w X.K X.mg X.base CX0 k x sp) (hr : Room j X.A) (hkj : k ≤ j) (hg : Gl X x) (h : wA X (e :: es) σ H fun vs H2 => sp vs H2 Q E0)
    (hdb : (x == ("__debug__" : Str)) = false := by decide) (he : starEach (e :: es) X.env = (false, eval e X.env) :: starEach es X.env := by rfl) (hpl : (backTo pos (starEach es X.env)).any (·.1) = false := by rfl) : wE X (.Call (.Name x p) (e :: es) [] pos) σ H Q := by
  obtain ⟨f, fd, ps, F, hm, hk, hb⟩ := cl.ex
  refine ⟨_, pe_call F (hr.mono hkj) hg hm hk hb .nil pass0 wA.pa hdb he hpl, ?_⟩
  obtain ⟨t, h1, h2⟩ := h
  refine ⟨t, h1, ?_⟩
  have e1 : (fun vs H1 => sp (vs ++ []) H1 Q E0) = fun vs H1 => sp vs H1 Q E0 := by
    funext vs H1
    rw [List.append_nil]
  rw [e1]
  exact h2
theorem ce_ix {Q : VK} (h : wE X a σ H fun x H2 => wE X b σ H2 fun y H3 => rIx X.K x y H3 Q) (hs : PlainIx b := by exact fun _ _ => rfl) : wE X (.Subscript a b pos) σ H Q := ⟨_, pe_ix ix_seq wE.pe wE.pe hs, h⟩
/-- an item of a datum, by values -/
theorem rIx_of {K : PySem.W.Frag} {x : V} {i : Int} {Q : VK} (r : Rp K M H x da) (h : ixD da (.int i) = some d) (q : ∀ v, Rp K M H v d → Q v H) : rIx K x (.int i) H Q := by
  cases r with
  | lst m hs rs =>
    obtain ⟨v, hv, rv⟩ := atI_rp rs h
    exact .inl ⟨_, _, i, v, rfl, rfl, .inl hs, hv, q v rv⟩
  | tup m hs rs =>
    obtain ⟨v, hv, rv⟩ := atI_rp rs h
    exact .inr (.inl ⟨_, _, i, v, rfl, rfl, .inl hs, hv, q v rv⟩)
  | str z =>
    simp only [ixD] at h
    split at h
    · rename_i hz
      cases e : atI z.cps.toList i with
      | none =>
        rw [e] at h
        cases h
      | some c =>
        rw [e] at h
        cases h
        exact .inr (.inr ⟨z, i, c, rfl, rfl, hz, e, q _ (.str _)⟩)
    · cases h
  | _ => cases h
end
section
variable {X : Cx} {M : Addr → Prop} {σ : St} {H H' : Hp} {c e o ix : Expr} {d : PyData} {pos : Pos} {st : Stmt} {sts A B : List Stmt} {D : Ends}
theorem cs_set {i : Nat} {x : Str} {p : Pos} (hN : X.N.Nodup) (hi : X.N[i]? = some x) (hx : Loc X.env.scope x) (h : wE X e σ H fun v H2 => D.nx (σ.set i (some v)) H2)
    (hs : swapsWith e (some (.Name x p)) pos.line X.env = pure false := by rfl) (hf : X.fn x = true ∨ X.env.scope.names.lookup x = some .local := by first | exact .inl rfl | exact .inr rfl | assumption) : wS X (.Assign [.Name x p] e pos) D σ H := ⟨_, ps_set hN hi hx wE.pe hs hf, h⟩
theorem cs_ret (h : wE X e σ H D.rt) : wS X (.Return (some e) pos) D σ H := ⟨_, ps_ret wE.pe, h⟩
theorem cs_expr (h : wE X e σ H fun _ H2 => D.nx σ H2) (hs : swapsWith e none pos.line X.env = pure false := by rfl) : wS X (.Expr e pos) D σ H := ⟨_, ps_expr wE.pe hs, h⟩
/-- o[ix] = e -/
theorem cs_sub {p : Pos} (h : wE X e σ H fun v H1 => wE X o σ H1 fun x H2 => wE X ix σ H2 fun y H3 => rSetL x y v H3 fun H4 => D.nx σ H4)
    (ha : ∀ v, assign (.Subscript o ix p) X.env v = (do
      let ov ← holding [v] (eval o X.env)
      let iv ← holding [v, ov] (eval ix X.env)
      standAt p
      holding [v, ov, iv] (setItem ov iv v)
      release [v, ov, iv] []) := by intro _; rfl)
    (hs : swapsWithSole [.Subscript o ix p] e pos.line X.env = pure false := by rfl) (hw : swappedStores [.Subscript o ix p] e X.env = pure none := by rfl)
    (h1 : (assignEach [.Subscript o ix p] X.env).map (·.2) = [assign (.Subscript o ix p) X.env] := by rfl) : wS X (.Assign [.Subscript o ix p] e pos) D σ H :=
  ⟨_, ps_asg wE.pe (pg_sub wE.pe wE.pe set_list ha) hs hw h1, h⟩
end
end GV

namespace GV
open PySem PySem.Spec PyProof.Rows L2
/-! ### own errors -/
/-- what the __init__ of an error keeps: its arguments, by these names -/
def spInit (C : Addr) (fl : List Str) : Sp := fun vs H Q _ => ∃ (a : Addr) (xs : List V), vs = .ref a :: xs ∧ xs.length = fl.length ∧ H a = some (exo a C none) ∧
  ∀ H' d, (∀ b o, H b = some o → b ≠ a → H' b = some o) → H d = none → d ≠ a → H' a = some (exo a C (some d)) → H' d = some (exd d (fl.zip xs).reverse) → Q .non H'
structure ErrC (P : Program) (w : World) (K : PySem.W.Frag) (mg : Str → Option Value) (base : Heap) (x : Str) (C : Addr) (fl : List Str) : Prop where
  gC : mg x = some (.ref C)
  oex : OexC K C
  xf : XfC K C
  no : ∀ f ∈ fl, PySem.W.findIn K (.ref C) f = some none
  init : ∃ (fI : Addr) (fd : FuncData) (ps : List Str), PySem.W.findIn K (.ref C) "__init__" = some (some (.ref fI)) ∧ PySem.W.typeIn K (.ref fI) = some (.type "function") ∧ FnOk P w K mg base CX0 1 fI fd ps (spInit C fl) ∧ Binds K fd ps []
/-- what a raised one leaves: a new dict that holds the arguments -/
def Raised (C : Addr) (fs : List (Str × V)) (H : Hp) (E : XK) : Prop := ∀ d H', H d = none → Evl.Ex H H' → H' d = some (.xd fs) → E (.ref C) (some d) H'
section
variable {X : Cx} {σ : St} {H : Hp} {D : Ends} {e : Expr} {es : List Expr}
theorem s_raise {W : WX} {x : Str} {C : Addr} {fl : List Str} {p pos pos2 : Pos} (hc : X.calm = true) (er : ErrC X.prog X.w X.K X.mg X.base x C fl) (hr : Room 2 X.A) (tk : Takes X W) (hg : Gl X x)
    (h : wA X (e :: es) σ H fun vs H1 => vs.length = fl.length ∧ vs.length ≤ 1000 ∧ Raised C (fl.zip vs).reverse H1 fun cls d H' => W cls d σ H')
    (hdb : (x == ("__debug__" : Str)) = false := by decide) (he : starEach (e :: es) X.env = (false, eval e X.env) :: starEach es X.env := by rfl) (hpl : (backTo pos (starEach es X.env)).any (·.1) = false := by rfl) :
    wS X (.Raise (some (.Call (.Name x p) (e :: es) [] pos)) none pos2) D σ H := by
  obtain ⟨fI, fd, ps, iC, tI, F1, hb⟩ := er.init
  obtain ⟨t, pa, q⟩ := h
  -- the arguments' own reading, with what is wanted behind it
  refine ⟨_, ps_raise hc tk (pmk_oex (k := 1) (dvs := []) (ds := []) er.oex iC tI F1 hr hb .nil pass0 hg er.gC (ta := fun σ H Q => ∃ Q0, t σ H Q0 ∧ ∀ vs H1, Q0 vs H1 → Q vs H1) ⟨fun pos pins s σ H Q I ⟨Q0, h0, imp⟩ => wpAny_mono (pa.run pos pins s σ H Q0 I h0) (fun us s1 ⟨vs, H1, I1, r1, q1⟩ => ⟨vs, H1, I1, r1, imp vs H1 q1⟩) fun _ _ z => z⟩ hdb he hpl), _, q, fun vs H1 ⟨hl, h1000, hR⟩ => ?_⟩
  refine ⟨h1000, fun a na => ⟨a, vs, by rw [List.append_nil], hl, upd_same, fun H' d k nd da ea ed => ⟨rfl, d, _, ea, ed, ?_, ?_⟩⟩⟩
  · rwa [upd_ne da] at nd
  · rw [upd_ne da] at nd
    refine hR d _ nd (fun b o hb' => ?_) upd_same
    rw [upd_ne (ne_of_none hb' nd), del_ne (ne_of_none hb' na)]
    exact k b o (by rw [upd_ne (ne_of_none hb' na)]; exact hb') (ne_of_none hb' na)
end
end GV

namespace GV
open PySem PySem.Spec PyProof.Rows L2
/-! ### try with clauses that may keep the exception by a name -/
abbrev HdT := Addr → Value → Option Addr → TS
/-- where a clause with a name goes on: the name is gone -/
def Ends.less (D : Ends) (i : Nat) : Ends := { nx := fun σ' H' => D.nx (σ'.set i none) H', rt := D.rt, bk := fun σ' H' => D.bk (σ'.set i none) H', ct := fun σ' H' => D.ct (σ'.set i none) H' }
/-- which clause takes an exception, and what it must do then -/
def wHs (K : PySem.W.Frag) (Wout : WX) (D : Ends) : List (Value × Option Nat × HdT) → WX
  | [] => Wout
  | (c, o, ts) :: r => fun cls d σ H => ∃ b, PySem.W.exmOne K cls c = some b ∧
      (b = true → ∀ a, H a = none → match o with
        | none => ts a cls d D σ H
        | some i => i < σ.length → ts a cls d (Ends.less D i) (σ.set i (some (.ref a))) H) ∧
      (b = false → wHs K Wout D r cls d σ H)
inductive Hds (X : Cx) : List ExceptHandler → List (Value × Option Nat × HdT) → Prop
  | nil : Hds X [] []
  | one {x : Str} {c : Value} {ts : HdT} {b₀ : Stmt} {suite : List Stmt} {np p : Pos} {hs l} : Names X x c →
      (∀ a oe cls d pn, Zc cls d oe → (∃ vs, oe.data = .fields vs) → PSs (X.suite a ((a, oe) :: pn)) (b₀ :: suite) (ts a cls d)) → Hds X hs l →
      Hds X (.ExceptHandler (some (.Name x np)) none (b₀ :: suite) p :: hs) ((c, none, ts) :: l)
  | as_ {x n : Str} {i : Nat} {c : Value} {ts : HdT} {b₀ : Stmt} {suite : List Stmt} {np p : Pos} {hs l} : Names X x c → X.N[i]? = some n → X.env.kindOf n = some .local →
      (∀ a oe cls d pn, Zc cls d oe → (∃ vs, oe.data = .fields vs) → PSs (X.suite a ((a, oe) :: pn)) (b₀ :: suite) (ts a cls d)) → Hds X hs l →
      Hds X (.ExceptHandler (some (.Name x np)) (some n) (b₀ :: suite) p :: hs) ((c, some i, ts) :: l)
theorem ps_tryAs {X : Cx} {body : List Stmt} {h₀ : ExceptHandler} {hds : List ExceptHandler} {l : List (Value × Option Nat × HdT)} {pos : Pos} {tb : WX → TS} {Wout : WX} (hs : X.stack = X.env :: X.outer) (hf : X.env.frame = some X.env.locals) (hN : X.N.Nodup) (tk : Takes X Wout)
    (hb : ∀ (W : WX) (pn : List (Addr × Obj)) (xe : Value → Shared → Prop), Takes (X.tr pn xe) W → PassesOwn (model X.prog X.w) X.A X.env xe → PSs (X.tr pn xe) body (tb W)) (hh : Hds X (h₀ :: hds) l) :
    PS X (.Try body (h₀ :: hds) [] [] pos) fun D σ H => tb (wHs X.K Wout D l) D σ H := by
  constructor
  intro pins s σ H D I h
  have ok := I.ok
  have hfr : X.A.frames = some (X.env :: X.outer) := by
    rw [ok.frames, hs]
  refine wpAny_Try_except (wpAny_mono ((hb (wHs X.K Wout D l) (X.pn ++ pins) _ ?_ PassesOwn.looking).run [] s σ H D (I.toTry _) h) ?_ fun e s1 he => he)
  · rintro u s' ⟨a, B, sI, pins', σ', H', cls, d, rfl, J', nb, up, sky, na, os, ag, w⟩
    have J := J'.ofTry ok
    have sky' : Sky B (X.env :: X.outer) a (Zc cls d) X.env.locals s'.heap := by
      rw [← hs]
      exact sky
    refine Sky.land Zc.steady hfr hf sky' fun h3 fl3 up3 => ?_
    have J3 := J.landed (s' := { heap := h3, gens := s'.gens, drawn := s'.drawn, toks := s'.toks, os := s'.os }) nb fl3.1 (up.trans up3) os ag
    obtain ⟨oe3, vs3, he3, hz3, hd3⟩ := fl3.there
    have nfr : ¬ a ∈ List.filterMap (fun x => x.frame) (X.env :: X.outer) := fun hm => by
      obtain ⟨_, o', e', hnf⟩ := fl3.2.2.1.mem hm
      have e2 : some oe3 = some o' := he3.symm.trans e'
      cases e2
      exact hnf _ hd3
    have nL : a ≠ X.env.locals := fun z => nfr (List.mem_filterMap.mpr ⟨X.env, List.mem_cons_self, by rw [hf, z]⟩)
    have nF : ¬ a ∈ X.fs := fun hm => by
      obtain ⟨e, he, q⟩ := List.mem_filterMap.mp hm
      exact nfr (List.mem_filterMap.mpr ⟨e, List.mem_cons_of_mem _ he, q⟩)
    have S3 := J3.suite he3 hd3 na nL nF
    have go : ∀ {hs' l'}, Hds X hs' l' → wHs X.K Wout D l' cls d σ' H' → wpAny (model X.prog X.w) X.A (handleBy (.ref a) X.env hs') (SP X pins D) X.xe { heap := h3, gens := s'.gens, drawn := s'.drawn, toks := s'.toks, os := s'.os } := by
      intro hs' l' hk
      have LT : ∀ (c : Value) (b : Bool), PySem.W.exmOne X.K cls c = some b → PySem.W.Looks (model X.prog X.w) h3 (excMatches (.ref a) c) b := fun c b hb1 => PySem.W.exm_one J3.kIn (fun A Q E s k q => wpAny_typeOf_ref (k a oe3 he3) (by rw [hz3.1]; exact q)) hb1
      have test : ∀ {x : Str} {c : Value} {np : Pos} {Q : Value → Shared → Prop} {E : Value → Shared → Prop}, Names X x c → Q c { heap := h3, gens := s'.gens, drawn := s'.drawn, toks := s'.toks, os := s'.os } → wpAny (model X.prog X.w) (X.A.mark (some (.ref a))) (eval (.Name x np) X.env) Q E { heap := h3, gens := s'.gens, drawn := s'.drawn, toks := s'.toks, os := s'.os } := by
        intro x c np Q E hc q
        obtain ⟨hg, hdbg, hm | ⟨hm, hv, hnn⟩⟩ := hc
        · exact ld_glob S3 hg hm q hdbg
        · exact ld_blt S3 hg hm hv q hnn hdbg
      induction hk with
      | nil =>
        intro w
        refine wpAny_handleBy_nil ?_
        obtain ⟨k1, k2, k3, oe, vs, T, oT, ts', he, hz, hd, h1, hr⟩ := id fl3
        refine wpAny_bind (wpAny_field he hd h1 ?_)
        rw [if_neg (by simp)]
        refine wpAny_bind ?_
        rw [hf]
        exact HandSPX.setFlight_upZ fl3 fun h4 hh4 up4 => wpAny_throw (tk (.ref a) _ ⟨a, B, sI, pins, σ', H', cls, d, rfl, J, nb, (up.trans up3).trans up4, .inr (.inr (by rw [hs]; exact hh4)), na, os, ag, w⟩)
      | one hc hsu r ih =>
        rintro ⟨b, hb1, hyes, hno⟩
        refine wpAny_handleBy_cons (codeAny_handlers_test (test hc (PySem.W.Looks.here (LT _ _ hb1) ?_))) (fun q => by cases q)
        cases b with
        | false => exact ih (hno rfl)
        | true =>
          refine codeAny_handlers_suite (HandSPX.lands_againZ fl3 fun h4 fl4 up4 => ?_)
          have J4 := J.landed (s' := { heap := h4, gens := s'.gens, drawn := s'.drawn, toks := s'.toks, os := s'.os }) nb fl4.1 ((up.trans up3).trans up4) os ag
          obtain ⟨oe4, vs4, he4, hz4, hd4⟩ := fl4.there
          have S4 := J4.suite he4 hd4 na nL nF
          refine wpAny_mono ((hsu a oe4 cls d (X.pn ++ pins) hz4 ⟨vs4, hd4⟩).run [] _ σ' H' D S4 (hyes rfl a na)) (fun f s6 hsp => ?_) fun _ _ z => z.elim
          show SP X pins D f s6
          cases f with
          | ret u =>
            obtain ⟨v6, σ6, H6, S6, r6, q6⟩ := hsp
            exact ⟨v6, σ6, H6, S6.unsuite ok, r6, q6⟩
          | _ =>
            obtain ⟨σ6, H6, S6, q6⟩ := hsp
            exact ⟨σ6, H6, S6.unsuite ok, q6⟩
      | as_ hc hi hln hsu r ih =>
        rintro ⟨b, hb1, hyes, hno⟩
        refine wpAny_handleBy_cons (codeAny_handlers_test (test hc (PySem.W.Looks.here (LT _ _ hb1) ?_))) (fun q => by cases q)
        cases b with
        | false => exact ih (hno rfl)
        | true =>
          refine codeAny_handlers_suite_as (HandSPX.lands_againZ fl3 fun h4 fl4 up4 => ?_)
          have J4 := J.landed (s' := { heap := h4, gens := s'.gens, drawn := s'.drawn, toks := s'.toks, os := s'.os }) nb fl4.1 ((up.trans up3).trans up4) os ag
          obtain ⟨oe4, vs4, he4, hz4, hd4⟩ := fl4.there
          have S4 := J4.suite he4 hd4 na nL nF
          refine store_ok (X := X.suite a ((a, oe4) :: (X.pn ++ pins))) (v := .ref a) S4 hN hi (.inl hln) rfl (fun s5 S5 => ?_) (.inr hln)
          refine wpAny_mono ((hsu a oe4 cls d (X.pn ++ pins) hz4 ⟨vs4, hd4⟩).run [] s5 _ H' _ S5 (hyes rfl a na (by rw [J.len]; exact (List.getElem?_eq_some_iff.mp hi).1))) (fun f s6 hsp => ?_) fun _ _ z => z.elim
          cases f with
          | ret u =>
            obtain ⟨v6, σ6, H6, S6, r6, q6⟩ := hsp
            exact gone_ok (S6.unsuite ok) hN hi hln fun s7 J7 => ⟨v6, _, H6, J7, r6, q6⟩
          | _ =>
            obtain ⟨σ6, H6, S6, q6⟩ := hsp
            exact gone_ok (S6.unsuite ok) hN hi hln fun s7 J7 => ⟨_, H6, J7, q6⟩
    exact go hh w
  · intro f s1 hsp
    cases f with
    | ret u =>
      obtain ⟨v, σ', H', J', r, q⟩ := hsp
      exact ⟨v, σ', H', J'.ofTry ok, r, q⟩
    | next =>
      obtain ⟨σ', H', J', q⟩ := hsp
      exact wpAny_execs_nil ⟨σ', H', J'.ofTry ok, q⟩
    | _ =>
      obtain ⟨σ', H', J', q⟩ := hsp
      exact ⟨σ', H', J'.ofTry ok, q⟩
end GV

namespace GV
open PySem PySem.Spec PyProof.Rows L2
/-! ### an own error without a word -/
theorem pmk_own0 {X : Cx} {pos : Pos} {C : Addr} {bmB : List Value} {B newId initId : String} {x : Str} {p : Pos} (F : ExcBaseFacts B newId initId bmB) (q : PySem.W.excIn X.K C bmB newId = true) (gC : X.mg x = some (.ref C)) (kC : PySem.W.keepIn X.K (.ref C) = true) (r : Raises X (.ref C)) (hg : Gl X x)
    (hdb : (x == ("__debug__" : Str)) = false := by decide) : PMk X (.Call (.Name x p) [] [] pos) fun σ H Q => Q (.ref C) none H := by
  intro pins s σ H Q I h
  refine wpAny_Call_Name_kw ?_
  refine ld_glob I hg gC ?_ hdb
  refine PySem.W.callWith_K0 (env := X.env) (first := []) I.kIn kC ?_
  obtain ⟨bm, N, nm, qn, bs, hdct, sn, sub, ab, col, dd, k0, k1, k2, k3, k5, mN, hC, hN, hni, T⟩ := exc_obj I.kIn q
  exact wpAny_call_exc_subT F T hC hN hni (fun h' e hm => mk_of I hm r h (HOk.gone I.hok hm.new)) (Nat.zero_le _)
/-- an error class whose objects are made without words -/
structure Err0 (K : PySem.W.Frag) (mg : Str → Option Value) (x : Str) (C : Addr) : Prop where
  gC : mg x = some (.ref C)
  ex : PySem.W.excIn K C [.type "ValueError", .type "Exception", .type "BaseException", .type "object"] "ValueError.__new__" = true
  kC : PySem.W.keepIn K (.ref C) = true
  exC : PySem.W.subIn K (.ref C) (.type "BaseException") = some true
  tyC : PySem.W.typeIn K (.ref C) = some (.type "type")
theorem s_raise0 {X : Cx} {σ : St} {H : Hp} {D : Ends} {W : WX} {x : Str} {C : Addr} {p pos pos2 : Pos} (hc : X.calm = true) (er : Err0 X.K X.mg x C) (tk : Takes X W) (hg : Gl X x) (h : W (.ref C) none σ H) (hdb : (x == ("__debug__" : Str)) = false := by decide) :
    wS X (.Raise (some (.Call (.Name x p) [] [] pos)) none pos2) D σ H := ⟨_, ps_raise hc tk (pmk_own0 F.excBase_ValueError er.ex er.gC er.kC (raises_own er.exC er.tyC) hg hdb), h⟩
end GV

namespace GV
open PySem PySem.Spec PyProof.Rows L2
/-! ### objects: fields, methods, properties -/
/-- e names what stands at a -/
def AtN (X : Cx) (σ : St) (e : Expr) (a : Addr) : Prop := ∀ H1 (Q : VK), Q (.ref a) H1 → wE X e σ H1 Q
section
variable {X : Cx} {M : Addr → Prop} {σ : St} {H H' : Hp} {a b c e o : Expr} {da db d : PyData} {pos : Pos} {es : List Expr} {ds : List PyData} {D : Ends}
theorem AtN.name {i : Nat} {x : Str} {p : Addr} (hN : X.N[i]? = some x) (hv : Vis X.env.scope x) (hs : σ[i]? = some (some (.ref p)))
    (hd : (x == ("__debug__" : Str)) = false := by decide) (hcd : (x == ("__classdict__" : Str)) = false := by decide) : AtN X σ (.Name x pos) p := fun H1 Q q => ce_name hN hv hs q hd hcd
theorem pd_fld {f : Str} {p C dx : Addr} {fs : List (Str × V)} {v : V} (hn : AtN X σ e p) (m : ¬ M p) (hp : H p = some (.ins C dx fs)) (c : Cls X.K C) (n : NoAttr X.K C f) (hf : fs.lookup f = some v) (r : Rp X.K M H v d)
    (hb : attributeBase e f X.env (eval e X.env) = eval e X.env := by rfl) : PD X M (.Attribute e f pos) σ H d := .mk fun H1 e1 al Q q =>
  ⟨_, pe_fld wE.pe hb, hn _ _ ⟨p, C, dx, fs, v, rfl, e1 _ _ hp m (fun _ z => by cases z), c, n, hf, q v H1 (Evl.Ex.refl H1) (r.mono (fun _ z => z) e1)⟩⟩
theorem AtN.fld {f : Str} {p s C dx : Addr} {fs : List (Str × V)} (hn : AtN X σ e p) (c : Cls X.K C) (n : NoAttr X.K C f) (hf : fs.lookup f = some (.ref s)) {Q : VK} (hp : H p = some (.ins C dx fs)) (q : Q (.ref s) H)
    (hb : attributeBase e f X.env (eval e X.env) = eval e X.env := by rfl) : wE X (.Attribute e f pos) σ H Q := ⟨_, pe_fld wE.pe hb, hn _ _ ⟨p, C, dx, fs, _, rfl, hp, c, n, hf, q⟩⟩
/-- o.append(e) -/
theorem ce_append {apos cpos : Pos} {Q : VK} (h : wE X o σ H fun x H1 => ∃ l xs, x = .ref l ∧ H1 l = some (.lst xs) ∧ wE X e σ H1 fun y H2 => ∃ ys, H2 l = some (.lst ys) ∧ ys.length < 100000 ∧ Q .non (upd H2 l (.lst (ys ++ [y]))))
    (h1 : attributeBase o ("append" : Str) X.env (eval o X.env) = eval o X.env := by rfl)
    (h2 : ((((backTo cpos (starEach (e :: []) X.env)).all fun x => !x.1) && (backToKw cpos (keywordEach [] X.env)).all fun x => x.1.isSome) && decide (((e :: []).length + ([] : List Keyword).length + if ([] : List Keyword).isEmpty = true then 0 else 1) < 30)) = true := by rfl)
    (h3 : (apos.endLine == cpos.line) = true := by rfl) (h4 : starEach (e :: []) X.env = (false, eval e X.env) :: starEach [] X.env := by rfl) (h5 : (backTo cpos (starEach [] X.env)).any (·.1) = false := by rfl) :
    wE X (.Call (.Attribute o "append" apos) [e] [] cpos) σ H Q := by
  refine ⟨_, pe_bm PySem.F.plainAttrs_list PySem.F.slot_list_append PySem.F.type_list_append mt_append wE.pe wA.pa h1 h2 h3 h4 h5, ?_⟩
  obtain ⟨t, p, q⟩ := h
  refine ⟨fun σ H Q => ∃ Q0, t σ H Q0 ∧ ∀ x H1, Q0 x H1 → Q x H1, ⟨fun pins s σ H Q I ⟨Q0, h0, imp⟩ => wpAny_mono (p.run pins s σ H Q0 I h0) (fun us s1 ⟨v, H1, I1, r1, q1⟩ => ⟨v, H1, I1, r1, imp v H1 q1⟩) fun _ _ z => z⟩, _, q, ?_⟩
  rintro x H1 ⟨l, xs, rfl, hl, h2⟩
  refine ⟨.inl ⟨rfl, _, SqL.of hl⟩, ?_⟩
  obtain ⟨t2, p2, q2⟩ := h2
  refine ⟨_, pa_cons (te := fun σ H Q => ∃ Q0, t2 σ H Q0 ∧ ∀ x H1, Q0 x H1 → Q x H1) ⟨fun pins s σ H Q I ⟨Q0, h0, imp⟩ => wpAny_mono (p2.run pins s σ H Q0 I h0) (fun us s1 ⟨v, H1, I1, r1, q1⟩ => ⟨v, H1, I1, r1, imp v H1 q1⟩) fun _ _ z => z⟩ pa_nil h4, _, q2, ?_⟩
  rintro y H2 ⟨ys, hy, hlen, hq⟩
  exact ⟨l, ys, y, rfl, rfl, hy, Nat.lt_of_lt_of_le hlen (by rw [sizeLine_eq]; decide), hq⟩
/-- o.pop() -/
theorem ce_pop {apos cpos : Pos} {Q : VK} {l : Addr} {xs : List V} {y : V} (h : wE X o σ H fun x H1 => x = .ref l ∧ H1 l = some (.lst (xs ++ [y])) ∧ Q y (upd H1 l (.lst xs)))
    (h1 : attributeBase o ("pop" : Str) X.env (eval o X.env) = eval o X.env := by rfl) (h3 : (apos.endLine == cpos.line) = true := by rfl) : wE X (.Call (.Attribute o "pop" apos) [] [] cpos) σ H Q := by
  refine ⟨_, pe_bm0 PySem.F.plainAttrs_list PySem.F.slot_list_pop PySem.F.type_list_pop mt_pop wE.pe h1 h3, ?_⟩
  obtain ⟨t, p, q⟩ := h
  refine ⟨fun σ H Q => ∃ Q0, t σ H Q0 ∧ ∀ x H1, Q0 x H1 → Q x H1, ⟨fun pins s σ H Q I ⟨Q0, h0, imp⟩ => wpAny_mono (p.run pins s σ H Q0 I h0) (fun us s1 ⟨v, H1, I1, r1, q1⟩ => ⟨v, H1, I1, r1, imp v H1 q1⟩) fun _ _ z => z⟩, _, q, ?_⟩
  rintro x H1 ⟨rfl, hl, hq⟩
  refine ⟨.inl ⟨rfl, _, SqL.of hl⟩, l, _, y, rfl, rfl, hl, ?_, ?_⟩
  · simp
  · rw [List.dropLast_concat]
    exact hq
/-- o.reverse() -/
theorem ce_reverse {apos cpos : Pos} {Q : VK} {l : Addr} {xs : List V} (h : wE X o σ H fun x H1 => x = .ref l ∧ H1 l = some (.lst xs) ∧ Q .non (upd H1 l (.lst xs.reverse)))
    (h1 : attributeBase o ("reverse" : Str) X.env (eval o X.env) = eval o X.env := by rfl) (h3 : (apos.endLine == cpos.line) = true := by rfl) : wE X (.Call (.Attribute o "reverse" apos) [] [] cpos) σ H Q := by
  refine ⟨_, pe_bm0 PySem.F.plainAttrs_list PySem.F.slot_list_reverse PySem.F.type_list_reverse mt_reverse wE.pe h1 h3, ?_⟩
  obtain ⟨t, p, q⟩ := h
  refine ⟨fun σ H Q => ∃ Q0, t σ H Q0 ∧ ∀ x H1, Q0 x H1 → Q x H1, ⟨fun pins s σ H Q I ⟨Q0, h0, imp⟩ => wpAny_mono (p.run pins s σ H Q0 I h0) (fun us s1 ⟨v, H1, I1, r1, q1⟩ => ⟨v, H1, I1, r1, imp v H1 q1⟩) fun _ _ z => z⟩, _, q, ?_⟩
  rintro x H1 ⟨rfl, hl, hq⟩
  exact ⟨.inl ⟨rfl, _, SqL.of hl⟩, l, _, rfl, rfl, hl, hq⟩
end
/-! ### which data hold no list, so that no change reaches them -/
mutual
def flat : PyData → Bool
  | .list _ => false
  | .dict _ => false
  | .tuple ds => flats ds
  | _ => true
def flats : List PyData → Bool
  | [] => true
  | d :: ds => flat d && flats ds
end
section
variable {K : PySem.W.Frag} {M M' : Addr → Prop} {H H' : Hp}
def Lists (M : Addr → Prop) (H : Hp) : Prop := ∀ a, M a → ∃ xs, H a = some (.lst xs)
mutual
theorem Rp.off {v : V} {d : PyData} : (r : Rp K M' H v d) → flat d = true → Lists M H → Rp K M H v d
  | .non, _, _ => .non
  | .bl b, _, _ => .bl b
  | .int i, _, _ => .int i
  | .str x, _, _ => .str x
  | .lst m h r, hf, hm => absurd hf (by simp [flat])
  | .tup m h r, hf, hm => .tup (fun z => by
      obtain ⟨xs, hx⟩ := hm _ z
      rcases h with h | ⟨o, h⟩ <;> rw [h] at hx <;> cases hx) h (RpAll.off r (by simpa [flat] using hf) hm)
theorem RpAll.off {vs : List V} {ds : List PyData} : (r : RpAll K M' H vs ds) → flats ds = true → Lists M H → RpAll K M H vs ds
  | .nil, _, _ => .nil
  | .cons r rs, hf, hm => .cons (Rp.off r (by simp [flats] at hf; exact hf.1) hm) (RpAll.off rs (by simp [flats] at hf; exact hf.2) hm)
end
/-- .. so what is flat stays whatever becomes of lists -/
def Keep (H H' : Hp) : Prop := ∀ a o, H a = some o → (∀ xs, o ≠ .lst xs) → NT o → H' a = some o
end
end GV

namespace GV
open PySem PySem.Spec PyProof.Rows L2
/-! ### weaker questions -/
theorem PE.weak {X : Cx} {e : Expr} {t : TE} (p : PE X e t) : PE X e fun σ H Q => ∃ Q0 : VK, t σ H Q0 ∧ ∀ v H1, Q0 v H1 → Q v H1 :=
  ⟨fun pins s σ H Q I ⟨Q0, h0, imp⟩ => wpAny_mono (p.run pins s σ H Q0 I h0) (fun us s1 ⟨v, H1, I1, r1, q1⟩ => ⟨v, H1, I1, r1, imp v H1 q1⟩) fun _ _ z => z⟩
theorem wE.weak {X : Cx} {e : Expr} {σ : St} {H : Hp} {Q0 Q : VK} (h : wE X e σ H Q0) (imp : ∀ v H1, Q0 v H1 → Q v H1) : wE X e σ H Q := let ⟨t, p, q⟩ := h; ⟨_, PE.weak p, Q0, q, imp⟩
/-! ### what changes only at S -/
def ExS (S : Addr → Prop) (H H' : Hp) : Prop := ∀ a o, ¬ S a → H a = some o → H' a = some o
theorem ExS.of {S : Addr → Prop} {H H' : Hp} (e : Evl.Ex H H') : ExS S H H' := fun a o _ h => e a o h
theorem ExS.trans {S : Addr → Prop} {H H1 H2 : Hp} (e : ExS S H H1) (f : ExS S H1 H2) : ExS S H H2 := fun a o n h => f a o n (e a o n h)
theorem ExS.upd {S : Addr → Prop} {H : Hp} {b : Addr} {o : HO} (s : S b) : ExS S H (upd H b o) := fun a u n h => by
  rw [upd_ne fun e => n (by rw [e]; exact s)]
  exact h
theorem ExS.mono {S S' : Addr → Prop} {H H' : Hp} (e : ExS S H H') (h : ∀ a, S a → S' a) : ExS S' H H' := fun a o n k => e a o (fun z => n (h a z)) k
theorem ExS.exM {S : Addr → Prop} {H H' : Hp} (e : ExS S H H') : ExM S H H' := fun a o h n _ => e a o n h
theorem ExM.mono {S S' : Addr → Prop} {H H' : Hp} (e : ExM S H H') (h : ∀ a, S a → S' a) : ExM S' H H' := fun a o k n t => e a o k (fun z => n (h a z)) t
theorem ExM.lst {S : Addr → Prop} {H H' : Hp} {a : Addr} {xs : List V} (e : ExM S H H') (n : ¬ S a) (h : H a = some (.lst xs)) : H' a = some (.lst xs) := e a _ h n fun _ z => by cases z
/-- the tables stay -/
theorem Tabs.exS {S : Addr → Prop} {H H' : Hp} {T : List (Addr × Str)} (t : LamX.Tabs T H) (e : ExS S H H') (l : ∀ a, S a → ∃ xs, H a = some (.lst xs)) : LamX.Tabs T H' := fun p hp => by
  obtain ⟨ps, h1, h2, h3⟩ := t p hp
  refine ⟨ps, e _ _ (fun s => ?_) h1, h2, fun pos cv h => ?_⟩
  · obtain ⟨xs, hx⟩ := l _ s
    rw [hx] at h1
    cases h1
  · obtain ⟨c, rfl, hc⟩ := h3 pos cv h
    refine ⟨c, rfl, e _ _ (fun s => ?_) hc⟩
    obtain ⟨xs, hx⟩ := l _ s
    rw [hx] at hc
    cases hc
section
variable {X : Cx} {M : Addr → Prop} {σ : St} {H H' : Hp} {a b c e o : Expr} {da db d : PyData} {pos : Pos} {es : List Expr} {ds : List PyData} {D : Ends}
theorem ce_str {x : Str} {j} {Q : VK} (q : Q (.str x) H) : wE X (.Constant (.str x) j pos) σ H Q := ⟨_, pe_str, q⟩
theorem ce_tup {x1} {Q : VK} (h : wA X es σ H fun vs H1 => vs.length ≤ 1000 ∧ ∀ p, H1 p = none → Q (.ref p) (upd H1 p (.tup vs))) : wE X (.Tuple es x1 pos) σ H Q := by
  obtain ⟨t, p, q⟩ := h
  refine ⟨_, pe_tup (t := fun σ H Q => ∃ Q0, t σ H Q0 ∧ ∀ vs H1, Q0 vs H1 → Q vs H1) ⟨fun pos pins s σ H Q I ⟨Q0, h0, imp⟩ => wpAny_mono (p.run pos pins s σ H Q0 I h0) (fun us s1 ⟨vs, H1, I1, r1, q1⟩ => ⟨vs, H1, I1, r1, imp vs H1 q1⟩) fun _ _ z => z⟩, _, q, ?_⟩
  rintro vs H1 ⟨hl, hq⟩
  exact ⟨Evl.sz_of (by omega), hq⟩
/-- a method's call -/
theorem ce_meth {CX : CXT} {E : XK} {C f p dx : Addr} {fd : FuncData} {ps : List Str} {sp : Sp} {m : Str} {apos : Pos} {pl : Sem Bool} {j k : Nat} {fs : List (Str × V)} {Q : VK} (hn : AtN X σ o p) (c : Cls X.K C) (hm : Meth X.K C m f) (F : FnOk X.prog X.w X.K X.mg X.base CX k f fd ps sp) (hr : Room j X.A) (hkj : k ≤ j) (hb : Binds X.K fd ps []) (hx : Passes CX X E)
    (hp : H p = some (.ins C dx fs)) (hf : fs.lookup m = none) (h : wA X (e :: es) σ H fun vs H2 => sp (.ref p :: vs) H2 Q E)
    (he : starEach (e :: es) X.env = (false, eval e X.env) :: starEach es X.env := by rfl) (hpl : (backTo pos (starEach es X.env)).any (·.1) = false := by rfl)
    (hev : eval (.Call (.Attribute o m apos) (e :: es) [] pos) X.env = (do
      let ov ← eval o X.env
      standAt apos.atName
      let (f, first) ← holding [ov] (getMethod ov m pl)
      callWith pos f first (backTo pos (starEach (e :: es) X.env)) (backToKw pos (keywordEach [] X.env))) := by rfl) : wE X (.Call (.Attribute o m apos) (e :: es) [] pos) σ H Q := by
  refine ⟨_, pe_meth wE.pe c hm F (hr.mono hkj) hb .nil hx wA.pa he hpl hev, hn _ _ ⟨p, dx, fs, rfl, hp, hf, ?_⟩⟩
  obtain ⟨t, h1, h2⟩ := h
  refine ⟨t, h1, ?_⟩
  have e1 : (fun vs H2 => sp (V.ref p :: (vs ++ [])) H2 Q E) = fun vs H2 => sp (V.ref p :: vs) H2 Q E := by
    funext vs H1
    rw [List.append_nil]
  rw [e1]
  exact h2
theorem ce_meth0 {CX : CXT} {E : XK} {C f p dx : Addr} {fd : FuncData} {ps : List Str} {sp : Sp} {m : Str} {apos : Pos} {pl : Sem Bool} {j k : Nat} {fs : List (Str × V)} {Q : VK} (hn : AtN X σ o p) (c : Cls X.K C) (hm : Meth X.K C m f) (F : FnOk X.prog X.w X.K X.mg X.base CX k f fd ps sp) (hr : Room j X.A) (hkj : k ≤ j) (hb : Binds X.K fd ps []) (hx : Passes CX X E)
    (hp : H p = some (.ins C dx fs)) (hf : fs.lookup m = none) (h : sp [.ref p] H Q E)
    (hev : eval (.Call (.Attribute o m apos) [] [] pos) X.env = (do
      let ov ← eval o X.env
      standAt apos.atName
      let (f, first) ← holding [ov] (getMethod ov m pl)
      callWith pos f first (backTo pos (starEach [] X.env)) (backToKw pos (keywordEach [] X.env))) := by rfl) : wE X (.Call (.Attribute o m apos) [] [] pos) σ H Q :=
  ⟨_, pe_meth0 wE.pe c hm F (hr.mono hkj) hb .nil hx hev, hn _ _ ⟨p, dx, fs, rfl, hp, hf, h⟩⟩
/-- a property's value -/
theorem ce_prop {CX : CXT} {E : XK} {C p g b dx : Addr} {f : Str} {fd : FuncData} {ps : List Str} {sp : Sp} {j k : Nat} {fs : List (Str × V)} {Q : VK} (hn : AtN X σ o b) (c : Cls X.K C) (hp : PropOf X.K C f p g) (F : FnOk X.prog X.w X.K X.mg X.base CX k g fd ps sp) (hr : Room j X.A) (hkj : k + 1 ≤ j) (hb : Binds X.K fd ps []) (hx : Passes CX X.nox E)
    (hi : H b = some (.ins C dx fs)) (h : sp [.ref b] H Q E) (hab : attributeBase o f X.env (eval o X.env) = eval o X.env := by rfl) : wE X (.Attribute o f pos) σ H Q :=
  ⟨_, pe_prop wE.pe c hp F (hr.mono hkj) hb .nil hx hab, hn _ _ ⟨b, dx, fs, rfl, hi, h⟩⟩
/-! ### try -/
abbrev tsW (X : Cx) (suite : List Stmt) : HdT := fun a cls d D σ H => ∀ oe pn, Zc cls d oe → (∃ vs, oe.data = .fields vs) → wB (X.suite a ((a, oe) :: pn)) suite D σ H
theorem psW {X : Cx} {suite : List Stmt} {a : Addr} {oe : Obj} {cls : Value} {d : Option Addr} {pn : List (Addr × Obj)} (hz : Zc cls d oe) (hd : ∃ vs, oe.data = .fields vs) : PSs (X.suite a ((a, oe) :: pn)) suite (tsW X suite a cls d) := ⟨fun pins s σ H D I h => wB.ps.run pins s σ H D I (h oe pn hz hd)⟩
theorem s_try {body : List Stmt} {h₀ : ExceptHandler} {hds : List ExceptHandler} {l : List (Value × Option Nat × HdT)} {Wout : WX} (hs : X.stack = X.env :: X.outer) (hf : X.env.frame = some X.env.locals) (hN : X.N.Nodup) (tk : Takes X Wout) (hh : Hds X (h₀ :: hds) l)
    (h : ∀ pn xe, Takes (X.tr pn xe) (wHs X.K Wout D l) → wB (X.tr pn xe) body D σ H) : wS X (.Try body (h₀ :: hds) [] [] pos) D σ H :=
  ⟨_, ps_tryAs (tb := fun W D σ H => ∀ pn xe, Takes (X.tr pn xe) W → wB (X.tr pn xe) body D σ H) hs hf hN tk (fun W pn xe tkW _ => ⟨fun pins s σ H D I h => wB.ps.run pins s σ H D I (h pn xe tkW)⟩) hh, h⟩
/-- e.f, e the exception that the clause holds -/
theorem ce_xf {X : Cx} {a C : Addr} {oe : Obj} {cls : Value} {d : Option Addr} {pn : List (Addr × Obj)} {f : Str} {Q : VK} (xf : XfC X.K C) (n : PySem.W.findIn X.K (.ref C) f = some none) (hz : Zc cls d oe) (hd : ∃ vs, oe.data = .fields vs)
    (h : wE (X.suite a ((a, oe) :: pn)) e σ H fun x H1 => x = .ref a ∧ cls = .ref C ∧ ∃ dd fs v, d = some dd ∧ H1 dd = some (.xd fs) ∧ fs.lookup f = some v ∧ Q v H1)
    (hab : attributeBase e f X.env (eval e X.env) = eval e X.env := by rfl) : wE (X.suite a ((a, oe) :: pn)) (.Attribute e f pos) σ H Q := ⟨_, pe_xf xf n hz hd wE.pe hab, h⟩
end
end GV

namespace GV
open PySem PySem.Spec PyProof.Rows L2
/-! ### the script: a list of whole numbers that nothing changes, wherever it stands -/
def ScAt (K : PySem.W.Frag) (M : Addr → Prop) (H : Hp) (a : Addr) (ns : List Int) : Prop := (¬ M a ∧ Rd H a (.lst (ns.map V.int))) ∨ ∀ H', SqL K H' a (ns.map V.int)
section
variable {K : PySem.W.Frag} {M M' : Addr → Prop} {H H' : Hp} {a : Addr} {ns : List Int}
theorem ScAt.of (h : SqL K H a (ns.map V.int)) (n : ¬ M a) : ScAt K M H a ns := h.elim (fun h => .inl ⟨n, h⟩) fun h => .inr fun _ => .inr h
theorem ScAt.sq (h : ScAt K M H a ns) : SqL K H a (ns.map V.int) := h.elim (fun h => .inl h.2) fun h => h H
theorem ScAt.mono (h : ScAt K M H a ns) (hm : ∀ a, M' a → M a) (e : ExM M H H') : ScAt K M' H' a ns := h.elim (fun ⟨n, h⟩ => .inl ⟨fun z => n (hm _ z), Rd.exM h n e⟩) .inr
end
section
variable {X : Cx} {M : Addr → Prop} {σ : St} {H : Hp} {a : Addr} {e b : Expr} {ns : List Int} {pos : Pos}
theorem pd_scIx {i : Nat} {j : Nat} {x : Str} {p : Pos} {z : Int} (h : ScAt X.K M H a ns) (hb : PD X M b σ H (.int (i : Nat))) (hz : ns[i]? = some z) (hN : X.N[j]? = some x := by rfl) (hv : Vis X.env.scope x := by first | exact .inl rfl | exact .inr (.inl rfl)) (hs : σ[j]? = some (some (.ref a)) := by rfl)
    (hd : (x == ("__debug__" : Str)) = false := by decide) (hcd : (x == ("__classdict__" : Str)) = false := by decide) (hpl : PlainIx b := by exact fun _ _ => rfl) : PD X M (.Subscript (.Name x p) b pos) σ H (.int z) := .mk fun H1 e1 al Q q =>
  ⟨_, pe_ix ix_seq wE.pe wE.pe hpl, ce_name hN hv hs (hb.run H1 e1 al _ fun y H2 x2 ry => by
    cases ry
    have hq := ((h.mono (fun _ z => z) e1).mono (fun _ z => z) (.of x2)).sq
    exact .inl ⟨_, _, (i : Nat), .int z, rfl, rfl, hq, atI_nat (by rw [List.getElem?_map, hz]; rfl), q _ H2 x2 (.int z)⟩) hd hcd⟩
theorem pd_scLen {j : Nat} {x : Str} {p p2 : Pos} (h : ScAt X.K M H a ns) (hg : Gl X "len") (hm : X.mg "len" = none) (hN : X.N[j]? = some x := by rfl) (hv : Vis X.env.scope x := by first | exact .inl rfl | exact .inr (.inl rfl)) (hs : σ[j]? = some (some (.ref a)) := by rfl)
    (hd : (x == ("__debug__" : Str)) = false := by decide) (hcd : (x == ("__classdict__" : Str)) = false := by decide) (hst : starEach (.Name x p :: []) X.env = (false, eval (.Name x p) X.env) :: starEach [] X.env := by rfl) (hpl : (backTo pos (starEach [] X.env)).any (·.1) = false := by rfl) :
    PD X M (.Call (.Name "len" p2) [.Name x p] [] pos) σ H (.int ns.length) := .mk fun H1 e1 al Q q =>
  ⟨_, pe_callB call_len_seq hg hm PySem.boot_len wA.pa (by decide) (by decide) hst hpl, ca_cons (ce_name hN hv hs (ca_nil ⟨a, ns.map V.int, rfl, .inl ((h.mono (fun _ z => z) e1).sq), by
    rw [List.length_map]
    exact q _ H1 (Evl.Ex.refl H1) (.int _)⟩) hd hcd) hst⟩
theorem fd_scSlice {lo hi : Option Expr} {l u : Option Int} {j : Nat} {x : Str} {p p2 : Pos} (h : ScAt X.K M H a ns) (hl : OD X M lo σ H l) (hu : OD X M hi σ H u) (hN : X.N[j]? = some x := by rfl) (hv : Vis X.env.scope x := by first | exact .inl rfl | exact .inr (.inl rfl)) (hs : σ[j]? = some (some (.ref a)) := by rfl)
    (hd : (x == ("__debug__" : Str)) = false := by decide) (hcd : (x == ("__classdict__" : Str)) = false := by decide) : FD X M (.Subscript (.Name x p) (.Slice lo hi none p2) pos) σ H (cutD (ns.map PyData.int) l u) := by
  obtain ⟨tl, pl, rl⟩ := hl.ex
  obtain ⟨tu, pu, ru⟩ := hu.ex
  refine .mk fun H1 e1 al Q q => ⟨_, pe_slice sl_list wE.pe pl pu, ce_name hN hv hs ?_ hd hcd⟩
  refine rl H1 e1 al _ fun H3 x3 => ru H3 (e1.trans (.of x3)) (al.mono x3) _ fun H4 x4 => ?_
  have hq := ((h.mono (fun _ z => z) e1).mono (fun _ z => z) (.of (x3.trans x4))).sq
  exact ⟨_, _, rfl, hq, fun p hp => q p _ _ (Evl.fresh_back (x3.trans x4) hp) ((x3.trans x4).trans (Evl.Ex.new hp)) upd_same (((RpAll.ints ns).cut l u))⟩
end
end GV

-- out of B3
namespace GV
open PySem PySem.Spec PyProof.Rows L2
theorem _root_.L2.Room.u2 {k : Nat} {A : Around} (r : Room k A) : A.units + 2 < cLine := Nat.lt_of_le_of_lt (Nat.add_le_add_left (by decide : 2 ≤ 64) _) r.units
theorem cutD_take (xs : List PyData) (i : Nat) : cutD xs none (some (i : Int)) = xs.take i := by
  unfold cutD
  rw [HT.sIx_none, HT.sIx_nat, List.drop_zero, Nat.sub_zero]
  by_cases h : i ≤ xs.length
  · rw [Nat.min_eq_left h]
  · rw [Nat.min_eq_right (by omega), List.take_of_length_le (Nat.le_refl _), List.take_of_length_le (by omega)]
theorem cutD_drop (xs : List PyData) (i : Nat) : cutD xs (some (i : Int)) none = xs.drop i := by
  unfold cutD
  rw [HT.sIx_none, HT.sIx_nat]
  by_cases h : i ≤ xs.length
  · rw [Nat.min_eq_left h, List.take_of_length_le]
    rw [List.length_drop]
    exact Nat.le_refl _
  · rw [Nat.min_eq_right (by omega), Nat.sub_self, List.take_zero, List.drop_of_length_le (by omega)]
theorem take_snoc {α : Type} {l : List α} {i : Nat} {x : α} (h : l[i]? = some x) : l.take (i + 1) = l.take i ++ [x] := by
  rw [List.take_add_one, h]
  rfl
end GV
-- out of B4
namespace GV
open PySem PySem.Spec PyProof.Rows L2
theorem ixD_list {ds : List PyData} {i : Nat} {d : PyData} (h : ds[i]? = some d) : ixD (.list ds) (.int (i : Nat)) = some d := atI_nat h
theorem ixD_ints {ns : List Int} {i : Nat} {z : Int} (h : ns[i]? = some z) : ixD (.list (ns.map PyData.int)) (.int (i : Nat)) = some (.int z) := ixD_list (by rw [List.getElem?_map, h]; rfl)
section
variable {X : Cx} {M : Addr → Prop} {σ : St} {H H' : Hp} {a e : Expr} {d : PyData} {pos : Pos}
/-- int(e), e an int -/
theorem pd_intI {p : Pos} {i : Int} (nb : NoB X.mg) (hg : Gl X "int") (h : PD X M e σ H (.int i)) (hs : starEach (e :: []) X.env = (false, eval e X.env) :: starEach [] X.env := by rfl) (hpl : (backTo pos (starEach [] X.env)).any (·.1) = false := by rfl) :
    PD X M (.Call (.Name "int" p) [e] [] pos) σ H (.int i) := pd_callTy call_int1 hg nb.int PyProof.Rows.boot_int (ad_cons h ad_nil hs) rn_int (by decide) (by decide) hs hpl
theorem pd_intB {p : Pos} {k : Bool} (nb : NoB X.mg) (hg : Gl X "int") (h : PD X M e σ H (.bool k)) (hs : starEach (e :: []) X.env = (false, eval e X.env) :: starEach [] X.env := by rfl) (hpl : (backTo pos (starEach [] X.env)).any (·.1) = false := by rfl) :
    PD X M (.Call (.Name "int" p) [e] [] pos) σ H (.int (if k then 1 else 0)) := pd_callTy call_int1 hg nb.int PyProof.Rows.boot_int (ad_cons h ad_nil hs) rn_intB (by decide) (by decide) hs hpl
theorem pd_len {p : Pos} {n : Nat} (nb : NoB X.mg) (hg : Gl X "len") (h : PD X M e σ H d) (hn : lenD d = some n) (hs : starEach (e :: []) X.env = (false, eval e X.env) :: starEach [] X.env := by rfl) (hpl : (backTo pos (starEach [] X.env)).any (·.1) = false := by rfl) :
    PD X M (.Call (.Name "len" p) [e] [] pos) σ H (.int n) := pd_callB call_len hg nb.len PySem.boot_len (ad_cons h ad_nil hs) (rn_len hn) (by decide) (by decide) hs hpl
theorem pd_abs {p : Pos} {i : Int} (nb : NoB X.mg) (hg : Gl X "abs") (h : PD X M e σ H (.int i)) (hs : starEach (e :: []) X.env = (false, eval e X.env) :: starEach [] X.env := by rfl) (hpl : (backTo pos (starEach [] X.env)).any (·.1) = false := by rfl) :
    PD X M (.Call (.Name "abs" p) [e] [] pos) σ H (.int (if i < 0 then -i else i)) := pd_callB call_abs hg nb.abs PyProof.Rows.boot_abs (ad_cons h ad_nil hs) rn_abs (by decide) (by decide) hs hpl
theorem pd_sum {p : Pos} {ns : List Int} (hc : X.calm = true) (nb : NoB X.mg) (hg : Gl X "sum") (h : PD X M e σ H (.list (ns.map PyData.int))) (hs : starEach (e :: []) X.env = (false, eval e X.env) :: starEach [] X.env := by rfl) (hpl : (backTo pos (starEach [] X.env)).any (·.1) = false := by rfl) :
    PD X M (.Call (.Name "sum" p) [e] [] pos) σ H (.int ns.sum) := pd_callB (cr_sum hc) hg nb.sum PyProof.Rows.boot_sum (ad_cons h ad_nil hs) rn_sum (by decide) (by decide) hs hpl
end
end GV
-- out of B5
namespace GV
open PySem PySem.Spec PyProof.Rows L2
section
variable {X : Cx} {M : Addr → Prop} {σ : St} {H H' : Hp} {a b c e o : Expr} {da db d : PyData} {pos : Pos} {es : List Expr} {ds : List PyData} {D : Ends}
/-- o.f = e, o an exception being made -/
theorem cs_ost {f : Str} {p' : Pos} (h : wE X e σ H fun y H1 => wE X o σ H1 fun x H2 => ∃ a C, x = .ref a ∧ OexC X.K C ∧ PySem.W.findIn X.K (.ref C) f = some none ∧
      ((H2 a = some (exo a C none) ∧ ∀ dx, H2 dx = none → dx ≠ a → D.nx σ (upd (upd H2 dx (exd dx [(f, y)])) a (exo a C (some dx)))) ∨
        ∃ dx fs, H2 a = some (exo a C (some dx)) ∧ H2 dx = some (exd dx fs) ∧ fs.length ≤ 900 ∧ D.nx σ (upd H2 dx (exd dx ((f, y) :: fs)))))
    (hs : swapsWith e (some (.Attribute o f p')) pos.line X.env = pure false := by rfl) : wS X (.Assign [.Attribute o f p'] e pos) D σ H := ⟨_, ps_ost wE.pe wE.pe hs, h⟩
/-- o.f, a plain attribute of an object -/
theorem ce_fld {f : Str} {Q : VK} (h : wE X e σ H fun x H1 => ∃ a C dx fs v, x = .ref a ∧ H1 a = some (.ins C dx fs) ∧ Cls X.K C ∧ NoAttr X.K C f ∧ fs.lookup f = some v ∧ Q v H1) (hb : attributeBase e f X.env (eval e X.env) = eval e X.env := by rfl) : wE X (.Attribute e f pos) σ H Q := ⟨_, pe_fld wE.pe hb, h⟩
/-- o.f = e -/
theorem cs_fld {f : Str} {p' : Pos} (h : wE X e σ H fun y H1 => wE X o σ H1 fun x H2 => ∃ a C dx fs, x = .ref a ∧ H2 a = some (.ins C dx fs) ∧ Cls X.K C ∧ NoAttr X.K C f ∧ fs.length < 1000 ∧ D.nx σ (upd H2 a (.ins C dx (putF f y fs))))
    (hs : swapsWith e (some (.Attribute o f p')) pos.line X.env = pure false := by rfl) : wS X (.Assign [.Attribute o f p'] e pos) D σ H := ⟨_, ps_fld wE.pe wE.pe hs, h⟩
/-- a call that may raise -/
theorem ce_callX {sp : Sp} {W : WX} {Q : VK} {j k : Nat} {x : Str} {p : Pos} (cl : Cl X.prog X.w X.K X.mg X.base (L2.CX X.prog X.w) k x sp) (hr : Room j X.A) (hkj : k ≤ j) (hg : Gl X x) (tk : Takes X W) (h : wA X (e :: es) σ H fun vs H2 => sp vs H2 Q (fun cls d H' => W cls d σ H'))
    (hdb : (x == ("__debug__" : Str)) = false := by decide) (he : starEach (e :: es) X.env = (false, eval e X.env) :: starEach es X.env := by rfl) (hpl : (backTo pos (starEach es X.env)).any (·.1) = false := by rfl) : wE X (.Call (.Name x p) (e :: es) [] pos) σ H Q := by
  obtain ⟨f, fd, ps, F, hm, hk, hb⟩ := cl.ex
  exact ⟨_, pe_callS F (hr.mono hkj) hg hm hk hb (fun σ => passAt tk σ) wA.pa hdb he hpl, h⟩
theorem cs_if {A B : List Stmt} (h : wT X c σ H fun k H2 => if k = true then wB X A D σ H2 else wB X B D σ H2) : wS X (.If c A B pos) D σ H := ⟨_, ps_if wT.pt wB.ps wB.ps, h⟩
theorem ct_td {k : Bool} {Q : Bool → Hp → Prop} (al : Alive M H) (h : TD X M e σ H k) (q : ∀ H2, Evl.Ex H H2 → Q k H2) : wT X e σ H Q := h.run H (ExM.refl H) al Q q
end
end GV
-- out of B7
namespace GV
open PySem PySem.Spec PyProof.Rows L2
section
variable {X : Cx} {M : Addr → Prop} {σ : St} {H : Hp} {e : Expr} {pos : Pos}
/-- for x in range(n) -/
theorem s_forR {n slot : Nat} {x : Str} {p p1 p2 : Pos} {body : List Stmt} {D : Ends} (hp : PassesOwn (model X.prog X.w) X.A X.env X.xe) (hc : X.calm = true) (hN : X.N.Nodup) (hx : X.N[slot]? = some x) (hl : Loc X.env.scope x) (hg : Gl X "range") (hm : X.mg "range" = none) (h : PD X M e σ H (.int (n : Nat))) (hn : n ≤ 1000000) (al : Alive M H) (J : Hp → Nat → St → Hp → Prop)
    (h0 : ∀ H1, Evl.Ex H H1 → J H1 0 σ H1) (hk : ∀ H1 i σ' H', Evl.Ex H H1 → J H1 i σ' H' → ExM M H1 H' ∧ Alive M H')
    (ht : ∀ H1 i σ' H' H2, Evl.Ex H H1 → i < n → J H1 i σ' H' → Evl.Ex H' H2 → wB X body { D with nx := J H1 (i + 1), ct := J H1 (i + 1), bk := D.nx } (σ'.set slot (some (.int (i : Nat)))) H2)
    (hd : ∀ H1 σ' H', Evl.Ex H H1 → J H1 n σ' H' → D.nx σ' H') (hs : starEach [e] X.env = [(false, eval e X.env)] := by rfl) (hs' : starEach (e :: []) X.env = (false, eval e X.env) :: starEach [] X.env := by rfl)
    (hf : ∀ x, foldedSetIterable (.Call (.Name "range" p) [e] [] p1) X.env x = pure x := by intro _; rfl) (hfn : X.fn x = true ∨ X.env.scope.names.lookup x = some .local := by first | exact .inl rfl | exact .inr rfl | assumption) : wS X (.For (.Name x p2) (.Call (.Name "range" p) [e] [] p1) body [] pos) D σ H := by
  refine s_for (t := .one slot) hp hc (src_range1 hg hm h (by omega) (by omega) hs hs') (pg_name hN hx hl hfn) al J h0 hk (fun _ _ => trivial) ?_ ?_ hf
  · rintro H1 i d σ' H' H2 σ2 x1 hd j x2 ⟨v, rv, rfl⟩
    obtain ⟨k, hk', rfl⟩ := List.mem_iff_getElem?.mp (List.mem_of_getElem? hd) |> fun _ => (by
      rw [List.getElem?_map] at hd
      obtain ⟨k, h1, h2⟩ := Option.map_eq_some_iff.mp hd
      exact ⟨k, h1, h2.symm⟩ : ∃ k, (List.range (Int.toNat (n : Nat)))[i]? = some k ∧ d = PyData.int (0 + (k : Nat)))
    rw [List.getElem?_range (by
      have := (List.getElem?_eq_some_iff.mp hk').1
      simpa using this)] at hk'
    have hin : i < n := by
      have := (List.getElem?_eq_some_iff.mp hd).1
      simpa using this
    cases hk'
    cases rv
    rw [Int.zero_add]
    exact ht H1 i σ' H' H2 x1 hin j x2
  · intro H1 σ' H' x1 j
    refine hd H1 σ' H' x1 ?_
    have e1 : ((List.range (Int.toNat (n : Nat))).map fun i => PyData.int (0 + (i : Nat))).length = n := by simp
    rw [← e1]
    exact j
end
end GV
-- out of B8
namespace GV
open PySem PySem.Spec PyProof.Rows L2
/-! ### which data == may look at -/
theorem shaped_of {d : PyData} (h1 : d.canLay0 = true) (h2 : d.depth ≤ 64) : SeqAt.shaped d = true := by
  simp [SeqAt.shaped, h1, h2]
/-- flat parts, at most one deep -/
def one1 : PyData → Prop
  | .int _ => True
  | .tuple [.int _, .int _] => True
  | _ => False
theorem lay1 {d : PyData} (h : one1 d) : d.canLay0 = true ∧ d.depth ≤ 1 := by
  unfold one1 at h
  split at h
  · exact ⟨rfl, by show 0 ≤ 1; omega⟩
  · exact ⟨rfl, Nat.le_refl 1⟩
  · cases h
theorem lays1 {ds : List PyData} (h : ∀ d ∈ ds, one1 d) : (PyData.list ds).canLay0 = true ∧ (PyData.list ds).depth ≤ 2 := by
  have key : ∀ ds : List PyData, (∀ d ∈ ds, one1 d) → PyData.canLayAll0 ds = true ∧ PyData.depthAll ds ≤ 1 := by
    intro ds
    induction ds with
    | nil => exact fun _ => ⟨rfl, Nat.zero_le _⟩
    | cons d r ih =>
      intro h
      obtain ⟨a, b⟩ := lay1 (h d (List.mem_cons_self))
      obtain ⟨a2, b2⟩ := ih fun x hx => h x (List.mem_cons_of_mem _ hx)
      refine ⟨?_, ?_⟩
      · show (d.canLay0 && PyData.canLayAll0 r) = true
        rw [a, a2]
        rfl
      · show max d.depth (PyData.depthAll r) ≤ 1
        omega
  obtain ⟨a, b⟩ := key ds h
  refine ⟨a, ?_⟩
  show PyData.depthAll ds + 1 ≤ 2
  omega
theorem shaped1 {ds : List PyData} (h : ∀ d ∈ ds, one1 d) : SeqAt.shaped (.list ds) = true := by
  obtain ⟨a, b⟩ := lays1 h
  exact shaped_of a (by omega)
theorem shapedI (ns : List Int) : SeqAt.shaped (.list (ns.map PyData.int)) = true := shaped1 fun d hd => by
  obtain ⟨k, _, rfl⟩ := List.mem_map.mp hd
  trivial
theorem atI_last {α : Type} (l : List α) (x : α) : atI (l ++ [x]) (-1) = some x := by
  unfold atI ixN
  rw [if_neg (by omega), List.length_append, List.length_singleton, if_pos (by omega)]
  show (l ++ [x])[((-1 : Int) + ((l.length + 1 : Nat) : Int)).toNat]? = some x
  rw [show ((-1 : Int) + ((l.length + 1 : Nat) : Int)).toNat = l.length by omega]
  simp
section
variable {X : Cx} {M : Addr → Prop} {σ : St} {H : Hp} {o e : Expr} {pos : Pos}
/-- o.index(e), a whole number that is there -/
theorem pd_index {apos cpos : Pos} {ns : List Int} {k : Int} {j : Nat} (ho : PD X M o σ H (.list (ns.map PyData.int))) (he : PD X M e σ H (.int k)) (hj : ns[j]? = some k) (hf : ∀ m z, m < j → ns[m]? = some z → z ≠ k)
    (h1 : attributeBase o ("index" : Str) X.env (eval o X.env) = eval o X.env := by rfl)
    (h2 : ((((backTo cpos (starEach (e :: []) X.env)).all fun x => !x.1) && (backToKw cpos (keywordEach [] X.env)).all fun x => x.1.isSome) && decide (((e :: []).length + ([] : List Keyword).length + if ([] : List Keyword).isEmpty = true then 0 else 1) < 30)) = true := by rfl)
    (h3 : (apos.endLine == cpos.line) = true := by rfl) (h4 : starEach (e :: []) X.env = (false, eval e X.env) :: starEach [] X.env := by rfl) (h5 : (backTo cpos (starEach [] X.env)).any (·.1) = false := by rfl) :
    PD X M (.Call (.Attribute o "index" apos) [e] [] cpos) σ H (.int (j : Nat)) := .mk fun H1 e1 al Q q => by
  refine ⟨_, pe_bm PySem.F.plainAttrs_list PySem.F.slot_list_index PySem.F.type_list_index mt_index wE.pe (pa_cons wE.pe pa_nil h4) h1 h2 h3 h4 h5, ?_⟩
  refine ho.run H1 e1 al _ fun x H2 x2 r => ?_
  cases r with
  | lst m hs rs =>
    refine ⟨.inl ⟨rfl, _, .inl hs⟩, he.run H2 (e1.trans (.of x2)) (al.mono x2) _ fun y H3 x3 ry => ?_⟩
    cases ry
    have hs3 := GV.Rd.exM hs m (.of x3)
    have ev := rs.of_ints
    subst ev
    refine ⟨_, _, _, j, .int k, rfl, rfl, .inl hs3, rfl, ?_, ?_, ?_, ?_, q _ H3 (x2.trans x3) (.int _)⟩
    · rw [List.all_eq_true]
      intro v hv
      obtain ⟨z, _, rfl⟩ := List.mem_map.mp hv
      rfl
    · rw [List.getElem?_map, hj]
      rfl
    · simp [eqV]
    · intro m z hm hz
      rw [List.getElem?_map] at hz
      obtain ⟨u, hu, rfl⟩ := Option.map_eq_some_iff.mp hz
      simpa [eqV] using hf m u hm hu
end
end GV
-- out of B13
namespace GV
open PySem PySem.Spec PyProof.Rows L2
section
variable {X : Cx} {M : Addr → Prop} {σ : St} {H H' : Hp} {a b c e o : Expr} {da db d : PyData} {pos : Pos} {es : List Expr} {ds : List PyData} {D : Ends}
theorem ce_and {rest : List Expr} {Q : VK} (h : wE X a σ H fun x H2 => ∃ k, x = .bl k ∧ (k = true → wE X (.BoolOp .And (b :: rest) pos) σ H2 Q) ∧ (k = false → Q (.bl false) H2)) : wE X (.BoolOp .And (a :: b :: rest) pos) σ H Q := by
  refine ⟨_, pe_and wE.pe wE.pe, wE.weak h ?_⟩
  rintro x H2 ⟨k, rfl, h1, h2⟩
  refine ⟨k, rfl, ?_⟩
  cases k with
  | true => exact h1 rfl
  | false => exact h2 rfl
theorem ce_one {op} {Q : VK} (h : wE X a σ H Q) : wE X (.BoolOp op [a] pos) σ H Q := ⟨_, pe_one wE.pe, h⟩
theorem ce_eq {Q : VK} (hu : X.A.units + 64 < cLine) (h : wE X a σ H fun x H2 => wE X b σ H2 fun y H3 => ∃ da db, Dp X.K H3 x da ∧ Dp X.K H3 y db ∧ SeqAt.shaped da = true ∧ SeqAt.shaped db = true ∧ Q (.bl (PyData.eqv da db)) H3) : wE X (.Compare a [.Eq] [b] pos) σ H Q :=
  ⟨_, pe_cmpR (op_eqD hu) wE.pe wE.pe (nomark _), h⟩
end
end GV
-- out of B15
namespace GV
open PySem PySem.Spec PyProof.Rows L2
section
variable {X : Cx} {M : Addr → Prop} {σ : St} {H H' : Hp} {a b c e o : Expr} {da db d : PyData} {pos : Pos} {es : List Expr} {ds : List PyData} {D : Ends}
theorem ce_lst {Q : VK} (h : wA X es σ H fun vs H1 => vs.length ≤ 1000 ∧ ∀ p, H1 p = none → Q (.ref p) (upd H1 p (.lst vs))) : wE X (.List es pos) σ H Q := by
  obtain ⟨t, p, q⟩ := h
  refine ⟨_, pe_lst (t := fun σ H Q => ∃ Q0, t σ H Q0 ∧ ∀ vs H1, Q0 vs H1 → Q vs H1) ⟨fun pos pins s σ H Q I ⟨Q0, h0, imp⟩ => wpAny_mono (p.run pos pins s σ H Q0 I h0) (fun us s1 ⟨vs, H1, I1, r1, q1⟩ => ⟨vs, H1, I1, r1, imp vs H1 q1⟩) fun _ _ z => z⟩, _, q, ?_⟩
  rintro vs H1 ⟨hl, hq⟩
  exact ⟨Evl.sz_of (by omega), hq⟩
theorem ct_val {Q : Bool → Hp → Prop} (h : wE X e σ H fun x H2 => ∃ k, x = .bl k ∧ Q k H2) (he : ∀ whole, isTrue e X.env whole = (do let v ← whole; standAt e.pos; holding [v] (truthy v)) := by intro _; rfl) : wT X e σ H Q := ⟨_, pt_val wE.pe he, h⟩
theorem ct_eq {Q : Bool → Hp → Prop} (hu : X.A.units + 64 < cLine) (h : wE X a σ H fun x H2 => wE X b σ H2 fun y H3 => ∃ da db, Dp X.K H3 x da ∧ Dp X.K H3 y db ∧ SeqAt.shaped da = true ∧ SeqAt.shaped db = true ∧ Q (PyData.eqv da db) H3) : wT X (.Compare a [.Eq] [b] pos) σ H Q :=
  ⟨_, pt_cmpR (op_eqD hu) wE.pe wE.pe (nomark _), wE.weak h fun x H2 h2 => wE.weak h2 fun y H3 ⟨da, db, h1, h2, h3, h4, q⟩ => ⟨da, db, h1, h2, h3, h4, _, rfl, q⟩⟩
theorem ct_not {Q : Bool → Hp → Prop} (h : wT X a σ H fun k H2 => Q (!k) H2) : wT X (.UnaryOp .Not a pos) σ H Q := ⟨_, pt_not wT.pt, h⟩
theorem ce_isN {j p2} {Q : VK} (h : wE X a σ H fun x H2 => Q (.bl (decide (x = .non))) H2) : wE X (.Compare a [.Is] [.Constant .none j p2] pos) σ H Q :=
  ⟨_, pe_cmpR op_isN wE.pe pe_non (nomark _), wE.weak h fun x H2 q => ⟨rfl, q⟩⟩
end
end GV
-- out of B18
namespace GV
open PySem PySem.Spec PyProof.Rows L2
section
variable {X : Cx} {σ : St} {H : Hp} {a b : Expr} {pos : Pos}
theorem ct_lt {Q : Bool → Hp → Prop} (h : wE X a σ H fun x H2 => wE X b σ H2 fun y H3 => ∃ i j, x = .int i ∧ y = .int j ∧ Q (decide (i < j)) H3) : wT X (.Compare a [.Lt] [b] pos) σ H Q :=
  ⟨_, pt_cmpR op_lt wE.pe wE.pe (nomark _), wE.weak h fun x H2 h2 => wE.weak h2 fun y H3 ⟨i, j, h1, h2, q⟩ => ⟨i, j, h1, h2, _, rfl, q⟩⟩
end
end GV
-- out of B19
namespace GV
open PySem PySem.Spec PyProof.Rows L2
section
variable {X : Cx} {σ : St} {H : Hp} {a b e o : Expr} {pos : Pos}
theorem PT.weak {X : Cx} {e : Expr} {t : TT} (p : PT X e t) : PT X e fun σ H Q => ∃ Q0 : Bool → Hp → Prop, t σ H Q0 ∧ ∀ v H1, Q0 v H1 → Q v H1 :=
  ⟨fun pins s σ H Q I ⟨Q0, h0, imp⟩ => wpAny_mono (p.run pins s σ H Q0 I h0) (fun us s1 ⟨H1, I1, q1⟩ => ⟨H1, I1, imp _ H1 q1⟩) fun _ _ z => z⟩
theorem wT.weak {Q0 Q : Bool → Hp → Prop} (h : wT X e σ H Q0) (imp : ∀ v H1, Q0 v H1 → Q v H1) : wT X e σ H Q := let ⟨t, p, q⟩ := h; ⟨_, PT.weak p, Q0, q, imp⟩
theorem cw_and1 {Q : Bool → Hp → Prop} (h : wT X a σ H Q) : wW X (.BoolOp .And [a] pos) σ H Q := ⟨_, pw_and1 wT.pt, h⟩
theorem cw_and {rest : List Expr} {Q : Bool → Hp → Prop} (h : wT X a σ H fun k H2 => (k = true → wW X (.BoolOp .And (b :: rest) pos) σ H2 Q) ∧ (k = false → Q false H2)) : wW X (.BoolOp .And (a :: b :: rest) pos) σ H Q :=
  ⟨_, pw_and wT.pt wW.pw, wT.weak h fun k H2 ⟨h1, h2⟩ => by
    cases k with
    | true => exact h1 rfl
    | false => exact h2 rfl⟩
theorem ct_w {Q : Bool → Hp → Prop} (h : wW X e σ H Q) : wT X e σ H Q := let ⟨t, p, q⟩ := h; ⟨t, p.pt, q⟩
theorem ct_gt {Q : Bool → Hp → Prop} (h : wE X a σ H fun x H2 => wE X b σ H2 fun y H3 => ∃ i j, x = .int i ∧ y = .int j ∧ Q (decide (j < i)) H3) : wT X (.Compare a [.Gt] [b] pos) σ H Q :=
  ⟨_, pt_cmpR op_gt wE.pe wE.pe (nomark _), wE.weak h fun x H2 h2 => wE.weak h2 fun y H3 ⟨i, j, h1, h2, q⟩ => ⟨i, j, h1, h2, _, rfl, q⟩⟩
theorem ce_propE {CX : CXT} {E : XK} {C p g : Addr} {f : Str} {fd : FuncData} {ps : List Str} {sp : Sp} {j k : Nat} {Q : VK} (c : Cls X.K C) (hp : PropOf X.K C f p g) (F : FnOk X.prog X.w X.K X.mg X.base CX k g fd ps sp) (hr : Room j X.A) (hkj : k + 1 ≤ j) (hb : Binds X.K fd ps []) (hx : Passes CX X.nox E)
    (h : wE X o σ H fun x H1 => ∃ a dx fs, x = .ref a ∧ H1 a = some (.ins C dx fs) ∧ sp [.ref a] H1 Q E) (hab : attributeBase o f X.env (eval o X.env) = eval o X.env := by rfl) : wE X (.Attribute o f pos) σ H Q :=
  ⟨_, pe_prop wE.pe c hp F (hr.mono hkj) hb .nil hx hab, wE.weak h fun x H1 ⟨a, dx, fs, h1, h2, h3⟩ => ⟨a, dx, fs, h1, h2, h3⟩⟩
/-- C(), an object made -/
theorem ce_make0 {CX : CXT} {E : XK} {f C : Addr} {fd : FuncData} {ps : List Str} {sp : Sp} {j k : Nat} {x : Str} {p : Pos} {Q : VK} (m : Mk X.K C f) (F : FnOk X.prog X.w X.K X.mg X.base CX k f fd ps sp) (hr : Room j X.A) (hkj : k + 1 ≤ j) (hg : Gl X x) (gC : X.mg x = some (.ref C)) (hb : Binds X.K fd ps []) (hx : Passes CX X E)
    (h : ∀ a dx, H a = none → H dx = none → dx ≠ a → sp [.ref a] (upd (upd H dx (.own a)) a (.ins C dx [])) (fun v H2 => v = .non ∧ Q (.ref a) H2) E) (hdb : (x == ("__debug__" : Str)) = false := by decide) : wE X (.Call (.Name x p) [] [] pos) σ H Q :=
  ⟨_, pe_make0 m F (hr.mono hkj) hg gC hb .nil hx hdb, fun a dx h1 h2 h3 => h a dx h1 h2 h3⟩
end
end GV

namespace GV
open PySem PySem.Spec PyProof.Rows L2
section
variable {X : Cx} {σ : St} {H : Hp} {e : Expr} {pos : Pos}
/-- for x in range(n), n a value on the way; nothing need be known of what stays -/
theorem s_forRW {slot : Nat} {x : Str} {p p1 p2 : Pos} {body : List Stmt} {D : Ends} (hp : PassesOwn (model X.prog X.w) X.A X.env X.xe) (hc : X.calm = true) (hN : X.N.Nodup) (hx : X.N[slot]? = some x) (hl : Loc X.env.scope x) (hg : Gl X "range") (hm : X.mg "range" = none)
    (h : wE X e σ H fun v H1 => ∃ (n : Nat) (J : Nat → St → Hp → Prop), v = .int (n : Nat) ∧ n ≤ 1000000 ∧ J 0 σ H1 ∧
      (∀ i σ' H', i < n → J i σ' H' → wB X body { D with nx := J (i + 1), ct := J (i + 1), bk := D.nx } (σ'.set slot (some (.int (i : Nat)))) H') ∧ ∀ σ' H', J n σ' H' → D.nx σ' H')
    (hs : starEach [e] X.env = [(false, eval e X.env)] := by rfl) (hs' : starEach (e :: []) X.env = (false, eval e X.env) :: starEach [] X.env := by rfl)
    (hf : ∀ x, foldedSetIterable (.Call (.Name "range" p) [e] [] p1) X.env x = pure x := by intro _; rfl) (hfn : X.fn x = true ∨ X.env.scope.names.lookup x = some .local := by first | exact .inl rfl | exact .inr rfl | assumption) : wS X (.For (.Name x p2) (.Call (.Name "range" p) [e] [] p1) body [] pos) D σ H := by
  refine ⟨_, ps_for hp hc (pi_range1 hg hm wA.pa hs) (pg_name hN hx hl hfn) wB.ps hf, ca_cons (wE.weak h ?_) hs'⟩
  rintro v H1 ⟨n, J, rfl, hn, h0, ht, hd⟩
  refine ca_nil ⟨(n : Nat), rfl, by omega, by omega, ?_⟩
  have en : ((n : Nat) : Int).toNat = n := by omega
  rw [en]
  refine ⟨fun i m σ' H' => m = n - i ∧ i ≤ n ∧ J i σ' H', ⟨n, rfl, Nat.zero_le _, h0⟩, ?_⟩
  rintro i m σ' H' ⟨rfl, hi', j⟩
  have wk := wk_range (K := X.K) (M := M0) (H := H') 0 n
  have ln : ((List.range n).map fun i => PyData.int (0 + (i : Nat))).length = n := by simp
  by_cases hlt : i < n
  · refine .inr ⟨wk.go M0 i H' (fun _ z => z.elim) (ExM.refl _) (by rw [ln]; exact hlt), J (i + 1), fun σ2 H2 j2 => ⟨n - (i + 1), by omega, rfl, hlt, j2⟩, fun x H2 y => ?_⟩
    obtain ⟨rfl, rfl⟩ := y
    rw [Int.zero_add]
    exact ht i σ' _ hlt j
  · have e2 : i = n := by omega
    subst e2
    have := wk.stop M0 H' (fun _ z => z.elim) (ExM.refl _)
    rw [ln] at this
    exact .inl ⟨this, hd σ' H' j⟩
/-- an item of a list of whatever -/
theorem rIx_lst {K : PySem.W.Frag} {l : Addr} {xs : List V} {i : Int} {v : V} {Q : VK} (h : H l = some (.lst xs)) (hv : atI xs i = some v) (q : Q v H) : rIx K (.ref l) (.int i) H Q := .inl ⟨_, _, i, v, rfl, rfl, .inl (.inl h), hv, q⟩
end
end GV

namespace GV
open PySem PySem.Spec PyProof.Rows L2
section
variable {X : Cx} {σ : St} {H : Hp} {e elt : Expr} {pos : Pos}
/-- [elt for x in range(e)], where elt may change things -/
theorem ce_lcR {slot : Nat} {x : Str} {p p1 p2 : Pos} {scope : Scope} {own : List (Str × Nat)} {Q : VK} (hc : X.calm = true) (hN : X.N.Nodup) (hg : Gl X "range") (hm : X.mg "range" = none) (ok : BlkOk X.N X.env.scope scope own)
    (hx : ∀ s H C cl fp, PG (Cx.lc X s H scope C cl fp) (.Name x p2) (gName slot)) (hw : ∀ v, wipe ((wipe σ (own.map (·.2))).set slot (some v)) (own.map (·.2)) = wipe σ (own.map (·.2)))
    (h : wE X e σ H fun v H1 => ∃ n : Nat, v = .int (n : Nat) ∧ n ≤ 1000000 ∧ ∀ D, H1 D = none → ∃ J : Nat → Hp → Prop, J 0 (upd H1 D (.lst [])) ∧
      (∀ i H', i < n → J i H' → ∀ s0 H0 C cl fp, wE (Cx.lc X s0 H0 scope C cl fp) elt ((wipe σ (own.map (·.2))).set slot (some (.int (i : Nat)))) H' fun y H4 => ∃ acc, H4 D = some (.lst acc) ∧ acc.length < 100000 ∧ J (i + 1) (upd H4 D (.lst (acc ++ [y])))) ∧ ∀ H', J n H' → Q (.ref D) H')
    (hs : starEach [e] X.env = [(false, eval e X.env)] := by rfl) (hs' : starEach (e :: []) X.env = (false, eval e X.env) :: starEach [] X.env := by rfl)
    (hf : ∀ x, foldedSetIterable (.Call (.Name "range" p) [e] [] p1) X.env x = pure x := by intro _; rfl) : wE X (.ListComp elt [⟨.Name x p2, .Call (.Name "range" p) [e] [] p1, [], 0⟩] scope pos) σ H Q := by
  refine ⟨_, pe_lc (tt := fun σ H Q => Q true H) (te := fun σ H Q => ∀ s0 H0 C cl fp, wE (Cx.lc X s0 H0 scope C cl fp) elt σ H Q) hc hN (pi_range1 hg hm wA.pa hs) ok hx (fun _ _ _ _ _ => ⟨fun pins s σ H Q I h => pts_nil.run pins s σ H Q I h⟩)
    (fun s0 H0 C cl fp => ⟨fun pins s σ H Q I h => wE.pe.run pins s σ H Q I (h s0 H0 C cl fp)⟩) hf, ca_cons (wE.weak h ?_) hs'⟩
  rintro v H1 ⟨n, rfl, hn, run⟩
  refine ca_nil ⟨(n : Nat), rfl, by omega, by omega, ?_⟩
  rw [show ((n : Nat) : Int).toNat = n by omega]
  intro D hD
  obtain ⟨J, h0, ht, hd⟩ := run D hD
  refine ⟨fun i m H' => m = n - i ∧ i ≤ n ∧ J i H', ⟨n, rfl, Nat.zero_le _, h0⟩, ?_⟩
  rintro i m H' ⟨rfl, hi', j⟩
  have wk := wk_range (K := X.K) (M := M0) (H := H') 0 n
  have ln : ((List.range n).map fun i => PyData.int (0 + (i : Nat))).length = n := by simp
  by_cases hlt : i < n
  · refine .inr ⟨wk.go M0 i H' (fun _ z => z.elim) (ExM.refl _) (by rw [ln]; exact hlt), J (i + 1), fun H2 j2 => ⟨n - (i + 1), by omega, rfl, hlt, j2⟩, fun x H2 y => ?_⟩
    obtain ⟨rfl, rfl⟩ := y
    rw [Int.zero_add]
    refine ⟨hw _, ?_⟩
    show if true = true then _ else _
    rw [if_pos rfl]
    intro s0 H0 C cl fp
    refine wE.weak (ht i _ hlt j s0 H0 C cl fp) ?_
    rintro y H4 ⟨acc, h1, h2, h3⟩
    exact ⟨acc, h1, Nat.lt_of_lt_of_le h2 (by rw [sizeLine_eq]; decide), h3⟩
  · have e2 : i = n := by omega
    subst e2
    have := wk.stop M0 H' (fun _ z => z.elim) (ExM.refl _)
    rw [ln] at this
    exact .inl ⟨this, hd H' j⟩
end
end GV
namespace GV
open PySem PySem.Spec PyProof.Rows L2
section
variable {X : Cx} {M : Addr → Prop} {σ : St} {H : Hp} {a : Expr} {d : PyData} {pos : Pos}
theorem kitAny2 {K : PySem.W.Frag} {t S T : String} {j k : Bool} (h1 : kitB t S = some j) (h2 : kitB t T = some k) : PySem.W.kitAny K (.type t) [.type S, .type T] = some (j || k) := by
  have e1 := kit_ty (K := K) h1
  have e2 := kit_ty (K := K) h2
  show (match PySem.W.kitOne K (.type t) (.type S) with
    | some true => some true
    | some false => PySem.W.kitAny K (.type t) [.type T]
    | none => none) = _
  rw [e1]
  cases j with
  | true => rfl
  | false =>
    show (match PySem.W.kitOne K (.type t) (.type T) with
      | some true => some true
      | some false => PySem.W.kitAny K (.type t) []
      | none => none) = _
    rw [e2]
    cases k <;> rfl
/-- isinstance(a, (S, T)) -/
theorem pd_isi2 {S T : String} {x y : Str} {p p1 p2 p3 : Pos} {n : Nat} {j k : Bool} (hg : Gl X "isinstance") (hm : X.mg "isinstance" = none) (hgS : Gl X x) (hmS : X.mg x = none) (hvS : bootBuiltins x = some (.type S)) (hgT : Gl X y) (hmT : X.mg y = none) (hvT : bootBuiltins y = some (.type T)) (ha : PD X M a σ H d) (hj : kitB (tyD d) S = some j) (hk : kitB (tyD d) T = some k)
    (nx : x ≠ "__name__" := by decide) (dx : (x == ("__debug__" : Str)) = false := by decide) (ny : y ≠ "__name__" := by decide) (dy : (y == ("__debug__" : Str)) = false := by decide)
    (h1 : starEach (a :: [.Tuple [.Name x p1, .Name y p2] n p3]) X.env = (false, eval a X.env) :: starEach [.Tuple [.Name x p1, .Name y p2] n p3] X.env := by rfl) (h2 : starEach (.Tuple [.Name x p1, .Name y p2] n p3 :: []) X.env = (false, eval (.Tuple [.Name x p1, .Name y p2] n p3) X.env) :: starEach [] X.env := by rfl)
    (h3 : starEach (.Name x p1 :: [.Name y p2]) X.env = (false, eval (.Name x p1) X.env) :: starEach [.Name y p2] X.env := by rfl) (h4 : starEach (.Name y p2 :: []) X.env = (false, eval (.Name y p2) X.env) :: starEach [] X.env := by rfl)
    (hpl : (backTo pos (starEach [.Tuple [.Name x p1, .Name y p2] n p3] X.env)).any (·.1) = false := by rfl) :
    PD X M (.Call (.Name "isinstance" p) [a, .Tuple [.Name x p1, .Name y p2] n p3] [] pos) σ H (.bool (j || k)) := .mk fun H1 e1 al Q q =>
  ⟨_, pe_callB call_isiT hg hm PyProof.Rows.boot_isinstance (pa_cons wE.pe (pa_cons (pe_tup (pa_cons (pe_bltn (v := .ty S) hgS hmS hvS rfl nx dx) (pa_cons (pe_bltn (v := .ty T) hgT hmT hvT rfl ny dy) pa_nil h4) h3)) pa_nil h2) h1) (by decide) (by decide) h1 hpl, ha.run H1 e1 al _ fun v H2 x2 r =>
    ⟨Evl.sz_of (by show 2 ≤ 100000; decide), fun t ht => ⟨v, t, [.ty S, .ty T], .type (tyD d), [.type S, .type T], j || k, rfl, upd_same, .cons (.ty S) (.cons (.ty T) .nil), (r.mono (fun _ z => z) (.of (Evl.Ex.new ht))).tyX, kitAny2 hj hk, q _ _ (x2.trans (Evl.Ex.new ht)) (.bl _)⟩⟩⟩
end
end GV

namespace GV
open PySem PySem.Spec PyProof.Rows L2
section
variable {X : Cx} {M : Addr → Prop} {σ : St} {H : Hp} {a b e : Expr} {d : PyData} {ds : List PyData} {pos : Pos}
theorem cut_all {xs : List PyData} {lo hi : Option Int} (h : HT.sIx xs.length 0 lo = 0 ∧ HT.sIx xs.length xs.length hi = xs.length) : cutD xs lo hi = xs := by
  unfold cutD
  rw [h.1, h.2, List.drop_zero, Nat.sub_zero, List.take_length]
/-- a slice of a tuple -/
theorem pd_sliceT {lo hi : Option Expr} {l u : Option Int} {p2 : Pos} (h : PD X M e σ H (.tuple ds)) (hl : OD X M lo σ H l) (hu : OD X M hi σ H u) : PD X M (.Subscript e (.Slice lo hi none p2) pos) σ H (.tuple (cutD ds l u)) := by
  obtain ⟨tl, pl, rl⟩ := hl.ex
  obtain ⟨tu, pu, ru⟩ := hu.ex
  refine .mk fun H1 e1 al Q q => ⟨_, pe_slice sl_tupA wE.pe pl pu, h.run H1 e1 al _ fun x H2 x2 r => ?_⟩
  refine rl H2 (e1.trans (.of x2)) (al.mono x2) _ fun H3 x3 => ru H3 ((e1.trans (.of x2)).trans (.of x3)) ((al.mono x2).mono x3) _ fun H4 x4 => ?_
  have r4 := r.mono (fun _ z => z) (.of (x3.trans x4))
  have x24 := x2.trans (x3.trans x4)
  cases r4 with
  | tup m hs rs =>
    refine ⟨_, _, rfl, .inl hs, fun hall => ?_, fun _ p hp => ?_⟩
    · rw [rs.length] at hall
      refine q _ H4 x24 ?_
      rw [cut_all hall]
      exact .tup m hs rs
    · exact q _ _ (x24.trans (Evl.Ex.new hp)) (.newT (X := X) (al.mono x24) hp (rs.cut l u))
/-- min(e, default=f) of a tuple of whole numbers -/
def rMinDfT (K : PySem.W.Frag) : List V → List V → Hp → VK → Prop := fun xs zs H Q => ∃ (a : Addr) (ns : List Int) (z : V), xs = [.ref a] ∧ zs = [z] ∧ SqT K H a (ns.map V.int) ∧ (ns = [] → Q z H) ∧ (∀ n r, ns = n :: r → Q (.int (r.foldl min n)) H)
theorem cr_minDfT (hc : X.calm = true) (hu : X.A.units + 2 < cLine) : CallRK X (.builtin "min") ["default"] (rMinDfT X.K) := by
  intro pins s σ H xs zs us ws Q I rx rz h
  obtain ⟨a, ns, z, rfl, rfl, hs, q0, q1⟩ := h
  obtain ⟨w, rfl, rw'⟩ := vals1 rz
  rw [Vals.ref1 rx]
  obtain ⟨its, rv, pl, _⟩ := I.tuple hs
  obtain ⟨as, hr⟩ := Dp.readsAll I _ _ its (dpAll_ints ns) rv
  refine PySem.W.min_tuple_default (I.ok.hd hc) pl hr (ints_alike ns) (by rw [ints_depth]; omega) (fun e h' tk k => ?_) (fun y ys i v h' tk bs e hv hrd k => ?_)
  · refine ⟨z, H, I.kept k, rw', q0 ?_⟩
    cases ns with
    | nil => rfl
    | cons n r => cases e
  · cases ns with
    | nil => cases e
    | cons n r =>
      cases e
      rw [PySem.W.minD_ints] at hrd
      cases hrd with
      | int i t => exact ⟨.int _, H, I.kept k, ⟨t, rfl⟩, q1 n r rfl⟩
theorem pd_minDfT {p kp : Pos} {ns : List Int} (hc : X.calm = true) (hu : X.A.units + 2 < cLine) (hg : Gl X "min") (hm : X.mg "min" = none) (ha : PD X M a σ H (.tuple (ns.map PyData.int))) (hb : PD X M b σ H d)
    (h1 : starEach (a :: []) X.env = (false, eval a X.env) :: starEach [] X.env := by rfl)
    (he : backTo pos (starEach (a :: []) X.env) = (false, eval a X.env) :: backTo pos (starEach [] X.env) := by rfl) (hpl : (backTo pos (starEach (a :: []) X.env)).any (·.1) = false := by rfl)
    (hall : (backToKw pos (keywordEach [⟨some "default", b, kp⟩] X.env)).all (·.1.isSome) = true := by rfl) (hnone : (backToKw pos (keywordEach [⟨some "default", b, kp⟩] X.env)).any (·.1.isNone) = false := by rfl)
    (hks : (backToKw pos (keywordEach [⟨some "default", b, kp⟩] X.env)).filterMap (·.1) = (["default"] : List Str) := by rfl) :
    PD X M (.Call (.Name "min" p) [a] [⟨some "default", b, kp⟩] pos) σ H (minOr d ns) := .mk fun H1 e1 al Q q =>
  ⟨_, pe_callBK (cr_minDfT hc hu) hg hm PyProof.Rows.boot_min (pa_cons wE.pe pa_nil h1) (pk_cons wE.pe pk_nil) (by decide) (by decide) he hpl hall hnone hks, ha.run H1 e1 al _ fun v H2 x2 r => hb.run H2 (e1.trans (.of x2)) (al.mono x2) _ fun w H3 x3 rw' => by
    have r3 := r.mono (fun _ z => z) (.of x3)
    cases r3 with
    | tup m hs rs =>
      refine ⟨_, ns, w, rfl, rfl, .inl (by rw [← rs.of_ints]; exact hs), fun e => q _ H3 (x2.trans x3) ?_, fun n r e => q _ H3 (x2.trans x3) ?_⟩
      · rw [e]
        exact rw'
      · rw [e]
        exact .int _⟩
end
end GV

namespace GV
open PySem PySem.Spec PyProof.Rows L2
open Sem (wp)
open AutoSeq1 (wpAny_loadPart')
/-! ### enumerate(a tuple) -/
theorem meets_enumT (l : Addr) (items : Array Value) : Meets (Builtin.«enumerate.__new__» ⟨[.type "enumerate", .ref l], []⟩) (fun _ R s => s.heap.IsTuple l items ∧
      R (.ok (.ret (.ref (s.heap.push { cls := .type "tuple_iterator", data := .fields #[.ref l, .int 0 0] }).objs.size)))
        { s with heap := (s.heap.push { cls := .type "tuple_iterator", data := .fields #[.ref l, .int 0 0] }).push { cls := .type "enumerate", data := .fields #[.none, .bool false, .ref s.heap.objs.size, rawInt 0, .none, .none] } }) :=
  .of_wp fun prog w A R s h => by
    obtain ⟨hp, g, d, tk, os⟩ := s; obtain ⟨hl, h⟩ := h
    have hsub := sub_enumerate
    have q1 : ∀ {A' : Around} {E : Value → Shared → Prop} {Q : Value → Shared → Prop}, Q (.ref hp.objs.size) ⟨hp.push { cls := .type "tuple_iterator", data := .fields #[.ref l, .int 0 0] }, g, d, tk, os⟩ → wpAny (model prog w) A' (pyIter (.ref l)) Q E ⟨hp, g, d, tk, os⟩ :=
      fun q => wpAny_pyIter_tuple hl q
    wp_walk using q1
    refine wpAny_stack_any fun st => wpAny_pure ?_
    split
    · rename_i c _ _ _ _ _
      cases (c == Value.type "enumerate")
      · wp_walk using q1
        exact ⟨_, rfl, h⟩
      · wp_walk using q1
        exact ⟨_, rfl, h⟩
    · wp_walk using q1
      exact ⟨_, rfl, h⟩
theorem call_enumT {prog : Program} {w : World} {A : Around} {E : Value → Shared → Prop} {s : Shared} {l : Addr} {items : Array Value} {Q : Value → Shared → Prop} (hL : s.heap.IsTuple l items)
    (h : ∀ h', IsEnum h' (s.heap.objs.size + 1) s.heap.objs.size 0 .none → h'.IsTupleIter s.heap.objs.size l 0 → h'.objs.size = s.heap.objs.size + 2 →
      (∀ b o, s.heap.get? b = some o → h'.get? b = some o) → Q (.ref (s.heap.objs.size + 1)) { s with heap := h' }) :
    wpAny (model prog w) A (call (.type "enumerate") [.ref l]) Q E s := by
  refine callType_new F.called_enumerate (by decide) (F.typeCall_enumerate_1 _) (F.newCall_enumerate_1 _) (fun obj => F.args_object_init_2 obj _) F.entry_enumerate_new (meets_enumT l items) ⟨hL, ?_⟩
  have hz : (s.heap.push { cls := .type "tuple_iterator", data := .fields #[.ref l, .int 0 0] }).objs.size = s.heap.objs.size + 1 := Heap.size_push ..
  show _ ∧ _
  rw [hz]
  have he : IsEnum ((s.heap.push { cls := .type "tuple_iterator", data := .fields #[.ref l, .int 0 0] }).push { cls := .type "enumerate", data := .fields #[.none, .bool false, .ref s.heap.objs.size, rawInt 0, .none, .none] }) (s.heap.objs.size + 1) s.heap.objs.size 0 .none := by
    have := Heap.get?_push_size (s.heap.push { cls := .type "tuple_iterator", data := .fields #[.ref l, .int 0 0] }) (o := { cls := .type "enumerate", data := .fields #[.none, .bool false, .ref s.heap.objs.size, rawInt 0, .none, .none] }) rfl
    rw [hz] at this; exact this
  exact ⟨⟨_, he, rfl⟩, h _ he ⟨_, Heap.get?_push_of_some _ (Heap.get?_push_size _ rfl), rfl, rfl⟩ (by rw [Heap.size_push, hz]) fun b o x => Heap.get?_push_of_some _ (Heap.get?_push_of_some _ x)⟩
def IteT (K : PySem.W.Frag) (a : Addr) : It :=
  ⟨fun i H => ∃ (xs : List V) (x : V), SqT K H a xs ∧ xs[i]? = some x, fun i H v H' => ∃ T x, v = .ref T ∧ H T = none ∧ H' = upd H T (.tup [.int (i : Nat), x]) ∧ ∀ xs, SqT K H a xs → xs[i]? = some x, fun i H => ∃ xs : List V, SqT K H a xs ∧ xs.length ≤ i⟩
theorem turn_enumT {P : Program} {w : World} {K : PySem.W.Frag} {elts : List Expr} {kk : Nat} {tpos : Pos} (a e it : Addr) :
    Turn P w K (.Tuple elts kk tpos) (IteT K a) [e, it] e (fun i h => (∃ old, IsEnum h e it ((i : Nat) : Int) old) ∧ h.IsTupleIter it a i ∧ e ≠ it ∧ a ≠ e ∧ a ≠ it) where
  mem := by simp
  obj := fun i h st b hb => by
    obtain ⟨⟨old, he⟩, ⟨o, ho, hc, hd⟩, _⟩ := st
    have e' : b = e ∨ b = it := by simpa using hb
    rcases e' with z | z
    · rw [z]; exact ⟨_, he, fun v q => nomatch q⟩
    · rw [z]; exact ⟨o, ho, fun v q => by rw [hd] at q; cases q⟩
  keep := fun i h h' st k => let ⟨⟨old, he⟩, hi, hne⟩ := st; ⟨⟨old, k e (by simp) _ he⟩, hi.at fun o q => k it (by simp) o q, hne⟩
  item := by
    intro X hP hw hK hc i pins s σ H E I hf st hg
    subst hP hw hK
    obtain ⟨⟨old, he⟩, hit, hne, hae, hai⟩ := st
    obtain ⟨xs, x, hq, hx⟩ := hg
    obtain ⟨its, rv, p, hz⟩ := I.tuple hq
    obtain ⟨u, hu, ru⟩ := rv.get hx
    have hel : e < s.heap.objs.size := Heap.lt_size he
    have hil : it < s.heap.objs.size := by obtain ⟨_, q, _⟩ := hit; exact Heap.lt_size q
    have hlt : i < its.toArray.size := by
      rw [List.size_toArray]
      exact (List.getElem?_eq_some_iff.mp hu).1
    refine wpAny_pyNext_enum_itemC (Draws.tuple (A := X.A.in1) (show X.A.in1.handled = none from I.ok.hd hc) it a hai its.toArray) he ⟨hit, p⟩ hlt hne (by simp [hne, Ne.symm hae]) fun x' h' tk hP ho hit' hT hsz hk => ?_
    obtain rfl : u = x' := by
      have e1 : its[i]? = some x' := by simpa using hP
      rw [hu] at e1
      exact Option.some.inj e1
    obtain ⟨hit', _⟩ := hit'
    refine ⟨_, rfl, wpAny_letOwnedTupleGo_enum (s := { s with heap := h', toks := tk + 1 }) ho fun h'' he' sb => ?_⟩
    have hT2 : h''.get? s.heap.objs.size = some { cls := .type "tuple", data := .seq #[.int i tk, u] } := (sb.2 _ (Nat.ne_of_gt hel)).trans hT
    have new : ObjOk X.prog X.w (upd H s.heap.objs.size (.tup [.int (i : Nat), x])) h'' s.heap.objs.size (.tup [.int (i : Nat), x]) :=
      ⟨by show 2 ≤ sizeLine; decide, [.int i tk, u], .cons ⟨_, rfl⟩ (.cons ru .nil), ⟨_, hT2, rfl, _, rfl⟩⟩
    have I1 : Inv X pins σ (upd H s.heap.objs.size (.tup [.int (i : Nat), x])) { s with heap := h'', toks := tk + 1 } :=
      I.turnedNew (ch := [e, it]) (fun b ob hb q => (sb.2 b (fun z => hb (by simp [z]))).trans (hk b ob (fun z => hb (by simp [z])) (fun z => hb (by simp [z])) q)) hf (Nat.le_refl _) new
    refine ⟨.ref s.heap.objs.size, _, I1, rfl, ⟨_, x, rfl, I.hok.fresh (Nat.le_refl _), rfl, fun ys hy => by rw [I.tuple_inj hy hq]; exact hx⟩, ⟨⟨u, ?_⟩, hit'.at fun o q => (sb.2 it (Ne.symm hne)).trans q, hne, hae, hai⟩, fun b hb => ?_⟩
    · have e1 : ((i + 1 : Nat) : Int) = (i : Int) + 1 := by omega
      rw [e1]; exact he'
    · have hb' : b < s.heap.objs.size := by
        have e' : b = e ∨ b = it := by simpa using hb
        rcases e' with z | z
        · rw [z]; exact hel
        · rw [z]; exact hil
      rw [upd_ne (Nat.ne_of_lt hb')]
      exact (hf b hb).1
  done := by
    intro X hP hw hK hc i pins s σ H E I hf st hg
    subst hP hw hK
    obtain ⟨⟨old, he⟩, hit, hne, hae, hai⟩ := st
    obtain ⟨xs, hq, hx⟩ := hg
    obtain ⟨its, rv, p, hz⟩ := I.tuple hq
    obtain ⟨f0, f1, f2, f3, f4, f5⟩ := hf it (by simp)
    have hl := rv.length
    obtain ⟨hp, g, d, tk, os⟩ := s
    have hT : (⟨hp, g, d, tk, os⟩ : Shared).TypeIs (.ref e) "enumerate" := ⟨_, he, rfl⟩
    unfold pyNext
    refine wpAny_bind (wpAny_attempt (wpAny_callSpecial?_slot (name := Str.ofString "__next__") hT F.slot_enumerate_next
      (wpAny_call_entry F.slot_enumerate_next hT F.entry_enumerate_next ?_ (F.args_enumerate_next_1 _))))
    show wpAny _ _ (field (.ref e) 2 >>= _) _ _ _
    refine wpAny_bind (wpAny_field he rfl (x := .ref it) rfl ?_)
    refine wpAny_bind (wpAny_nextOf_tuple_end (I.ok.hd hc) hit p (by simp; omega) fun h' x he' hx' => ?_)
    obtain ⟨o, ho, hc'⟩ := hx'
    refine wpAny_bind (wpAny_isInstance (T := "StopIteration") (b := true) ⟨o, ho, hc'⟩ isSubtype_stop ?_)
    exact wpAny_pure ⟨rfl, I.turned (t' := tk) (fun b o hb q => he' b o hb q) f0 f1 f3 f4 f5⟩
  self := fun A i s Q E st h => let ⟨⟨_, he⟩, _⟩ := st; wpAny_pyIter_enum he h
def iEnumT (K : PySem.W.Frag) (ta : TA) : TI := fun σ H R => ta σ H fun vs H1 => ∃ a xs, vs = [.ref a] ∧ SqT K H1 a xs ∧ R (IteT K a) H1
theorem pi_enumT {X : Cx} {e : Expr} {ta : TA} {p pos tpos : Pos} {elts : List Expr} {kk : Nat} (hg : Gl X "enumerate") (hm : X.mg "enumerate" = none) (ha : PA X [e] ta) (hs : starEach [e] X.env = [(false, eval e X.env)] := by rfl) :
    PI X (.Tuple elts kk tpos) (.Call (.Name "enumerate" p) [e] [] pos) (iEnumT X.K ta) := by
  refine ⟨fun pins s σ H R I h => ?_⟩
  refine Call_ (ld_blt I hg hm boot_enumerate (PyProof.Rows.callWith_type1 (thn (ha.run pos pins s σ H _ I h) fun us s1 ⟨vs, H1, I1, r1, q1⟩ => ?_) hs rfl))
  obtain ⟨a, xs, ex, hq, q⟩ := q1
  subst ex
  cases r1 with
  | cons r rr =>
    cases rr
    cases r
    obtain ⟨its, rv, p', hz⟩ := I1.tuple hq
    refine call_enumT p' fun h' he hit hsz hk => wpAny_pyIter_enum he ?_
    have I2 : Inv X pins σ H1 { s1 with heap := h' } := I1.kept (t' := s1.toks) hk
    have hal : a < s1.heap.objs.size := by obtain ⟨_, q, _⟩ := p'; exact Heap.lt_size q
    refine ⟨s1.heap.objs.size + 1, [s1.heap.objs.size + 1, s1.heap.objs.size], _, _, H1, rfl, I2, turn_enumT a (s1.heap.objs.size + 1) s1.heap.objs.size, ⟨⟨.none, he⟩, hit, Nat.succ_ne_self _, Nat.ne_of_lt (Nat.lt_succ_of_lt hal), Nat.ne_of_lt hal⟩, fun b hb => ?_, q⟩
    have e' : b = s1.heap.objs.size + 1 ∨ b = s1.heap.objs.size := by simpa using hb
    have hle : s1.heap.objs.size ≤ b := by
      rcases e' with z | z
      · rw [z]; exact Nat.le_add_right _ _
      · rw [z]; exact Nat.le_refl _
    exact I1.fpOk hle (I1.hok.fresh hle)
section
variable {X : Cx} {K : PySem.W.Frag} {M : Addr → Prop} {σ : St} {H : Hp} {e : Expr} {ds : List PyData} {pos : Pos}
theorem wk_enumT {a : Addr} {xs : List V} (m : ¬ M a) (h : Rd H a (.tup xs)) (r : RpAll K M H xs ds) : Wk K M (IteT K a) H (enumD ds) := by
  have nm : ∀ M' : Addr → Prop, (∀ a, M' a → M a ∨ H a = none) → ¬ M' a := fun M' hm z => (hm a z).elim m (Rd.there h)
  have at_ : ∀ (M' : Addr → Prop) (H' : Hp), (∀ a, M' a → M a ∨ H a = none) → ExM M' H H' → Rd H' a (.tup xs) := fun M' H' hm e => Rd.exT (M := M') h (nm M' hm) e
  refine ⟨fun M' i H' hm e hi => ?_, fun M' H' hm e => ?_, fun M' i H' x H'' hm e al y => ?_⟩
  · have hx : i < xs.length := by rw [r.length, ← enumD_length]; exact hi
    exact ⟨xs, xs[i], .inl (at_ M' H' hm e), List.getElem?_eq_getElem hx⟩
  · exact ⟨xs, .inl (at_ M' H' hm e), by rw [r.length, enumD_length]; exact Nat.le_refl _⟩
  · obtain ⟨T, z, rfl, hT, rfl, y⟩ := y
    refine ⟨Evl.Ex.new hT, fun d hd => ?_⟩
    obtain ⟨e', he, rfl⟩ := enumD_get hd
    obtain ⟨v, hv, rv⟩ := r.get he
    have q := y xs (.inl (at_ M' _ hm e))
    rw [hv] at q
    cases q
    exact .tup (al.fresh hT) (.inl upd_same) (.cons (.int _) (.cons (((rv.wide hm).mono (fun _ z => z) e).mono (fun _ z => z) (.of (Evl.Ex.new hT))) .nil))
theorem src_enumT {p tpos : Pos} {elts : List Expr} {kk : Nat} (hg : Gl X "enumerate") (hm : X.mg "enumerate" = none) (h : PD X M e σ H (.tuple ds)) (hs : starEach [e] X.env = [(false, eval e X.env)] := by rfl)
    (hs' : starEach (e :: []) X.env = (false, eval e X.env) :: starEach [] X.env := by rfl) : Src X M (.Tuple elts kk tpos) (.Call (.Name "enumerate" p) [e] [] pos) σ H (enumD ds) :=
  ⟨_, pi_enumT hg hm wA.pa hs, fun H1 e1 al R q => (ad_cons h ad_nil hs').run H1 e1 al _ fun vs H2 x2 rs => by
    obtain ⟨v, rfl, r⟩ := rpa1 rs
    cases r with
    | tup m hr rr => exact ⟨_, _, rfl, .inl hr, q _ H2 x2 (wk_enumT m hr rr)⟩⟩
end
end GV

namespace GV
open PySem PySem.Spec PyProof.Rows L2
section
variable {X : Cx} {M : Addr → Prop} {σ : St} {H H' : Hp} {a b c e o i : Expr} {da db d : PyData} {pos : Pos} {es : List Expr} {ds : List PyData} {D : Ends}
/-- o.insert(i, e) -/
theorem ce_insert {apos cpos : Pos} {Q : VK} (h : wE X o σ H fun x H1 => ∃ l, x = .ref l ∧ (∃ ys, H1 l = some (.lst ys)) ∧ wE X i σ H1 fun n H2 => wE X e σ H2 fun y H3 => ∃ ys k, H3 l = some (.lst ys) ∧ n = .int (k : Nat) ∧ k ≤ 100000 ∧ ys.length < 100000 ∧ Q .non (upd H3 l (.lst (ys.take k ++ [y] ++ ys.drop k))))
    (h1 : attributeBase o ("insert" : Str) X.env (eval o X.env) = eval o X.env := by rfl)
    (h2 : ((((backTo cpos (starEach [i, e] X.env)).all fun x => !x.1) && (backToKw cpos (keywordEach [] X.env)).all fun x => x.1.isSome) && decide (([i, e].length + ([] : List Keyword).length + if ([] : List Keyword).isEmpty = true then 0 else 1) < 30)) = true := by rfl)
    (h3 : (apos.endLine == cpos.line) = true := by rfl) (h4 : starEach (i :: [e]) X.env = (false, eval i X.env) :: starEach [e] X.env := by rfl) (h6 : starEach (e :: []) X.env = (false, eval e X.env) :: starEach [] X.env := by rfl) (h5 : (backTo cpos (starEach [e] X.env)).any (·.1) = false := by rfl) :
    wE X (.Call (.Attribute o "insert" apos) [i, e] [] cpos) σ H Q := by
  refine ⟨_, pe_bm PySem.F.plainAttrs_list PySem.F.slot_list_insert PySem.F.type_list_insert mt_insert (wE.pe) (pa_cons wE.pe (pa_cons wE.pe pa_nil h6) h4) h1 h2 h3 h4 h5, ?_⟩
  refine wE.weak h ?_
  rintro x H1 ⟨l, rfl, ⟨ys0, hl⟩, hh⟩
  refine ⟨.inl ⟨rfl, _, SqL.of hl⟩, ?_⟩
  refine wE.weak hh ?_
  intro n H2 hh2
  refine wE.weak hh2 ?_
  rintro y H3 ⟨ys, k, hy, rfl, hk, hlen, q⟩
  refine ⟨l, ys, (k : Nat), y, rfl, rfl, hy, Nat.lt_of_lt_of_le hlen (by rw [sizeLine_eq]; decide), by omega, by omega, ?_⟩
  rw [show ((k : Nat) : Int).toNat = k by omega]
  exact q
/-- [..] * k -/
theorem ce_rep {Q : VK} (h : wE X a σ H fun x H2 => wE X b σ H2 fun y H3 => ∃ l xs k, x = .ref l ∧ y = .int (k : Nat) ∧ H3 l = some (.lst xs) ∧ xs.length * k ≤ 100000 ∧ k ≤ 100000 ∧ ∀ p, H3 p = none → Q (.ref p) (upd H3 p (.lst (List.replicate k xs).flatten))) : wE X (.BinOp a .Mult b pos) σ H Q := by
  refine ce_bin op_rep (wE.weak h fun x H2 h2 => wE.weak h2 ?_)
  rintro y H3 ⟨l, xs, k, rfl, rfl, hl, h1, h2, q⟩
  refine ⟨l, (k : Nat), xs, rfl, rfl, hl, by omega, by omega, ?_, ?_⟩
  · rw [show ((k : Nat) : Int).toNat = k by omega]
    exact Evl.sz_of h1
  · rw [show ((k : Nat) : Int).toNat = k by omega]
    exact q
theorem replicate_flat {α : Type} (k : Nat) (x : α) : (List.replicate k [x]).flatten = List.replicate k x := by
  induction k with
  | zero => rfl
  | succ k ih => rw [List.replicate_succ, List.flatten_cons, ih]; rfl
/-- list(range(n)) -/
theorem fd_listRange {p p2 p3 : Pos} {n : Int} (hc : X.calm = true) (hg : Gl X "list") (hm : X.mg "list" = none) (hg2 : Gl X "range") (hm2 : X.mg "range" = none) (h : PD X M e σ H (.int n)) (h0 : 0 ≤ n) (h1 : n ≤ 100000)
    (na : starEach [e] X.env = (false, eval e X.env) :: starEach [] X.env := by rfl) (nb : starEach [.Call (.Name "range" p2) [e] [] p3] X.env = (false, eval (.Call (.Name "range" p2) [e] [] p3) X.env) :: starEach [] X.env := by rfl) :
    FD X M (.Call (.Name "list" p) [.Call (.Name "range" p2) [e] [] p3] [] pos) σ H (((List.range n.toNat).map Int.ofNat).map PyData.int) := .mk fun H1 e1 al Q q =>
  ⟨_, pe_listRg hc hg hm (prg_1 hg2 hm2 wE.pe na) nb, h.run H1 e1 al _ fun v H2 x2 r => by
    cases r
    refine ⟨n, rfl, RgOk.of_le (by omega) (by omega) (by omega) h0, fun l hl => q l _ _ (Evl.fresh_back x2 hl) (x2.trans (Evl.Ex.new hl)) upd_same ?_⟩
    have e2 : rgV 0 n = ((List.range n.toNat).map Int.ofNat).map V.int := by
      unfold rgV
      rw [List.map_map, Int.sub_zero]
      exact List.map_congr_left fun i _ => by
        show V.int (0 + (i : Nat)) = V.int (i : Nat)
        rw [Int.zero_add]
    rw [e2]
    exact RpAll.ints _⟩
/-! ### dicts, as far as they are looked at -/
theorem ce_dict0 {Q : VK} (h : ∀ p, H p = none → Q (.ref p) (upd H p (.dK []))) : wE X (.Dict [] [] pos) σ H Q := ⟨_, pe_dnewK, h⟩
/-- {1: 2} -/
theorem ce_dict1 {i j : Int} {t t2} {p1 p2 : Pos} {Q : VK} (h : ∀ p, H p = none → Q (.ref p) (upd H p (.dK [(.inl i, .int j)]))) : wE X (.Dict [some (.Constant (.int i) t p1)] [.Constant (.int j) t2 p2] pos) σ H Q := by
  refine ⟨_, pe_disp (pps_cons pe_int pe_int pps_nil) rfl rfl (by simp) (by show 1 ≤ 15; decide), fun p hp => ?_⟩
  refine ⟨upd_same, [(.inl i, .int j)], rfl, by show 1 ≤ 15; decide, ?_⟩
  have e : upd (upd H p (.dK [])) p (.dK (mergeK [] [(Sum.inl i, V.int j)])) = upd H p (.dK [(.inl i, .int j)]) := by
    funext x
    by_cases hx : x = p
    · subst hx
      rw [upd_same, upd_same]
      rfl
    · rw [upd_ne hx, upd_ne hx, upd_ne hx]
  rw [e]
  exact h p hp
/-- isinstance(a, (S, T)) of a dict -/
theorem pd_isi2D {S T : String} {x y : Str} {p p1 p2 p3 : Pos} {n : Nat} {j k : Bool} {A : Addr} {kvs : List (Key × V)} (hg : Gl X "isinstance") (hm : X.mg "isinstance" = none) (hgS : Gl X x) (hmS : X.mg x = none) (hvS : bootBuiltins x = some (.type S)) (hgT : Gl X y) (hmT : X.mg y = none) (hvT : bootBuiltins y = some (.type T)) (ha : ∀ H1 (Q : VK), Q (.ref A) H1 → wE X a σ H1 Q) (hA : H A = some (.dK kvs)) (nM : ¬ M A) (hj : kitB "dict" S = some j) (hk : kitB "dict" T = some k)
    (nx : x ≠ "__name__" := by decide) (dx : (x == ("__debug__" : Str)) = false := by decide) (ny : y ≠ "__name__" := by decide) (dy : (y == ("__debug__" : Str)) = false := by decide)
    (h1 : starEach (a :: [.Tuple [.Name x p1, .Name y p2] n p3]) X.env = (false, eval a X.env) :: starEach [.Tuple [.Name x p1, .Name y p2] n p3] X.env := by rfl) (h2 : starEach (.Tuple [.Name x p1, .Name y p2] n p3 :: []) X.env = (false, eval (.Tuple [.Name x p1, .Name y p2] n p3) X.env) :: starEach [] X.env := by rfl)
    (h3 : starEach (.Name x p1 :: [.Name y p2]) X.env = (false, eval (.Name x p1) X.env) :: starEach [.Name y p2] X.env := by rfl) (h4 : starEach (.Name y p2 :: []) X.env = (false, eval (.Name y p2) X.env) :: starEach [] X.env := by rfl)
    (hpl : (backTo pos (starEach [.Tuple [.Name x p1, .Name y p2] n p3] X.env)).any (·.1) = false := by rfl) :
    PD X M (.Call (.Name "isinstance" p) [a, .Tuple [.Name x p1, .Name y p2] n p3] [] pos) σ H (.bool (j || k)) := .mk fun H1 e1 al Q q =>
  ⟨_, pe_callB call_isiT hg hm PyProof.Rows.boot_isinstance (pa_cons wE.pe (pa_cons (pe_tup (pa_cons (pe_bltn (v := .ty S) hgS hmS hvS rfl nx dx) (pa_cons (pe_bltn (v := .ty T) hgT hmT hvT rfl ny dy) pa_nil h4) h3)) pa_nil h2) h1) (by decide) (by decide) h1 hpl, ha _ _
    ⟨Evl.sz_of (by show 2 ≤ 100000; decide), fun t ht => ⟨.ref A, t, [.ty S, .ty T], .type "dict", [.type S, .type T], j || k, rfl, upd_same, .cons (.ty S) (.cons (.ty T) .nil), .base (.dK (Evl.Ex.new ht _ _ (e1 _ _ hA nM fun _ z => by cases z))), kitAny2 hj hk, q _ _ (Evl.Ex.new ht) (.bl _)⟩⟩⟩
/-! ### == of tuples that hold the same things -/
def sameB : V → Bool
  | .ref _ => true
  | v => flatB v
def rEqSame (K : PySem.W.Frag) : R2 := fun x y H Q => ∃ a b xs, x = .ref a ∧ y = .ref b ∧ SqT K H a xs ∧ SqT K H b xs ∧ (∀ v ∈ xs, sameB v = true) ∧ Q (.bl true) H
theorem op_eqSame (hu : X.A.units < cLine) : OpR X (compareOp .Eq) (rEqSame X.K) := by
  intro pins s σ H x y v u Q I rx ry h
  obtain ⟨a, b, xs, rfl, rfl, ha, hb, hs, q⟩ := h
  cases (show v = Value.ref a from rx)
  cases (show u = Value.ref b from ry)
  obtain ⟨us, r1, p1, _⟩ := I.tuple ha
  obtain ⟨ws, r2, p2, _⟩ := I.tuple hb
  have l1 := r1.length
  have l2 := r2.length
  refine SeqAt.RcAt.tuples (e := fun _ => true) p1 p2 hu (fun j h1 h2 => ?_) X.prog X.w X.xe _ ?_
  · have hj : j < xs.length := by
      rw [l1]
      simpa using h1
    have hx : xs[j]? = some xs[j] := List.getElem?_eq_getElem hj
    obtain ⟨v1, e1, rv1⟩ := r1.get hx
    obtain ⟨v2, e2, rv2⟩ := r2.get hx
    have f1 : us.toArray[j] = v1 := by
      have : us[j]? = some us[j] := List.getElem?_eq_getElem (by simpa using h1)
      rw [this] at e1
      simpa using e1
    have f2 : ws.toArray[j] = v2 := by
      have : ws[j]? = some ws[j] := List.getElem?_eq_getElem (by simpa using h2)
      rw [this] at e2
      simpa using e2
    rw [f1, f2]
    have hv := hs _ (List.getElem_mem hj)
    generalize xs[j] = z at rv1 rv2 hv
    cases z with
    | ref r =>
      cases (show v1 = Value.ref r from rv1)
      cases (show v2 = Value.ref r from rv2)
      exact SeqAt.EqAt.same _
    | _ => exact eqAt_same rv1 rv2 hv
  · refine ⟨.bl true, H, I, ?_, q⟩
    have e1 : us.toArray.size = ws.toArray.size := by
      rw [List.size_toArray, List.size_toArray, ← l1, ← l2]
    rw [e1, show ((List.range (min ws.toArray.size ws.toArray.size)).all fun _ => true) = true from List.all_eq_true.mpr fun _ _ => rfl]
    simp [L2.RelV]
theorem ce_eqSame {Q : VK} (hu : X.A.units + 64 < cLine) (h : wE X a σ H fun x H2 => wE X b σ H2 fun y H3 => rEqSame X.K x y H3 Q) : wE X (.Compare a [.Eq] [b] pos) σ H Q := ⟨_, pe_cmpR (op_eqSame (by omega)) wE.pe wE.pe (nomark _), h⟩
/-! ### max of a tuple -/
theorem fold_max (r : List Int) (n : Int) : (n ≤ r.foldl max n ∧ ∀ a ∈ r, a ≤ r.foldl max n) ∧ (r.foldl max n = n ∨ r.foldl max n ∈ r) := by
  induction r generalizing n with
  | nil => exact ⟨⟨Int.le_refl _, fun a h => by cases h⟩, .inl rfl⟩
  | cons y r ih =>
    obtain ⟨⟨h1, h2⟩, h3⟩ := ih (max n y)
    refine ⟨⟨Int.le_trans (Int.le_max_left _ _) h1, fun a ha => ?_⟩, ?_⟩
    · rcases List.mem_cons.mp ha with e | ha
      · subst e
        exact Int.le_trans (Int.le_max_right _ _) h1
      · exact h2 a ha
    · show (r.foldl max (max n y) = n ∨ r.foldl max (max n y) ∈ y :: r)
      rcases h3 with e | h3
      · by_cases hny : y ≤ n
        · left
          rw [e, Int.max_eq_left hny]
        · right
          rw [e, Int.max_eq_right (by omega)]
          exact List.mem_cons_self
      · exact .inr (List.mem_cons_of_mem _ h3)
def rMaxT (K : PySem.W.Frag) : List V → Hp → VK → Prop := fun vs H Q => ∃ (a : Addr) (n : Int) (r : List Int), vs = [.ref a] ∧ SqT K H a ((n :: r).map V.int) ∧ Q (.int (r.foldl max n)) H
theorem cr_maxT (hc : X.calm = true) (hu : X.A.units + 2 < cLine) : CallR X (.builtin "max") (rMaxT X.K) := by
  intro pins s σ H xs us Q I r h
  obtain ⟨a, n, ns, rfl, hs, q⟩ := h
  rw [Vals.ref1 r]
  obtain ⟨its, rv, pl, _⟩ := I.tuple hs
  obtain ⟨as, hr⟩ := Dp.readsAll I _ _ its (dpAll_ints (n :: ns)) rv
  refine PySem.W.max_tuple_data (I.ok.hd hc) pl hr (ints_alike (n :: ns)) ?_ fun i v h' tk bs hv hrd k => ?_
  · have e := ints_depth (n :: ns)
    have e2 : PyData.depthAll (PyData.int n :: ns.map PyData.int) = 0 := e
    rw [e2]
    omega
  · rw [PySem.W.maxD_ints] at hrd
    cases hrd with
    | int i t => exact ⟨.int _, H, I.kept k, ⟨t, rfl⟩, q⟩
theorem rn_maxT {ns : List Int} {m : Int} (hm : m ∈ ns) (hx : ∀ y ∈ ns, y ≤ m) : RDn X M (rMaxT X.K) [.tuple (ns.map PyData.int)] (.int m) := fun vs H1 r _ Q q => by
  obtain ⟨v, rfl, r1⟩ := rpa1 r
  cases r1 with
  | tup m' hs rs =>
    cases ns with
    | nil => cases hm
    | cons n l =>
      refine ⟨_, n, l, rfl, .inl (by rw [← rs.of_ints]; exact hs), q _ H1 (Evl.Ex.refl H1) ?_⟩
      obtain ⟨⟨h1, h2⟩, h3⟩ := fold_max l n
      have e : l.foldl max n = m := by
        apply Int.le_antisymm
        · rcases h3 with e | h3
          · rw [e]
            exact hx n List.mem_cons_self
          · exact hx _ (List.mem_cons_of_mem _ h3)
        · rcases List.mem_cons.mp hm with e | hm
          · rw [e]
            exact h1
          · exact h2 m hm
      rw [e]
      exact .int _
/-! ### sorted(set(a tuple of whole numbers)) -/
theorem fd_sortedSetT {p p2 q2 : Pos} {ns out : List Int} (hc : X.calm = true) (hg : Gl X "sorted") (hm : X.mg "sorted" = none) (hg2 : Gl X "set") (hm2 : X.mg "set" = none) (ha : PD X M a σ H (.tuple (ns.map PyData.int)))
    (hl : ns.length < 64) (ho : out.Pairwise (· < ·)) (hmem : ∀ k, k ∈ out ↔ k ∈ ns)
    (na : starEach [a] X.env = (false, eval a X.env) :: starEach [] X.env := by rfl) : FD X M (.Call (.Name "sorted" p) [.Call (.Name "set" p2) [a] [] q2] [] pos) σ H (out.map PyData.int) := .mk fun H1 e1 al Q q => by
  refine ⟨fun σ H Q => wE X a σ H fun x H1 => ∃ l, x = V.ref l ∧ SqT X.K H1 l (ns.map V.int) ∧ ∀ p, H1 p = none → Q (.ref p) (upd H1 p (.lst (out.map V.int))), ⟨fun pins s σ H Q I h => ?_⟩, ?_⟩
  · refine Call_ (ld_blt I hg hm PyProof.Rows.boot_sorted ?_)
    refine PyProof.Rows.callWith_builtin1 (PyProof.Rows.args_cons ?_ rfl) rfl rfl
    refine Call_ (ld_blt I hg2 hm2 PyProof.Rows.boot_set (PyProof.Rows.callWith_type1 (PyProof.Rows.args_cons (thn (wE.pe.run pins s σ H _ I h) fun v s1 ⟨x, H1, I1, r1, l, e2, hq, q1⟩ => PyProof.Rows.args_nil ?_) na) na rfl))
    subst e2
    cases r1
    obtain ⟨its, r, pl, hz⟩ := I1.tuple hq
    refine call_set_tupI ns (I1.ok.hd hc) pl (by simpa using r.ints) (by unfold scanBound; omega) fun g tk c R hcl k => PyProof.Rows.args_nil ?_
    have I2 : Inv X pins σ H1 { s1 with heap := g, toks := tk } := I1.kept k
    refine sorted_set R (I1.ok.hd hc) (by omega) fun s' p o c' ns' k2 g2 o2 hp hgp hi hs hm' hlen => ?_
    have en : ns' = out := up_ext hs ho fun z => by
      rw [hm' z, hmem z]
      exact decide_eq_true_iff
    subst en
    have hn : H1 p = none := I2.hok.fresh hp
    have ln : (ns'.map V.int).length ≤ sizeLine := by
      rw [List.length_map]
      refine Evl.sz_of (Nat.le_trans ?_ (show 64 ≤ 100000 by decide))
      omega
    have J : Inv X pins σ (upd H1 p (.lst (ns'.map V.int))) { ({ s1 with heap := g, toks := tk } : Shared) with heap := s'.heap, gens := s'.gens, drawn := s'.drawn, toks := s'.toks } := I2.call (ch := []) (Un.laid k2 hp hn) (I2.hok.laid k2 hp ⟨ln, o.toList, c', vals_of_ints hi, hgp⟩) (by rw [g2]; exact I2.bare) (fun _ z => nomatch z)
    obtain ⟨hp', g', d', t', os'⟩ := s'
    obtain rfl : os' = s1.os := o2
    exact ⟨.ref p, _, J, rfl, q1 p hn⟩
  · refine ha.run H1 e1 al _ fun v H2 x2 r => ?_
    cases r with
    | tup m hr rs => exact ⟨_, rfl, .inl (by rw [← rs.of_ints]; exact hr), fun p hp => q p _ _ (Evl.fresh_back x2 hp) (x2.trans (Evl.Ex.new hp)) upd_same (RpAll.ints out)⟩
end
end GV

namespace GV
open PySem PySem.Spec PyProof.Rows L2
/-! ### a list or a tuple, whichever -/
def sqD : Bool → List PyData → PyData
  | true, ds => .tuple ds
  | false, ds => .list ds
theorem items_sq (tp : Bool) (ds : List PyData) : itemsD (sqD tp ds) = some ds := by cases tp <;> rfl
theorem len_sq (tp : Bool) (ds : List PyData) : lenD (sqD tp ds) = some ds.length := by cases tp <;> rfl
theorem ix_sq {tp : Bool} {ds : List PyData} {i : Int} {d : PyData} (h : atI ds i = some d) : ixD (sqD tp ds) (.int i) = some d := by cases tp <;> exact h
theorem ix_sqI {tp : Bool} {ns : List Int} {i : Nat} {z : Int} (h : ns[i]? = some z) : ixD (sqD tp (ns.map PyData.int)) (.int (i : Nat)) = some (.int z) := ix_sq (atI_nat (by rw [List.getElem?_map, h]; rfl))
section
variable {X : Cx} {M : Addr → Prop} {σ : St} {H : Hp} {a b c e tg : Expr} {d : PyData} {pos : Pos} {ds : List PyData} {tp : Bool}
theorem src_S (h : PD X M e σ H (sqD tp ds)) : Src X M tg e σ H ds := by
  cases tp with
  | true => exact src_tup h
  | false => exact src_list h
theorem src_enumS {p tpos : Pos} {elts : List Expr} {kk : Nat} (hg : Gl X "enumerate") (hm : X.mg "enumerate" = none) (h : PD X M e σ H (sqD tp ds)) (hs : starEach [e] X.env = [(false, eval e X.env)] := by rfl)
    (hs' : starEach (e :: []) X.env = (false, eval e X.env) :: starEach [] X.env := by rfl) : Src X M (.Tuple elts kk tpos) (.Call (.Name "enumerate" p) [e] [] pos) σ H (enumD ds) := by
  cases tp with
  | true => exact src_enumT hg hm h hs hs'
  | false => exact src_enum hg hm h hs hs'
theorem pd_sliceS {lo hi : Option Expr} {l u : Option Int} {p2 : Pos} (h : PD X M e σ H (sqD tp ds)) (hl : OD X M lo σ H l) (hu : OD X M hi σ H u) : PD X M (.Subscript e (.Slice lo hi none p2) pos) σ H (sqD tp (cutD ds l u)) := by
  cases tp with
  | true => exact pd_sliceT h hl hu
  | false => exact (fd_slice h hl hu).pd
theorem pd_minDfS {p kp : Pos} {ns : List Int} (hc : X.calm = true) (hu : X.A.units + 2 < cLine) (hg : Gl X "min") (hm : X.mg "min" = none) (ha : PD X M a σ H (sqD tp (ns.map PyData.int))) (hb : PD X M b σ H d)
    (h1 : starEach (a :: []) X.env = (false, eval a X.env) :: starEach [] X.env := by rfl)
    (he : backTo pos (starEach (a :: []) X.env) = (false, eval a X.env) :: backTo pos (starEach [] X.env) := by rfl) (hpl : (backTo pos (starEach (a :: []) X.env)).any (·.1) = false := by rfl)
    (hall : (backToKw pos (keywordEach [⟨some "default", b, kp⟩] X.env)).all (·.1.isSome) = true := by rfl) (hnone : (backToKw pos (keywordEach [⟨some "default", b, kp⟩] X.env)).any (·.1.isNone) = false := by rfl)
    (hks : (backToKw pos (keywordEach [⟨some "default", b, kp⟩] X.env)).filterMap (·.1) = (["default"] : List Str) := by rfl) :
    PD X M (.Call (.Name "min" p) [a] [⟨some "default", b, kp⟩] pos) σ H (minOr d ns) := by
  cases tp with
  | true => exact pd_minDfT hc hu hg hm ha hb h1 he hpl hall hnone hks
  | false => exact pd_minDf hc hu hg hm ha hb h1 he hpl hall hnone hks
theorem pd_maxS {p : Pos} {ns : List Int} {m : Int} (hc : X.calm = true) (hu : X.A.units + 2 < cLine) (hg : Gl X "max") (hn : X.mg "max" = none) (ha : PD X M a σ H (sqD tp (ns.map PyData.int))) (hm : m ∈ ns) (hx : ∀ y ∈ ns, y ≤ m)
    (h1 : starEach (a :: []) X.env = (false, eval a X.env) :: starEach [] X.env := by rfl) (hpl : (backTo pos (starEach [] X.env)).any (·.1) = false := by rfl) : PD X M (.Call (.Name "max" p) [a] [] pos) σ H (.int m) := by
  cases tp with
  | true => exact pd_callB (cr_maxT hc hu) hg hn PyProof.Rows.boot_max (ad_cons ha ad_nil h1) (rn_maxT hm hx) (by decide) (by decide) h1 hpl
  | false => exact pd_callB (cr_max hc) hg hn PyProof.Rows.boot_max (ad_cons ha ad_nil h1) (rn_max hm hx) (by decide) (by decide) h1 hpl
theorem pd_min {p : Pos} {ns : List Int} {m : Int} (hc : X.calm = true) (hg : Gl X "min") (hn : X.mg "min" = none) (ha : PD X M a σ H (.list (ns.map PyData.int))) (hm : m ∈ ns) (hx : ∀ y ∈ ns, m ≤ y)
    (h1 : starEach (a :: []) X.env = (false, eval a X.env) :: starEach [] X.env := by rfl) (hpl : (backTo pos (starEach [] X.env)).any (·.1) = false := by rfl) : PD X M (.Call (.Name "min" p) [a] [] pos) σ H (.int m) :=
  pd_callB (cr_min hc) hg hn PyProof.Rows.boot_min (ad_cons ha ad_nil h1) (rn_min hm hx) (by decide) (by decide) h1 hpl
theorem pd_min2 {p : Pos} {i j : Int} (hg : Gl X "min") (hn : X.mg "min" = none) (ha : PD X M a σ H (.int i)) (hb : PD X M b σ H (.int j)) (hc : X.calm = true := by rfl)
    (h1 : starEach (a :: [b]) X.env = (false, eval a X.env) :: starEach [b] X.env := by rfl) (h2 : starEach (b :: []) X.env = (false, eval b X.env) :: starEach [] X.env := by rfl) (hpl : (backTo pos (starEach [b] X.env)).any (·.1) = false := by rfl) : PD X M (.Call (.Name "min" p) [a, b] [] pos) σ H (.int (min i j)) :=
  PD.is (pd_callB (call_min2 hc) hg hn PyProof.Rows.boot_min (ad_cons ha (ad_cons hb ad_nil h2) h1) rn_min2 (by decide) (by decide) h1 hpl) (by
    congr 1
    split
    · exact (Int.min_eq_right (by omega)).symm
    · exact (Int.min_eq_left (by omega)).symm)
theorem pd_max2 {p : Pos} {i j : Int} (hg : Gl X "max") (hn : X.mg "max" = none) (ha : PD X M a σ H (.int i)) (hb : PD X M b σ H (.int j)) (hc : X.calm = true := by rfl)
    (h1 : starEach (a :: [b]) X.env = (false, eval a X.env) :: starEach [b] X.env := by rfl) (h2 : starEach (b :: []) X.env = (false, eval b X.env) :: starEach [] X.env := by rfl) (hpl : (backTo pos (starEach [b] X.env)).any (·.1) = false := by rfl) : PD X M (.Call (.Name "max" p) [a, b] [] pos) σ H (.int (max i j)) :=
  PD.is (pd_callB (call_max2 hc) hg hn PyProof.Rows.boot_max (ad_cons ha (ad_cons hb ad_nil h2) h1) rn_max2 (by decide) (by decide) h1 hpl) (by
    congr 1
    split
    · exact (Int.max_eq_right (by omega)).symm
    · exact (Int.max_eq_left (by omega)).symm)
theorem fd_sortedSetS {p p2 q2 : Pos} {ns out : List Int} (hc : X.calm = true) (hg : Gl X "sorted") (hm : X.mg "sorted" = none) (hg2 : Gl X "set") (hm2 : X.mg "set" = none) (ha : PD X M a σ H (sqD tp (ns.map PyData.int)))
    (hl : ns.length < 64) (ho : out.Pairwise (· < ·)) (hmem : ∀ k, k ∈ out ↔ k ∈ ns)
    (na : starEach [a] X.env = (false, eval a X.env) :: starEach [] X.env := by rfl) : FD X M (.Call (.Name "sorted" p) [.Call (.Name "set" p2) [a] [] q2] [] pos) σ H (out.map PyData.int) := by
  cases tp with
  | true => exact fd_sortedSetT hc hg hm hg2 hm2 ha hl ho hmem na
  | false => exact fd_sortedSet hc hg hm hg2 hm2 ha hl ho hmem na
/-- list(e), tuple(e) -/
theorem fd_listOf {p : Pos} (hg : Gl X "list") (hm : X.mg "list" = none) (ha : PD X M a σ H d) (h : itemsD d = some ds)
    (h1 : starEach (a :: []) X.env = (false, eval a X.env) :: starEach [] X.env := by rfl) (hpl : (backTo pos (starEach [] X.env)).any (·.1) = false := by rfl) : FD X M (.Call (.Name "list" p) [a] [] pos) σ H ds :=
  fd_callTy call_list_of hg hm PyProof.Rows.boot_list (ad_cons ha ad_nil h1) (rf_list h) (by decide) (by decide) h1 hpl
theorem pd_tupleOf {p : Pos} (hg : Gl X "tuple") (hm : X.mg "tuple" = none) (ha : PD X M a σ H d) (h : itemsD d = some ds)
    (h1 : starEach (a :: []) X.env = (false, eval a X.env) :: starEach [] X.env := by rfl) (hpl : (backTo pos (starEach [] X.env)).any (·.1) = false := by rfl) : PD X M (.Call (.Name "tuple" p) [a] [] pos) σ H (.tuple ds) :=
  pd_callTy call_tuple_of hg hm PyProof.Rows.boot_tuple (ad_cons ha ad_nil h1) (rn_tuple h) (by decide) (by decide) h1 hpl
/-- the name in slot i, by its value -/
theorem ce_nm (i : Nat) {x : Str} {v : V} {Q : VK} (q : Q v H) (hN : X.N[i]? = some x := by rfl) (hv : Vis X.env.scope x := by first | exact .inl rfl | exact .inr (.inl rfl) | exact .inr (.inr rfl)) (hs : σ[i]? = some (some v) := by rfl)
    (hd : (x == ("__debug__" : Str)) = false := by decide) (hcd : (x == ("__classdict__" : Str)) = false := by decide) : wE X (.Name x pos) σ H Q := ce_name hN hv hs q hd hcd
end
end GV

/-! A list of lambdas, given to a name: their closures are pinned for the rest of the block. -/
namespace GV
open PySem PySem.Spec PyProof.Rows L2
structure Lm where
  ps : Arguments
  bd : Expr
  sc : Scope
  po : Pos
def Lm.e (l : Lm) : Expr := .Lambda l.ps l.bd l.sc l.po
def lmsOf : List Expr → List Lm
  | .Lambda a b c d :: es => ⟨a, b, c, d⟩ :: lmsOf es
  | _ => []
abbrev cloO (X : Cx) (l : Lm) (pm : Value) (c' : Addr) (ctv : Value) : Obj := PySem.W.kla_obj "<lambda>" (X.env.qual ++ "<lambda>") l.ps l.bd l.sc (cloFrom X.env.cells l.sc.names []) pm c' ctv
abbrev qlam (X : Cx) : Str := X.env.qual ++ "<lambda>"
/-- the closure of l stands at f -/
def CloAt (X : Cx) (pn : List (Addr × Obj)) (H : Hp) (l : Lm) (f : Addr) : Prop := ∃ pm c' ctv, (f, cloO X l pm c' ctv) ∈ pn ∧ H c' = some (LamX.CodeO c' (qlam X))
structure LmOk (X : Cx) (l : Lm) : Prop where
  sc : LamX.LamS X.env.scope l.sc
  df : defaultsOf l.ps X.env = ([], [])
  bi : ∀ (q : Str) (cl : List (Str × Addr)) (pm cv ctv : Value), bindArgs (PySem.W.kla_fn "<lambda>" q l.ps l.bd l.sc cl pm cv ctv) ⟨[], []⟩ = pure []
section
variable {X : Cx} {pins : List (Addr × Obj)} {σ : St} {H : Hp} {s : Shared}
theorem inv_pinF {f : Addr} {l : Lm} {pm ctv : Value} {c' : Addr} (I : Inv X pins σ H s) (hf : s.heap.get? f = some (cloO X l pm c' ctv)) (hn : H f = none) (hfr : f ∉ frs X.stack) : Inv X ((f, cloO X l pm c' ctv) :: pins) σ H s := by
  refine ⟨I.ok, I.os, I.bare, I.base, I.loc, I.cell, I.free, I.freeC, fun p hp => ?_, I.hok, I.len⟩
  rcases List.mem_append.mp hp with h | h
  · exact I.pin p (List.mem_append_left _ h)
  rcases List.mem_cons.mp h with e | h
  · subst e
    refine ⟨hf, hn, fun e => ?_, fun z => hfr ?_, fun v z => ?_⟩
    · obtain ⟨m, hns, _⟩ := I.loc
      obtain ⟨ob, es, ep, ho, r⟩ := hns
      have e : f = X.env.locals := e
      rw [← e, hf] at ho
      cases ho
      simp at r
    · rcases I.ok.stk with e | ⟨e, _⟩
      · rw [e]
        exact z
      · rw [e]
        show f ∈ List.filterMap (fun x : Env => x.frame) (X.env :: X.outer)
        rw [List.filterMap_cons]
        split
        · exact z
        · exact List.mem_cons_of_mem _ z
    · have z : (cloO X l pm c' ctv).data = .cell v := z
      cases z
  · exact I.pin p (List.mem_append_right _ h)
theorem inv_fewer {pn : List (Addr × Obj)} (I : Inv X (pn ++ pins) σ H s) : Inv X pins σ H s :=
  ⟨I.ok, I.os, I.bare, I.base, I.loc, I.cell, I.free, I.freeC, fun p hp => I.pin p ((List.mem_append.mp hp).elim (List.mem_append_left _) fun h => List.mem_append_right _ (List.mem_append_right _ h)), I.hok, I.len⟩
/-- all of them, one after another -/
theorem lams_eval {T : List (Addr × Str)} {c P : Addr} {pos : Pos} (TB : LamX.TabB X.base X.mg c P) (hcode : X.env.code = .ref c) (hm : (P, qlam X) ∈ T) (hu : ∀ p ∈ T, p.1 = P → p.2 = qlam X) :
    ∀ (ls : List Lm) {pins : List (Addr × Obj)} {H : Hp} {s : Shared} {Q : List Value → Shared → Prop}, (∀ l ∈ ls, LmOk X l) → Inv X pins σ H s → LamX.Tabs T H →
      (∀ (fs : List Addr) (pn : List (Addr × Obj)) (H1 : Hp) (s1 : Shared), Inv X (pn ++ pins) σ H1 s1 → LamX.ExtN H H1 → LamX.Tabs T H1 → fs.length = ls.length → (∀ (j : Nat) (l : Lm) (f : Addr), ls[j]? = some l → fs[j]? = some f → CloAt X (pn ++ pins) H1 l f) → Q (fs.map Value.ref) s1) →
      wpAny (model X.prog X.w) X.A (spliced (backTo pos (starEach (ls.map Lm.e) X.env))) Q X.xe s
  | [], pins, H, s, Q, _, I, hT, h => Calls.spliced_nil (h [] [] H s I (LamX.ExtN.refl H) hT rfl fun j l f h => by cases h)
  | l :: ls, pins, H, s, Q, ok, I, hT, h => by
    have okl := ok l (List.mem_cons_self ..)
    show wpAny _ _ (spliced ((false, eval (.Lambda l.ps l.bd l.sc l.po) X.env) :: backTo pos (starEach (ls.map Lm.e) X.env))) _ _ s
    refine Calls.spliced_cons (LamX.lam_make2 I TB hcode hm hu hT okl.df (LamX.LamS.has okl.sc I.ok) fun f c' pm ctv H1 s1 I1 eN T1 hf hfn hfr hco => ?_)
    refine lams_eval TB hcode hm hu ls (fun k hk => ok k (List.mem_cons_of_mem _ hk)) (inv_pinF I1 hf hfn hfr) T1 fun fs pn H2 s2 I2 e2 T2 hl hc => ?_
    have ea : pn ++ (f, cloO X l pm c' ctv) :: pins = (pn ++ [(f, cloO X l pm c' ctv)]) ++ pins := by simp
    rw [ea] at I2 hc
    refine h (f :: fs) (pn ++ [(f, cloO X l pm c' ctv)]) H2 s2 I2 (eN.trans e2) T2 (by simp [hl]) fun j k g hj hg => ?_
    cases j with
    | zero =>
      cases hj
      cases hg
      exact ⟨pm, c', ctv, by simp, e2 _ _ hco LamX.codeO_ne⟩
    | succ j => exact hc j k g hj hg
theorem b_lams {T : List (Addr × Str)} {c P : Addr} {i : Nat} {x : Str} {es : List Expr} {p1 p2 p3 : Pos} {rest : List Stmt} {D : Ends} (TB : LamX.TabB X.base X.mg c P) (hcode : X.env.code = .ref c) (hm : (P, qlam X) ∈ T) (hu : ∀ p ∈ T, p.1 = P → p.2 = qlam X)
    (hN : X.N.Nodup) (hi : X.N[i]? = some x) (hx : Loc X.env.scope x) (ok : ∀ l ∈ lmsOf es, LmOk X l) (hT : LamX.Tabs T H) (hl : (lmsOf es).length ≤ 100)
    (h : ∀ (pn : List (Addr × Obj)) (fs : List Addr) (H1 : Hp) (p : Addr), LamX.ExtN H H1 → LamX.Tabs T H1 → H1 p = none → fs.length = (lmsOf es).length → (∀ (j : Nat) (l : Lm) (f : Addr), (lmsOf es)[j]? = some l → fs[j]? = some f → CloAt X pn H1 l f) →
      wB (X.tr pn X.xe) rest D (σ.set i (some (.ref p))) (upd H1 p (.lst (fs.map V.ref))))
    (he : es = (lmsOf es).map Lm.e := by rfl) (hs : swapsWith (.List es p2) (some (.Name x p1)) p3.line X.env = pure false := by rfl) (hf : X.fn x = true ∨ X.env.scope.names.lookup x = some .local := by first | exact .inl rfl | exact .inr rfl | assumption) :
    wB X (.Assign [.Name x p1] (.List es p2) p3 :: rest) D σ H := by
  refine ⟨fun D σ H => LamX.Tabs T H ∧ ∀ (pn : List (Addr × Obj)) (fs : List Addr) (H1 : Hp) (p : Addr), LamX.ExtN H H1 → LamX.Tabs T H1 → H1 p = none → fs.length = (lmsOf es).length → (∀ (j : Nat) (l : Lm) (f : Addr), (lmsOf es)[j]? = some l → fs[j]? = some f → CloAt X pn H1 l f) →
      wB (X.tr pn X.xe) rest D (σ.set i (some (.ref p))) (upd H1 p (.lst (fs.map V.ref))), ⟨fun pins s σ H D I hq => ?_⟩, hT, h⟩
  obtain ⟨hT, hq⟩ := hq
  refine wpAny_execs_cons (wpAny_Assign_Name (wpAny_List_spliced ?_) hs)
  rw [he]
  refine lams_eval TB hcode hm hu (lmsOf es) ok I hT fun fs pn H1 s1 I1 e1 T1 hlen hc => ⟨?_, ?_⟩
  · rw [List.length_map, hlen]
    exact Nat.le_trans hl (by decide)
  have hp : H1 s1.heap.objs.size = none := I1.hok.fresh (Nat.le_refl _)
  have rv : Vals (fs.map V.ref) (fs.map Value.ref) := by
    clear hlen hc
    induction fs with
    | nil => exact .nil
    | cons f t ih => exact .cons rfl ih
  have I2 : Inv X (pn ++ pins) σ (upd H1 s1.heap.objs.size (.lst (fs.map V.ref))) { s1 with heap := s1.heap.push { cls := .type "list", data := .seq (fs.map Value.ref).toArray } } :=
    I1.laid (t' := s1.toks) (fun b u e => Heap.get?_push_of_some _ e) (Nat.le_refl _) ⟨by rw [List.length_map, hlen]; exact Nat.le_trans hl (by decide), _, 0, rv, Heap.get?_push_size _ rfl⟩
  refine store_ok I2 hN hi hx (v := .ref s1.heap.objs.size) rfl (fun s2 I3 => ?_) hf
  have hr := hq (X.pn ++ (pn ++ pins)) fs H1 s1.heap.objs.size e1 T1 hp hlen fun j l f hj hf => by
    obtain ⟨pm, c', ctv, h1, h2⟩ := hc j l f hj hf
    exact ⟨pm, c', ctv, List.mem_append_right _ h1, h2⟩
  refine thn ((wB.ps (X := X.tr (X.pn ++ (pn ++ pins)) X.xe)).run [] s2 _ _ D (I3.toTry X.xe) hr) fun f s3 q => ?_
  cases f with
  | next =>
    obtain ⟨σ', H', I', q⟩ := q
    exact ⟨σ', H', inv_fewer (I'.ofTry I.ok), q⟩
  | ret v =>
    obtain ⟨v, σ', H', I', q⟩ := q
    exact ⟨v, σ', H', inv_fewer (I'.ofTry I.ok), q⟩
  | brk =>
    obtain ⟨σ', H', I', q⟩ := q
    exact ⟨σ', H', inv_fewer (I'.ofTry I.ok), q⟩
  | cont =>
    obtain ⟨σ', H', I', q⟩ := q
    exact ⟨σ', H', inv_fewer (I'.ofTry I.ok), q⟩
/-- a walk over a list of whatever -/
theorem s_forL {e : Expr} {pos p2 : Pos} {slot : Nat} {x : Str} {body : List Stmt} {D : Ends} (hp : PassesOwn (model X.prog X.w) X.A X.env X.xe) (hc : X.calm = true) (hN : X.N.Nodup) (hx : X.N[slot]? = some x) (hl : Loc X.env.scope x)
    (h : wE X e σ H fun v H1 => ∃ (l : Addr) (xs : List V) (J : Nat → St → Hp → Prop), v = .ref l ∧ J 0 σ H1 ∧ (∀ i σ' H', J i σ' H' → H' l = some (.lst xs)) ∧
      (∀ i σ' H' y, xs[i]? = some y → J i σ' H' → wB X body { D with nx := J (i + 1), ct := J (i + 1), bk := D.nx } (σ'.set slot (some y)) H') ∧ ∀ σ' H', J xs.length σ' H' → D.nx σ' H')
    (hf : ∀ x, foldedSetIterable e X.env x = pure x := by intro _; rfl) (hfn : X.fn x = true ∨ X.env.scope.names.lookup x = some .local := by first | exact .inl rfl | exact .inr rfl | assumption) : wS X (.For (.Name x p2) e body [] pos) D σ H := by
  refine ⟨_, ps_for hp hc (pi_list wE.pe) (pg_name hN hx hl hfn) wB.ps hf, wE.weak h ?_⟩
  rintro v H1 ⟨l, xs, J, rfl, h0, hk, ht, hd⟩
  refine ⟨l, rfl, ⟨xs, .inl (.inl (hk _ _ _ h0))⟩, fun i m σ' H' => m = xs.length - i ∧ i ≤ xs.length ∧ J i σ' H', ⟨xs.length, rfl, Nat.zero_le _, h0⟩, ?_⟩
  rintro i m σ' H' ⟨rfl, hi', j⟩
  have hl := hk _ _ _ j
  by_cases hlt : i < xs.length
  · refine .inr ⟨⟨xs, xs[i], .inl (.inl hl), List.getElem?_eq_getElem hlt⟩, J (i + 1), fun σ2 H2 j2 => ⟨xs.length - (i + 1), by omega, rfl, hlt, j2⟩, fun y H2 q => ?_⟩
    obtain ⟨rfl, q⟩ := q
    exact ht i σ' _ y (q xs (.inl (.inl hl))) j
  · have e2 : i = xs.length := by omega
    subst e2
    exact .inl ⟨⟨xs, .inl (.inl hl), Nat.le_refl _⟩, hd σ' H' j⟩
end
end GV

namespace GV
open PySem PySem.Spec PyProof.Rows L2
section
variable {X : Cx} {M : Addr → Prop} {σ : St} {H H' : Hp} {a b c e tg iter : Expr} {da db d : PyData} {pos : Pos} {es : List Expr} {ds : List PyData} {tp : Bool}
/-! ### comprehensions over a heap with objects that stay -/
theorem lc_coreO {t : Tg} {elt : Expr} {ifs : List Expr} {scope : Scope} {own : List (Str × Nat)} (hc : X.calm = true) (hN : X.N.Nodup) (hi : Src X M tg iter σ H ds) (ok : BlkOk X.N X.env.scope scope own)
    (hg : ∀ s H C cl fp, PG (Cx.lc X s H scope C cl fp) tg (t.g X.K)) (hf : ∀ d ∈ ds, t.Fits d) (hw : ∀ M H d σ', t.Ok X.K M H d (wipe σ (own.map (·.2))) σ' → wipe σ' (own.map (·.2)) = wipe σ (own.map (·.2)))
    (p : PyData → Bool) (f : PyData → PyData) (hl : ds.length ≤ 100000)
    (body : ∀ s0 H0 C cl fp M' H' d σ', (∀ a, M a → M' a) → (∀ v e, Rp X.K M H v e → Rp X.K M' H' v e) → (∀ a o, ¬ M a → NT o → H a = some o → H' a = some o ∧ ¬ M' a) → d ∈ ds → t.Ok X.K M' H' d (wipe σ (own.map (·.2))) σ' →
      TsD (Cx.lc X s0 H0 scope C cl fp) M' ifs σ' H' (p d) ∧ (p d = true → PD (Cx.lc X s0 H0 scope C cl fp) M' elt σ' H' (f d))) :
    ∃ wi, PI X tg iter wi ∧ ∀ H1, ExM M H H1 → Alive M H1 → ∀ Q : VK, (∀ l ws H2, H1 l = none → Evl.Ex H1 H2 → H2 l = some (.lst ws) → RpAll X.K M H2 ws ((ds.filter p).map f) → Q (.ref l) H2) →
      tLc wi (t.g X.K) (fun σ H Q => ∀ s0 H0 C cl fp, wTs (Cx.lc X s0 H0 scope C cl fp) ifs σ H Q) (fun σ H Q => ∀ s0 H0 C cl fp, wE (Cx.lc X s0 H0 scope C cl fp) elt σ H Q) (own.map (·.2)) σ H1 Q := by
  obtain ⟨wi, pi, run⟩ := hi.ex
  refine ⟨wi, pi, fun H1 e1 al Q q => ?_⟩
  refine run H1 e1 al _ fun It Hs xs wk D hD => ?_
  have alS := al.mono xs
  -- D is mutable meanwhile
  let M' : Addr → Prop := fun a => M a ∨ a = D
  have hm : ∀ a, M' a → M a ∨ Hs a = none := fun a z => z.elim .inl fun e => .inr (by rw [e]; exact hD)
  have al2 : ∀ H', Evl.Ex Hs H' → (∃ acc, H' D = some (.lst acc)) → Alive M' H' := fun H' e ⟨acc, h⟩ a z => by
    rcases z with z | z
    · exact (alS.mono e) a z
    · subst z
      exact ⟨_, h⟩
  refine ⟨fun i m H' => m = ds.length - i ∧ i ≤ ds.length ∧ Evl.Ex Hs H' ∧ ∃ acc, H' D = some (.lst acc) ∧ acc.length ≤ i ∧ RpAll X.K M' H' acc (((ds.take i).filter p).map f), ⟨ds.length, rfl, Nat.zero_le _, Evl.Ex.new hD, [], upd_same, Nat.le_refl _, by simpa using RpAll.nil⟩, ?_⟩
  rintro i m H' ⟨rfl, hi', x, acc, hacc, hlen, racc⟩
  have eM : ExM M' Hs H' := .of x
  have al' := al2 H' x ⟨acc, hacc⟩
  by_cases hlt : i < ds.length
  · refine .inr ⟨wk.go M' i H' hm eM hlt, fun H2 => Evl.Ex Hs H2 ∧ ∃ acc, H2 D = some (.lst acc) ∧ acc.length ≤ i + 1 ∧ RpAll X.K M' H2 acc (((ds.take (i + 1)).filter p).map f), fun H2 ⟨a1, a2⟩ => ⟨ds.length - (i + 1), by omega, rfl, hlt, a1, a2⟩, fun v H2 y => ?_⟩
    obtain ⟨x2, r⟩ := wk.yld M' i H' v H2 hm eM al' y
    have hd' : ds[i]? = some ds[i] := List.getElem?_eq_getElem hlt
    have hmem := List.getElem_mem hlt
    have hacc2 : H2 D = some (.lst acc) := x2 _ _ hacc
    have lift : ∀ v e, Rp X.K M H v e → Rp X.K M' H2 v e := fun v e rv => ((rv.mono (fun _ z => z) (e1.trans (.of xs))).wide hm).mono (fun _ z => z) (.of (x.trans x2))
    have al3 := al2 H2 (x.trans x2) ⟨acc, hacc2⟩
    refine Tg.run (hf _ hmem) (r _ hd') fun σ2 okk => ⟨hw _ _ _ _ okk, ?_⟩
    have all := fun s0 H0 C cl fp => body s0 H0 C cl fp M' H2 ds[i] σ2 (fun _ z => .inl z) lift (fun a o nm nt h => ⟨x2 _ _ (x _ _ (xs _ _ (e1 _ _ h nm nt))), fun z => z.elim nm fun e => by have w := xs _ _ (e1 _ _ h nm nt); rw [e, hD] at w; cases w⟩) hmem okk
    -- the test
    have tk : (ds.take (i + 1)).filter p = (ds.take i).filter p ++ (if p ds[i] = true then [ds[i]] else []) := by
      rw [List.take_add_one, hd', List.filter_append]
      simp only [Option.toList_some, List.filter_cons, List.filter_nil]
    have fin : ∀ b, b = p ds[i] → ∀ H3, Evl.Ex H2 H3 → (if b = true then (∀ s0 H0 C cl fp, wE (Cx.lc X s0 H0 scope C cl fp) elt σ2 H3 fun y H4 => ∃ acc, H4 D = some (.lst acc) ∧ acc.length < sizeLine ∧
        (Evl.Ex Hs (upd H4 D (.lst (acc ++ [y]))) ∧ ∃ acc', (upd H4 D (.lst (acc ++ [y]))) D = some (.lst acc') ∧ acc'.length ≤ i + 1 ∧ RpAll X.K M' (upd H4 D (.lst (acc ++ [y]))) acc' (((ds.take (i + 1)).filter p).map f)))
        else (Evl.Ex Hs H3 ∧ ∃ acc, H3 D = some (.lst acc) ∧ acc.length ≤ i + 1 ∧ RpAll X.K M' H3 acc (((ds.take (i + 1)).filter p).map f))) := by
      intro b hb H3 x3
      have hacc3 := x3 _ _ hacc2
      cases b with
      | true =>
        rw [if_pos rfl]
        intro s0 H0 C cl fp
        refine ((all s0 H0 C cl fp).2 hb.symm).run H3 (.of x3) (al3.mono x3) _ fun y H4 x4 ry => ?_
        have x5 : Evl.Ex Hs H4 := ((x.trans x2).trans x3).trans x4
        refine ⟨acc, x4 _ _ hacc3, ?_, Evl.Ex.mut x5 hD, _, upd_same, ?_, ?_⟩
        · exact Nat.lt_of_lt_of_le (Nat.lt_of_le_of_lt hlen hlt) (Evl.sz_of hl)
        · rw [List.length_append, List.length_singleton]
          omega
        · rw [tk, if_pos hb.symm, List.map_append]
          have eD : ExM M' H4 (upd H4 D (.lst (acc ++ [y]))) := fun a o h nm _ => by
            rw [upd_ne (fun e => nm (.inr e))]
            exact h
          exact (racc.mono (fun _ z => z) (.of ((x2.trans x3).trans x4))).append (.cons ry .nil) |>.mono (fun _ z => z) eD
      | false =>
        rw [if_neg Bool.false_ne_true]
        refine ⟨(x.trans x2).trans x3, acc, hacc3, by omega, ?_⟩
        rw [tk, if_neg (by rw [← hb]; exact Bool.false_ne_true), List.append_nil]
        exact racc.mono (fun _ z => z) (.of (x2.trans x3))
    intro s0 H0 C cl fp
    exact (all s0 H0 C cl fp).1.run H2 (ExM.refl H2) al3 _ fun H3 x3 => fin _ rfl H3 x3
  · have e2 : i = ds.length := by omega
    subst e2
    refine .inl ⟨wk.stop M' H' hm eM, q D acc H' (Evl.fresh_back xs hD) (xs.trans x) hacc ?_⟩
    rw [List.take_length] at racc
    exact racc.mono (fun _ z => .inl z) (ExM.refl _)
theorem fd_lcO {t : Tg} {elt : Expr} {ifs : List Expr} {scope : Scope} {own : List (Str × Nat)} (hc : X.calm = true) (hN : X.N.Nodup) (hi : Src X M tg iter σ H ds) (ok : BlkOk X.N X.env.scope scope own)
    (hg : ∀ s H C cl fp, PG (Cx.lc X s H scope C cl fp) tg (t.g X.K)) (hf : ∀ d ∈ ds, t.Fits d) (hw : ∀ M H d σ', t.Ok X.K M H d (wipe σ (own.map (·.2))) σ' → wipe σ' (own.map (·.2)) = wipe σ (own.map (·.2)))
    (p : PyData → Bool) (f : PyData → PyData) (hl : ds.length ≤ 100000)
    (body : ∀ s0 H0 C cl fp M' H' d σ', (∀ a, M a → M' a) → (∀ v e, Rp X.K M H v e → Rp X.K M' H' v e) → (∀ a o, ¬ M a → NT o → H a = some o → H' a = some o ∧ ¬ M' a) → d ∈ ds → t.Ok X.K M' H' d (wipe σ (own.map (·.2))) σ' →
      TsD (Cx.lc X s0 H0 scope C cl fp) M' ifs σ' H' (p d) ∧ (p d = true → PD (Cx.lc X s0 H0 scope C cl fp) M' elt σ' H' (f d)))
    (hs : ∀ x, foldedSetIterable iter X.env x = pure x := by intro _; rfl) : FD X M (.ListComp elt [⟨tg, iter, ifs, 0⟩] scope pos) σ H ((ds.filter p).map f) := by
  obtain ⟨wi, pi, run⟩ := lc_coreO hc hN hi ok hg hf hw p f hl body
  exact .mk fun H1 e1 al Q q => ⟨_, pe_lc hc hN pi ok hg (fun s0 H0 C cl fp => ⟨fun pins s σ H Q I h => wTs.pts.run pins s σ H Q I (h s0 H0 C cl fp)⟩) (fun s0 H0 C cl fp => ⟨fun pins s σ H Q I h => wE.pe.run pins s σ H Q I (h s0 H0 C cl fp)⟩) hs, run H1 e1 al Q q⟩
theorem fd_filterO {tst : Expr} {t : Tg} {elt : Expr} {scope : Scope} {own : List (Str × Nat)} (p : PyData → Bool) (f : PyData → PyData) (hc : X.calm = true) (hN : X.N.Nodup) (hi : Src X M tg iter σ H ds) (ok : BlkOk X.N X.env.scope scope own)
    (hg : ∀ s H C cl fp, PG (Cx.lc X s H scope C cl fp) tg (t.g X.K)) (hf : ∀ d ∈ ds, t.Fits d) (hw : ∀ M H d σ', t.Ok X.K M H d (wipe σ (own.map (·.2))) σ' → wipe σ' (own.map (·.2)) = wipe σ (own.map (·.2))) (hl : ds.length ≤ 100000)
    (body : ∀ s0 H0 C cl fp M' H' d σ', (∀ a, M a → M' a) → (∀ v e, Rp X.K M H v e → Rp X.K M' H' v e) → (∀ a o, ¬ M a → NT o → H a = some o → H' a = some o ∧ ¬ M' a) → d ∈ ds → t.Ok X.K M' H' d (wipe σ (own.map (·.2))) σ' → TD (Cx.lc X s0 H0 scope C cl fp) M' tst σ' H' (p d) ∧ PD (Cx.lc X s0 H0 scope C cl fp) M' elt σ' H' (f d))
    (hs : ∀ x, foldedSetIterable iter X.env x = pure x := by intro _; rfl) : FD X M (.ListComp elt [⟨tg, iter, [tst], 0⟩] scope pos) σ H ((ds.filter p).map f) :=
  fd_lcO hc hN hi ok hg hf hw p f hl (fun s0 H0 C cl fp M' H' d σ' hM lift kp hd hok => let ⟨h1, h2⟩ := body s0 H0 C cl fp M' H' d σ' hM lift kp hd hok; ⟨tsd_one h1, fun _ => h2⟩) hs
/-- the heap behind the collecting of xs: a new list that holds them -/
abbrev heapC (h : Heap) (xs : Array Value) : Heap := (h.push (seqObj "list" #[] 0)).update h.objs.size (Obj.mapSeq (· ++ xs))
/-- collect of a list or a tuple, with the heap that it leaves (wpAny_collect_seq says only that all stays) -/
theorem collect_seqX {P : Program} {w : World} {A : Around} {E : Value → Shared → Prop} {s : Shared} {Q : List Value → Shared → Prop} (it : Addr) {T : String} {o : Obj} {xs : Array Value} {n : Nat} (hT : T = "list" ∨ T = "tuple")
    (ho : s.heap.get? it = some o) (hc : o.cls = .type T) (hd : o.data = .seq xs n) (hsz : xs.size ≤ sizeLine) (q : Q xs.toList { s with heap := heapC s.heap xs }) : wpAny (model P w) A (collect (.ref it)) Q E s := by
  have empty : (s.heap.push (seqObj "list" #[] 0)).get? s.heap.objs.size = some (seqObj "list" #[] 0) := Heap.get?_push_size _ rfl
  have full : ∃ e, (heapC s.heap xs).get? s.heap.objs.size = some (seqObj "list" xs e) := by
    have e := get?_update_seq empty (· ++ xs)
    rw [show (#[] : Array Value) ++ xs = xs by simp] at e
    exact ⟨_, e⟩
  obtain ⟨e, full⟩ := full
  -- what is done with the full list
  have read : ∀ {k : Obj → Sem (List Value)}, (∀ m, k (seqObj "list" xs m) = pure xs.toList) → wpAny (model P w) A (load s.heap.objs.size >>= k) Q E { s with heap := heapC s.heap xs } := fun hk => wpAny_bind (wpAny_load full (by rw [hk]; exact wpAny_pure q))
  have fill := wpAny_extend_seq (prog := P) (w := w) (A := A) (s := { s with heap := s.heap.push (seqObj "list" #[] 0) }) (R := fun r z => r = .ok (.ret (.ref s.heap.objs.size)) ∧ z = { s with heap := heapC s.heap xs }) s.heap.objs.size it (.ref s.heap.objs.size) 0 hT empty (Heap.get?_push_of_some _ ho) hc hd ⟨rfl, rfl⟩ hsz
  unfold collect
  refine wpAny_bind (wpAny_runValue (codeAny_builtin PyProof.Rows.entry_proto_collect' ?_))
  refine wpAny_bind (wpAny_newList (wpAny_pure ⟨Code.quiet_builtin _ (by decide +kernel), codeAny_builtin PyProof.Rows.entry_list_iadd' (wpAny_mono fill (fun r z hz => ?_) fun e z hz => ?_)⟩) (by simp))
  · cases r with
    | done f =>
      obtain ⟨e1, rfl⟩ := hz
      cases e1
      exact read fun m => rfl
    | again c' =>
      refine ⟨hz.1, codeAny_mono hz.2 fun r u hr => ?_⟩
      obtain ⟨rfl, rfl⟩ := hr
      exact read fun m => rfl
  · exact absurd hz.1 (by simp)
/-! ### sorted(a list or a tuple of whole numbers, fewer than 64) -/
def rSortQ (K : PySem.W.Frag) : List V → Hp → VK → Prop := fun vs H Q => ∃ (a : Addr) (ns : List Int), vs = [.ref a] ∧ (SqL K H a (ns.map V.int) ∨ SqT K H a (ns.map V.int)) ∧ ns.length < 64 ∧
  ∀ (ns' : List Int) (p : Addr), ns'.Perm ns → ns'.Pairwise (· ≤ ·) → H p = none → Q (.ref p) (upd H p (.lst (ns'.map V.int)))
theorem cr_sortQ : CallR X (.builtin "sorted") (rSortQ X.K) := by
  intro pins s σ H vs us Q J r h
  obtain ⟨a, ns, rfl, hs, h64, q⟩ := h
  rw [Vals.ref1 r]
  have core : ∀ (T : String) (its : List Value) (o : Obj) (n : Nat), (T = "list" ∨ T = "tuple") → Vals (ns.map V.int) its → s.heap.get? a = some o → o.cls = .type T → o.data = .seq its.toArray n →
      wpAny (model X.prog X.w) X.A (call (.builtin "sorted") [.ref a]) (EP X pins σ Q) X.xe s := by
    intro T its o n hT rv ho hcl hd
    have hI : IntsAre its ns := rv.ints
    have hln : its.length = ns.length := by rw [← rv.length, List.length_map]
    refine Calls.call_function_entry PyProof.Rows.kind_sorted PyProof.Rows.plain_sorted PyProof.Rows.entry_sorted (PyProof.Rows.args_sorted1 (.ref a)) ?_
    unfold Builtin.«sorted»
    have hzz : its.toArray.size ≤ sizeLine := by rw [List.size_toArray, hln, sizeLine_eq]; omega
    refine wpAny_bind (m := checkCount "sorted" 1 1 _) (wpAny_pure (wpAny_bind (collect_seqX a hT ho hcl hd hzz ?_)))
    rw [List.toList_toArray]
    refine wpAny_bind (wpAny_newList ?_ (by rw [← List.size_toArray]; exact hzz))
    generalize hh' : heapC s.heap its.toArray = h'
    have hsz : h'.objs.size = s.heap.objs.size + 1 := by rw [← hh', Heap.size_update, Heap.size_push]
    have kp : ∀ b o, s.heap.get? b = some o → h'.get? b = some o := fun b o e => by
      rw [← hh', Heap.get?_update_ne _ _ _ _ (Nat.ne_of_lt (Heap.lt_size e))]
      exact Heap.get?_push_of_some _ e
    have hoL : (h'.push (seqObj "list" its.toArray 0)).get? h'.objs.size = some (seqObj "list" its.toArray 0) := Heap.get?_push_size _ rfl
    refine wpAny_bind (wpAny_holding (wpAny_call_entry PyProof.Rows.slot_list_sort ⟨_, hoL, rfl⟩ PyProof.Rows.entry_list_sort (list_sort_tree hoL hI (by rw [hln]; exact h64) fun out ns' k1 k2 k3 => ⟨_, rfl, ?_⟩) (PyProof.Rows.args_list_sort _)))
    obtain ⟨c, hc⟩ := sortedHeap_at (vs := its) (out := out) hoL
    have le : s.heap.objs.size ≤ h'.objs.size := by rw [hsz]; exact Nat.le_succ _
    refine wpAny_pure ⟨_, rfl, .ref _, upd H h'.objs.size (.lst (ns'.map V.int)), ?_, rfl, q ns' _ k2 k3 (J.hok.fresh le)⟩
    refine J.laid (t' := s.toks) (fun b u e => ?_) le ⟨?_, out.toList, c, vals_of_ints k1, hc⟩
    · have e := kp b u e
      have hlt := Heap.lt_size e
      show (sortedHeap (h'.push (seqObj "list" its.toArray 0)) h'.objs.size its out).get? b = some u
      rw [sortedHeap_old (Nat.ne_of_lt hlt) (by rw [Heap.size_push]; exact Nat.lt_succ_of_lt hlt)]
      exact Heap.get?_push_of_some _ e
    · rw [List.length_map, k2.length_eq, sizeLine_eq]
      omega
  rcases hs with hs | hs
  · obtain ⟨its, rv, hl, hz⟩ := J.list hs
    obtain ⟨o, ho, hcl, n, hd⟩ := hl.isList
    exact core "list" its o n (.inl rfl) rv ho hcl hd
  · obtain ⟨its, rv, hl, hz⟩ := J.tuple hs
    obtain ⟨o, ho, hcl, n, hd⟩ := hl
    exact core "tuple" its o n (.inr rfl) rv ho hcl hd
end
end GV

namespace GV
open PySem PySem.Spec PyProof.Rows L2
section
variable {X : Cx} {M : Addr → Prop} {σ : St} {H H' : Hp} {a b c e tg iter : Expr} {da db d : PyData} {pos : Pos} {es : List Expr} {ds : List PyData} {tp : Bool} {D : Ends}
theorem two_sorted {x y : Int} {l : List Int} (h : l.Perm [x, y]) (s : l.Pairwise (· ≤ ·)) : l = [min x y, max x y] := by
  have hl := h.length_eq
  match l, hl with
  | [u, v], _ =>
    have hs : u ≤ v := by
      have := List.pairwise_cons.mp s
      exact this.1 v (by simp)
    have h1 : u ∈ [x, y] := h.mem_iff.mp (by simp)
    have h2 : v ∈ [x, y] := h.mem_iff.mp (by simp)
    have h3 : x ∈ [u, v] := h.mem_iff.mpr (by simp)
    have h4 : y ∈ [u, v] := h.mem_iff.mpr (by simp)
    simp only [List.mem_cons, List.not_mem_nil, or_false] at h1 h2 h3 h4
    have e1 : u = min x y := by omega
    have e2 : v = max x y := by omega
    rw [e1, e2]
theorem fd_sort2 {p : Pos} {x y : Int} (hg : Gl X "sorted") (hm : X.mg "sorted" = none) (ha : PD X M a σ H (sqD tp [.int x, .int y])) (hs : starEach (a :: []) X.env = (false, eval a X.env) :: starEach [] X.env := by rfl) (hpl : (backTo pos (starEach [] X.env)).any (·.1) = false := by rfl) :
    FD X M (.Call (.Name "sorted" p) [a] [] pos) σ H [.int (min x y), .int (max x y)] := by
  refine fd_callB cr_sortQ hg hm PyProof.Rows.boot_sorted (ad_cons ha ad_nil hs) (fun vs H1 r al Q q => ?_) (by decide) (by decide) hs hpl
  obtain ⟨v, rfl, r1⟩ := rpa1 r
  have fin : ∀ (ns' : List Int) (p : Addr), ns'.Perm [x, y] → ns'.Pairwise (· ≤ ·) → H1 p = none → Q (.ref p) (upd H1 p (.lst (ns'.map V.int))) := fun ns' p hp hs hn => by
    rw [two_sorted hp hs]
    exact q p _ _ hn (Evl.Ex.new hn) upd_same (.cons (.int _) (.cons (.int _) .nil))
  cases tp with
  | true =>
    cases r1 with
    | tup m hs rs =>
      obtain ⟨v1, v2, rfl, q1, q2⟩ := rpa2 rs
      cases q1
      cases q2
      exact ⟨_, [x, y], rfl, .inr (.inl hs), (by show 2 < 64; decide), fin⟩
  | false =>
    cases r1 with
    | lst m hs rs =>
      obtain ⟨v1, v2, rfl, q1, q2⟩ := rpa2 rs
      cases q1
      cases q2
      exact ⟨_, [x, y], rfl, .inl (.inl hs), (by show 2 < 64; decide), fin⟩
/-- x, y = a list of two -/
theorem s_unp2 {i j kt : Nat} {x y : Str} {px py pt : Pos} (al : Alive M H) (hc : X.calm = true) (h : FD X M e σ H [da, db]) (hx : PG X (.Name x px) (gName i)) (hy : PG X (.Name y py) (gName j))
    (q : ∀ v w H2, Evl.Ex H H2 → Rp X.K M H2 v da → Rp X.K M H2 w db → D.nx ((σ.set i (some v)).set j (some w)) H2)
    (hn : (assignEach [.Name x px, .Name y py] X.env).length = 2 := by rfl) (hst : (assignEach [.Name x px, .Name y py] X.env).findIdx? (·.1) = none := by rfl) (hs : swapsWithSole [.Tuple [.Name x px, .Name y py] kt pt] e pos.line X.env = pure false := by rfl) (hw : swappedStores [.Tuple [.Name x px, .Name y py] kt pt] e X.env = pure none := by rfl)
    (h1 : (assignEach [.Tuple [.Name x px, .Name y py] kt pt] X.env).map (·.2) = [assign (.Tuple [.Name x px, .Name y py] kt pt) X.env] := by rfl) : wS X (.Assign [.Tuple [.Name x px, .Name y py] kt pt] e pos) D σ H :=
  ⟨_, ps_asg wE.pe (pg_unl hc (pgs_cons hx (pgs_cons hy pgs_nil)) hn hst) hs hw h1, h.run H (ExM.refl H) al _ fun p ws H2 hp x2 h2 rs => by
    obtain ⟨v, w, rfl, r1, r2⟩ := rpa2 rs
    exact ⟨p, _, rfl, .inl (.inl h2), rfl, v, _, rfl, w, _, rfl, rfl, q v w H2 x2 r1 r2⟩⟩
theorem pd_catT {es fs : List PyData} (ha : PD X M a σ H (.tuple es)) (hb : PD X M b σ H (.tuple fs)) (hl : es.length + fs.length ≤ 100000) : PD X M (.BinOp a .Add b pos) σ H (.tuple (es ++ fs)) := .mk fun H1 e1 al Q q =>
  ⟨_, pe_op op_catA wE.pe wE.pe, ha.run H1 e1 al _ fun x H2 x2 rx => hb.run H2 (e1.trans (.of x2)) (al.mono x2) _ fun y H3 x3 ry => by
    have rx' := rx.mono (fun _ z => z) (.of x3)
    have al3 := (al.mono x2).mono x3
    cases rx' with
    | tup m1 h1 r1 =>
      cases ry with
      | tup m2 h2 r2 =>
        refine ⟨_, _, _, _, rfl, rfl, .inl h1, .inl h2, by rw [r1.length, r2.length]; exact Evl.sz_of hl, fun e => ?_, fun _ e => ?_, fun _ _ p hp => ?_⟩
        · subst e
          cases r1
          exact q _ _ (x2.trans x3) (.tup m2 h2 r2)
        · subst e
          cases r2
          exact q _ _ (x2.trans x3) (.tup m1 h1 (by rw [List.append_nil]; exact r1))
        · exact q _ _ ((x2.trans x3).trans (Evl.Ex.new hp)) (.tup (al3.fresh hp) (.inl upd_same) ((r1.append r2).mono (fun _ z => z) (.of (Evl.Ex.new hp))))⟩
/-! ### x in a list of whole numbers -/
theorem inV_ints (x : Int) (ns : List Int) : inV (.int x) (ns.map V.int) = decide (x ∈ ns) := by
  unfold inV
  rw [List.any_map, Bool.eq_iff_iff, decide_eq_true_eq, List.any_eq_true]
  constructor
  · rintro ⟨y, hy, e⟩
    have e : (y == x) = true := e
    rw [← beq_iff_eq.mp e]
    exact hy
  · intro h
    exact ⟨x, h, (by show (x == x) = true; simp)⟩
theorem flat_ints (ns : List Int) : (ns.map V.int).all flatV = true := by
  rw [List.all_map, List.all_eq_true]
  exact fun _ _ => rfl
theorem td_in {x : Int} {ns : List Int} (ha : PD X M a σ H (.int x)) (hb : PD X M b σ H (.list (ns.map PyData.int))) (hk : behindInMarks .In b = false := by rfl) : TD X M (.Compare a [.In] [b] pos) σ H (decide (x ∈ ns)) :=
  td_cmpR op_in_seq hk (fun u v H1 ru rv _ Q q => by
    cases ru
    cases rv with
    | lst m hs rs =>
      refine ⟨_, _, rfl, .inl (.inl hs), rfl, by rw [rs.of_ints]; exact flat_ints ns, ?_⟩
      rw [rs.of_ints]
      show Q (.bl (inV (.int x) (ns.map V.int))) H1
      rw [inV_ints]
      exact q _ H1 (Evl.Ex.refl H1) (.bl _)) ha hb
theorem td_nin {x : Int} {ns : List Int} (ha : PD X M a σ H (.int x)) (hb : PD X M b σ H (.list (ns.map PyData.int))) (hk : behindInMarks .NotIn b = false := by rfl) : TD X M (.Compare a [.NotIn] [b] pos) σ H (!decide (x ∈ ns)) :=
  td_cmpR op_notIn_seq hk (fun u v H1 ru rv _ Q q => by
    cases ru
    cases rv with
    | lst m hs rs =>
      refine ⟨_, _, rfl, .inl (.inl hs), rfl, by rw [rs.of_ints]; exact flat_ints ns, ?_⟩
      rw [rs.of_ints]
      show Q (.bl (!inV (.int x) (ns.map V.int))) H1
      rw [inV_ints]
      exact q _ H1 (Evl.Ex.refl H1) (.bl _)) ha hb
/-! ### is True, is False -/
theorem ce_isnB {Q : VK} {k j : Bool} {jj p2} (h : wE X a σ H fun x H2 => x = .bl k ∧ Q (.bl (!decide (k = j))) H2) : wE X (.Compare a [.IsNot] [.Constant (.bool j) jj p2] pos) σ H Q :=
  ⟨_, pe_cmpR op_isnot_bl wE.pe pe_bl (nomark _), wE.weak h fun x H2 ⟨e, q⟩ => (by exact ⟨k, j, e, rfl, q⟩)⟩
theorem ct_isnB {Q : Bool → Hp → Prop} {k j : Bool} {jj p2} (h : wE X a σ H fun x H2 => x = .bl k ∧ Q (!decide (k = j)) H2) : wT X (.Compare a [.IsNot] [.Constant (.bool j) jj p2] pos) σ H Q :=
  ⟨_, pt_cmpR op_isnot_bl wE.pe pe_bl (nomark _), wE.weak h fun x H2 ⟨e, q⟩ => (by exact ⟨k, j, e, rfl, _, rfl, q⟩)⟩
/-! ### len(set(..)) -/
def dd : List Int → List Int
  | [] => []
  | x :: t => if x ∈ t then dd t else x :: dd t
theorem mem_dd {l : List Int} {k : Int} : k ∈ dd l ↔ k ∈ l := by
  induction l with
  | nil => exact Iff.rfl
  | cons x t ih =>
    unfold dd
    split
    · rename_i h
      rw [ih, List.mem_cons]
      exact ⟨.inr, fun z => z.elim (fun e => e ▸ h) id⟩
    · rw [List.mem_cons, List.mem_cons, ih]
theorem nd_dd (l : List Int) : (dd l).Nodup := by
  induction l with
  | nil => exact List.nodup_nil
  | cons x t ih =>
    unfold dd
    split
    · exact ih
    · rename_i h
      exact List.nodup_cons.mpr ⟨fun z => h (mem_dd.mp z), ih⟩
theorem dd_le (l : List Int) : (dd l).length ≤ l.length := by
  induction l with
  | nil => exact Nat.le_refl _
  | cons x t ih =>
    unfold dd
    split
    · exact Nat.le_succ_of_le ih
    · exact Nat.succ_le_succ ih
theorem dd_eq {l : List Int} : (dd l).length = l.length ↔ l.Nodup := by
  induction l with
  | nil => exact ⟨fun _ => List.nodup_nil, fun _ => rfl⟩
  | cons x t ih =>
    unfold dd
    rw [List.nodup_cons]
    split
    · rename_i h
      constructor
      · intro e
        have := dd_le t
        rw [List.length_cons] at e
        omega
      · exact fun z => absurd h z.1
    · rename_i h
      rw [List.length_cons, List.length_cons]
      exact ⟨fun e => ⟨h, ih.mp (by omega)⟩, fun z => by rw [ih.mpr z.2]⟩
theorem pd_lenSet {p p2 q2 : Pos} {ns : List Int} (hc : X.calm = true) (hg : Gl X "len") (hm : X.mg "len" = none) (hg2 : Gl X "set") (hm2 : X.mg "set" = none) (ha : PD X M a σ H (sqD tp (ns.map PyData.int))) (hl : ns.length < 64)
    (na : starEach [a] X.env = (false, eval a X.env) :: starEach [] X.env := by rfl) : PD X M (.Call (.Name "len" p) [.Call (.Name "set" p2) [a] [] q2] [] pos) σ H (.int ((dd ns).length : Nat)) := .mk fun H1 e1 al Q q => by
  refine ⟨fun σ H Q => wE X a σ H fun x H1 => ∃ l, x = V.ref l ∧ (SqL X.K H1 l (ns.map V.int) ∨ SqT X.K H1 l (ns.map V.int)) ∧ Q (.int ((dd ns).length : Nat)) H1, ⟨fun pins s σ H Q J h => ?_⟩, ?_⟩
  · refine Call_ (ld_blt J hg hm PySem.boot_len (PyProof.Rows.callWith_builtin1 (PyProof.Rows.args_cons ?_ rfl) rfl rfl))
    refine Call_ (ld_blt J hg2 hm2 PyProof.Rows.boot_set (PyProof.Rows.callWith_type1 (PyProof.Rows.args_cons (thn (wE.pe.run pins s σ H _ J h) fun v s1 ⟨x, H1, J1, r1, l, e2, hq, q1⟩ => PyProof.Rows.args_nil ?_) na) na rfl))
    subst e2
    cases r1
    have fin : ∀ (g : Heap) (tk c : Nat), SetR X.w g s1.heap.objs.size (fun j => decide (j ∈ ns)) c → c ≤ ns.length → (∀ b o, s1.heap.get? b = some o → g.get? b = some o) →
        wpAny (model X.prog X.w) X.A (spliced (backTo pos (starEach [] X.env))) (fun vs s₂ => wpAny (model X.prog X.w) X.A (call (.builtin "len") (Value.ref s1.heap.objs.size :: vs)) (EP X pins σ Q) X.xe s₂) X.xe { s1 with heap := g, toks := tk } := by
      intro g tk c R hcl k
      refine PyProof.Rows.args_nil ?_
      obtain ⟨o, es, ep, t, ho, hex, hd, _, hnd, hmem, hsz, hf, hn, _⟩ := R
      have J2 : Inv X pins σ H1 { s1 with heap := g, toks := tk } := J1.kept k
      have hc' : c = (dd ns).length := by
        have pm : (es.toList.map keyOf).Perm (dd ns) := (List.perm_ext_iff_of_nodup hnd (nd_dd ns)).mpr fun k => by
          rw [← hmem k, mem_dd]
          exact decide_eq_true_iff
        have := pm.length_eq
        rw [List.length_map, Array.length_toList, hn] at this
        exact this
      refine call_len_set ho hex hd hf (by rw [hn] <;> omega) ⟨.int ((dd ns).length : Nat), H1, J2.tok _, ⟨_, by rw [hn, hc']⟩, q1⟩
    rcases hq with hq | hq
    · obtain ⟨its, r, pl, hz⟩ := J1.list hq
      exact set_ofL ns (J1.ok.hd hc) pl.isList (by simpa using r.ints) (by unfold scanBound; omega) fun g tk c R hcl k => fin g tk c R hcl k
    · obtain ⟨its, r, pl, hz⟩ := J1.tuple hq
      exact call_set_tupI ns (J1.ok.hd hc) pl (by simpa using r.ints) (by unfold scanBound; omega) fun g tk c R hcl k => fin g tk c R hcl k
  · refine ha.run H1 e1 al _ fun v H2 x2 r => ?_
    cases tp with
    | true =>
      cases r with
      | tup m hr rs => exact ⟨_, rfl, .inr (.inl (by rw [← rs.of_ints]; exact hr)), q _ H2 x2 (.int _)⟩
    | false =>
      cases r with
      | lst m hr rs => exact ⟨_, rfl, .inl (.inl (by rw [← rs.of_ints]; exact hr)), q _ H2 x2 (.int _)⟩
end
end GV

/-! isinstance of an exception that has attributes: the library's kitx_exc, carried to the suite of an except clause -/
namespace GV
open PySem PySem.Spec PyProof.Rows L2
theorem call_isEd {X : Cx} {a D dd : Addr} {oe : Obj} {fs : List (Str × V)} {pn : List (Addr × Obj)} (C : ExcC X.K D) (hz : Zc (.ref D) (some dd) oe) (hf : ∃ vs, oe.data = .fields vs) :
    CallR (X.suite a ((a, oe) :: pn)) (.builtin "isinstance") (fun xs H Q => H dd = some (.xd fs) ∧ rIsE X.K D a xs H Q) := by
  intro pins s σ H xs us Q J r h
  obtain ⟨hdd, c, cv, b, rfl, hcv, e, q⟩ := h
  obtain ⟨u1, u2, rfl, rx, rt⟩ : ∃ u1 u2, us = [u1, u2] ∧ L2.RelV (.ref a) u1 ∧ L2.RelV c u2 := by
    rcases r with _ | ⟨rx, _ | ⟨rt, _ | _⟩⟩
    exact ⟨_, _, rfl, rx, rt⟩
  cases rx
  have ec := hcv _ rt
  subst ec
  have ha := (J.pin (a, oe) (List.mem_append.mpr (.inl (List.mem_cons_self ..)))).1
  obtain ⟨mA, hns, _⟩ := (show ObjOk X.prog X.w H s.heap dd (.xd fs) from J.hok dd _ hdd)
  obtain ⟨od, ho, _⟩ := lookIn_ns hns
  obtain ⟨vs, hv⟩ := hf
  have no : PySem.W.notCls oe = true := by
    unfold PySem.W.notCls
    rw [hv] <;> rfl
  have at_ : PySem.W.InstAt s.heap a oe D (some od) := ⟨ha, hz.1, no, by rw [hz.2]; exact ho⟩
  have hcl : (PySem.W.clsIn X.K D).isSome = true := by
    obtain ⟨cd, hc, _⟩ := PySem.W.any_some C.hd
    rw [hc]
    rfl
  exact PySem.W.kia_one (PySem.W.kitx_exc hcl C.hg C.hk C.hs C.ha C.hn C.ht C.hm) J.kIn at_ e (fun z => nomatch z) fun tk => ⟨.bl b, H, J.kept (t' := tk) fun _ _ z => z, rfl, q⟩
end GV

namespace GV
open PySem PySem.Spec PyProof.Rows L2
section
variable {X : Cx} {M : Addr → Prop} {σ : St} {H H' : Hp} {a b c e : Expr} {da db d : PyData} {pos : Pos} {es : List Expr} {ds : List PyData}
/-! ### != of tuples that hold the same things -/
def rNeSame (K : PySem.W.Frag) : R2 := fun x y H Q => ∃ a b xs, x = .ref a ∧ y = .ref b ∧ SqT K H a xs ∧ SqT K H b xs ∧ (∀ v ∈ xs, sameB v = true) ∧ Q (.bl false) H
theorem op_neSame (hu : X.A.units < cLine) : OpR X (compareOp .NotEq) (rNeSame X.K) := by
  intro pins s σ H x y v u Q I rx ry h
  obtain ⟨a, b, xs, rfl, rfl, ha, hb, hs, q⟩ := h
  cases (show v = Value.ref a from rx)
  cases (show u = Value.ref b from ry)
  obtain ⟨us, r1, p1, _⟩ := I.tuple ha
  obtain ⟨ws, r2, p2, _⟩ := I.tuple hb
  have l1 := r1.length
  have l2 := r2.length
  refine SeqAt.RcNeAt.tuples (e := fun _ => true) p1 p2 hu (fun j h1 h2 => ?_) X.prog X.w X.xe _ ?_
  · have hj : j < xs.length := by
      rw [l1]
      simpa using h1
    have hx : xs[j]? = some xs[j] := List.getElem?_eq_getElem hj
    obtain ⟨v1, e1, rv1⟩ := r1.get hx
    obtain ⟨v2, e2, rv2⟩ := r2.get hx
    have f1 : us.toArray[j] = v1 := by
      have : us[j]? = some us[j] := List.getElem?_eq_getElem (by simpa using h1)
      rw [this] at e1
      simpa using e1
    have f2 : ws.toArray[j] = v2 := by
      have : ws[j]? = some ws[j] := List.getElem?_eq_getElem (by simpa using h2)
      rw [this] at e2
      simpa using e2
    rw [f1, f2]
    have hv := hs _ (List.getElem_mem hj)
    generalize xs[j] = z at rv1 rv2 hv
    cases z with
    | ref r =>
      cases (show v1 = Value.ref r from rv1)
      cases (show v2 = Value.ref r from rv2)
      exact SeqAt.EqAt.same _
    | _ => exact eqAt_same rv1 rv2 hv
  · refine ⟨.bl false, H, I, ?_, q⟩
    have e1 : us.toArray.size = ws.toArray.size := by
      rw [List.size_toArray, List.size_toArray, ← l1, ← l2]
    rw [e1, show ((List.range (min ws.toArray.size ws.toArray.size)).all fun _ => true) = true from List.all_eq_true.mpr fun _ _ => rfl]
    simp [L2.RelV]
theorem ct_neSame {Q : Bool → Hp → Prop} (hu : X.A.units + 64 < cLine) (h : wE X a σ H fun x H2 => wE X b σ H2 fun y H3 => rNeSame X.K x y H3 fun v H4 => v = .bl false ∧ Q false H4) : wT X (.Compare a [.NotEq] [b] pos) σ H Q :=
  ⟨_, pt_cmpR (op_neSame (by omega)) wE.pe wE.pe (nomark _), wE.weak h fun x H2 h2 => wE.weak h2 fun y H3 ⟨a, b, xs, e1, e2, s1, s2, hs, _, q⟩ => ⟨a, b, xs, e1, e2, s1, s2, hs, _, rfl, q⟩⟩
theorem ct_ne {Q : Bool → Hp → Prop} (hu : X.A.units + 64 < cLine) (h : wE X a σ H fun x H2 => wE X b σ H2 fun y H3 => ∃ da db, Dp X.K H3 x da ∧ Dp X.K H3 y db ∧ SeqAt.shaped da = true ∧ SeqAt.shaped db = true ∧ Q (!PyData.eqv da db) H3) : wT X (.Compare a [.NotEq] [b] pos) σ H Q :=
  ⟨_, pt_cmpR (op_neD hu) wE.pe wE.pe (nomark _), wE.weak h fun x H2 h2 => wE.weak h2 fun y H3 ⟨da, db, h1, h2, h3, h4, q⟩ => ⟨da, db, h1, h2, h3, h4, _, rfl, q⟩⟩
/-- e == ("..", name), where e gives just that -/
theorem ce_same2 {s : Str} {i n m : Nat} {cn : Str} {vb : V} {p1 p2 p3 : Pos} {Q : VK} (hu : X.A.units + 64 < cLine) (hs : sameB vb = true) (hi : X.N[i]? = some cn) (hv : Vis X.env.scope cn) (hσ : σ[i]? = some (some vb))
    (h : wE X a σ H fun x H2 => ∃ p, x = .ref p ∧ H2 p = some (.tup [.str s, vb]) ∧ ∀ H3, Evl.Ex H2 H3 → Q (.bl true) H3)
    (hd : (cn == ("__debug__" : Str)) = false := by decide) (hcd : (cn == ("__classdict__" : Str)) = false := by decide) (h1 : starEach (.Constant (.str s) n p1 :: [.Name cn p2]) X.env = (false, eval (.Constant (.str s) n p1) X.env) :: starEach [.Name cn p2] X.env := by rfl) (h2 : starEach (.Name cn p2 :: []) X.env = (false, eval (.Name cn p2) X.env) :: starEach [] X.env := by rfl) :
    wE X (.Compare a [.Eq] [.Tuple [.Constant (.str s) n p1, .Name cn p2] m p3] pos) σ H Q := by
  refine ce_eqSame hu (wE.weak h ?_)
  rintro x H2 ⟨p, rfl, hp, q⟩
  refine ce_tup (ca_cons (ce_str (ca_cons (ce_name hi hv hσ (ca_nil ⟨(by show 2 ≤ 1000; decide), fun t ht => ?_⟩) hd hcd) h2)) h1)
  refine ⟨p, t, _, rfl, rfl, .inl (.inl (Evl.Ex.new ht _ _ hp)), .inl (.inl upd_same), fun v hv => ?_, q _ (Evl.Ex.new ht)⟩
  simp only [List.mem_cons, List.not_mem_nil, or_false] at hv
  rcases hv with rfl | rfl
  · rfl
  · exact hs
theorem ct_same2 {s : Str} {i n m : Nat} {cn : Str} {vb : V} {p1 p2 p3 : Pos} {Q : Bool → Hp → Prop} (hu : X.A.units + 64 < cLine) (hs : sameB vb = true) (hi : X.N[i]? = some cn) (hv : Vis X.env.scope cn) (hσ : σ[i]? = some (some vb))
    (h : wE X a σ H fun x H2 => ∃ p, x = .ref p ∧ H2 p = some (.tup [.str s, vb]) ∧ ∀ H3, Evl.Ex H2 H3 → Q false H3)
    (hd : (cn == ("__debug__" : Str)) = false := by decide) (hcd : (cn == ("__classdict__" : Str)) = false := by decide) (h1 : starEach (.Constant (.str s) n p1 :: [.Name cn p2]) X.env = (false, eval (.Constant (.str s) n p1) X.env) :: starEach [.Name cn p2] X.env := by rfl) (h2 : starEach (.Name cn p2 :: []) X.env = (false, eval (.Name cn p2) X.env) :: starEach [] X.env := by rfl) :
    wT X (.Compare a [.NotEq] [.Tuple [.Constant (.str s) n p1, .Name cn p2] m p3] pos) σ H Q := by
  refine ct_neSame hu (wE.weak h ?_)
  rintro x H2 ⟨p, rfl, hp, q⟩
  refine ce_tup (ca_cons (ce_str (ca_cons (ce_name hi hv hσ (ca_nil ⟨(by show 2 ≤ 1000; decide), fun t ht => ?_⟩) hd hcd) h2)) h1)
  refine ⟨p, t, _, rfl, rfl, .inl (.inl (Evl.Ex.new ht _ _ hp)), .inl (.inl upd_same), fun v hv => ?_, rfl, q _ (Evl.Ex.new ht)⟩
  simp only [List.mem_cons, List.not_mem_nil, or_false] at hv
  rcases hv with rfl | rfl
  · rfl
  · exact hs
end
end GV

namespace GV
open PySem PySem.Spec PyProof.Rows L2
section
variable {X : Cx} {σ : St} {H : Hp} {e elt : Expr} {pos : Pos}
theorem s_setLcR {iy : Nat} {yn : Str} {py spos : Pos} {D0 : Ends} {slot : Nat} {x : Str} {p p1 p2 : Pos} {scope : Scope} {own : List (Str × Nat)} (hc : X.calm = true) (hN : X.N.Nodup) (hg : Gl X "range") (hm : X.mg "range" = none) (ok : BlkOk X.N X.env.scope scope own)
    (hx : ∀ s H C cl fp, PG (Cx.lc X s H scope C cl fp) (.Name x p2) (gName slot)) (hw : ∀ v, wipe ((wipe σ (own.map (·.2))).set slot (some v)) (own.map (·.2)) = wipe σ (own.map (·.2)))
    (h : wE X e σ H fun v H1 => ∃ n : Nat, v = .int (n : Nat) ∧ n ≤ 1000000 ∧ ∀ D, H1 D = none → ∃ J : Nat → Hp → Prop, J 0 (upd H1 D (.lst [])) ∧
      (∀ i H', i < n → J i H' → ∀ s0 H0 C cl fp, wE (Cx.lc X s0 H0 scope C cl fp) elt ((wipe σ (own.map (·.2))).set slot (some (.int (i : Nat)))) H' fun y H4 => ∃ acc, H4 D = some (.lst acc) ∧ acc.length < 100000 ∧ J (i + 1) (upd H4 D (.lst (acc ++ [y])))) ∧ ∀ H', J n H' → D0.nx (σ.set iy (some (.ref D))) H')
    (hy : X.N[iy]? = some yn) (hyl : X.env.scope.names.lookup yn = some .local) (hsw : swapsWith (.ListComp elt [⟨.Name x p2, .Call (.Name "range" p) [e] [] p1, [], 0⟩] scope pos) (some (.Name yn py)) spos.line X.env = pure true) (hs : starEach [e] X.env = [(false, eval e X.env)] := by rfl) (hs' : starEach (e :: []) X.env = (false, eval e X.env) :: starEach [] X.env := by rfl)
    (hf : ∀ x, foldedSetIterable (.Call (.Name "range" p) [e] [] p1) X.env x = pure x := by intro _; rfl) : wS X (.Assign [.Name yn py] (.ListComp elt [⟨.Name x p2, .Call (.Name "range" p) [e] [] p1, [], 0⟩] scope pos) spos) D0 σ H := by
  refine ⟨_, ps_setLc (tt := fun σ H Q => Q true H) (te := fun σ H Q => ∀ s0 H0 C cl fp, wE (Cx.lc X s0 H0 scope C cl fp) elt σ H Q) hc hN hy hyl hsw (pi_range1 hg hm wA.pa hs) ok hx (fun _ _ _ _ _ => ⟨fun pins s σ H Q I h => pts_nil.run pins s σ H Q I h⟩)
    (fun s0 H0 C cl fp => ⟨fun pins s σ H Q I h => wE.pe.run pins s σ H Q I (h s0 H0 C cl fp)⟩) hf, ca_cons (wE.weak h ?_) hs'⟩
  rintro v H1 ⟨n, rfl, hn, run⟩
  refine ca_nil ⟨(n : Nat), rfl, by omega, by omega, ?_⟩
  rw [show ((n : Nat) : Int).toNat = n by omega]
  intro D hD
  obtain ⟨J, h0, ht, hd⟩ := run D hD
  refine ⟨fun i m H' => m = n - i ∧ i ≤ n ∧ J i H', ⟨n, rfl, Nat.zero_le _, h0⟩, ?_⟩
  rintro i m H' ⟨rfl, hi', j⟩
  have wk := wk_range (K := X.K) (M := M0) (H := H') 0 n
  have ln : ((List.range n).map fun i => PyData.int (0 + (i : Nat))).length = n := by simp
  by_cases hlt : i < n
  · refine .inr ⟨wk.go M0 i H' (fun _ z => z.elim) (ExM.refl _) (by rw [ln]; exact hlt), J (i + 1), fun H2 j2 => ⟨n - (i + 1), by omega, rfl, hlt, j2⟩, fun x H2 y => ?_⟩
    obtain ⟨rfl, rfl⟩ := y
    rw [Int.zero_add]
    refine ⟨hw _, ?_⟩
    show if true = true then _ else _
    rw [if_pos rfl]
    intro s0 H0 C cl fp
    refine wE.weak (ht i _ hlt j s0 H0 C cl fp) ?_
    rintro y H4 ⟨acc, h1, h2, h3⟩
    exact ⟨acc, h1, Nat.lt_of_lt_of_le h2 (by rw [sizeLine_eq]; decide), h3⟩
  · have e2 : i = n := by omega
    subst e2
    have := wk.stop M0 H' (fun _ z => z.elim) (ExM.refl _)
    rw [ln] at this
    exact .inl ⟨this, hd H' j⟩
end
end GV

/-! min(e, key=lambda a: ..), e a list of whole numbers: the first of those with the least key -/
namespace GV
open PySem PySem.Spec PyProof.Rows L2
/-- a list's iterator at turn i, whatever the tokens of its whole numbers -/
def ItS (I l : Addr) (ns : List Int) (i : Nat) (s : Shared) : Prop := s.heap.IsListIter I l i ∧ ∃ xs : Array Value, s.heap.IsList l xs ∧ IntsAre xs.toList ns
def IntP (ns : List Int) (i : Nat) (v : Value) : Prop := ∃ t, v = .int (ns.getD i 0) t
theorem walk_ints {prog : Program} {w : World} {A : Around} (hh : A.handled = none) (I l : Addr) (ne : l ≠ I) (ns : List Int) : WalksS prog w A I [I, l] [I] (fun a b => b = a) ns.length (IntP ns) (ItS I l ns) where
  sub := fun b hb => by
    rw [List.mem_singleton.mp hb]
    exact List.mem_cons_self ..
  grefl := fun _ => rfl
  gtrans := fun _ _ _ p q => q.trans p
  frame := fun i s h' tk ⟨si, xs, sl, sn⟩ _ hk => by
    obtain ⟨o1, a1, r1⟩ := si
    obtain ⟨o2, a2, r2⟩ := sl
    exact ⟨⟨o1, hk I (by simp) o1 a1, r1⟩, xs, ⟨o2, hk l (by simp) o2 a2, r2⟩, sn⟩
  item := fun i s Q E hi ⟨si, xs, sl, sn⟩ hQ => by
    have hx : i < xs.size := by
      rw [← Array.length_toList, IntsAre.length sn]
      exact hi
    obtain ⟨t, e⟩ := IntsAre.int_at sn i xs[i] (by simp [hx])
    refine wpAny_pyNext_list_item si sl (x := xs[i]) (by simp [hx]) fun g si' sb => ?_
    refine hQ _ { s with heap := g } ⟨t, ?_⟩ ⟨si', xs, sl.extBut sb.extBut ne, sn⟩ ⟨fun b o nb q => sb.extBut b o (fun z => nb (by simp [z])) q, rfl, rfl, rfl, Nat.le_refl _⟩
    rw [e]
  done := fun s Q E ⟨si, xs, sl, sn⟩ hQ => by
    have hx : xs[ns.length]? = none := by
      rw [← IntsAre.length sn, Array.length_toList]
      simp
    exact wpAny_pyNext_list_end hh si sl hx fun g xb => hQ { s with heap := g } ⟨fun b o nb q => xb b o (fun z => nb (by simp [z])) q, rfl, rfl, rfl, Nat.le_refl _⟩
  self := fun i s Q E st q => wpAny_pyIter_listiter st.1 q
/-- a lambda of one parameter: captured names, globals, and the parameter -/
structure Lam1S (sc scope : Scope) (a : Str) : Prop where
  kind : scope.kind = .function
  co : scope.isCoroutine = false
  gen : scope.isGenerator = false
  cell : ∀ y ∈ scope.names, y.2 ≠ .cell
  loc : ∀ y ∈ scope.names, y.2 = .local → y.1 = a
  par : scope.names.lookup a = some .local
  free : ∀ y ∈ scope.names, y.2 = .free → sc.names.lookup y.1 = some .cell ∨ sc.names.lookup y.1 = some .free
def lam1B (sc scope : Scope) (a : Str) : Bool :=
  decide (scope.kind = .function) && !scope.isCoroutine && !scope.isGenerator && decide (scope.names.lookup a = some .local) && scope.names.all fun y => !decide (y.2 = .cell) && (!decide (y.2 = .local) || decide (y.1 = a)) && (!decide (y.2 = .free) || (decide (sc.names.lookup y.1 = some .cell) || decide (sc.names.lookup y.1 = some .free)))
theorem lam1_by {sc scope : Scope} {a : Str} (h : lam1B sc scope a = true) : Lam1S sc scope a := by
  unfold lam1B at h
  simp only [Bool.and_eq_true, Bool.or_eq_true, Bool.not_eq_true', decide_eq_true_eq, decide_eq_false_iff_not, List.all_eq_true] at h
  obtain ⟨⟨⟨⟨k1, k2⟩, k3⟩, k4⟩, k5⟩ := h
  exact ⟨k1, k2, k3, fun y m => (k5 y m).1.1, fun y m e => (k5 y m).1.2.resolve_left (fun z => z e), k4, fun y m e => (k5 y m).2.resolve_left (fun z => z e)⟩
section
variable {X : Cx} {pins : List (Addr × Obj)} {σ : L2.St} {H HZ : Hp} {s s1 : Shared}
theorem Lam1S.has {a : Str} {scope : Scope} (L : Lam1S X.env.scope scope a) (ok : X.Ok) : ∀ y ∈ scope.names, y.2 = .free → ∃ c, X.env.cells.lookup y.1 = some c := fun y m e => (L.free y m e).elim (fun z => ok.has _ (.inl z)) fun z => ok.has _ (.inr z)
/-- the lambda's body is entered: its parameter stands in slot i -/
theorem lam1_start {A : Around} {outer : List Env} {E : XK} {scope : Scope} {f c' : Addr} {g : Heap} {tk i : Nat} {a : Str} {v : V} {u : Value} (I : Inv X pins σ H s) (L : Lam1S X.env.scope scope a) (hN : X.N.Nodup) (hi : X.N[i]? = some a) (rv : RelV v u) (e0 : Env0 X.prog X.w X.K X.mg X.base A outer s1 HZ) (hd : A.handled = none)
    (un : Un (frs X.stack) [] H HZ s.heap s1.heap) (hns : g.Ns s1.heap.objs.size fun y => ([(a, u)] : List (Str × Value)).reverse.lookup y) (kp : ∀ b o, s1.heap.get? b = some o → g.get? b = some o) :
    Inv (LamX.lamCx X A outer s1 HZ E scope f c') [] (σ.set i (some v)) HZ { s1 with heap := g, toks := tk } := by
  have has := L.has I.ok
  have up : ∀ {y c}, (cloFrom X.env.cells scope.names []).lookup y = some c → X.env.cells.lookup y = some c := fun {y c} e => by
    rcases cloFrom_mem (PySem.mem_of_lookup e) with z | ⟨z1, z2⟩
    · cases z
    · obtain ⟨d, hd⟩ := has _ z1 rfl
      have hd : X.env.cells.lookup y = some d := hd
      rw [z2, hd] <;> rfl
  have low : ∀ {y}, scope.names.lookup y = some .free → ∃ c, (cloFrom X.env.cells scope.names []).lookup y = some c := fun {y} e => mem_lookup (cloFrom_has (cells := X.env.cells) (acc := []) (show (y, NameKind.free) ∈ scope.names from PySem.mem_of_lookup e))
  have ck : ∀ {c : Addr} {z : Option Value}, H c = none → s.heap.IsCell c z → g.IsCell c z := fun {c z} n ⟨o, ho, hz⟩ => by
    obtain ⟨sl, q⟩ := un.any ho n (by simp)
    exact ⟨_, kp _ _ q, hz⟩
  have nx : ∀ b : Addr, ¬ b ∈ (LamX.lamCx X A outer s1 HZ E scope f c').ex := fun b z => by
    have z : b ∈ ([] : List Addr) := z
    cases z
  refine ⟨⟨e0.mod, L.kind, rfl, rfl, Nat.le_refl _, fun y z c p q => I.ok.inj y z c (up p) (up q), fun y hy => ?_, fun y c z _ => ?_, fun _ => hd, Around.frames_deeper e0.frames, .inr ⟨rfl, rfl⟩, fun b z => (nx b z).elim, e0.bs, e0.bsz, fun b _ _ => nx b, fun b z => (nx b z).elim, e0.funs, e0.frf⟩, rfl, e0.bare, Un.kept kp, ⟨_, hns, fun j y w p q k => ?_⟩, fun y c e => ?_, e0.hok.fresh (Nat.le_refl _), fun y c e => ?_, fun q hq => ?_, e0.hok.kept kp, by rw [List.length_set]; exact I.len⟩
  · have hy : scope.names.lookup y = some .cell ∨ scope.names.lookup y = some .free := hy
    rcases hy with hy | hy
    · exact (L.cell _ (PySem.mem_of_lookup hy) rfl).elim
    · exact low hy
  · have z : false = true := z
    cases z
  · have k : Vis scope y := k
    rcases k with k | k | k
    · have e : y = a := L.loc _ (PySem.mem_of_lookup k) rfl
      subst e
      have hj := (List.getElem?_eq_some_iff.mp p).1
      have ji : j = i := (List.getElem?_inj hj hN).mp (p.trans hi.symm)
      subst ji
      rw [List.getElem?_set_self (by rw [I.len]; exact hj)] at q
      cases q
      exact ⟨u, rv, .inl ⟨k, by simp⟩⟩
    · exact (L.cell _ (PySem.mem_of_lookup k) rfl).elim
    · have ji : i ≠ j := fun e => by
        subst e
        have p : X.N[i]? = some y := p
        rw [hi] at p
        cases p
        rw [L.par] at k
        cases k
      rw [List.getElem?_set_ne ji] at q
      obtain ⟨m, hn, look⟩ := I.loc
      have fr := L.free _ (PySem.mem_of_lookup k) rfl
      have vis : Vis X.env.scope y := fr.elim (fun z => .inr (.inl z)) fun z => .inr (.inr z)
      obtain ⟨x, r, z⟩ := look j y w p q vis
      obtain ⟨d, hd⟩ := low k
      refine ⟨x, r, .inr ⟨.inr k, d, hd, ?_⟩⟩
      rcases z with ⟨z, _⟩ | ⟨_, d', e', z⟩
      · have z : X.env.scope.names.lookup y = some .local := z
        rcases fr with e | e <;> (have e : X.env.scope.names.lookup y = _ := e; rw [z] at e; cases e)
      · rw [up hd] at e'
        cases e'
        exact ck (I.freeC y _ (up hd)) z
  · obtain ⟨x, z⟩ := I.cell y c (up e)
    exact ⟨x, ck (I.freeC y c (up e)) z⟩
  · obtain ⟨x, o, ho, hz⟩ := I.cell y c (up e)
    exact un.free c o ho (I.freeC y c (up e)) (by simp)
  · have hq : q ∈ ([] : List (Addr × Obj)) ++ [] := hq
    cases hq
end
end GV

namespace GV
open PySem PySem.Spec PyProof.Rows L2
/-- item i of ns has the lesser key -/
def keyB (key : Int → Int) (ns : List Int) (i j : Nat) : Bool := decide (key (ns.getD i 0) < key (ns.getD j 0))
def firstK (key : Int → Int) (ns : List Int) : Int := ns.getD (argBest (keyB key ns) (ns.length - 1)) 0
section
variable {X : Cx} {σ : L2.St} {H : Hp} {e : Expr}
def rMinKey (X : Cx) (T : List (Addr × Str)) (k i : Nat) (body : Expr) (scope : Scope) (σ : L2.St) (key : Int → Int) (v : V) (H1 : Hp) (Q : VK) : Prop :=
  ∃ l ns, v = .ref l ∧ SqL X.K H1 l (ns.map V.int) ∧ ns ≠ [] ∧ LamX.Tabs T H1 ∧ ∀ H2, LamX.ExtN H1 H2 → LamX.Tabs T H2 →
    (∀ z ∈ ns, ∀ A outer s H0 f c' H3, Room k (A.deeper (LamX.lamEnv X scope s.heap.objs.size f c')) → Evl.Ex H2 H3 → wE (LamX.lamCx X A outer s H0 C8.E0 scope f c') body (σ.set i (some (.int z))) H3 fun u H4 => u = .int (key z) ∧ Evl.Ex H3 H4) ∧
    ∀ H4, Evl.Ex H2 H4 → Q (.int (firstK key ns)) H4
theorem ce_minKey {T : List (Addr × Str)} {c P : Addr} {k i : Nat} {a : Str} {params : Arguments} {body : Expr} {scope : Scope} {p lpos kp pos : Pos} {Q : VK} (key : Int → Int)
    (hc : X.calm = true) (hN : X.N.Nodup) (hi : X.N[i]? = some a) (hg : Gl X "min") (hm : X.mg "min" = none) (hr : Room (k + 2) X.A)
    (TB : LamX.TabB X.base X.mg c P) (hcode : X.env.code = .ref c) (hmT : (P, X.env.qual ++ "<lambda>") ∈ T) (hu : ∀ p ∈ T, p.1 = P → p.2 = X.env.qual ++ "<lambda>")
    (L : Lam1S X.env.scope scope a) (hdef : defaultsOf params X.env = ([], [])) (hbind : ∀ (q : Str) (cl : List (Str × Addr)) (pm cv ctv v : Value), bindArgs (PySem.W.kla_fn "<lambda>" q params body scope cl pm cv ctv) ⟨[v], []⟩ = pure [(a, v)])
    (h : wE X e σ H fun v H1 => rMinKey X T k i body scope σ key v H1 Q)
    (h1 : starEach (e :: []) X.env = (false, eval e X.env) :: starEach [] X.env := by rfl) (he : backTo pos (starEach (e :: []) X.env) = (false, eval e X.env) :: backTo pos (starEach [] X.env) := by rfl) (hpl : (backTo pos (starEach (e :: []) X.env)).any (·.1) = false := by rfl)
    (hall : (backToKw pos (keywordEach [⟨some "key", .Lambda params body scope lpos, kp⟩] X.env)).all (·.1.isSome) = true := by rfl) (hnone : (backToKw pos (keywordEach [⟨some "key", .Lambda params body scope lpos, kp⟩] X.env)).any (·.1.isNone) = false := by rfl)
    (hks : (backToKw pos (keywordEach [⟨some "key", .Lambda params body scope lpos, kp⟩] X.env)).filterMap (·.1) = (["key"] : List Str) := by rfl) :
    wE X (.Call (.Name "min" p) [e] [⟨some "key", .Lambda params body scope lpos, kp⟩] pos) σ H Q := by
  refine ⟨fun σ' H' Q' => σ' = σ ∧ wE X e σ H' fun v H1 => rMinKey X T k i body scope σ key v H1 Q', ⟨fun pins s σ' H' Q' I hq => ?_⟩, rfl, h⟩
  obtain ⟨e1, hq⟩ := hq
  subst e1
  refine wpAny_Call_Name_kw (ld_blt I hg hm PyProof.Rows.boot_min ?_ (by decide) (by decide))
  refine PyProof.Rows.callWith_kw (thn ((pa_cons wE.pe pa_nil h1).run pos pins s σ' H' (fun vs H1 => ∃ v, vs = [v] ∧ rMinKey X T k i body scope σ' key v H1 Q') I (wE.weak hq fun v H1 z => ⟨v, rfl, z⟩)) fun us s1 ⟨vs, H1, I1, r1, v, ev, q1⟩ => ?_) he hpl hall hnone
  subst ev
  obtain ⟨l, ns, ev, hs, hne, hT, q1⟩ := q1
  subst ev
  rw [Vals.ref1 r1, hks]
  show wpAny _ _ (evalAll ((do let v ← eval (.Lambda params body scope lpos) X.env; standAt pos; pure v) :: (backToKw pos (keywordEach [] X.env)).map (·.2))) _ _ s1
  refine wpAny_evalAll_cons (wpAny_bind (LamX.lam_make2 I1 TB hcode hmT hu hT hdef (L.has I1.ok) fun f c' pm ctv H2 s2 I2 eN T2 hf hfn hfr hco => wpAny_bind (wpAny_standAt (wpAny_pure (wpAny_evalAll_nil ?_)))))
  show wpAny _ _ (call (.builtin "min") [.ref l] [(Str.ofString "key", .ref f)]) _ _ s2
  obtain ⟨hb, hQ⟩ := q1 H2 eN T2
  have hs2 : SqL X.K H2 l (ns.map V.int) := hs.imp (fun z => z.imp (fun z => eN _ _ z fun _ z => by cases z) fun ⟨o, z⟩ => ⟨o, eN _ _ z fun _ z => by cases z⟩) id
  obtain ⟨its, rvs, pl, _⟩ := I2.list hs2
  have hd := I2.ok.hd hc
  have lt : l < s2.heap.objs.size := let ⟨_, q, _⟩ := pl.isList; Heap.lt_size q
  have ltf := Heap.lt_size hf
  refine call_min_walkK (wpAny_pyIter_list pl.isList ?_)
  have szI : ∀ ob : Obj, (s2.heap.push ob).objs.size = s2.heap.objs.size + 1 := fun ob => Heap.size_push ..
  refine ⟨s2.heap.objs.size, [s2.heap.objs.size, l], [s2.heap.objs.size], fun a b => b = a, ns.length, IntP ns, ItS s2.heap.objs.size l ns,
    fun s => ∃ H', Evl.Ex H2 H' ∧ Inv X pins σ' H' s ∧ H' s2.heap.objs.size = none ∧ H' (s2.heap.objs.size + 1) = none ∧ s.heap.get? f = some (PySem.W.kla_obj "<lambda>" (X.env.qual ++ "<lambda>") params body scope (cloFrom X.env.cells scope.names []) pm c' ctv) ∧ H' f = none,
    fun j u _ => ∃ t, u = .int (key (ns.getD j 0)) t, keyB key ns, rfl, walk_ints (by exact hd) _ l (Nat.ne_of_lt lt) ns, ⟨⟨_, Heap.get?_push_size _ rfl, rfl, rfl⟩, its.toArray, pl.isList.push _, by simpa using rvs.ints⟩, ?_, List.length_pos_iff.mpr hne, ?_, ?_, ?_⟩
  · intro b hb
    rw [szI]
    rcases List.mem_cons.mp hb with e | hb
    · rw [e]
      exact Nat.lt_succ_self _
    · rw [List.mem_singleton.mp hb]
      exact Nat.lt_succ_of_lt lt
  · rw [szI]
    refine ⟨fun s s' ⟨H', x, J, n1, n2, hf', n3⟩ mv => ?_, fun _ _ _ _ z _ => z, fun j v s o Q E hj hP hJ hst hS kk => ?_, fun i j ki kj s Q E _ ⟨t, e1⟩ ⟨u, e2⟩ q => ?_⟩
    · obtain ⟨g, gn, dr, tk, os⟩ := s'
      obtain rfl : gn = s.gens := mv.gens
      obtain rfl : dr = s.drawn := mv.drawn
      obtain rfl : os = s.os := mv.os
      refine ⟨H', x, J.turnedL (ch := [s2.heap.objs.size + 1, s2.heap.objs.size]) (fun b o nb e => mv.heap b o nb e) (fun b hb => ?_), n1, n2, mv.heap _ _ ?_ hf', n3⟩
      · rcases List.mem_cons.mp hb with e | hb
        · rw [e]
          exact I2.fpOk (Nat.le_succ _) n2
        · rw [List.mem_singleton.mp hb]
          exact I2.fpOk (Nat.le_refl _) n1
      · simp only [List.mem_cons, List.not_mem_nil, or_false, not_or]
        exact ⟨Nat.ne_of_lt (Nat.lt_succ_of_lt ltf), Nat.ne_of_lt ltf⟩
    · obtain ⟨H', x, J, n1, n2, hf', hfn'⟩ := hJ
      obtain ⟨t, ev⟩ := hP
      obtain ⟨si, _⟩ := hst
      subst ev
      generalize hz : ns.getD j 0 = z at *
      have zm : z ∈ ns := by
        rw [← hz, List.getD_eq_getElem?_getD, List.getElem?_eq_getElem hj, Option.getD_some]
        exact List.getElem_mem _
      obtain ⟨⟨oc, vs, tt, hoc, hdc, hvc⟩, _, _⟩ := J.hok c' _ (x _ _ hco)
      have r1 : Room (k + 1) X.A.in1 := hr.in1
      have rc : codeAny (model X.prog X.w) X.A.in1 (.call (.ref f) ⟨[.int z t], []⟩) (L2.CR (L2.CX X.prog X.w) X.stack X.prog X.w H' s (fun u H4 => u = .int (key z) ∧ Evl.Ex H' H4) C8.E0) s := by
        refine PySem.W.kla_callFunE r1.depth hf' rfl L.co L.gen rfl ⟨c', oc, vs, tt, rfl, hoc, hdc, hvc⟩ ?_
        rw [hbind]
        refine wpAny_pure (wpAny_newFunctionEnv L.cell (fun y hy => by rw [List.mem_singleton.mp hy]; exact L.par) (fun g hns hsb => ⟨J.nolimit.fresh _ hsb, ?_⟩) L.kind)
        show codeAny _ _ (.expr body (LamX.lamEnv X scope s.heap.objs.size f c')) _ _
        have Jn : Inv (LamX.lamCx X X.A.in1 X.stack s H' C8.E0 scope f c') [] (σ'.set i (some (.int z))) H' { s with heap := g, toks := s.toks + ([(a, Value.int z t)] : List (Str × Value)).length } :=
          lam1_start J L hN hi ⟨t, rfl⟩ J.env0.in1 r1.hd Un.refl hns fun b o e => hsb.extBut b o (Nat.ne_of_lt (Heap.lt_size e)) (Heap.get?_push_of_some _ e)
        refine PySem.W.kla_codeExpr (wpAny_mono (wE.pe.run [] _ _ H' _ Jn (hb z zm _ _ _ _ f c' H' (r1.deeper _) x)) (fun v s' hq => ?_) fun e s' hq => hq)
        obtain ⟨w', H'', J', rv, q⟩ := hq
        exact ⟨w', H'', J'.os, J'.bare, J'.base, J'.hok, rv, q⟩
      refine wpAny_call (codeAny_mono rc fun r s' hr' => ?_)
      rcases r with er | fl
      · obtain ⟨_, _, _, _, _, _, _, _, _, _, _, _, z⟩ := hr'
        exact z.elim
      rcases fl with _ | _ | _ | u
      iterate 3 exact hr'.elim
      obtain ⟨v, H4, os, bare, un, hok, rv, ev, x4⟩ := hr'
      subst ev
      obtain ⟨t', eu⟩ := rv
      subst eu
      have J4 : Inv X pins σ' H4 s' := J.call' (ch := []) os un hok bare fun _ z => by cases z
      have hS' : s.heap.get? (s2.heap.objs.size + 1) = some o := hS
      obtain ⟨oi, ai, ri⟩ := si
      have nf : ∀ b, s2.heap.objs.size ≤ b → b ∉ frs X.stack := fun b hb z => by
        rcases List.mem_cons.mp (I2.stkSub _ z) with e | e
        · exact absurd (Nat.lt_of_le_of_lt hb (by rw [e]; exact I2.lt)) (Nat.lt_irrefl _)
        · exact I2.nofs hb e
      have ki := un.keep _ _ ai n1 (nf _ (Nat.le_refl _)) (by simp)
      have kS := un.keep _ _ hS' n2 (nf _ (Nat.le_succ _)) (by simp)
      have kf := un.keep _ _ hf' hfn' hfr (by simp)
      obtain ⟨its4, rv4, pl4, _⟩ := J4.list (show SqL X.K H4 l (ns.map V.int) from hs2.imp (fun z => z.imp (fun z => x4 _ _ (x _ _ z)) fun ⟨o, z⟩ => ⟨o, x4 _ _ (x _ _ z)⟩) id)
      refine kk _ _ ⟨H4, x.trans x4, J4, un.free _ _ ai n1 (by simp), un.free _ _ hS' n2 (by simp), kf, un.free _ _ hf' hfn' (by simp)⟩ ⟨⟨oi, ki, ri⟩, its4.toArray, pl4.isList, by simpa using rv4.ints⟩ kS ⟨t', rfl⟩ fun _ _ z => z
    · subst e1
      subst e2
      exact wpAny_lt_int q
  · exact ⟨H2, Evl.Ex.refl H2, I2.kept fun b o e => Heap.get?_push_of_some _ e, I2.hok.fresh (Nat.le_refl _), I2.hok.fresh (Nat.le_succ _), Heap.get?_push_of_some _ hf, hfn⟩
  · rintro v s' ⟨t, ev⟩ ⟨H', x, J, _, _, _, _⟩
    exact ⟨.int (firstK key ns), H', J, ⟨t, ev⟩, hQ H' x⟩
end
end GV

namespace GV
open PySem PySem.Spec PyProof.Rows L2
/-! ### the first of the least keys -/
theorem argB_spec (key : Int → Int) (ns : List Int) : ∀ j, argBest (keyB key ns) j ≤ j ∧ (∀ i, i ≤ j → key (ns.getD (argBest (keyB key ns) j) 0) ≤ key (ns.getD i 0)) ∧ ∀ i, i < argBest (keyB key ns) j → key (ns.getD (argBest (keyB key ns) j) 0) < key (ns.getD i 0)
  | 0 => ⟨Nat.le_refl _, fun i h => by
      rw [Nat.le_zero.mp h]
      exact Int.le_refl _, fun i h => absurd h (Nat.not_lt_zero _)⟩
  | j + 1 => by
    obtain ⟨h1, h2, h3⟩ := argB_spec key ns j
    generalize hb : argBest (keyB key ns) j = b at h1 h2 h3
    have e : argBest (keyB key ns) (j + 1) = if keyB key ns (j + 1) b = true then j + 1 else b := by rw [← hb]; rfl
    by_cases hk : keyB key ns (j + 1) b = true
    · rw [e, if_pos hk]
      have hk := of_decide_eq_true hk
      refine ⟨Nat.le_refl _, fun i hi => ?_, fun i hi => ?_⟩
      · rcases Nat.lt_or_ge i (j + 1) with z | z
        · have := h2 i (by omega)
          omega
        · rw [show i = j + 1 by omega]
          exact Int.le_refl _
      · have := h2 i (by omega)
        omega
    · rw [e, if_neg hk]
      have hk := of_decide_eq_false (Bool.not_eq_true _ ▸ hk)
      refine ⟨by omega, fun i hi => ?_, h3⟩
      rcases Nat.lt_or_ge i (j + 1) with z | z
      · exact h2 i (by omega)
      · rw [show i = j + 1 by omega]
        omega
/-- of an ascending list: the one with the least key, and of these the least -/
theorem firstK_eq {key : Int → Int} {ns : List Int} {m : Int} (up : ns.Pairwise (· < ·)) (hm : m ∈ ns) (h : ∀ y ∈ ns, key m < key y ∨ (key m = key y ∧ m ≤ y)) : firstK key ns = m := by
  obtain ⟨i, hi⟩ := List.mem_iff_getElem?.mp hm
  have hil := (List.getElem?_eq_some_iff.mp hi).1
  obtain ⟨h1, h2, h3⟩ := argB_spec key ns (ns.length - 1)
  unfold firstK
  generalize argBest (keyB key ns) (ns.length - 1) = b at h1 h2 h3 ⊢
  have hbl : b < ns.length := by omega
  have eb : ns.getD b 0 = ns[b] := by rw [List.getD_eq_getElem?_getD, List.getElem?_eq_getElem hbl]; rfl
  have ei : ns.getD i 0 = m := by rw [List.getD_eq_getElem?_getD, hi]; rfl
  have hb := h (ns.getD b 0) (by rw [eb]; exact List.getElem_mem _)
  have k2 := h2 i (by omega)
  rw [ei] at k2
  rcases hb with hb | ⟨hb, hle⟩
  · omega
  · rcases Nat.lt_trichotomy i b with z | z | z
    · have := h3 i z
      rw [ei] at this
      omega
    · rw [← z, ei]
    · have := List.pairwise_iff_getElem.mp up b i hbl hil z
      rw [(List.getElem?_eq_some_iff.mp hi).2, ← eb] at this
      omega
/-! ### texts -/
theorem RpAll.of_strs {K : PySem.W.Frag} {M : Addr → Prop} {H : Hp} : ∀ {vs : List V} {ns : List Str}, RpAll K M H vs (ns.map PyData.str) → vs = ns.map V.str
  | [], [], .nil => rfl
  | _ :: _, n :: r, .cons h hs => by
    cases h
    rw [RpAll.of_strs hs]
    rfl
theorem eqv_str (a b : Str) : PyData.eqv (.str a) (.str b) = decide (a = b) := by
  rw [Bool.eq_iff_iff, decide_eq_true_eq]
  simp [PyData.eqv]
theorem inV_strs (x : Str) (ns : List Str) : inV (.str x) (ns.map V.str) = decide (x ∈ ns) := by
  unfold inV
  rw [List.any_map, Bool.eq_iff_iff, decide_eq_true_eq, List.any_eq_true]
  constructor
  · rintro ⟨y, hy, e⟩
    have e : (y == x) = true := e
    rw [← beq_iff_eq.mp e]
    exact hy
  · intro h
    exact ⟨x, h, (by show (x == x) = true; simp)⟩
section
variable {X : Cx} {M : Addr → Prop} {σ : St} {H H' : Hp} {a b c e o : Expr} {da db d : PyData} {pos : Pos}
theorem td_inS {x : Str} {ns : List Str} (ha : PD X M a σ H (.str x)) (hb : PD X M b σ H (.list (ns.map PyData.str))) (hk : behindInMarks .In b = false := by rfl) : TD X M (.Compare a [.In] [b] pos) σ H (decide (x ∈ ns)) :=
  td_cmpR op_in_seq hk (fun u v H1 ru rv _ Q q => by
    cases ru
    cases rv with
    | lst m hs rs =>
      have all : (ns.map V.str).all flatV = true := by
        rw [List.all_map, List.all_eq_true]
        exact fun _ _ => rfl
      rw [rs.of_strs] at hs
      refine ⟨_, _, rfl, .inl (.inl hs), rfl, all, ?_⟩
      show Q (.bl (inV (.str x) (ns.map V.str))) H1
      rw [inV_strs]
      exact q _ H1 (Evl.Ex.refl H1) (.bl _)) ha hb
theorem pd_addS {x y : Str} (ha : PD X M a σ H (.str x)) (hb : PD X M b σ H (.str y)) (hl : x.length + y.length ≤ 100000) : PD X M (.BinOp a .Add b pos) σ H (.str (x ++ y)) :=
  pd_binR op_add_str (fun u v H1 ru rv _ Q q => by
    cases ru
    cases rv
    exact ⟨x, y, rfl, rfl, Evl.sz_of hl, q _ H1 (Evl.Ex.refl H1) (.str _)⟩) ha hb
theorem pd_shr {i : Int} {k : Nat} (ha : PD X M a σ H (.int i)) (hb : PD X M b σ H (.int (k : Nat))) : PD X M (.BinOp a .RShift b pos) σ H (.int (i / 2 ^ k)) :=
  PD.is (pd_binR op_shr (rd_I (C := fun _ j => (0 : Int) ≤ j) (i := i) (j := (k : Nat)) (by omega)) ha hb) (by rw [Int.toNat_natCast])
theorem pd_join {apos : Pos} {z : Str} {ys : List Str} (ho : PD X M o σ H (.str z)) (he : PD X M e σ H (.list (ys.map PyData.str))) (hl : (ys.map (·.length)).sum + ys.length * z.length ≤ 16777216)
    (hs : starEach [e] X.env = [(false, eval e X.env)] := by rfl) (hbase : attributeBase o "join" X.env (eval o X.env) = eval o X.env := by rfl) (hline : (apos.endLine == pos.line) = true := by rfl) :
    PD X M (.Call (.Attribute o "join" apos) [e] [] pos) σ H (.str (Txt.join z ys)) := .mk fun H1 e1 al Q q =>
  ⟨_, pe_join wE.pe wE.pe hs hbase hline, ho.run H1 e1 al _ fun u H2 x2 ru => by
    cases ru
    refine ⟨⟨_, rfl⟩, he.run H2 (e1.trans (.of x2)) (al.mono x2) _ fun v H3 x3 rv => ?_⟩
    cases rv with
    | lst m hr rs =>
      rw [rs.of_strs] at hr
      exact ⟨z, _, ys, rfl, rfl, .inl (.inl hr), hl, q _ H3 (x2.trans x3) (.str _)⟩⟩
end
end GV

namespace GV
open PySem PySem.Spec PyProof.Rows L2
section
variable {X : Cx} {M : Addr → Prop} {σ : St} {H H' : Hp} {a b c e o : Expr} {da db d : PyData} {pos : Pos}
/-- min(a, b), max(a, b), step by step -/
theorem ce_min2 {p : Pos} {Q : VK} (hg : Gl X "min") (hn : X.mg "min" = none) (h : wA X [a, b] σ H fun vs H2 => ∃ i j, vs = [.int i, .int j] ∧ Q (.int (min i j)) H2) (hc : X.calm = true := by rfl)
    (h1 : starEach (a :: [b]) X.env = (false, eval a X.env) :: starEach [b] X.env := by rfl) (hpl : (backTo pos (starEach [b] X.env)).any (·.1) = false := by rfl) : wE X (.Call (.Name "min" p) [a, b] [] pos) σ H Q := by
  obtain ⟨t, ht, q⟩ := h
  refine ⟨_, pe_callB (call_min2 hc) hg hn PyProof.Rows.boot_min wA.pa (by decide) (by decide) h1 hpl, ⟨fun σ' H' Q' => σ' = σ ∧ H' = H ∧ ∀ vs H2, (∃ i j, vs = [.int i, .int j] ∧ Q (.int (min i j)) H2) → Q' vs H2, ⟨fun ps pins s σ' H' Q' I ⟨e1, e2, k⟩ => ?_⟩, rfl, rfl, fun vs H2 ⟨i, j, e, z⟩ => ⟨i, j, e, ?_⟩⟩⟩
  · subst e1
    subst e2
    exact thn (ht.run ps pins s σ' H' _ I q) fun us s' ⟨vs, H2, I2, r, z⟩ => ⟨vs, H2, I2, r, k vs H2 z⟩
  · rw [show (if j < i then j else i) = min i j by split <;> omega]
    exact z
theorem ce_max2 {p : Pos} {Q : VK} (hg : Gl X "max") (hn : X.mg "max" = none) (h : wA X [a, b] σ H fun vs H2 => ∃ i j, vs = [.int i, .int j] ∧ Q (.int (max i j)) H2) (hc : X.calm = true := by rfl)
    (h1 : starEach (a :: [b]) X.env = (false, eval a X.env) :: starEach [b] X.env := by rfl) (hpl : (backTo pos (starEach [b] X.env)).any (·.1) = false := by rfl) : wE X (.Call (.Name "max" p) [a, b] [] pos) σ H Q := by
  obtain ⟨t, ht, q⟩ := h
  refine ⟨_, pe_callB (call_max2 hc) hg hn PyProof.Rows.boot_max wA.pa (by decide) (by decide) h1 hpl, ⟨fun σ' H' Q' => σ' = σ ∧ H' = H ∧ ∀ vs H2, (∃ i j, vs = [.int i, .int j] ∧ Q (.int (max i j)) H2) → Q' vs H2, ⟨fun ps pins s σ' H' Q' I ⟨e1, e2, k⟩ => ?_⟩, rfl, rfl, fun vs H2 ⟨i, j, e, z⟩ => ⟨i, j, e, ?_⟩⟩⟩
  · subst e1
    subst e2
    exact thn (ht.run ps pins s σ' H' _ I q) fun us s' ⟨vs, H2, I2, r, z⟩ => ⟨vs, H2, I2, r, k vs H2 z⟩
  · rw [show (if j > i then j else i) = max i j by split <;> omega]
    exact z
theorem ce_mul {Q : VK} (h : wE X a σ H fun x H2 => wE X b σ H2 fun y H3 => ∃ i j, x = .int i ∧ y = .int j ∧ CMul i j ∧ Q (.int (i * j)) H3) : wE X (.BinOp a .Mult b pos) σ H Q := ce_bin op_mul h
theorem ce_shl {Q : VK} (h : wE X a σ H fun x H2 => wE X b σ H2 fun y H3 => ∃ i j, x = .int i ∧ y = .int j ∧ CPow i j ∧ Q (.int (i * 2 ^ j.toNat)) H3) : wE X (.BinOp a .LShift b pos) σ H Q := ce_bin op_shl h
end
end GV

namespace GV
open PySem PySem.Spec PyProof.Rows L2
section
variable {X : Cx} {M : Addr → Prop} {σ : St} {H H' : Hp} {a b c e o : Expr} {da db d : PyData} {pos : Pos}
/-- i <= j < k -/
theorem pd_leLt {i j k : Int} (ha : PD X M a σ H (.int i)) (hb : PD X M b σ H (.int j)) (hc : PD X M c σ H (.int k)) (h1 : lastMarks [.LtE, .Lt] [b, c] = false := by with_unfolding_all rfl) : PD X M (.Compare a [.LtE, .Lt] [b, c] pos) σ H (.bool (decide (i ≤ j) && decide (j < k))) := .mk fun H1 e1 al Q q => by
  refine ⟨_, pe_chain op_le op_lt wE.pe wE.pe wE.pe h1, ha.run H1 e1 al _ fun x H2 x2 rx => hb.run H2 (e1.trans (.of x2)) (al.mono x2) _ fun y H3 x3 ry => ?_⟩
  cases rx
  cases ry
  refine ⟨i, j, rfl, rfl, _, rfl, ?_⟩
  cases h : decide (i ≤ j) with
  | false =>
    rw [h] at q
    exact q _ H3 (x2.trans x3) (.bl _)
  | true =>
    rw [h] at q
    refine hc.run H3 ((e1.trans (.of x2)).trans (.of x3)) ((al.mono x2).mono x3) _ fun z H4 x4 rz => ?_
    cases rz
    exact ⟨j, k, rfl, rfl, q _ H4 ((x2.trans x3).trans x4) (.bl _)⟩
theorem td_leLt {i j k : Int} (ha : PD X M a σ H (.int i)) (hb : PD X M b σ H (.int j)) (hc : PD X M c σ H (.int k)) (h1 : lastMarks [.LtE, .Lt] [b, c] = false := by with_unfolding_all rfl) : TD X M (.Compare a [.LtE, .Lt] [b, c] pos) σ H (decide (i ≤ j) && decide (j < k)) := .mk fun H1 e1 al Q q => by
  refine ⟨_, pt_chain op_le op_lt wE.pe wE.pe wE.pe h1, ha.run H1 e1 al _ fun x H2 x2 rx => hb.run H2 (e1.trans (.of x2)) (al.mono x2) _ fun y H3 x3 ry => ?_⟩
  cases rx
  cases ry
  refine ⟨i, j, rfl, rfl, _, rfl, ?_⟩
  cases h : decide (i ≤ j) with
  | false =>
    rw [h] at q
    exact ⟨_, rfl, q H3 (x2.trans x3)⟩
  | true =>
    rw [h] at q
    refine hc.run H3 ((e1.trans (.of x2)).trans (.of x3)) ((al.mono x2).mono x3) _ fun z H4 x4 rz => ?_
    cases rz
    exact ⟨j, k, rfl, rfl, _, rfl, q H4 ((x2.trans x3).trans x4)⟩
end
end GV

namespace FK
open PySem PySem.Spec PyProof.Rows L2 GV
abbrev St := L2.St
def topS (i : Nat) : Stmt := PySem.Challenge.pw_millbrook_k03_helpers.main.body.getD i (.Pass ⟨0, 0, 0, 0⟩)
abbrev s_wall : Stmt := topS 0
abbrev n_wall : List Str := ["k"]
abbrev p_wall : List Str := ["k"]
theorem sc_wall : FnScope n_wall p_wall (defScope s_wall) := ⟨rfl, rfl, rfl, by decide +kernel, rfl, by decide +kernel, by decide +kernel⟩
abbrev s_InvalidRow_init : Stmt := inClass (topS 3) 0
abbrev n_InvalidRow_init : List Str := ["self", "row"]
abbrev p_InvalidRow_init : List Str := ["self", "row"]
theorem sc_InvalidRow_init : FnScope n_InvalidRow_init p_InvalidRow_init (defScope s_InvalidRow_init) := ⟨rfl, rfl, rfl, by decide +kernel, rfl, by decide +kernel, by decide +kernel⟩
abbrev s_InvalidPlace_init : Stmt := inClass (topS 4) 0
abbrev n_InvalidPlace_init : List Str := ["self", "place"]
abbrev p_InvalidPlace_init : List Str := ["self", "place"]
theorem sc_InvalidPlace_init : FnScope n_InvalidPlace_init p_InvalidPlace_init (defScope s_InvalidPlace_init) := ⟨rfl, rfl, rfl, by decide +kernel, rfl, by decide +kernel, by decide +kernel⟩
abbrev s_InvalidHouse_init : Stmt := inClass (topS 5) 0
abbrev n_InvalidHouse_init : List Str := ["self", "house"]
abbrev p_InvalidHouse_init : List Str := ["self", "house"]
theorem sc_InvalidHouse_init : FnScope n_InvalidHouse_init p_InvalidHouse_init (defScope s_InvalidHouse_init) := ⟨rfl, rfl, rfl, by decide +kernel, rfl, by decide +kernel, by decide +kernel⟩
abbrev s_is_integer : Stmt := topS 7
abbrev n_is_integer : List Str := ["value"]
abbrev p_is_integer : List Str := ["value"]
theorem sc_is_integer : FnScope n_is_integer p_is_integer (defScope s_is_integer) := ⟨rfl, rfl, rfl, by decide +kernel, rfl, by decide +kernel, by decide +kernel⟩
abbrev s_is_number : Stmt := topS 8
abbrev n_is_number : List Str := ["value", "low", "high"]
abbrev p_is_number : List Str := ["value", "low", "high"]
theorem sc_is_number : FnScope n_is_number p_is_number (defScope s_is_number) := ⟨rfl, rfl, rfl, by decide +kernel, rfl, by decide +kernel, by decide +kernel⟩
abbrev s_text_of_number : Stmt := topS 11
abbrev n_text_of_number : List Str := ["number", "sides"]
abbrev p_text_of_number : List Str := ["number"]
theorem sc_text_of_number : FnScope n_text_of_number p_text_of_number (defScope s_text_of_number) := ⟨rfl, rfl, rfl, by decide +kernel, rfl, by decide +kernel, by decide +kernel⟩
abbrev s_number_of_text : Stmt := topS 12
abbrev n_number_of_text : List Str := ["text", "before", "dash", "behind"]
abbrev p_number_of_text : List Str := ["text"]
theorem sc_number_of_text : FnScope n_number_of_text p_number_of_text (defScope s_number_of_text) := ⟨rfl, rfl, rfl, by decide +kernel, rfl, by decide +kernel, by decide +kernel⟩
abbrev s_check_house : Stmt := topS 13
abbrev n_check_house : List Str := ["house"]
abbrev p_check_house : List Str := ["house"]
theorem sc_check_house : FnScope n_check_house p_check_house (defScope s_check_house) := ⟨rfl, rfl, rfl, by decide +kernel, rfl, by decide +kernel, by decide +kernel⟩
abbrev s_House_init : Stmt := inClass (topS 14) 1
abbrev n_House_init : List Str := ["self", "text", "number"]
abbrev p_House_init : List Str := ["self", "text"]
theorem sc_House_init : FnScope n_House_init p_House_init (defScope s_House_init) := ⟨rfl, rfl, rfl, by decide +kernel, rfl, by decide +kernel, by decide +kernel⟩
abbrev s_House_by_number : Stmt := inClass (topS 14) 2
abbrev n_House_by_number : List Str := ["cls", "number"]
abbrev p_House_by_number : List Str := ["cls", "number"]
theorem sc_House_by_number : FnScope n_House_by_number p_House_by_number (defScope s_House_by_number) := ⟨rfl, rfl, rfl, by decide +kernel, rfl, by decide +kernel, by decide +kernel⟩
abbrev s_House_every : Stmt := inClass (topS 14) 3
abbrev n_House_every : List Str := []
abbrev p_House_every : List Str := []
theorem sc_House_every : FnScope n_House_every p_House_every (defScope s_House_every) := ⟨rfl, rfl, rfl, by decide +kernel, rfl, by decide +kernel, by decide +kernel⟩
abbrev s_House_named : Stmt := inClass (topS 14) 4
abbrev n_House_named : List Str := ["self", "index", "kind"]
abbrev p_House_named : List Str := ["self"]
theorem sc_House_named : FnScope n_House_named p_House_named (defScope s_House_named) := ⟨rfl, rfl, rfl, by decide +kernel, rfl, by decide +kernel, by decide +kernel⟩
abbrev s_House_names_index : Stmt := inClass (topS 14) 5
abbrev n_House_names_index : List Str := ["self", "index"]
abbrev p_House_names_index : List Str := ["self", "index"]
theorem sc_House_names_index : FnScope n_House_names_index p_House_names_index (defScope s_House_names_index) := ⟨rfl, rfl, rfl, by decide +kernel, rfl, by decide +kernel, by decide +kernel⟩
abbrev s_House_mirrored : Stmt := inClass (topS 14) 6
abbrev n_House_mirrored : List Str := ["self"]
abbrev p_House_mirrored : List Str := ["self"]
theorem sc_House_mirrored : FnScope n_House_mirrored p_House_mirrored (defScope s_House_mirrored) := ⟨rfl, rfl, rfl, by decide +kernel, rfl, by decide +kernel, by decide +kernel⟩
abbrev s_House_flipped : Stmt := inClass (topS 14) 7
abbrev n_House_flipped : List Str := ["self"]
abbrev p_House_flipped : List Str := ["self"]
theorem sc_House_flipped : FnScope n_House_flipped p_House_flipped (defScope s_House_flipped) := ⟨rfl, rfl, rfl, by decide +kernel, rfl, by decide +kernel, by decide +kernel⟩
abbrev s_House_is_finer : Stmt := inClass (topS 14) 8
abbrev n_House_is_finer : List Str := ["self", "other"]
abbrev p_House_is_finer : List Str := ["self", "other"]
theorem sc_House_is_finer : FnScope n_House_is_finer p_House_is_finer (defScope s_House_is_finer) := ⟨rfl, rfl, rfl, by decide +kernel, rfl, by decide +kernel, by decide +kernel⟩
abbrev s_House_contains : Stmt := inClass (topS 14) 9
abbrev n_House_contains : List Str := ["self", "kind"]
abbrev p_House_contains : List Str := ["self", "kind"]
theorem sc_House_contains : FnScope n_House_contains p_House_contains (defScope s_House_contains) := ⟨rfl, rfl, rfl, by decide +kernel, rfl, by decide +kernel, by decide +kernel⟩
abbrev s_House_len : Stmt := inClass (topS 14) 10
abbrev n_House_len : List Str := ["self"]
abbrev p_House_len : List Str := ["self"]
theorem sc_House_len : FnScope n_House_len p_House_len (defScope s_House_len) := ⟨rfl, rfl, rfl, by decide +kernel, rfl, by decide +kernel, by decide +kernel⟩
abbrev s_House_eq : Stmt := inClass (topS 14) 11
abbrev n_House_eq : List Str := ["self", "other"]
abbrev p_House_eq : List Str := ["self", "other"]
theorem sc_House_eq : FnScope n_House_eq p_House_eq (defScope s_House_eq) := ⟨rfl, rfl, rfl, by decide +kernel, rfl, by decide +kernel, by decide +kernel⟩
abbrev s_House_str : Stmt := inClass (topS 14) 12
abbrev n_House_str : List Str := ["self"]
abbrev p_House_str : List Str := ["self"]
theorem sc_House_str : FnScope n_House_str p_House_str (defScope s_House_str) := ⟨rfl, rfl, rfl, by decide +kernel, rfl, by decide +kernel, by decide +kernel⟩
abbrev s_House_repr : Stmt := inClass (topS 14) 13
abbrev n_House_repr : List Str := ["self"]
abbrev p_House_repr : List Str := ["self"]
theorem sc_House_repr : FnScope n_House_repr p_House_repr (defScope s_House_repr) := ⟨rfl, rfl, rfl, by decide +kernel, rfl, by decide +kernel, by decide +kernel⟩
abbrev s_House_or : Stmt := inClass (topS 14) 14
abbrev n_House_or : List Str := ["self", "other"]
abbrev p_House_or : List Str := ["self", "other"]
theorem sc_House_or : FnScope n_House_or p_House_or (defScope s_House_or) := ⟨rfl, rfl, rfl, by decide +kernel, rfl, by decide +kernel, by decide +kernel⟩
abbrev s_House_and : Stmt := inClass (topS 14) 15
abbrev n_House_and : List Str := ["self", "other"]
abbrev p_House_and : List Str := ["self", "other"]
theorem sc_House_and : FnScope n_House_and p_House_and (defScope s_House_and) := ⟨rfl, rfl, rfl, by decide +kernel, rfl, by decide +kernel, by decide +kernel⟩
abbrev s_is_weight : Stmt := topS 18
abbrev n_is_weight : List Str := ["value"]
abbrev p_is_weight : List Str := ["value"]
theorem sc_is_weight : FnScope n_is_weight p_is_weight (defScope s_is_weight) := ⟨rfl, rfl, rfl, by decide +kernel, rfl, by decide +kernel, by decide +kernel⟩
abbrev s_is_bag_row : Stmt := topS 19
abbrev n_is_bag_row : List Str := ["value", "item"]
abbrev p_is_bag_row : List Str := ["value"]
theorem sc_is_bag_row : FnScope n_is_bag_row p_is_bag_row (defScope s_is_bag_row) := ⟨rfl, rfl, rfl, by decide +kernel, rfl, by decide +kernel, by decide +kernel⟩
abbrev s_is_row : Stmt := topS 20
abbrev n_is_row : List Str := ["value"]
abbrev p_is_row : List Str := ["value"]
theorem sc_is_row : FnScope n_is_row p_is_row (defScope s_is_row) := ⟨rfl, rfl, rfl, by decide +kernel, rfl, by decide +kernel, by decide +kernel⟩
abbrev s_is_place : Stmt := topS 21
abbrev n_is_place : List Str := ["row", "value"]
abbrev p_is_place : List Str := ["row", "value"]
theorem sc_is_place : FnScope n_is_place p_is_place (defScope s_is_place) := ⟨rfl, rfl, rfl, by decide +kernel, rfl, by decide +kernel, by decide +kernel⟩
abbrev s_check_row : Stmt := topS 22
abbrev n_check_row : List Str := ["row"]
abbrev p_check_row : List Str := ["row"]
theorem sc_check_row : FnScope n_check_row p_check_row (defScope s_check_row) := ⟨rfl, rfl, rfl, by decide +kernel, rfl, by decide +kernel, by decide +kernel⟩
abbrev s_check_place : Stmt := topS 23
abbrev n_check_place : List Str := ["row", "place"]
abbrev p_check_place : List Str := ["row", "place"]
theorem sc_check_place : FnScope n_check_place p_check_place (defScope s_check_place) := ⟨rfl, rfl, rfl, by decide +kernel, rfl, by decide +kernel, by decide +kernel⟩
abbrev s_check_all : Stmt := topS 25
abbrev n_check_all : List Str := ["row", "place", "house"]
abbrev p_check_all : List Str := ["row", "place", "house"]
theorem sc_check_all : FnScope n_check_all p_check_all (defScope s_check_all) := ⟨rfl, rfl, rfl, by decide +kernel, rfl, by decide +kernel, by decide +kernel⟩
abbrev s_third_kinds : Stmt := topS 26
abbrev n_third_kinds : List Str := ["row", "place", "lighter", "heavier", "letters", "behind", "stone", "index"]
abbrev p_third_kinds : List Str := ["row", "place"]
theorem sc_third_kinds : FnScope n_third_kinds p_third_kinds (defScope s_third_kinds) := ⟨rfl, rfl, rfl, by decide +kernel, rfl, by decide +kernel, by decide +kernel⟩
abbrev s_helper_indexes : Stmt := topS 27
abbrev n_helper_indexes : List Str := ["row", "place", "house", "index", "kind"]
abbrev p_helper_indexes : List Str := ["row", "place", "house"]
theorem sc_helper_indexes : FnScope n_helper_indexes p_helper_indexes (defScope s_helper_indexes) := ⟨rfl, rfl, rfl, by decide +kernel, rfl, by decide +kernel, by decide +kernel⟩
abbrev s_nearness : Stmt := topS 28
abbrev n_nearness : List Str := ["place", "index"]
abbrev p_nearness : List Str := ["place", "index"]
theorem sc_nearness : FnScope n_nearness p_nearness (defScope s_nearness) := ⟨rfl, rfl, rfl, by decide +kernel, rfl, by decide +kernel, by decide +kernel⟩
abbrev s_frees : Stmt := topS 29
abbrev n_frees : List Str := ["row", "place", "house"]
abbrev p_frees : List Str := ["row", "place", "house"]
theorem sc_frees : FnScope n_frees p_frees (defScope s_frees) := ⟨rfl, rfl, rfl, by decide +kernel, rfl, by decide +kernel, by decide +kernel⟩
abbrev s_helpers : Stmt := topS 30
abbrev n_helpers : List Str := ["row", "place", "house", "index"]
abbrev p_helpers : List Str := ["row", "place", "house"]
theorem sc_helpers : FnScope n_helpers p_helpers (defScope s_helpers) := ⟨rfl, rfl, rfl, by decide +kernel, rfl, by decide +kernel, by decide +kernel⟩
abbrev s_nearest_helper : Stmt := topS 31
abbrev n_nearest_helper : List Str := ["row", "place", "house", "indexes", "index"]
abbrev p_nearest_helper : List Str := ["row", "place", "house"]
theorem sc_nearest_helper : FnScope n_nearest_helper p_nearest_helper (defScope s_nearest_helper) := ⟨rfl, rfl, rfl, by decide +kernel, rfl, by decide +kernel, by decide +kernel⟩
abbrev s_keystone : Stmt := topS 32
abbrev n_keystone : List Str := ["row", "place", "house", "found"]
abbrev p_keystone : List Str := ["row", "place", "house"]
theorem sc_keystone : FnScope n_keystone p_keystone (defScope s_keystone) := ⟨rfl, rfl, rfl, by decide +kernel, rfl, by decide +kernel, by decide +kernel⟩
abbrev s_is_free : Stmt := topS 33
abbrev n_is_free : List Str := ["row", "place", "house"]
abbrev p_is_free : List Str := ["row", "place", "house"]
theorem sc_is_free : FnScope n_is_free p_is_free (defScope s_is_free) := ⟨rfl, rfl, rfl, by decide +kernel, rfl, by decide +kernel, by decide +kernel⟩
abbrev s_free_places : Stmt := topS 34
abbrev n_free_places : List Str := ["row", "house", "place"]
abbrev p_free_places : List Str := ["row", "house"]
theorem sc_free_places : FnScope n_free_places p_free_places (defScope s_free_places) := ⟨rfl, rfl, rfl, by decide +kernel, rfl, by decide +kernel, by decide +kernel⟩
abbrev s_law_box : Stmt := topS 36
abbrev n_law_box : List Str := ["script", "k", "cell", "rest"]
abbrev p_law_box : List Str := ["script", "k"]
theorem sc_law_box : FnScope n_law_box p_law_box (defScope s_law_box) := ⟨rfl, rfl, rfl, by decide +kernel, rfl, by decide +kernel, by decide +kernel⟩
abbrev s_law_take : Stmt := topS 37
abbrev n_law_take : List Str := ["box", "many", "digit", "first", "second"]
abbrev p_law_take : List Str := ["box", "many"]
theorem sc_law_take : FnScope n_law_take p_law_take (defScope s_law_take) := ⟨rfl, rfl, rfl, by decide +kernel, rfl, by decide +kernel, by decide +kernel⟩
abbrev s_law_is_int : Stmt := topS 38
abbrev n_law_is_int : List Str := ["value", "due"]
abbrev p_law_is_int : List Str := ["value", "due"]
theorem sc_law_is_int : FnScope n_law_is_int p_law_is_int (defScope s_law_is_int) := ⟨rfl, rfl, rfl, by decide +kernel, rfl, by decide +kernel, by decide +kernel⟩
abbrev s_law_is_truth : Stmt := topS 39
abbrev n_law_is_truth : List Str := ["value", "due"]
abbrev p_law_is_truth : List Str := ["value", "due"]
theorem sc_law_is_truth : FnScope n_law_is_truth p_law_is_truth (defScope s_law_is_truth) := ⟨rfl, rfl, rfl, by decide +kernel, rfl, by decide +kernel, by decide +kernel⟩
abbrev s_law_kinds : Stmt := topS 40
abbrev n_law_kinds : List Str := ["number", "order", "at"]
abbrev p_law_kinds : List Str := ["number"]
theorem sc_law_kinds : FnScope n_law_kinds p_law_kinds (defScope s_law_kinds) := ⟨rfl, rfl, rfl, by decide +kernel, rfl, by decide +kernel, by decide +kernel⟩
abbrev s_law_text : Stmt := topS 41
abbrev n_law_text : List Str := ["kinds", "front", "behind", "kind"]
abbrev p_law_text : List Str := ["kinds"]
theorem sc_law_text : FnScope n_law_text p_law_text (defScope s_law_text) := ⟨rfl, rfl, rfl, by decide +kernel, rfl, by decide +kernel, by decide +kernel⟩
abbrev s_law_weight : Stmt := topS 42
abbrev n_law_weight : List Str := ["box", "row", "way", "near"]
abbrev p_law_weight : List Str := ["box", "row"]
theorem sc_law_weight : FnScope n_law_weight p_law_weight (defScope s_law_weight) := ⟨rfl, rfl, rfl, by decide +kernel, rfl, by decide +kernel, by decide +kernel⟩
abbrev s_law_row : Stmt := topS 43
abbrev n_law_row : List Str := ["box", "most", "row", "k", "weight"]
abbrev p_law_row : List Str := ["box", "most"]
theorem sc_law_row : FnScope n_law_row p_law_row (defScope s_law_row) := ⟨rfl, rfl, rfl, by decide +kernel, rfl, by decide +kernel, by decide +kernel⟩
abbrev s_law_stones : Stmt := topS 44
abbrev n_law_stones : List Str := ["box", "most", "size", "row", "k"]
abbrev p_law_stones : List Str := ["box", "most"]
theorem sc_law_stones : FnScope n_law_stones p_law_stones (defScope s_law_stones) := ⟨rfl, rfl, rfl, by decide +kernel, rfl, by decide +kernel, by decide +kernel⟩
abbrev s_law_kind : Stmt := topS 45
abbrev n_law_kind : List Str := ["row", "place", "at", "letter"]
abbrev p_law_kind : List Str := ["row", "place", "at"]
theorem sc_law_kind : FnScope n_law_kind p_law_kind (defScope s_law_kind) := ⟨rfl, rfl, rfl, by decide +kernel, rfl, by decide +kernel, by decide +kernel⟩
abbrev s_law_third : Stmt := topS 46
abbrev n_law_third : List Str := ["row", "place", "at"]
abbrev p_law_third : List Str := ["row", "place"]
theorem sc_law_third : FnScope n_law_third p_law_third (defScope s_law_third) := ⟨rfl, rfl, rfl, by decide +kernel, rfl, by decide +kernel, by decide +kernel⟩
abbrev s_law_is_list : Stmt := topS 47
abbrev n_law_is_list : List Str := ["value", "due", "at"]
abbrev p_law_is_list : List Str := ["value", "due"]
theorem sc_law_is_list : FnScope n_law_is_list p_law_is_list (defScope s_law_is_list) := ⟨rfl, rfl, rfl, by decide +kernel, rfl, by decide +kernel, by decide +kernel⟩
abbrev s_law_is_one : Stmt := topS 48
abbrev n_law_is_one : List Str := ["value", "due"]
abbrev p_law_is_one : List Str := ["value", "due"]
theorem sc_law_is_one : FnScope n_law_is_one p_law_is_one (defScope s_law_is_one) := ⟨rfl, rfl, rfl, by decide +kernel, rfl, by decide +kernel, by decide +kernel⟩
abbrev s_law_helpers : Stmt := topS 49
abbrev n_law_helpers : List Str := ["row", "place", "kinds", "at"]
abbrev p_law_helpers : List Str := ["row", "place", "kinds"]
theorem sc_law_helpers : FnScope n_law_helpers p_law_helpers (defScope s_law_helpers) := ⟨rfl, rfl, rfl, by decide +kernel, rfl, by decide +kernel, by decide +kernel⟩
abbrev s_law_nearest : Stmt := topS 50
abbrev n_law_nearest : List Str := ["row", "place", "kinds", "step", "at"]
abbrev p_law_nearest : List Str := ["row", "place", "kinds"]
theorem sc_law_nearest : FnScope n_law_nearest p_law_nearest (defScope s_law_nearest) := ⟨rfl, rfl, rfl, by decide +kernel, rfl, by decide +kernel, by decide +kernel⟩
abbrev s_law_is_place : Stmt := topS 51
abbrev n_law_is_place : List Str := ["row", "place", "house", "kinds", "due", "only", "given", "got"]
abbrev p_law_is_place : List Str := ["row", "place", "house", "kinds"]
theorem sc_law_is_place : FnScope n_law_is_place p_law_is_place (defScope s_law_is_place) := ⟨rfl, rfl, rfl, by decide +kernel, rfl, by decide +kernel, by decide +kernel⟩
abbrev s_law_is_free_list : Stmt := topS 52
abbrev n_law_is_free_list : List Str := ["row", "house", "kinds", "due", "given", "got", "place"]
abbrev p_law_is_free_list : List Str := ["row", "house", "kinds"]
theorem sc_law_is_free_list : FnScope n_law_is_free_list p_law_is_free_list (defScope s_law_is_free_list) := ⟨rfl, rfl, rfl, by decide +kernel, rfl, by decide +kernel, by decide +kernel⟩
abbrev s_law_is_lesser : Stmt := topS 53
abbrev n_law_is_lesser : List Str := ["row", "place", "house", "kinds", "due", "at", "rest", "left", "stone"]
abbrev p_law_is_lesser : List Str := ["row", "place", "house", "kinds"]
theorem sc_law_is_lesser : FnScope n_law_is_lesser p_law_is_lesser (defScope s_law_is_lesser) := ⟨rfl, rfl, rfl, by decide +kernel, rfl, by decide +kernel, by decide +kernel⟩
abbrev s_law_is_greater : Stmt := topS 54
abbrev n_law_is_greater : List Str := ["box", "row", "place", "house", "kinds", "weight", "at", "wide", "moved", "due", "only", "stone"]
abbrev p_law_is_greater : List Str := ["box", "row", "place", "house", "kinds"]
theorem sc_law_is_greater : FnScope n_law_is_greater p_law_is_greater (defScope s_law_is_greater) := ⟨rfl, rfl, rfl, by decide +kernel, rfl, by decide +kernel, by decide +kernel⟩
abbrev s_law_is_world : Stmt := topS 55
abbrev n_law_is_world : List Str := ["box", "number", "kinds", "house", "row", "place", "turn"]
abbrev p_law_is_world : List Str := ["box"]
theorem sc_law_is_world : FnScope n_law_is_world p_law_is_world (defScope s_law_is_world) := ⟨rfl, rfl, rfl, by decide +kernel, rfl, by decide +kernel, by decide +kernel⟩
abbrev s_law : Stmt := topS 56
abbrev n_law : List Str := ["script", "k"]
abbrev p_law : List Str := ["script"]
theorem sc_law : FnScope n_law p_law (defScope s_law) := ⟨rfl, rfl, rfl, by decide +kernel, rfl, by decide +kernel, by decide +kernel⟩
end FK

namespace FK
open PySem PySem.Spec PyProof.Rows L2 GV
section
variable {P : Program} {w : World} {K : PySem.W.Frag} {mg : Str → Option Value} {base : Heap}

/-! ### whole numbers -/
def isIntD : PyData → Bool
  | .int _ => true
  | _ => false
def isBoolD : PyData → Bool
  | .bool _ => true
  | _ => false
theorem kit_int (d : PyData) : kitB (tyD d) "int" = some (isIntD d || isBoolD d) := by
  cases d with
  | none => exact (by decide +kernel : kitB "NoneType" "int" = some false)
  | bool _ => exact (by decide +kernel : kitB "bool" "int" = some true)
  | int _ => exact (by decide +kernel : kitB "int" "int" = some true)
  | str _ => exact (by decide +kernel : kitB "str" "int" = some false)
  | list _ => exact (by decide +kernel : kitB "list" "int" = some false)
  | tuple _ => exact (by decide +kernel : kitB "tuple" "int" = some false)
  | dict _ => exact (by decide +kernel : kitB "dict" "int" = some false)
theorem kit_bool (d : PyData) : kitB (tyD d) "bool" = some (isBoolD d) := by
  cases d with
  | none => exact (by decide +kernel : kitB "NoneType" "bool" = some false)
  | bool _ => exact (by decide +kernel : kitB "bool" "bool" = some true)
  | int _ => exact (by decide +kernel : kitB "int" "bool" = some false)
  | str _ => exact (by decide +kernel : kitB "str" "bool" = some false)
  | list _ => exact (by decide +kernel : kitB "list" "bool" = some false)
  | tuple _ => exact (by decide +kernel : kitB "tuple" "bool" = some false)
  | dict _ => exact (by decide +kernel : kitB "dict" "bool" = some false)
def R_is_integer (ds : List PyData) (d : PyData) : Prop := ∃ a, ds = [a] ∧ d = .bool (isIntD a)
theorem cl_is_integer {f : Addr} {fd : FuncData} (F : At K mg "is_integer" s_is_integer f fd) (nb : NoB mg) : Cl P w K mg base CX0 1 "is_integer" (PureR K R_is_integer) := by
  refine cl_pure F sc_is_integer (F.fn.binds fun _ _ _ _ _ _ us hl => match us, hl with | [_], _ => rfl) (fun ds d h => ?_) (fun X cdv A outer s H Q E M vs ds d hX hr al r h q => ?_)
  · obtain ⟨a, rfl, _⟩ := h
    rfl
  · obtain ⟨a, rfl, rfl⟩ := h
    obtain ⟨v, rfl, r1⟩ := rpa1 r
    subst hX
    refine b_cons (s_ret al (PD.is (pd_and (pd_isi rfl nb.isinstance rfl nb.int PyProof.Rows.boot_int (nm 0 r1) (kit_int a)) fun _ => pd_one (pd_not (pd_isi rfl nb.isinstance rfl nb.bool PyProof.Rows.boot_bool (nm 0 r1) (kit_bool a)))) ?_) q)
    cases a <;> rfl
def isNumD (a : PyData) (lo hi : Int) : Bool := match a with
  | .int i => decide (lo ≤ i) && decide (i ≤ hi)
  | _ => false
def R_is_number (ds : List PyData) (d : PyData) : Prop := ∃ a lo hi, ds = [a, .int lo, .int hi] ∧ d = .bool (isNumD a lo hi)
theorem rpa3 {K : PySem.W.Frag} {M : Addr → Prop} {H : Hp} {vs : List V} {a b c : PyData} (r : RpAll K M H vs [a, b, c]) : ∃ u v w, vs = [u, v, w] ∧ Rp K M H u a ∧ Rp K M H v b ∧ Rp K M H w c := by
  obtain ⟨⟩ | ⟨r1, r⟩ := r
  obtain ⟨v, w, rfl, r2, r3⟩ := rpa2 r
  exact ⟨_, _, _, rfl, r1, r2, r3⟩
theorem cl_is_number {f : Addr} {fd : FuncData} (F : At K mg "is_number" s_is_number f fd) (c1 : Cl P w K mg base CX0 1 "is_integer" (PureR K R_is_integer)) : Cl P w K mg base CX0 2 "is_number" (PureR K R_is_number) := by
  refine cl_pure F sc_is_number (F.fn.binds fun _ _ _ _ _ _ us hl => match us, hl with | [_, _, _], _ => rfl) (fun ds d h => ?_) (fun X cdv A outer s H Q E M vs ds d hX hr al r h q => ?_)
  · obtain ⟨a, lo, hi, rfl, _⟩ := h
    rfl
  · obtain ⟨a, lo, hi, rfl, rfl⟩ := h
    obtain ⟨u, v, x, rfl, r1, r2, r3⟩ := rpa3 r
    subst hX
    refine b_cons (s_ret al (PD.is (pd_and (k2 := isNumD a lo hi) (pd_callC c1 hr (by decide) rfl (ad_cons (nm 0 r1) ad_nil) ⟨a, rfl, rfl⟩) fun ha => pd_one ?_) ?_) q)
    · cases a with
      | int i => exact pd_leLe (nm 1 r2) (nm 0 r1) (nm 2 r3)
      | _ => cases ha
    · cases a <;> rfl
def mostW : Int := 1000000000000
def isWeightD (a : PyData) : Bool := isNumD a (-mostW) mostW
def R_is_weight (ds : List PyData) (d : PyData) : Prop := ∃ a, ds = [a] ∧ d = .bool (isWeightD a)
theorem cl_is_weight {f : Addr} {fd : FuncData} {t : Tok} (F : At K mg "is_weight" s_is_weight f fd) (c1 : Cl P w K mg base CX0 2 "is_number" (PureR K R_is_number)) (gW : mg "MOST_WEIGHT" = some (.int mostW t)) : Cl P w K mg base CX0 3 "is_weight" (PureR K R_is_weight) := by
  refine cl_pure F sc_is_weight (F.fn.binds fun _ _ _ _ _ _ us hl => match us, hl with | [_], _ => rfl) (fun ds d h => ?_) (fun X cdv A outer s H Q E M vs ds d hX hr al r h q => ?_)
  · obtain ⟨a, rfl, _⟩ := h
    rfl
  · obtain ⟨a, rfl, rfl⟩ := h
    obtain ⟨v, rfl, r1⟩ := rpa1 r
    subst hX
    exact b_cons (s_ret al (pd_callC c1 hr (by decide) rfl (ad_cons (nm 0 r1) (ad_cons (pd_neg (pd_globI rfl gW)) (ad_cons (pd_globI rfl gW) ad_nil))) ⟨a, _, _, rfl, rfl⟩) q)
/-! ### couples -/
abbrev pairD (p : Int × Int) : PyData := .tuple [.int p.1, .int p.2]
end
end FK

namespace FK
open PySem PySem.Spec PyProof.Rows L2 GV
section
variable {P : Program} {w : World} {K : PySem.W.Frag} {mg : Str → Option Value} {base : Heap}
abbrev intsD (ns : List Int) : PyData := .list (ns.map PyData.int)
abbrev tintsD (ns : List Int) : PyData := .tuple (ns.map PyData.int)
theorem kit_list (d : PyData) : kitB (tyD d) "list" = some (match d with | .list _ => true | _ => false) := by
  cases d with
  | none => exact (by decide +kernel : kitB "NoneType" "list" = some false)
  | bool _ => exact (by decide +kernel : kitB "bool" "list" = some false)
  | int _ => exact (by decide +kernel : kitB "int" "list" = some false)
  | str _ => exact (by decide +kernel : kitB "str" "list" = some false)
  | list _ => exact (by decide +kernel : kitB "list" "list" = some true)
  | tuple _ => exact (by decide +kernel : kitB "tuple" "list" = some false)
  | dict _ => exact (by decide +kernel : kitB "dict" "list" = some false)
theorem kit_tup (ds : List PyData) : kitB (tyD (.tuple ds)) "tuple" = some true := (by decide +kernel : kitB "tuple" "tuple" = some true)
theorem get_i {ns : List Int} {i : Nat} (h : i < ns.length) : ∃ z, ns[i]? = some z := ⟨_, List.getElem?_eq_getElem h⟩
def isSeqD : PyData → Bool
  | .list _ => true
  | .tuple _ => true
  | _ => false
def partsD : PyData → List PyData
  | .list ds => ds
  | .tuple ds => ds
  | _ => []
def isListD : PyData → Bool
  | .list _ => true
  | _ => false
def isTupD : PyData → Bool
  | .tuple _ => true
  | _ => false
theorem kit_l (d : PyData) : kitB (tyD d) "list" = some (isListD d) := by
  cases d with
  | none => exact (by decide +kernel : kitB "NoneType" "list" = some false)
  | bool _ => exact (by decide +kernel : kitB "bool" "list" = some false)
  | int _ => exact (by decide +kernel : kitB "int" "list" = some false)
  | str _ => exact (by decide +kernel : kitB "str" "list" = some false)
  | list _ => exact (by decide +kernel : kitB "list" "list" = some true)
  | tuple _ => exact (by decide +kernel : kitB "tuple" "list" = some false)
  | dict _ => exact (by decide +kernel : kitB "dict" "list" = some false)
theorem kit_t (d : PyData) : kitB (tyD d) "tuple" = some (isTupD d) := by
  cases d with
  | none => exact (by decide +kernel : kitB "NoneType" "tuple" = some false)
  | bool _ => exact (by decide +kernel : kitB "bool" "tuple" = some false)
  | int _ => exact (by decide +kernel : kitB "int" "tuple" = some false)
  | str _ => exact (by decide +kernel : kitB "str" "tuple" = some false)
  | list _ => exact (by decide +kernel : kitB "list" "tuple" = some false)
  | tuple _ => exact (by decide +kernel : kitB "tuple" "tuple" = some true)
  | dict _ => exact (by decide +kernel : kitB "dict" "tuple" = some false)
def bagB (d : PyData) : Bool := isSeqD d && decide ((partsD d).length ≤ 40) && (partsD d).all isWeightD
def R_bag (ds : List PyData) (d : PyData) : Prop := ∃ a, ds = [a] ∧ (partsD a).length ≤ 1000 ∧ d = .bool (bagB a)
theorem cl_is_bag_row {f : Addr} {fd : FuncData} {t : Tok} (F : At K mg "is_bag_row" s_is_bag_row f fd) (nb : NoB mg) (c1 : Cl P w K mg base CX0 3 "is_weight" (PureR K R_is_weight)) (gS : mg "MOST_STONES" = some (.int 40 t)) : Cl P w K mg base CX0 4 "is_bag_row" (PureR K R_bag) := by
  refine cl_pure F sc_is_bag_row (F.fn.binds fun _ _ _ _ _ _ us hl => match us, hl with | [_], _ => rfl) (fun ds d h => ?_) (fun X cdv A outer s H Q E M vs ds d hX hr al r h q => ?_)
  · obtain ⟨a, rfl, _⟩ := h
    rfl
  · obtain ⟨a, rfl, hlen, rfl⟩ := h
    obtain ⟨v, rfl, r1⟩ := rpa1 r
    subst hX
    -- the parts are walked
    have last : ∀ H2, Evl.Ex H H2 → isSeqD a = true → (∀ {X : Cx} {σ' : L2.St} {tg e}, PD X M e σ' H2 a → Src X M tg e σ' H2 (partsD a)) → (partsD a).length ≤ 40 → wB (cxOf CX0 P w K mg base n_is_bag_row "is_bag_row" (defScope s_is_bag_row) f cdv A outer s H E).nox ((defBody s_is_bag_row).drop 1) { nx := fun _ H' => Q .non H', rt := Q } (L2.start n_is_bag_row [v]) H2 := by
      intro H2 x2 hq src hl
      have r2 := r1.mono (fun _ z => z) (ExM.of x2)
      refine b_cons (s_ret (al.mono x2) (PD.is (pd_callB (cr_all rfl) rfl nb.all PyProof.Rows.boot_all (ad_cons (PD.is (d' := .list (((partsD a).map isWeightD).map PyData.bool)) (FD.pd
        (fd_map (t := .one 1) (own := [("item", 1)]) (fun d => .bool (isWeightD d)) rfl sc_is_bag_row.nd (src (nm 0 r2)) (blkOk_by (N := n_is_bag_row) (sc := defScope s_is_bag_row) (by decide +kernel)) (fun _ _ _ _ _ => pg_name (i := 1) sc_is_bag_row.nd rfl (.inl rfl)) (fun _ _ => trivial) ?_ ?_ ?_)) ?_) ad_nil) rn_all) ?_) fun v H3 x3 rv => q v H3 (x2.trans x3) rv)
      · rintro M H d σ' ⟨v, _, rfl⟩
        rfl
      · omega
      · rintro s0 H0 C cl fp M' H' d σ' hM lift hd ⟨v, rv, rfl⟩
        exact pd_callC c1 hr (by decide) rfl (ad_cons (nm 1 rv) ad_nil) ⟨d, rfl, rfl⟩
      · rw [List.map_map]
        rfl
      · unfold bagB
        rw [hq, decide_eq_true hl, Bool.true_and, Bool.true_and, List.all_map]
        rfl
    have lenA : ∀ {n}, isSeqD a = true → n = (partsD a).length → lenD a = some n := fun hq hn => by
      cases a <;> first | (cases hq; done) | (subst hn; rfl)
    refine b_cons (s_if (k := !(isListD a || isTupD a) || decide ((40 : Int) < ((partsD a).length : Nat))) al (WD.td (wd_or (td_not (td_val (pd_isi2 rfl nb.isinstance rfl nb.list PyProof.Rows.boot_list rfl nb.tuple PyProof.Rows.boot_tuple (nm 0 r1) (kit_l a) (kit_t a)))) fun hq => wd_or1 (td_gt (pd_len nb rfl (nm 0 r1) (lenA ?_ rfl)) (pd_globI rfl gS)))) (fun k H2 x2 => ?_) (fun k H2 x2 => ?_))
    · cases a <;> first | rfl | (cases hq; done)
    · have hb : bagB a = false := by
        unfold bagB
        cases a <;> first | rfl | skip
        all_goals
          simp only [isListD, isTupD, Bool.or_true, Bool.true_or, Bool.not_true, Bool.false_or, decide_eq_true_eq] at k
          rw [decide_eq_false (by omega), Bool.and_false, Bool.false_and]
      exact b_cons (s_ret (al.mono x2) (PD.is pd_bl (by rw [hb])) fun v H3 x3 rv => q v H3 (x2.trans x3) rv)
    · have hs : isSeqD a = true ∧ (partsD a).length ≤ 40 := by
        cases a <;> simp [isListD, isTupD] at k <;> exact ⟨rfl, by omega⟩
      refine b_nil (last H2 x2 hs.1 (fun h => ?_) hs.2)
      cases a with
      | list ds => exact src_list h
      | tuple ds => exact src_tup h
      | _ => cases hs.1
end
end FK

namespace FK
open PySem PySem.Spec PyProof.Rows L2 GV
section
variable {P : Program} {w : World} {K : PySem.W.Frag} {mg : Str → Option Value} {base : Heap}
abbrev potL (r c k : Int) : HO := .lst [.int r, .int c, .int k]
def spBox (K : PySem.W.Frag) : Sp := fun vs H Q _ => ∃ (M : Addr → Prop) (a : Addr) (ns : List Int) (i : Nat), vs = [.ref a, .int i] ∧ Alive M H ∧ ScAt K M H a ns ∧ ∀ p r c k H', H p = none → Evl.Ex H H' → H' p = some (potL r c k) → Q (.ref p) H'
theorem cl_law_box {f : Addr} {fd : FuncData} (F : At K mg "_law_box" s_law_box f fd) (nb : NoB mg) : Cl P w K mg base CX0 1 "_law_box" (spBox K) := by
  refine ⟨f, fd, _, F.fn.ok sc_law_box (fun vs H Q E h => ?_) (fun cdv A outer s H vs Q E hr h => ⟨_, wB.ps, ?_⟩), F.gl, F.fn.kp, F.fn.binds fun _ _ _ _ _ _ us hl => match us, hl with | [_, _], _ => rfl⟩
  · obtain ⟨M, a, ns, i, rfl, _⟩ := h
    rfl
  · obtain ⟨M, a, ns, i, rfl, al, r1, q⟩ := h
    have last : ∀ (c z : Int) H2, Evl.Ex H H2 → wB (cxOf CX0 P w K mg base n_law_box "_law_box" (defScope s_law_box) f cdv A outer s H E).nox ((defBody s_law_box).drop 4) { nx := fun _ H' => Q .non H', rt := Q } [some (.ref a), some (.int i), some (.int c), some (.int z)] H2 := by
      intro c z H2 x2
      refine b_cons (cs_ret (ce_fd (al.mono x2) (fd_lst (ad_cons (nm 3 (.int z)) (ad_cons (pd_mod (pd_intI nb rfl (nm 2 (.int c))) pd_int (by decide)) (ad_cons (pd_mul pd_int (nm 1 (.int (i : Int))) (.inl (by decide))) ad_nil))) (by simp)) fun p ws H3 hp x3 h3 rw3 => ?_))
      obtain ⟨u, v, x, rfl, a1, a2, a3⟩ := rpa3 rw3
      cases a1
      cases a2
      cases a3
      exact q p _ _ _ H3 (Evl.fresh_back x2 hp) (x2.trans x3) h3
    have mid : ∀ (c : Int) H2, Evl.Ex H H2 → wB (cxOf CX0 P w K mg base n_law_box "_law_box" (defScope s_law_box) f cdv A outer s H E).nox ((defBody s_law_box).drop 2) { nx := fun _ H' => Q .non H', rt := Q } [some (.ref a), some (.int i), some (.int c), none] H2 := by
      intro c H2 x2
      refine b_cons (s_set (i := 3) (al.mono x2) sc_law_box.nd rfl (.inl rfl) pd_int fun v H3 x3 r3 => ?_)
      cases r3
      refine b_cons (s_if ((al.mono x2).mono x3) (td_ge (nm 2 (.int c)) (pd_pow pd_int pd_int ⟨by decide, by decide, by decide⟩)) (fun _ H4 x4 => ?_) (fun _ H4 x4 => b_nil (last c 0 H4 ((x2.trans x3).trans x4))))
      exact b_cons (s_set (i := 3) (((al.mono x2).mono x3).mono x4) sc_law_box.nd rfl (.inl rfl) (nm 2 (.int c)) fun v H5 x5 r5 => by
        cases r5
        exact b_nil (last c c H5 (((x2.trans x3).trans x4).trans x5)))
    refine b_cons (s_set (i := 2) al sc_law_box.nd rfl (.inl rfl) pd_int fun v H1 x1 rv => ?_)
    cases rv
    have r1' := r1.mono (fun _ z => z) (ExM.of x1)
    refine b_cons (s_if (al.mono x1) (td_lt (nm 1 (.int (i : Int))) (pd_scLen (j := 0) r1' rfl nb.len)) (fun hk H2 x2 => ?_) (fun _ H2 x2 => b_nil (mid _ H2 (x1.trans x2))))
    have hi : i < ns.length := by
      have := of_decide_eq_true hk
      omega
    refine b_cons (s_set (i := 2) ((al.mono x1).mono x2) sc_law_box.nd rfl (.inl rfl) (pd_scIx (j := 0) (r1'.mono (fun _ z => z) (ExM.of x2)) (nm 1 (.int (i : Int))) (List.getElem?_eq_getElem hi)) fun v H3 x3 r3 => ?_)
    cases r3
    exact b_nil (mid _ H3 ((x1.trans x2).trans x3))
def ExB (b : Addr) (H H' : Hp) : Prop := ∀ a o, a ≠ b → H a = some o → H' a = some o
theorem ExB.of {b : Addr} {H H' : Hp} (e : Evl.Ex H H') : ExB b H H' := fun a o _ h => e a o h
theorem ExB.trans {b : Addr} {H H1 H2 : Hp} (e : ExB b H H1) (f : ExB b H1 H2) : ExB b H H2 := fun a o n h => f a o n (e a o n h)
theorem ExB.upd {b : Addr} {H : Hp} {o : HO} : ExB b H (upd H b o) := fun a u n h => by
  rw [upd_ne n]
  exact h
def spTake : Sp := fun vs H Q _ => ∃ (b : Addr) (n r c k : Int), vs = [.ref b, .int n] ∧ H b = some (potL r c k) ∧ 0 < n ∧ n.natAbs < 2 ^ 8000 ∧ ∀ z r' k' H', 0 ≤ z → z < n → ExB b H H' → H' b = some (potL r' c k') → Q (.int z) H'
theorem emod_lt' (a : Int) {m : Int} (h : 0 < m) : 0 ≤ a % m ∧ a % m < m := ⟨Int.emod_nonneg _ (by omega), Int.emod_lt_of_pos _ h⟩
theorem small_mul {i : Int} (h0 : 0 ≤ i) (h1 : i < 2147483648) : CMul i i := .inl ⟨by omega, by omega⟩
theorem cl_law_take {f : Addr} {fd : FuncData} (F : At K mg "_law_take" s_law_take f fd) (nb : NoB mg) : Cl P w K mg base CX0 1 "_law_take" spTake := by
  refine ⟨f, fd, _, F.fn.ok sc_law_take (fun vs H Q E h => ?_) (fun cdv A outer s H vs Q E hr h => ⟨_, wB.ps, ?_⟩), F.gl, F.fn.kp, F.fn.binds fun _ _ _ _ _ _ us hl => match us, hl with | [_, _], _ => rfl⟩
  · obtain ⟨b, n, r, c, k, rfl, _⟩ := h
    rfl
  · obtain ⟨b, n, r, c, k, rfl, hb, h0, hn, q⟩ := h
    have pot : ∀ {H' : Hp} {r c k : Int}, H' b = some (potL r c k) → Rp K M0 H' (.ref b) (.list [.int r, .int c, .int k]) := fun e => .lst (fun z => z) (.inl e) (.cons (.int _) (.cons (.int _) (.cons (.int _) .nil)))
    refine b_cons (s_if alive0 (td_gt (pd_ix (nm 0 (pot hb)) pd_int rfl) pd_int) (fun _ H4 x4 => ?_) (fun _ H4 x4 => ?_))
    · have hb4 := x4 _ _ hb
      refine b_cons (s_set (i := 2) alive0 sc_law_take.nd rfl (.inl rfl) (pd_mod (pd_intI nb rfl (pd_ix (nm 0 (pot hb4)) pd_int rfl)) (nm 1 (.int n)) h0) fun v H5 x5 r5 => ?_)
      cases r5
      have hb5 := x5 _ _ hb4
      refine b_cons (cs_sub (ce_pd alive0 (pd_div (pd_ix (nm 0 (pot hb5)) pd_int rfl) (nm 1 (.int n)) (wide_div h0 hn (by decide) (by decide))) fun v H6 x6 r6 => ce_name (i := 0) rfl (.inl rfl) rfl (ce_pd alive0 pd_int fun y H7 x7 r7 => ?_)))
      cases r6
      cases r7
      refine ⟨b, _, 0, 0, rfl, rfl, x7 _ _ (x6 _ _ hb5), rfl, ?_⟩
      refine b_cons (cs_ret (ce_name (i := 2) rfl (.inl rfl) rfl ?_))
      obtain ⟨z0, z1⟩ := emod_lt' r h0
      exact q _ _ k _ z0 z1 ((((ExB.of x4).trans (.of x5)).trans (.of (x6.trans x7))).trans .upd) upd_same
    · have hb4 := x4 _ _ hb
      refine b_nil (b_cons (cs_sub (ce_pd alive0 (pd_add (pd_ix (nm 0 (pot hb4)) pd_int rfl) pd_int) fun v H5 x5 r5 => ce_name (i := 0) rfl (.inl rfl) rfl (ce_pd alive0 pd_int fun y H6 x6 r6 => ?_))))
      cases r5
      cases r6
      refine ⟨b, _, 2, 2, rfl, rfl, x6 _ _ (x5 _ _ hb4), rfl, ?_⟩
      generalize hH7 : upd H6 b (.lst (List.set [V.int r, V.int c, V.int k] 2 (V.int (k + 1)))) = H7
      have hb7 : H7 b = some (potL r c (k + 1)) := by
        rw [← hH7, upd_same]
        rfl
      have e7 : ExB b H H7 := by
        rw [← hH7]
        exact (((ExB.of x4).trans (.of x5)).trans (.of x6)).trans .upd
      refine b_cons (s_set (i := 3) alive0 sc_law_take.nd rfl (.inl rfl) (pd_mod (pd_intI nb rfl (pd_add (pd_add (pd_mul (pd_ix (nm 0 (pot hb7)) pd_int rfl) pd_int (.inr (by decide))) (pd_mul (pd_ix (nm 0 (pot hb7)) pd_int rfl) pd_int (.inr (by decide)))) pd_int)) pd_int (by decide)) fun v H8 x8 r8 => ?_)
      cases r8
      have hb8 := x8 _ _ hb7
      generalize hlow : (c * 48271 + (k + 1) * 69621 + 7) % 2147483647 = low
      obtain ⟨l0, l1⟩ : 0 ≤ low ∧ low < 2147483647 := hlow ▸ emod_lt' _ (by decide)
      refine b_cons (s_set (i := 4) alive0 sc_law_take.nd rfl (.inl rfl) (pd_mod (pd_intI nb rfl (pd_add (pd_add (pd_mul (nm 3 (.int low)) (nm 3 (.int low)) (small_mul l0 (by omega))) (pd_mul (pd_ix (nm 0 (pot hb8)) pd_int rfl) pd_int (.inr (by decide)))) pd_int)) pd_int (by decide)) fun v H9 x9 r9 => ?_)
      cases r9
      generalize hmid : (low * low + (k + 1) * 40692 + 11) % 2147483399 = mid
      obtain ⟨m0, m1⟩ : 0 ≤ mid ∧ mid < 2147483399 := hmid ▸ emod_lt' _ (by decide)
      refine b_cons (s_ret alive0 (pd_mod (pd_intI nb rfl (pd_mod (pd_intI nb rfl (pd_add (pd_div (pd_mul (nm 4 (.int mid)) (nm 4 (.int mid)) (small_mul m0 (by omega))) pd_int (wide_div (b := 40) (by decide) (by decide) (by decide) (by decide))) (nm 3 (.int low)))) pd_int (by decide))) (nm 1 (.int n)) h0) fun v HA xA rA => ?_)
      cases rA
      obtain ⟨z0, z1⟩ := emod_lt' ((mid * mid / 64 + low) % 2147483587) h0
      exact q _ _ _ HA z0 z1 (e7.trans (.of ((x8.trans x9).trans xA))) (xA _ _ (x9 _ _ hb8))
end
end FK

namespace FK
open PySem PySem.Spec PyProof.Rows L2 GV
/-! ### the texts of the houses -/
def sideT : Nat → Str
  | 0 => ""
  | 1 => "l"
  | 2 => "b"
  | 3 => "lb"
  | 4 => "h"
  | 5 => "lh"
  | 6 => "bh"
  | _ => "lbh"
def txN (n : Nat) : Str := sideT (n % 8) ++ "-" ++ sideT (n / 8)
def ordK : List Str := ["l-", "b-", "h-", "-l", "-b", "-h"]
def bitN (n k : Nat) : Bool := decide ((n : Int) / 2 ^ k % 2 = 1)
def kindsL (n : Nat) : List Str := ((List.range 6).filter (bitN n)).map fun i => ordK.getD i ""
theorem all63 {p : Nat → Prop} [DecidablePred p] (h : (List.range 64).all (fun n => decide (p n)) = true) {n : Nat} (hn : n < 64) : p n := of_decide_eq_true (List.all_eq_true.mp h n (List.mem_range.mpr hn))
theorem part_tx {n : Nat} (hn : n < 64) : Txt.partition (txN n) (Str.ofString "-") = (sideT (n % 8), Str.ofString "-", sideT (n / 8)) :=
  all63 (p := fun n => Txt.partition (txN n) (Str.ofString "-") = (sideT (n % 8), Str.ofString "-", sideT (n / 8))) (by decide +kernel) hn
theorem len_tx {n : Nat} (hn : n < 64) : (txN n).length ≤ 7 := all63 (p := fun n => (txN n).length ≤ 7) (by decide +kernel) hn
theorem side_len {i : Nat} (hi : i < 64) : (sideT i).length ≤ 3 := all63 (p := fun n => (sideT n).length ≤ 3) (by decide +kernel) hi
/-- the sides' dict -/
structure Sides (K : PySem.W.Frag) (mg : Str → Option Value) (w : World) : Prop where
  ex : ∃ d es n, mg "_SIDES" = some (.ref d) ∧ KDict K w d es n ∧ ∀ i, i < 8 → ∃ t, PySem.W.nsIn K d (sideT i) = some (some (.int i t))
section
variable {X : Cx} {M : Addr → Prop} {σ : St} {H : Hp} {a : Expr}
theorem td_ninS {i : Nat} {p pos : Pos} (hi : i < 8) (S : Sides X.K X.mg X.w) (hg : Gl X "_SIDES") (ha : PD X M a σ H (.str (sideT i))) : TD X M (.Compare a [.NotIn] [.Name "_SIDES" p] pos) σ H false := by
  obtain ⟨d, es, n, hm, D, ns⟩ := S.ex
  obtain ⟨t, n1⟩ := ns i hi
  refine .mk fun H1 e1 al Q q => ⟨_, pt_cmpR (op_notIn_kd D) wE.pe (pe_glob hg hm (v := .ref d) rfl (by decide)) rfl, ha.run H1 e1 al _ fun v H2 x2 r => ?_⟩
  cases r
  exact ⟨_, _, rfl, rfl, n1, _, rfl, q H2 x2⟩
theorem pd_ixS {i : Nat} {p pos : Pos} (hi : i < 8) (S : Sides X.K X.mg X.w) (hg : Gl X "_SIDES") (ha : PD X M a σ H (.str (sideT i))) (hs : PlainIx a := by exact fun _ _ => rfl) : PD X M (.Subscript (.Name "_SIDES" p) a pos) σ H (.int (i : Nat)) := by
  obtain ⟨d, es, n, hm, D, ns⟩ := S.ex
  obtain ⟨t, n1⟩ := ns i hi
  refine .mk fun H1 e1 al Q q => ⟨_, pe_ix ix_kdict (pe_glob hg hm (v := .ref d) rfl (by decide)) wE.pe hs, ha.run H1 e1 al _ fun v H2 x2 r => ?_⟩
  cases r
  exact ⟨d, _, .int (i : Nat), rfl, rfl, ⟨es, n, _, D.at_, D.lit, n1, ⟨t, rfl⟩⟩, q _ H2 x2 (.int _)⟩
/-- x, y, z = a tuple of three texts -/
theorem cs_unp3 {e : Expr} {pos px py pz pt : Pos} {i j l kt : Nat} {x y z : Str} {D : Ends} {u v w : Str} (hx : PG X (.Name x px) (gName i)) (hy : PG X (.Name y py) (gName j)) (hz : PG X (.Name z pz) (gName l))
    (h : wE X e σ H fun r H2 => ∃ p, r = .ref p ∧ H2 p = some (.tup [.str u, .str v, .str w]) ∧ D.nx (((σ.set i (some (.str u))).set j (some (.str v))).set l (some (.str w))) H2)
    (ht : PG X (.Tuple [.Name x px, .Name y py, .Name z pz] kt pt) (gTup X.K 3 (gCons (gName i) (gCons (gName j) (gCons (gName l) gNil))))) (hs : swapsWithSole [.Tuple [.Name x px, .Name y py, .Name z pz] kt pt] e pos.line X.env = pure false := by rfl) (hw : swappedStores [.Tuple [.Name x px, .Name y py, .Name z pz] kt pt] e X.env = pure none := by rfl)
    (h1 : (assignEach [.Tuple [.Name x px, .Name y py, .Name z pz] kt pt] X.env).map (·.2) = [assign (.Tuple [.Name x px, .Name y py, .Name z pz] kt pt) X.env] := by rfl) : wS X (.Assign [.Tuple [.Name x px, .Name y py, .Name z pz] kt pt] e pos) D σ H :=
  ⟨_, ps_asg wE.pe ht hs hw h1, wE.weak h fun r H2 ⟨p, e, hp, q⟩ => ⟨p, _, e, .inl (.inl hp), rfl, _, _, rfl, _, _, rfl, _, _, rfl, rfl, q⟩⟩
end
section
variable {P : Program} {w : World} {K : PySem.W.Frag} {mg : Str → Option Value} {base : Heap}
theorem eqv_int (i j : Int) : PyData.eqv (.int i) (.int j) = decide (i = j) := by
  rw [Bool.eq_iff_iff, decide_eq_true_eq]
  simp [PyData.eqv]
def R_not (ds : List PyData) (d : PyData) : Prop := ∃ n : Nat, n < 64 ∧ ds = [.str (txN n)] ∧ d = .int (n : Nat)
theorem cl_number_of_text {f : Addr} {fd : FuncData} (F : At K mg "number_of_text" s_number_of_text f fd) (nb : NoB mg) (S : Sides K mg w) : Cl P w K mg base CX0 1 "number_of_text" (PureR K R_not) := by
  refine cl_pure F sc_number_of_text (F.fn.binds fun _ _ _ _ _ _ us hl => match us, hl with | [_], _ => rfl) (fun ds d h => ?_) (fun X cdv A outer s H Q E M vs ds d hX hr al r h q => ?_)
  · obtain ⟨n, _, rfl, _⟩ := h
    rfl
  · obtain ⟨n, hn, rfl, rfl⟩ := h
    obtain ⟨v, rfl, r1⟩ := rpa1 r
    cases r1
    subst hX
    have h1 : n % 8 < 8 := Nat.mod_lt _ (by decide)
    have h2 : n / 8 < 8 := by omega
    refine b_cons (s_if (k := false) al (td_not (k := true) (td_val (pd_isi rfl nb.isinstance rfl nb.str PyProof.Rows.boot_str (nm 0 (.str (txN n))) (by decide +kernel : kitB "str" "str" = some true)))) (fun k => by cases k) (fun _ H2 x2 => ?_))
    refine b_nil (b_cons (cs_unp3 (i := 1) (j := 2) (l := 3) (u := sideT (n % 8)) (v := "-") (w := sideT (n / 8)) (pg_name (i := 1) sc_number_of_text.nd rfl (.inl rfl)) (pg_name (i := 2) sc_number_of_text.nd rfl (.inl rfl)) (pg_name (i := 3) sc_number_of_text.nd rfl (.inl rfl)) ⟨_, pe_partition wE.pe wE.pe, ce_nm 0 ⟨⟨txN n, rfl⟩, ce_str ⟨txN n, "-", rfl, rfl, by decide +kernel, Evl.sz_of (Nat.le_trans (len_tx hn) (by decide)), fun p hp => ⟨p, rfl, (by rw [part_tx hn]; exact upd_same), ?_⟩⟩⟩⟩ (pg_tup rfl (pgs_cons (pg_name (i := 1) sc_number_of_text.nd rfl (.inl rfl)) (pgs_cons (pg_name (i := 2) sc_number_of_text.nd rfl (.inl rfl)) (pgs_cons (pg_name (i := 3) sc_number_of_text.nd rfl (.inl rfl)) pgs_nil))))))
    refine b_cons (s_if (k := false) (al.mono (x2.trans (Evl.Ex.new hp))) (WD.td (wd_or (k1 := false) (k2 := false) (TD.is (td_eq hr.units (nm 2 (.str "-")) pd_str (by decide +kernel) (by decide +kernel)) (by decide +kernel)) fun _ => wd_or (k1 := false) (k2 := false) (td_ninS h1 S rfl (nm 1 (.str _))) fun _ => wd_or1 (td_ninS h2 S rfl (nm 3 (.str _))))) (fun k => by cases k) (fun _ H4 x4 => ?_))
    exact b_nil (b_cons (s_ret ((al.mono (x2.trans (Evl.Ex.new hp))).mono x4) (PD.is (pd_add (pd_ixS h1 S rfl (nm 1 (.str _))) (pd_mul pd_int (pd_ixS h2 S rfl (nm 3 (.str _))) (.inl (by decide)))) (congrArg PyData.int (by omega))) fun v H5 x5 rv => q v H5 (((x2.trans (Evl.Ex.new hp)).trans x4).trans x5) rv))
/-- the class House -/
structure HouC (K : PySem.W.Frag) (CH : Addr) : Prop where
  ins : C8.InsC K CH
  nT : NoAttr K CH "text"
  nN : NoAttr K CH "number"
/-- the house of number n stands at h -/
def HAt (CH : Addr) (n : Nat) (H : Hp) (h : Addr) : Prop := ∃ dx, H h = some (.ins CH dx [("text", .str (txN n)), ("number", .int (n : Nat))])
theorem HAt.ex {CH h : Addr} {n : Nat} {H H' : Hp} (a : HAt CH n H h) (x : ∀ o, H h = some o → H' h = some o) : HAt CH n H' h := let ⟨dx, e⟩ := a; ⟨dx, x _ e⟩
theorem HAt.exM {CH h : Addr} {n : Nat} {M : Addr → Prop} {H H' : Hp} (a : HAt CH n H h) (x : ExM M H H') (m : ¬ M h) : HAt CH n H' h := let ⟨dx, e⟩ := a; ⟨dx, x _ _ e m fun _ z => by cases z⟩
def spHInit (CH : Addr) : Sp := fun vs H Q _ => ∃ (b dx : Addr) (n : Nat), vs = [.ref b, .str (txN n)] ∧ 1 ≤ n ∧ n < 64 ∧ H b = some (.ins CH dx []) ∧ ∀ H', (∀ a o, H a = some o → a ≠ b → H' a = some o) → HAt CH n H' b → Q .non H'
theorem ok_hinit {f CH : Addr} {fd : FuncData} (F : Fun K "__init__" "House.__init__" s_House_init f fd) (B : HouC K CH) (c1 : Cl P w K mg base CX0 1 "number_of_text" (PureR K R_not)) : FnOk P w K mg base CX0 2 f fd ["self", "text"] (spHInit CH) := by
  refine F.ok sc_House_init (fun vs H Q E h => ?_) (fun cdv A outer sh H vs Q E hr h => ⟨_, wB.ps, ?_⟩)
  · obtain ⟨b, dx, n, rfl, _⟩ := h
    rfl
  · obtain ⟨b, dx, n, rfl, hn0, hn, hb, q⟩ := h
    refine b_cons (s_set (M := M0) (i := 2) (d := .int (n : Nat)) alive0 sc_House_init.nd rfl (.inl rfl) (pd_callC c1 hr (by decide) rfl (ad_cons (nm 1 (.str (txN n))) ad_nil) ⟨n, hn, rfl, rfl⟩) fun v H2 x2 r2 => ?_)
    cases r2
    refine b_cons (s_if (M := M0) (k := false) alive0 (TD.is (td_eq hr.units (nm 2 (.int (n : Nat))) pd_int rfl rfl) (by rw [eqv_int]; exact decide_eq_false (by omega))) (fun k => by cases k) (fun _ H3 x3 => ?_))
    refine b_nil (b_cons (cs_fld (ce_nm 1 (ce_nm 0 ⟨b, CH, dx, [], rfl, x3 _ _ (x2 _ _ hb), B.ins.cl, B.nT, (by show 0 < 1000; decide), ?_⟩))))
    refine b_cons (cs_fld (ce_nm 2 (ce_nm 0 ⟨b, CH, dx, _, rfl, upd_same, B.ins.cl, B.nN, (by show 1 < 1000; decide), b_nil (q _ (fun a o ha na => ?_) ⟨dx, ?_⟩)⟩)))
    · rw [upd_ne na, upd_ne na]
      exact x3 _ _ (x2 _ _ ha)
    · rw [upd_same]
      rfl
/-- self.number >> index & 1 == 1 -/
def spBit (CH : Addr) : Sp := fun vs H Q _ => ∃ (h : Addr) (n k : Nat), vs = [.ref h, .int (k : Nat)] ∧ HAt CH n H h ∧ ∀ H', Evl.Ex H H' → Q (.bl (bitN n k)) H'
theorem ok_bit {f CH : Addr} {fd : FuncData} (F : Fun K "names_index" "House.names_index" s_House_names_index f fd) (B : HouC K CH) : FnOk P w K mg base CX0 1 f fd ["self", "index"] (spBit CH) := by
  refine F.ok sc_House_names_index (fun vs H Q E h => ?_) (fun cdv A outer sh H vs Q E hr h => ⟨_, wB.ps, ?_⟩)
  · obtain ⟨b, n, k, rfl, _⟩ := h
    rfl
  · obtain ⟨b, n, k, rfl, ⟨dx, hb⟩, q⟩ := h
    refine b_cons (s_ret (M := M0) (d := .bool (bitN n k)) alive0 (PD.is (pd_eq hr.units (pd_binR (d := .int ((n : Int) / 2 ^ k % 2 ^ 1)) op_andM (fun x y H1 rx ry _ Q q => ?_) (pd_shr (pd_fld (AtN.name (i := 0) rfl (.inl rfl) rfl) (fun z => z) hb B.ins.cl B.nN rfl (.int (n : Nat))) (nm 1 (.int (k : Nat)))) (pd_int (i := 1))) pd_int rfl rfl) ?_) fun v H2 x2 r2 => ?_)
    · cases rx
      cases ry
      exact ⟨_, 1, rfl, rfl, q _ H1 (Evl.Ex.refl H1) (.int _)⟩
    · show PyData.bool (PyData.eqv _ _) = PyData.bool (bitN n k)
      rw [eqv_int]
      rfl
    · cases r2
      exact q H2 x2
end
end FK

namespace FK
open PySem PySem.Spec PyProof.Rows L2 GV
abbrev strsD (ns : List Str) : PyData := .list (ns.map PyData.str)
def bD (n : Nat) : PyData → Bool
  | .int i => bitN n i.toNat
  | _ => false
def oD : PyData → PyData
  | .int i => .str (ordK.getD i.toNat "")
  | d => d
def headC (x : Str) (i : Nat) : Str := match x.cps[i]? with | some c => ⟨#[c]⟩ | none => ""
def dashB (i : Nat) : PyData → Bool
  | .str x => decide (headC x i = "-")
  | _ => false
def headD (i : Nat) : PyData → PyData
  | .str x => .str (headC x i)
  | d => d
theorem text_eq {n : Nat} (hn : n < 64) : Txt.join "" (((kindsL n).filter fun x => decide (headC x 1 = "-")).map fun x => headC x 0) ++ "-" ++ Txt.join "" (((kindsL n).filter fun x => decide (headC x 0 = "-")).map fun x => headC x 1) = txN n :=
  all63 (p := fun n => Txt.join "" (((kindsL n).filter fun x => decide (headC x 1 = "-")).map fun x => headC x 0) ++ "-" ++ Txt.join "" (((kindsL n).filter fun x => decide (headC x 0 = "-")).map fun x => headC x 1) = txN n) (by decide +kernel) hn
theorem kinds_ord {n : Nat} {x : Str} (h : x ∈ kindsL n) : x ∈ ordK := by
  unfold kindsL at h
  obtain ⟨i, hi, rfl⟩ := List.mem_map.mp h
  have hi := List.mem_range.mp (List.mem_filter.mp hi).1
  rw [List.getD_eq_getElem?_getD, List.getElem?_eq_getElem (show i < ordK.length from hi)]
  exact List.getElem_mem _
theorem ord_all {p : Str → Bool} (h : ordK.all p = true) {x : Str} (hx : x ∈ ordK) : p x = true := List.all_eq_true.mp h x hx
theorem kinds_two {n : Nat} {x : Str} (h : x ∈ kindsL n) : x.length = 2 := of_decide_eq_true (ord_all (p := fun x => decide (x.length = 2)) (by decide +kernel) (kinds_ord h))
theorem head_ok0 {n : Nat} {x : Str} (h : x ∈ kindsL n) : SeqAt.shaped (.str (headC x 0)) = true := ord_all (p := fun x => SeqAt.shaped (.str (headC x 0))) (by decide +kernel) (kinds_ord h)
theorem head_ok1 {n : Nat} {x : Str} (h : x ∈ kindsL n) : SeqAt.shaped (.str (headC x 1)) = true := ord_all (p := fun x => SeqAt.shaped (.str (headC x 1))) (by decide +kernel) (kinds_ord h)
theorem kinds_len (n : Nat) : (kindsL n).length ≤ 6 := by
  unfold kindsL
  rw [List.length_map]
  exact List.length_filter_le _ _
theorem ix_head {x : Str} {i : Nat} (hx : x.length = 2) (hi : i < 2) : ixD (.str x) (.int (i : Nat)) = some (.str (headC x i)) := by
  have hs : x.cps.size = 2 := hx
  have hg : x.cps[i]? = some x.cps[i] := Array.getElem?_eq_getElem (by omega)
  show (if x.length ≤ sizeLine then _ else none) = _
  have ha : atI x.cps.toList ((i : Nat) : Int) = some x.cps[i] := atI_nat (by simpa using hg)
  rw [if_pos (by rw [hx, sizeLine_eq]; decide), ha]
  unfold headC
  rw [hg]
  rfl
section
variable {P : Program} {w : World} {K : PySem.W.Frag} {mg : Str → Option Value} {base : Heap}
def R_kinds (ds es : List PyData) : Prop := ∃ n : Nat, ds = [.int (n : Nat)] ∧ es = (kindsL n).map PyData.str
theorem cl_law_kinds {f : Addr} {fd : FuncData} (F : At K mg "_law_kinds" s_law_kinds f fd) (nb : NoB mg) : Cl P w K mg base CX0 1 "_law_kinds" (FreshR K R_kinds) := by
  refine ⟨f, fd, _, F.fn.ok sc_law_kinds (fun vs H Q E h => ?_) (fun cdv A outer sh H vs Q E hr h => ⟨_, wB.ps, ?_⟩), F.gl, F.fn.kp, F.fn.binds fun _ _ _ _ _ _ us hl => match us, hl with | [_], _ => rfl⟩
  · obtain ⟨M, ds, es, al, r, ⟨_, rfl, _⟩, _⟩ := h
    rw [r.length]
    rfl
  · obtain ⟨M, ds, es, al, r, ⟨n, rfl, rfl⟩, q⟩ := h
    obtain ⟨u, rfl, r1⟩ := rpa1 r
    refine b_cons (s_set (i := 1) (d := strsD ordK) al sc_law_kinds.nd rfl (by first | exact .inl rfl | exact .inr rfl) (FD.pd (fd_lst (ad_cons pd_str (ad_cons pd_str (ad_cons pd_str (ad_cons pd_str (ad_cons pd_str (ad_cons pd_str ad_nil)))))) (by decide))) fun v2 H2 x2 r2 => ?_)
    have al2 := al.mono x2
    have r1a := r1.mono (fun _ z => z) (ExM.of x2)
    refine b_cons (cs_ret (ce_fd al2 (fd_filter (t := .one 2) (own := [("at", 2)]) (bD n) oD rfl sc_law_kinds.nd (src_range1 rfl nb.range pd_int (by decide) (by decide)) (blkOk_by (N := n_law_kinds) (sc := defScope s_law_kinds) (by decide +kernel)) (fun _ _ _ _ _ => pg_name (i := 2) sc_law_kinds.nd rfl (.inl rfl)) (fun _ _ => trivial) ?_ ?_ ?_) fun l ws H3 hl x3 h3 r3 => q l ws H3 (Evl.fresh_back x2 hl) (x2.trans x3) h3 ?_))
    · rintro M H d σ' ⟨v, _, rfl⟩
      rfl
    · rw [List.length_map, List.length_range]
      decide
    · rintro s0 H0 C cl fp M' H' d σ' hM lift hd ⟨v', rv, rfl⟩
      obtain ⟨j, hj, rfl⟩ := List.mem_map.mp hd
      have hj : j < 6 := List.mem_range.mp hj
      rw [Int.zero_add] at rv ⊢
      refine ⟨TD.is (td_eq hr.units (pd_mod (pd_intI nb rfl (pd_shr (nm 0 (lift _ _ r1a)) (nm 2 rv))) pd_int (by decide)) pd_int rfl rfl) ?_, PD.is (pd_ix (nm 1 (lift _ _ r2)) (nm 2 rv) (d := .str (ordK.getD j "")) ?_) ?_⟩
      · rw [eqv_int]
        show decide ((n : Int) / 2 ^ j % 2 = 1) = bitN n ((j : Nat) : Int).toNat
        rw [Int.toNat_natCast]
        rfl
      · match j, hj with
        | 0, _ => rfl
        | 1, _ => rfl
        | 2, _ => rfl
        | 3, _ => rfl
        | 4, _ => rfl
        | 5, _ => rfl
      · show PyData.str _ = PyData.str (ordK.getD ((j : Nat) : Int).toNat "")
        rw [Int.toNat_natCast]
    · have e : (((List.range (6 : Int).toNat).map fun i => PyData.int (0 + (i : Nat))).filter (bD n)).map oD = (kindsL n).map PyData.str := by
        unfold kindsL
        rw [List.filter_map, List.map_map, List.map_map]
        have e1 : (bD n ∘ fun i : Nat => PyData.int (0 + (i : Nat))) = bitN n := by
          funext i
          show bitN n (0 + ((i : Nat) : Int)).toNat = _
          rw [Int.zero_add, Int.toNat_natCast]
        rw [e1]
        refine List.map_congr_left fun i _ => ?_
        show PyData.str (ordK.getD (0 + ((i : Nat) : Int)).toNat "") = _
        rw [Int.zero_add, Int.toNat_natCast]
        rfl
      rw [e] at r3
      exact r3
def R_text (ds : List PyData) (d : PyData) : Prop := ∃ n : Nat, n < 64 ∧ ds = [strsD (kindsL n)] ∧ d = .str (txN n)
theorem sum_le {l : List Nat} {k : Nat} (h : ∀ x ∈ l, x ≤ k) : l.sum ≤ l.length * k := by
  induction l with
  | nil => simp
  | cons a l ih =>
    have h1 := h a (List.mem_cons_self ..)
    have h2 := ih fun x hx => h x (List.mem_cons_of_mem _ hx)
    simp only [List.sum_cons, List.length_cons, Nat.add_mul]
    omega
theorem head_len (x : Str) (i : Nat) : (headC x i).length ≤ 1 := by
  unfold headC
  cases x.cps[i]? with
  | none => decide
  | some c => exact Nat.le_refl _
theorem cl_law_text {f : Addr} {fd : FuncData} (F : At K mg "_law_text" s_law_text f fd) : Cl P w K mg base CX0 1 "_law_text" (PureR K R_text) := by
  refine cl_pure F sc_law_text (F.fn.binds fun _ _ _ _ _ _ us hl => match us, hl with | [_], _ => rfl) (fun ds d h => ?_) (fun X cdv A outer s H Q E M vs ds d hX hr al r h q => ?_)
  · obtain ⟨n, _, rfl, _⟩ := h
    rfl
  · obtain ⟨n, hn, rfl, rfl⟩ := h
    obtain ⟨v, rfl, r1⟩ := rpa1 r
    subst hX
    have lens : ∀ (i : Nat) (p : Str → Bool), ((((kindsL n).filter p).map fun x => headC x i).map (·.length)).sum + (((kindsL n).filter p).map fun x => headC x i).length * (Str.ofString "").length ≤ 16777216 := fun i p => by
      have h1 : ((((kindsL n).filter p).map fun x => headC x i).map (·.length)).sum ≤ ((((kindsL n).filter p).map fun x => headC x i).map (·.length)).length * 1 := sum_le fun y hy => by
        obtain ⟨z, hz, rfl⟩ := List.mem_map.mp hy
        obtain ⟨x, _, rfl⟩ := List.mem_map.mp hz
        exact head_len x i
      have h2 : ((kindsL n).filter p).length ≤ 6 := Nat.le_trans (List.length_filter_le _ _) (kinds_len n)
      have h3 : (Str.ofString "").length = 0 := by decide
      rw [h3]
      simp only [List.length_map] at h1 ⊢
      omega
    have comp : ∀ {σ : L2.St} {H2 : Hp} (i j : Nat), i < 2 → j < 2 → True := fun _ _ _ _ => trivial
    refine b_cons (s_set (i := 1) (d := .str (Txt.join "" (((kindsL n).filter fun x => decide (headC x 1 = "-")).map fun x => headC x 0))) al sc_law_text.nd rfl (by first | exact .inl rfl | exact .inr rfl) (pd_join pd_str (PD.is (FD.pd (fd_filter (t := .one 3) (own := [("kind", 3)]) (dashB 1) (headD 0) rfl sc_law_text.nd (src_list (nm 0 r1)) (blkOk_by (N := n_law_text) (sc := defScope s_law_text) (by decide +kernel)) (fun _ _ _ _ _ => pg_name (i := 3) sc_law_text.nd rfl (.inl rfl)) (fun _ _ => trivial) ?_ ?_ ?_)) ?_) (lens 0 _)) fun v2 H2 x2 r2 => ?_)
    · rintro M H d σ' ⟨v, _, rfl⟩
      rfl
    · have := kinds_len n
      rw [List.length_map]
      omega
    · rintro s0 H0 C cl fp M' H' d σ' hM lift hd ⟨v', rv, rfl⟩
      obtain ⟨x, hx, rfl⟩ := List.mem_map.mp hd
      exact ⟨TD.is (td_eq hr.units (pd_ix (nm 3 rv) pd_int (ix_head (i := 1) (kinds_two hx) (by decide))) pd_str (head_ok1 hx) (by decide +kernel)) (eqv_str _ _), pd_ix (nm 3 rv) pd_int (ix_head (i := 0) (kinds_two hx) (by decide))⟩
    · rw [List.filter_map, List.map_map, List.map_map]
      rfl
    cases r2
    have al2 := al.mono x2
    have r1a := r1.mono (fun _ z => z) (ExM.of x2)
    refine b_cons (s_set (i := 2) (d := .str (Txt.join "" (((kindsL n).filter fun x => decide (headC x 0 = "-")).map fun x => headC x 1))) al2 sc_law_text.nd rfl (by first | exact .inl rfl | exact .inr rfl) (pd_join pd_str (PD.is (FD.pd (fd_filter (t := .one 3) (own := [("kind", 3)]) (dashB 0) (headD 1) rfl sc_law_text.nd (src_list (nm 0 r1a)) (blkOk_by (N := n_law_text) (sc := defScope s_law_text) (by decide +kernel)) (fun _ _ _ _ _ => pg_name (i := 3) sc_law_text.nd rfl (.inl rfl)) (fun _ _ => trivial) ?_ ?_ ?_)) ?_) (lens 1 _)) fun v3 H3 x3 r3 => ?_)
    · rintro M H d σ' ⟨v, _, rfl⟩
      rfl
    · have := kinds_len n
      rw [List.length_map]
      omega
    · rintro s0 H0 C cl fp M' H' d σ' hM lift hd ⟨v', rv, rfl⟩
      obtain ⟨x, hx, rfl⟩ := List.mem_map.mp hd
      exact ⟨TD.is (td_eq hr.units (pd_ix (nm 3 rv) pd_int (ix_head (i := 0) (kinds_two hx) (by decide))) pd_str (head_ok0 hx) (by decide +kernel)) (eqv_str _ _), pd_ix (nm 3 rv) pd_int (ix_head (i := 1) (kinds_two hx) (by decide))⟩
    · rw [List.filter_map, List.map_map, List.map_map]
      rfl
    cases r3
    refine b_cons (s_ret (al2.mono x3) (PD.is (pd_addS (pd_addS (nm 1 (.str _)) pd_str ?_) (nm 2 (.str _)) ?_) (congrArg PyData.str (text_eq hn))) fun v4 H4 x4 r4 => q v4 H4 ((x2.trans x3).trans x4) r4)
    · exact all63 (p := fun n => (Txt.join "" (((kindsL n).filter fun x => decide (headC x 1 = "-")).map fun x => headC x 0)).length + (Str.ofString "-").length ≤ 100000) (by decide +kernel) hn
    · exact all63 (p := fun n => (Txt.join "" (((kindsL n).filter fun x => decide (headC x 1 = "-")).map fun x => headC x 0) ++ "-").length + (Txt.join "" (((kindsL n).filter fun x => decide (headC x 0 = "-")).map fun x => headC x 1)).length ≤ 100000) (by decide +kernel) hn
end
end FK

namespace FK
open PySem PySem.Spec PyProof.Rows L2 GV
def okW (z : Int) : Prop := -1000000000000 ≤ z ∧ z ≤ 1000000000000
theorem okW.is {z : Int} (h : okW z) : isWeightD (.int z) = true := by
  show (decide (-mostW ≤ z) && decide (z ≤ mostW)) = true
  rw [decide_eq_true (by unfold mostW; exact h.1), decide_eq_true (by unfold mostW; exact h.2)]
  rfl
abbrev Ma (a : Addr) : Addr → Prop := fun x => x = a
abbrev S2 (s r : Addr) : Addr → Prop := fun a => a = s ∨ a = r
theorem ExB.exM {a : Addr} {H H' : Hp} (e : ExB a H H') : ExM (Ma a) H H' := fun x o h n _ => e x o n h
theorem ExB.trE {a : Addr} {H H1 H2 : Hp} (e : ExB a H H1) (x : Evl.Ex H1 H2) : ExB a H H2 := e.trans (.of x)
theorem al_pot {a : Addr} {H : Hp} {r c k : Int} (h : H a = some (potL r c k)) : Alive (Ma a) H := fun x e => ⟨_, e ▸ h⟩
theorem fresh_backB {a p : Addr} {H H' : Hp} {o : HO} (e : ExB a H H') (ha : H a = some o) (ha' : ∃ o', H' a = some o') (hp : H' p = none) : H p = none := by
  cases hh : H p with
  | none => rfl
  | some u =>
    by_cases h : p = a
    · subst h
      obtain ⟨o', h'⟩ := ha'
      rw [hp] at h'
      cases h'
    · rw [e p u h hh] at hp
      cases hp
theorem exB_of_S2 {a p : Addr} {H H1 H' : Hp} (e : ExS (S2 a p) H1 H') (x : ExB a H H1) (hp : H p = none) : ExB a H H' := fun y o n h => e y o (fun z => z.elim n fun e' => by
  rw [e', hp] at h
  cases h) (x y o n h)
section
variable {P : Program} {w : World} {K : PySem.W.Frag} {mg : Str → Option Value} {base : Heap}
theorem ce_take {X : Cx} {σ : St} {H : Hp} {a : Addr} {r c k : Int} {e1 e2 : Expr} {p pos : Pos} {Q : VK} {j : Nat} {n : Int} (cd : Cl X.prog X.w X.K X.mg X.base CX0 1 "_law_take" spTake) (hr : Room j X.A) (hj : 1 ≤ j) (hg : Gl X "_law_take")
    (he : ∀ H1 (Q : VK), Q (.ref a) H1 → wE X e1 σ H1 Q) (hn : PD X (Ma a) e2 σ H (.int n)) (ha : H a = some (potL r c k)) (h0 : 0 < n) (h1 : n.natAbs < 2 ^ 8000)
    (q : ∀ z r' k' H', 0 ≤ z → z < n → ExB a H H' → H' a = some (potL r' c k') → Q (.int z) H')
    (hs : starEach (e1 :: [e2]) X.env = (false, eval e1 X.env) :: starEach [e2] X.env := by rfl) (hs2 : starEach (e2 :: []) X.env = (false, eval e2 X.env) :: starEach [] X.env := by rfl) (hpl : (backTo pos (starEach [e2] X.env)).any (·.1) = false := by rfl) : wE X (.Call (.Name "_law_take" p) [e1, e2] [] pos) σ H Q := by
  refine ce_call cd hr hj hg (ca_cons (he _ _ (ca_cons (ce_pd (al_pot ha) hn fun v H2 x2 r2 => ?_) hs2)) hs) (by decide) hs hpl
  cases r2
  exact ca_nil ⟨a, n, r, c, k, rfl, x2 _ _ ha, h0, h1, fun z r' k' H' z0 z1 e h => q z r' k' H' z0 z1 ((ExB.of x2).trans e) h⟩
theorem n8000 {n : Int} (h0 : 0 ≤ n) (h : n ≤ 1000000) : n.natAbs < 2 ^ 8000 := Nat.lt_of_le_of_lt (m := 1000000) (by omega) (by decide +kernel)
/-! ### a weight -/
def spWeight : Sp := fun vs H Q _ => ∃ (a l : Addr) (ns : List Int) (r c k : Int), vs = [.ref a, .ref l] ∧ H a = some (potL r c k) ∧ a ≠ l ∧ H l = some (.lst (ns.map V.int)) ∧ ns.length ≤ 1000 ∧
  ∀ z r' k' H', okW z → ExB a H H' → H' a = some (potL r' c k') → Q (.int z) H'
theorem p12 : (10 : Int) ^ Int.toNat 12 = 1000000000000 := by decide +kernel
theorem p6 : (10 : Int) ^ Int.toNat 6 = 1000000 := by decide +kernel
theorem cl_law_weight {f : Addr} {fd : FuncData} (F : At K mg "_law_weight" s_law_weight f fd) (nb : NoB mg) (cd : Cl P w K mg base CX0 1 "_law_take" spTake) : Cl P w K mg base CX0 2 "_law_weight" spWeight := by
  refine ⟨f, fd, _, F.fn.ok sc_law_weight (fun vs H Q E h => ?_) (fun cdv A outer sh H vs Q E hr h => ⟨_, wB.ps, ?_⟩), F.gl, F.fn.kp, F.fn.binds fun _ _ _ _ _ _ us hl => match us, hl with | [_, _], _ => rfl⟩
  · obtain ⟨a, l, ns, r, c, k, rfl, _⟩ := h
    rfl
  · obtain ⟨a, l, ns, r, c, k, rfl, ha, nal, hl, hlen, q⟩ := h
    refine b_cons (cs_set (i := 2) sc_law_weight.nd rfl (.inl rfl) (ce_take cd hr (by decide) rfl (fun H1 Q hq => ce_nm 0 hq) pd_int ha (by decide) (by decide +kernel) fun way r1 k1 H1 w0 w1 e1 ha1 => ?_))
    have hl1 : H1 l = some (.lst (ns.map V.int)) := e1 _ _ (Ne.symm nal) hl
    refine b_cons (s_if (al_pot ha1) (td_eq hr.units (nm 2 (.int way)) pd_int rfl rfl) (fun _ H2 x2 => ?_) (fun _ H2 x2 => b_nil ?_))
    · -- min(10 ** 12, ..)
      refine b_cons (cs_ret (ce_min2 rfl nb.min (ca_cons (ce_pd (al_pot (x2 _ _ ha1)) (pd_pow pd_int pd_int ⟨by decide, by decide, by decide⟩) fun v3 H3 x3 r3 => ca_cons (ce_sub (ce_add (ce_mul (ce_take cd hr (by decide) rfl (fun H1 Q hq => ce_nm 0 hq) pd_int (x3 _ _ (x2 _ _ ha1)) (by decide) (by decide +kernel) fun z4 r4 k4 H4 z40 z41 e4 ha4 => ce_pd (al_pot ha4) (pd_pow pd_int pd_int ⟨by decide, by decide, by decide⟩) fun v5 H5 x5 r5 => ?_))))))))
      cases r3
      cases r5
      refine ⟨z4, _, rfl, rfl, .inl ⟨by omega, by omega⟩, ce_take cd hr (by decide) rfl (fun H1 Q hq => ce_nm 0 hq) (pd_pow pd_int pd_int ⟨by decide, by decide, by decide⟩) (x5 _ _ ha4) (by decide) (by decide +kernel) fun z6 r6 k6 H6 z60 z61 e6 ha6 => ⟨_, z6, rfl, rfl, ce_pd (al_pot ha6) (pd_pow pd_int pd_int ⟨by decide, by decide, by decide⟩) fun v7 H7 x7 r7 => ?_⟩⟩
      cases r7
      refine ⟨_, _, rfl, rfl, ca_nil ⟨_, _, rfl, q _ r6 k6 H7 ?_ ((((e1.trE x2).trE x3).trans (e4.trE x5)).trans (e6.trE x7)) (x7 _ _ ha6)⟩⟩
      rw [p12, p6]
      rw [p6] at z61
      unfold okW
      omega
    · -- near
      have ha2 := x2 _ _ ha1
      have hl2 := x2 _ _ hl1
      have rl : Rp K (Ma a) H2 (.ref l) (intsD ns) := .lst (fun e => nal e.symm) (.inl hl2) (.ints ns)
      have rest : ∀ r3 k3 H3, ExB a H H3 → H3 a = some (potL r3 c k3) → ∀ x4, wB (cxOf CX0 P w K mg base n_law_weight "_law_weight" (defScope s_law_weight) f cdv A outer sh H E).nox ((defBody s_law_weight).drop 3) { nx := fun _ H' => Q .non H', rt := Q } [some (.ref a), some (.ref l), some (.int way), x4] H3 := by
        intro r3 k3 H3 e3 ha3 x4
        refine b_cons (cs_ret (ce_sub (ce_take cd hr (by decide) rfl (fun H1 Q hq => ce_nm 0 hq) pd_int ha3 (by decide) (by decide +kernel) fun z5 r5 k5 H5 z50 z51 e5 ha5 => ce_pd (al_pot ha5) pd_int fun v6 H6 x6 r6 => ?_)))
        cases r6
        refine ⟨_, _, rfl, rfl, q _ r5 k5 H6 ?_ ((e3.trans e5).trE x6) (x6 _ _ ha5)⟩
        unfold okW
        omega
      refine b_cons (s_if (k := PyData.eqv (.int way) (.int 2) && decide ((0 : Int) < (ns.length : Nat))) (al_pot ha2) (WD.td (wd_and (td_eq hr.units (nm 2 (.int way)) pd_int rfl rfl) fun _ => wd_and1 (td_gt (pd_len nb rfl (nm 1 rl) (n := ns.length) (by simp [lenD])) pd_int))) (fun hk H3 x3 => ?_) (fun _ H3 x3 => b_nil (rest r1 k1 H3 ((e1.trE x2).trE x3) (x3 _ _ ha2) none)))
      have hpos : 0 < ns.length := by
        have := of_decide_eq_true (Bool.and_eq_true_iff.mp hk).2
        omega
      have rl3 := rl.mono (fun _ z => z) (ExM.of x3)
      refine b_cons (cs_set (i := 3) sc_law_weight.nd rfl (.inl rfl) (ce_sub (ce_add (ce_ix (ce_nm 1 (ce_take cd hr (by decide) rfl (fun H1 Q hq => ce_nm 0 hq) (pd_len nb rfl (nm 1 rl3) (n := ns.length) (by simp [lenD])) (x3 _ _ ha2) (by omega) (n8000 (by omega) (by omega)) fun z4 r4 k4 H4 z40 z41 e4 ha4 => ?_))))))
      obtain ⟨u, hu⟩ : ∃ u, ns[z4.toNat]? = some u := ⟨_, List.getElem?_eq_getElem (by omega)⟩
      refine rIx_of (M := M0) (da := intsD ns) (d := .int u) (.lst (fun z => z) (.inl (e4 _ _ (Ne.symm nal) (x3 _ _ hl2))) (.ints ns)) ?_ fun v5 r5 => ?_
      · have := ixD_ints hu
        rwa [show ((z4.toNat : Nat) : Int) = z4 by omega] at this
      cases r5
      refine ce_pd (al_pot ha4) pd_int fun v6 H6 x6 r6 => ?_
      cases r6
      refine ⟨u, 1, rfl, rfl, ce_mul (ce_pd (al_pot (x6 _ _ ha4)) pd_int fun v7 H7 x7 r7 => ce_take cd hr (by decide) rfl (fun H1 Q hq => ce_nm 0 hq) pd_int (x7 _ _ (x6 _ _ ha4)) (by decide) (by decide +kernel) fun z8 r8 k8 H8 z80 z81 e8 ha8 => ?_)⟩
      cases r7
      refine ⟨2, z8, rfl, rfl, .inl ⟨by decide, by decide⟩, _, _, rfl, rfl, ?_⟩
      generalize u + 1 - 2 * z8 = near
      have eA : ExB a H H8 := ((((e1.trE x2).trE x3).trans (e4.trE x6)).trE x7).trans e8
      refine b_cons (s_ret (al_pot ha8) (pd_max2 rfl nb.max (pd_neg (pd_pow pd_int pd_int ⟨by decide, by decide, by decide⟩)) (pd_min2 rfl nb.min (pd_pow pd_int pd_int ⟨by decide, by decide, by decide⟩) (nm 3 (.int near)))) fun v9 H9 x9 r9 => ?_)
      cases r9
      refine q _ r8 k8 H9 ?_ (eA.trE x9) (x9 _ _ ha8)
      rw [p12]
      unfold okW
      omega
end
end FK

namespace FK
open PySem PySem.Spec PyProof.Rows L2 GV
theorem ins_mem {α : Type} (l : List α) (k : Nat) (x y : α) : y ∈ l.take k ++ [x] ++ l.drop k ↔ y = x ∨ y ∈ l := by
  rw [List.mem_append, List.mem_append, List.mem_singleton]
  constructor
  · rintro ((h | h) | h)
    · exact .inr (List.mem_of_mem_take h)
    · exact .inl h
    · exact .inr (List.mem_of_mem_drop h)
  · rintro (h | h)
    · exact .inl (.inr h)
    · rw [← List.take_append_drop k l] at h
      exact (List.mem_append.mp h).elim (fun h => .inl (.inl h)) .inr
theorem ins_len {α : Type} (l : List α) (k : Nat) (x : α) : (l.take k ++ [x] ++ l.drop k).length = l.length + 1 := by
  rw [List.length_append, List.length_append, List.length_take, List.length_drop, List.length_singleton]
  omega
theorem ins_nodup {α : Type} {l : List α} {k : Nat} {x : α} (h : l.Nodup) (hx : x ∉ l) : (l.take k ++ [x] ++ l.drop k).Nodup := by
  have p : (l.take k ++ [x] ++ l.drop k).Perm (x :: l) := by
    have q : (x :: (l.take k ++ l.drop k)).Perm (l.take k ++ ([x] ++ l.drop k)) := (List.perm_middle (l₁ := l.take k) (a := x) (l₂ := l.drop k)).symm
    rw [List.take_append_drop] at q
    rw [List.append_assoc]
    exact q.symm
  exact p.symm.nodup (List.nodup_cons.mpr ⟨hx, h⟩)
/-- a row of the law's -/
def RowL (ns : List Int) : Prop := ns.length ≤ 40 ∧ (∀ z ∈ ns, okW z) ∧ ns.Nodup
def RowQ (a : Addr) (c : Int) (H : Hp) (Q : VK) : Prop := ∀ p (ns : List Int) r' k' H', H p = none → ExB a H H' → H' a = some (potL r' c k') → H' p = some (.lst (ns.map V.int)) → RowL ns → Q (.ref p) H'
section
variable {P : Program} {w : World} {K : PySem.W.Frag} {mg : Str → Option Value} {base : Heap}
def spRow : Sp := fun vs H Q _ => ∃ (a : Addr) (most r c k : Int), vs = [.ref a, .int most] ∧ H a = some (potL r c k) ∧ 0 ≤ most ∧ most ≤ 40 ∧ RowQ a c H Q
theorem cl_law_row {f : Addr} {fd : FuncData} (F : At K mg "_law_row" s_law_row f fd) (nb : NoB mg) (cd : Cl P w K mg base CX0 1 "_law_take" spTake) (cw : Cl P w K mg base CX0 2 "_law_weight" spWeight) : Cl P w K mg base CX0 3 "_law_row" spRow := by
  refine ⟨f, fd, _, F.fn.ok sc_law_row (fun vs H Q E h => ?_) (fun cdv A outer sh H vs Q E hr h => ⟨_, wB.ps, ?_⟩), F.gl, F.fn.kp, F.fn.binds fun _ _ _ _ _ _ us hl => match us, hl with | [_, _], _ => rfl⟩
  · obtain ⟨a, most, r, c, k, rfl, _⟩ := h
    rfl
  · obtain ⟨a, most, r, c, k, rfl, ha, m0, m1, q⟩ := h
    refine b_cons (cs_set (i := 2) sc_law_row.nd rfl (.inl rfl) (ce_fd alive0 (fd_lst ad_nil (by simp)) fun p ws H1 hp x1 h1 rw1 => ?_))
    obtain ⟨⟩ := rw1
    have ha1 := x1 _ _ ha
    have nap : a ≠ p := fun e => by
      rw [← e, ha] at hp
      cases hp
    refine b_cons (s_forRW (slot := 3) PassesOwn.never rfl sc_law_row.nd rfl (.inl rfl) rfl nb.range (ce_take cd hr (by decide) rfl (fun H1 Q hq => ce_nm 0 hq) (pd_add (nm 1 (.int most)) pd_int) ha1 (by omega) (n8000 (by omega) (by omega)) fun z r2 k2 H2 z0 z1 e2 ha2 => ?_))
    refine ⟨z.toNat, fun i σ' H' => ∃ (ns : List Int) (r' k' : Int) (xk xw : Option V), σ' = [some (.ref a), some (.int most), some (.ref p), xk, xw] ∧ ExB a H H' ∧ H' a = some (potL r' c k') ∧ H' p = some (.lst (ns.map V.int)) ∧ ns.length ≤ i ∧ (∀ z ∈ ns, okW z) ∧ ns.Nodup, by rw [Int.toNat_of_nonneg z0], by omega, ⟨[], r2, k2, none, none, rfl, (ExB.of x1).trans e2, ha2, e2 _ _ (Ne.symm nap) h1, Nat.le_refl _, fun z h => absurd h List.not_mem_nil, List.nodup_nil⟩, ?_, ?_⟩
    · rintro i σ' H' hi ⟨ns, r3, k3, xk, xw, rfl, e3, ha3, hp3, hl3, hw3, hn3⟩
      refine b_cons (cs_set (i := 4) sc_law_row.nd rfl (.inl rfl) (ce_call cw hr (by decide) rfl (ca_cons (ce_nm 0 (ca_cons (ce_nm 2 (ca_nil ⟨a, p, ns, r3, c, k3, rfl, ha3, nap, hp3, by omega, fun u r4 k4 H4 hu e4 ha4 => ?_⟩)))))))
      have hp4 := e4 _ _ (Ne.symm nap) hp3
      have rl : Rp K (Ma a) H4 (.ref p) (intsD ns) := .lst (fun e => nap e.symm) (.inl hp4) (.ints ns)
      refine b_cons (s_if (al_pot ha4) (td_nin (nm 4 (.int u)) (nm 2 rl)) (fun hk H5 x5 => ?_) (fun _ H5 x5 => b_nil (b_nil ⟨ns, r4, k4, _, _, rfl, (e3.trans e4).trE x5, x5 _ _ ha4, x5 _ _ hp4, by omega, hw3, hn3⟩)))
      have hk : u ∉ ns := by simpa using hk
      refine b_cons (cs_expr (ce_append (ce_nm 2 ⟨p, _, rfl, x5 _ _ hp4, ce_nm 4 ⟨_, x5 _ _ hp4, by rw [List.length_map]; omega, b_nil (b_nil ⟨ns ++ [u], r4, k4, _, _, rfl, ?_, ?_, ?_, ?_, ?_, ?_⟩)⟩⟩)))
      · intro x o n h
        by_cases hx : x = p
        · rw [hx, hp] at h
          cases h
        · rw [upd_ne hx]
          exact x5 _ _ (e4 _ _ n (e3 _ _ n h))
      · rw [upd_ne nap]
        exact x5 _ _ ha4
      · rw [upd_same, List.map_append]
        rfl
      · rw [List.length_append]
        exact Nat.add_le_add_right hl3 1
      · intro y hy
        rcases List.mem_append.mp hy with hy | hy
        · exact hw3 y hy
        · rw [List.mem_singleton.mp hy]
          exact hu
      · refine List.nodup_append.mpr ⟨hn3, List.nodup_cons.mpr ⟨List.not_mem_nil, List.nodup_nil⟩, fun y hy z hz e => ?_⟩
        rw [List.mem_singleton.mp hz] at e
        exact hk (e ▸ hy)
    · rintro σ' H' ⟨ns, r3, k3, xk, xw, rfl, e3, ha3, hp3, hl3, hw3, hn3⟩
      exact b_cons (cs_ret (ce_nm 2 (q p ns r3 k3 H' hp e3 ha3 hp3 ⟨by omega, hw3, hn3⟩)))
theorem cl_law_stones {f : Addr} {fd : FuncData} (F : At K mg "_law_stones" s_law_stones f fd) (nb : NoB mg) (cd : Cl P w K mg base CX0 1 "_law_take" spTake) (cw : Cl P w K mg base CX0 3 "_law_row" spRow) : Cl P w K mg base CX0 4 "_law_stones" spRow := by
  refine ⟨f, fd, _, F.fn.ok sc_law_stones (fun vs H Q E h => ?_) (fun cdv A outer sh H vs Q E hr h => ⟨_, wB.ps, ?_⟩), F.gl, F.fn.kp, F.fn.binds fun _ _ _ _ _ _ us hl => match us, hl with | [_, _], _ => rfl⟩
  · obtain ⟨a, most, r, c, k, rfl, _⟩ := h
    rfl
  · obtain ⟨a, most, r, c, k, rfl, ha, m0, m1, q⟩ := h
    refine b_cons (cs_set (i := 2) sc_law_stones.nd rfl (.inl rfl) (ce_take cd hr (by decide) rfl (fun H1 Q hq => ce_nm 0 hq) pd_int ha (by decide) (by decide +kernel) fun size r1 k1 H1 z0 z1 e1 ha1 => ?_))
    have later : ∀ {H2 : Hp} {r2 k2 : Int}, ExB a H H2 → H2 a = some (potL r2 c k2) → RowQ a c H2 Q := fun e2 ha2 p ns r' k' H' hp e3 ha3 h3 hrow => q p ns r' k' H' (fresh_backB e2 ha ⟨_, ha2⟩ hp) (e2.trans e3) ha3 h3 hrow
    refine b_cons (s_if (al_pot ha1) (td_eq hr.units (nm 2 (.int size)) pd_int rfl rfl) (fun _ H2 x2 => ?_) (fun _ H2 x2 => b_nil ?_))
    · exact b_cons (cs_ret (ce_call cw hr (by decide) rfl (ca_cons (ce_nm 0 (ca_cons (ce_pd (al_pot (x2 _ _ ha1)) pd_int fun v H3 x3 r3 => by
        cases r3
        exact ca_nil ⟨a, 40, r1, c, k1, rfl, x3 _ _ (x2 _ _ ha1), by omega, by omega, later ((e1.trE x2).trE x3) (x3 _ _ (x2 _ _ ha1))⟩))))))
    · have ha2 := x2 _ _ ha1
      refine b_cons (s_if (al_pot ha2) (td_eq hr.units (nm 2 (.int size)) pd_int rfl rfl) (fun _ H3 x3 => ?_) (fun _ H3 x3 => b_nil ?_))
      · have ha3 := x3 _ _ ha2
        refine b_cons (cs_set (i := 3) sc_law_stones.nd rfl (.inl rfl) (ce_fd alive0 (fd_lst ad_nil (by simp)) fun p ws H4 hp x4 h4 rw4 => ?_))
        obtain ⟨⟩ := rw4
        have ha4 := x4 _ _ ha3
        have e03 : ExB a H H3 := (e1.trE x2).trE x3
        have hp0 := fresh_backB e03 ha ⟨_, ha3⟩ hp
        have nap : a ≠ p := fun e => by
          rw [← e, ha] at hp0
          cases hp0
        refine b_cons (s_forRW (slot := 4) PassesOwn.never rfl sc_law_stones.nd rfl (.inl rfl) rfl nb.range (ce_pd alive0 pd_int fun v H5 x5 r5 => ?_))
        cases r5
        refine ⟨40, fun i σ' H' => ∃ (ns : List Int) (r' k' : Int) (xk : Option V), σ' = [some (.ref a), some (.int most), some (.int size), some (.ref p), xk] ∧ ExB a H H' ∧ H' a = some (potL r' c k') ∧ H' p = some (.lst (ns.map V.int)) ∧ ns.length = i ∧ (∀ z ∈ ns, ∃ j : Nat, j < i ∧ z = 31 * (j : Int) - 600) ∧ ns.Nodup, rfl, by decide, ⟨[], r1, k1, none, rfl, (e03.trE x4).trE x5, x5 _ _ ha4, x5 _ _ h4, rfl, fun z h => absurd h List.not_mem_nil, List.nodup_nil⟩, ?_, ?_⟩
        · rintro i σ' H' hi ⟨ns, r6, k6, xk, rfl, e6, ha6, hp6, hl6, hw6, hn6⟩
          refine b_cons (cs_expr (ce_insert (ce_nm 3 ⟨p, rfl, ⟨_, hp6⟩, ce_take cd hr (by decide) rfl (fun H1 Q hq => ce_nm 0 hq) (pd_add (nm 4 (.int (i : Nat))) pd_int) ha6 (by omega) (n8000 (by omega) (by omega)) fun z r7 k7 H7 z0 z1 e7 ha7 => ce_pd (al_pot ha7) (pd_sub (pd_mul pd_int (nm 4 (.int (i : Nat))) (.inl ⟨by decide, by decide⟩)) pd_int) fun v H8 x8 r8 => ?_⟩)))
          cases r8
          have hp8 : H8 p = some (.lst (ns.map V.int)) := x8 _ _ (e7 _ _ (Ne.symm nap) hp6)
          have fresh : 31 * (i : Int) - 600 ∉ ns := fun h => by
            obtain ⟨j, hj, e⟩ := hw6 _ h
            omega
          refine ⟨_, z.toNat, hp8, by rw [Int.toNat_of_nonneg z0], by omega, by rw [List.length_map]; omega, b_nil ⟨ns.take z.toNat ++ [31 * (i : Int) - 600] ++ ns.drop z.toNat, r7, k7, _, rfl, ?_, ?_, ?_, ?_, ?_, ins_nodup hn6 fresh⟩⟩
          · intro x o n h
            by_cases hx : x = p
            · rw [hx, hp0] at h
              cases h
            · rw [upd_ne hx]
              exact x8 _ _ (e7 _ _ n (e6 _ _ n h))
          · rw [upd_ne nap]
            exact x8 _ _ ha7
          · rw [upd_same, List.map_append, List.map_append, List.map_take, List.map_drop]
            rfl
          · rw [ins_len, hl6]
          · intro y hy
            rcases (ins_mem ns z.toNat _ y).mp hy with e | hy
            · exact ⟨i, by omega, e⟩
            · obtain ⟨j, hj, e⟩ := hw6 y hy
              exact ⟨j, by omega, e⟩
        · rintro σ' H' ⟨ns, r6, k6, xk, rfl, e6, ha6, hp6, hl6, hw6, hn6⟩
          refine b_cons (cs_ret (ce_nm 3 (q p ns r6 k6 H' hp0 e6 ha6 hp6 ⟨by omega, fun z hz => ?_, hn6⟩)))
          obtain ⟨j, hj, e⟩ := hw6 z hz
          unfold okW
          omega
      · exact b_cons (cs_ret (ce_call cw hr (by decide) rfl (ca_cons (ce_nm 0 (ca_cons (ce_nm 1 (ca_nil ⟨a, most, r1, c, k1, rfl, x3 _ _ ha2, m0, m1, later ((e1.trE x2).trE x3) (x3 _ _ ha2)⟩)))))))
end
end FK

namespace FK
open PySem PySem.Spec PyProof.Rows L2 GV
theorem getD_of {ns : List Int} {i : Nat} {z : Int} (h : ns[i]? = some z) : ns.getD i 0 = z := by
  rw [List.getD_eq_getElem?_getD, h]
  rfl
theorem cut_pair {ns : List Int} {p : Nat} {x y : Int} (hx : ns[p]? = some x) (hy : ns[p + 1]? = some y) : cutD (ns.map PyData.int) (some (p : Int)) (some ((p : Int) + 2)) = [.int x, .int y] := by
  have hp := (List.getElem?_eq_some_iff.mp hy).1
  obtain ⟨hx', ex⟩ := List.getElem?_eq_some_iff.mp hx
  obtain ⟨_, ey⟩ := List.getElem?_eq_some_iff.mp hy
  unfold GV.cutD
  rw [show (p : Int) + 2 = ((p + 2 : Nat) : Int) by omega, HT.sIx_nat, HT.sIx_nat, List.length_map, Nat.min_eq_left (by omega : p ≤ ns.length), Nat.min_eq_left (by omega : p + 2 ≤ ns.length), show p + 2 - p = 2 by omega, ← List.map_drop, ← List.map_take, List.drop_eq_getElem_cons hx', List.drop_eq_getElem_cons hp]
  simp [ex, ey]
def letZ (lo hi z : Int) : Int := if z < lo then 0 else if z < hi then 1 else 2
abbrev ikD (i : Nat) (k : Int) : PyData := .tuple [.int (i : Nat), .int k]
def lo2 (ns : List Int) (p : Nat) : Int := min (ns.getD p 0) (ns.getD (p + 1) 0)
def hi2 (ns : List Int) (p : Nat) : Int := max (ns.getD p 0) (ns.getD (p + 1) 0)
def letL (ns : List Int) (p : Nat) : List Int := ns.map (letZ (lo2 ns p) (hi2 ns p))
def befL (ns : List Int) (p : Nat) : List PyData := (List.range p).map fun i => ikD i ((letL ns p).getD i 0)
def behL (ns : List Int) (p : Nat) : List PyData := (List.range (ns.length - (p + 2))).map fun j => ikD (p + 2 + j) ((letL ns p).getD (p + 2 + j) 0 + 3)
theorem letL_len (ns : List Int) (p : Nat) : (letL ns p).length = ns.length := by
  unfold letL
  rw [List.length_map]
def lD (lo hi : Int) : PyData → PyData
  | .int z => .int (letZ lo hi z)
  | d => d
def beD (l : List Int) : PyData → PyData
  | .int i => ikD i.toNat (l.getD i.toNat 0)
  | d => d
def bhD (l : List Int) : PyData → PyData
  | .int i => ikD i.toNat (l.getD i.toNat 0 + 3)
  | d => d
section
variable {P : Program} {w : World} {K : PySem.W.Frag} {mg : Str → Option Value} {base : Heap}
def R_third (ds es : List PyData) : Prop := ∃ (tp : Bool) (ns : List Int) (p : Nat), p + 1 < ns.length ∧ ns.length ≤ 900 ∧ ds = [sqD tp (ns.map PyData.int), .int (p : Nat)] ∧ es = befL ns p ++ behL ns p
theorem cl_third_kinds {f : Addr} {fd : FuncData} (F : At K mg "_third_kinds" s_third_kinds f fd) (nb : NoB mg) : Cl P w K mg base CX0 1 "_third_kinds" (FreshR K R_third) := by
  refine ⟨f, fd, _, F.fn.ok sc_third_kinds (fun vs H Q E h => ?_) (fun cdv A outer sh H vs Q E hr h => ⟨_, wB.ps, ?_⟩), F.gl, F.fn.kp, F.fn.binds fun _ _ _ _ _ _ us hl => match us, hl with | [_, _], _ => rfl⟩
  · obtain ⟨M, ds, es, al, r, ⟨_, _, _, _, _, rfl, _⟩, _⟩ := h
    rw [r.length]
    rfl
  · obtain ⟨M, ds, es, al, r, ⟨tp, ns, p, hp, hl, rfl, rfl⟩, q⟩ := h
    obtain ⟨u, v, rfl, r1, r2⟩ := rpa2 r
    obtain ⟨x, hx⟩ := get_i (ns := ns) (i := p) (by omega)
    obtain ⟨y, hy⟩ := get_i (ns := ns) (i := p + 1) hp
    have elo : lo2 ns p = min x y := by
      unfold lo2
      rw [getD_of hx, getD_of hy]
    have ehi : hi2 ns p = max x y := by
      unfold hi2
      rw [getD_of hx, getD_of hy]
    refine b_cons (s_unp2 (i := 2) (j := 3) al rfl (fd_sort2 rfl nb.sorted (PD.is (pd_sliceS (nm 0 r1) (od_some (nm 1 r2)) (od_some (pd_add (nm 1 r2) pd_int))) (congrArg (sqD tp) (cut_pair hx hy)))) (pg_name (i := 2) sc_third_kinds.nd rfl (by first | exact .inl rfl | exact .inr rfl)) (pg_name (i := 3) sc_third_kinds.nd rfl (by first | exact .inl rfl | exact .inr rfl)) fun v2 v3 H2 x2 q2 q3 => ?_)
    cases q2
    cases q3
    have al2 := al.mono x2
    have r1a := r1.mono (fun _ z => z) (ExM.of x2)
    have r2a := r2.mono (fun _ z => z) (ExM.of x2)
    refine b_cons (cs_set (i := 4) sc_third_kinds.nd rfl (by first | exact .inl rfl | exact .inr rfl) (ce_fd al2 (fd_map (t := .one 6) (own := [("stone", 6)]) (lD (min x y) (max x y)) rfl sc_third_kinds.nd (src_S (nm 0 r1a)) (blkOk_by (N := n_third_kinds) (sc := defScope s_third_kinds) (by decide +kernel)) (fun _ _ _ _ _ => pg_name (i := 6) sc_third_kinds.nd rfl (.inl rfl)) (fun _ _ => trivial) ?_ ?_ ?_) fun l ws H3 hl3 x3 h3 rw3 => ?_))
    · rintro M H d σ' ⟨v, _, rfl⟩
      rfl
    · rw [List.length_map]
      omega
    · rintro s0 H0 C cl fp M' H' d σ' hM lift hd ⟨v', rv, rfl⟩
      obtain ⟨z, _, rfl⟩ := List.mem_map.mp hd
      refine pd_if (k := decide (z < min x y)) (td_lt (nm 6 rv) (nm 2 (.int (min x y)))) (fun k => PD.is pd_int ?_) (fun k => pd_if (k := decide (z < max x y)) (td_lt (nm 6 rv) (nm 3 (.int (max x y)))) (fun k2 => PD.is pd_int ?_) (fun k2 => PD.is pd_int ?_))
      · show PyData.int 0 = .int (letZ _ _ _)
        unfold letZ
        rw [if_pos (of_decide_eq_true k)]
      · show PyData.int 1 = .int (letZ _ _ _)
        unfold letZ
        rw [if_neg (of_decide_eq_false k), if_pos (of_decide_eq_true k2)]
      · show PyData.int 2 = .int (letZ _ _ _)
        unfold letZ
        rw [if_neg (of_decide_eq_false k), if_neg (of_decide_eq_false k2)]
    have ew : (ns.map PyData.int).map (lD (min x y) (max x y)) = (letL ns p).map PyData.int := by
      unfold letL
      rw [elo, ehi, List.map_map, List.map_map]
      rfl
    rw [ew] at rw3
    have al3 := al2.mono x3
    have rl : Rp K M H3 (.ref l) (intsD (letL ns p)) := .lst (al2.fresh hl3) (.inl h3) rw3
    have r1b := r1a.mono (fun _ z => z) (ExM.of x3)
    have r2b := r2a.mono (fun _ z => z) (ExM.of x3)
    have ll := letL_len ns p
    have i2 : ((p : Nat) : Int) + 2 = ((p + 2 : Nat) : Int) := by omega
    refine b_cons (s_setLc (i := 5) (t := .one 7) (own := [("index", 7)]) (ds := (List.range ((ns.length : Int) - (((p : Nat) : Int) + 2)).toNat).map fun k => PyData.int (((p : Nat) : Int) + 2 + (k : Nat))) rfl sc_third_kinds.nd ?_ (blkOk_by (N := n_third_kinds) (sc := defScope s_third_kinds) (by decide +kernel)) (fun _ _ _ _ _ => pg_name (i := 7) sc_third_kinds.nd rfl (.inl rfl)) (fun _ _ => trivial) ?_ (fun _ => true) (bhD (letL ns p)) ?_ ?_ al3 rfl rfl rfl fun l2 ws2 H4 hl4 x4 h4 rw4 => ?_)
    · exact src_range2 rfl nb.range (pd_add (nm 1 r2b) pd_int) (pd_len nb rfl (nm 0 r1b) (n := ns.length) (by rw [len_sq, List.length_map])) (by omega) (by omega)
    · rintro M H d σ' ⟨v, _, rfl⟩
      rfl
    · rw [List.length_map, List.length_range]
      omega
    · rintro s0 H0 C cl fp M' H' d σ' hM lift hd ⟨v', rv, rfl⟩
      obtain ⟨j, hj, rfl⟩ := List.mem_map.mp hd
      have hj := List.mem_range.mp hj
      have ej : ((p : Nat) : Int) + 2 + (j : Nat) = ((p + 2 + j : Nat) : Int) := by omega
      rw [ej] at rv ⊢
      obtain ⟨z, hz⟩ := get_i (ns := letL ns p) (i := p + 2 + j) (by omega)
      refine ⟨tsd_nil, fun _ => PD.is (pd_tup (ad_cons (nm 7 rv) (ad_cons (pd_add (pd_ix (nm 4 (lift _ _ rl)) (nm 7 rv) (ixD_ints hz)) pd_int) ad_nil)) (by show 2 ≤ 100000; decide)) ?_⟩
      show PyData.tuple [_, _] = ikD _ _
      rw [Int.toNat_natCast, getD_of hz]
    rw [filt_all] at rw4
    have al4 := al3.mono x4
    have rl4 := rl.mono (fun _ z => z) (ExM.of x4)
    have rb4 : Rp K M H4 (.ref l2) (.list (behL ns p)) := by
      have e : ((List.range ((ns.length : Int) - (((p : Nat) : Int) + 2)).toNat).map fun k => PyData.int (((p : Nat) : Int) + 2 + (k : Nat))).map (bhD (letL ns p)) = behL ns p := by
        unfold behL
        rw [show ((ns.length : Int) - (((p : Nat) : Int) + 2)).toNat = ns.length - (p + 2) by omega, List.map_map]
        refine List.map_congr_left fun j _ => ?_
        show ikD _ _ = ikD _ _
        rw [show (((p : Nat) : Int) + 2 + (j : Nat)).toNat = p + 2 + j by omega]
      rw [e] at rw4
      exact .lst (al3.fresh hl4) (.inl h4) rw4
    have lb : (befL ns p).length = p := by
      unfold befL
      rw [List.length_map, List.length_range]
    have lh : (behL ns p).length ≤ 900 := by
      unfold behL
      rw [List.length_map, List.length_range]
      omega
    refine b_cons (cs_ret (ce_fd al4 (fd_cat (es := befL ns p) (fs := behL ns p) (PD.is (FD.pd (fd_map (t := .one 7) (own := [("index", 7)]) (beD (letL ns p)) rfl sc_third_kinds.nd (src_range1 rfl nb.range (nm 1 (r2b.mono (fun _ z => z) (ExM.of x4))) (by omega) (by omega)) (blkOk_by (N := n_third_kinds) (sc := defScope s_third_kinds) (by decide +kernel)) (fun _ _ _ _ _ => pg_name (i := 7) sc_third_kinds.nd rfl (.inl rfl)) (fun _ _ => trivial) ?_ ?_ ?_)) ?_) (nm 5 rb4) (by omega)) fun l5 ws5 H5 hl5 x5 h5 rw5 => q l5 ws5 H5 (Evl.fresh_back ((x2.trans x3).trans x4) hl5) (((x2.trans x3).trans x4).trans x5) h5 rw5))
    · rintro M H d σ' ⟨v, _, rfl⟩
      rfl
    · rw [List.length_map, List.length_range]
      omega
    · rintro s0 H0 C cl fp M' H' d σ' hM lift hd ⟨v', rv, rfl⟩
      obtain ⟨j, hj, rfl⟩ := List.mem_map.mp hd
      have hj := List.mem_range.mp hj
      rw [Int.zero_add] at rv ⊢
      obtain ⟨z, hz⟩ := get_i (ns := letL ns p) (i := j) (by omega)
      refine PD.is (pd_tup (ad_cons (nm 7 rv) (ad_cons (pd_ix (nm 4 (lift _ _ rl4)) (nm 7 rv) (ixD_ints hz)) ad_nil)) (by show 2 ≤ 100000; decide)) ?_
      show PyData.tuple [_, _] = ikD _ _
      rw [Int.toNat_natCast, getD_of hz]
    · congr 1
      unfold befL
      rw [Int.toNat_natCast, List.map_map]
      refine List.map_congr_left fun j _ => ?_
      show ikD _ _ = ikD _ _
      rw [Int.zero_add, Int.toNat_natCast]
end
end FK

namespace FK
open PySem PySem.Spec PyProof.Rows L2 GV
/-! ### the helpers, as indexes and as stones -/
def ltN (lo hi z : Int) : Nat := if z < lo then 0 else if z < hi then 1 else 2
theorem letZ_nat (lo hi z : Int) : letZ lo hi z = ((ltN lo hi z : Nat) : Int) := by
  unfold letZ ltN
  split
  · rfl
  · split <;> rfl
theorem ltN_le (lo hi z : Int) : ltN lo hi z ≤ 2 := by
  unfold ltN
  split
  · decide
  · split <;> decide
/-- the kind of the stone at index i, and whether the house n names it -/
def kdN (ns : List Int) (p i : Nat) : Nat := ltN (lo2 ns p) (hi2 ns p) (ns.getD i 0) + (if i < p then 0 else 3)
def kb (n : Nat) (ns : List Int) (p i : Nat) : Bool := bitN n (kdN ns p i)
def behI (ns : List Int) (p : Nat) : List Nat := (List.range (ns.length - (p + 2))).map (p + 2 + ·)
def hIx (n : Nat) (ns : List Int) (p : Nat) : List Nat := (List.range p).filter (kb n ns p) ++ (behI ns p).filter (kb n ns p)
def natD (ns : List Nat) : List PyData := ns.map fun i => PyData.int (i : Nat)
theorem let_get {ns : List Int} {p i : Nat} {z : Int} (h : ns[i]? = some z) : (letL ns p).getD i 0 = ((ltN (lo2 ns p) (hi2 ns p) z : Nat) : Int) := by
  rw [← letZ_nat]
  refine getD_of ?_
  unfold letL
  rw [List.getElem?_map, h]
  rfl
theorem befL_eq {ns : List Int} {p : Nat} (hp : p + 1 < ns.length) : befL ns p = (List.range p).map fun i => ikD i ((kdN ns p i : Nat) : Int) := by
  unfold befL
  refine List.map_congr_left fun i hi => ?_
  have hi := List.mem_range.mp hi
  obtain ⟨z, hz⟩ := get_i (ns := ns) (i := i) (by omega)
  rw [let_get hz]
  unfold kdN
  rw [if_pos hi, getD_of hz]
  rfl
theorem behL_eq {ns : List Int} {p : Nat} (hp : p + 1 < ns.length) : behL ns p = (behI ns p).map fun i => ikD i ((kdN ns p i : Nat) : Int) := by
  unfold behL behI
  rw [List.map_map]
  refine List.map_congr_left fun j hj => ?_
  have hj := List.mem_range.mp hj
  obtain ⟨z, hz⟩ := get_i (ns := ns) (i := p + 2 + j) (by omega)
  show ikD _ _ = ikD (p + 2 + j) ((kdN ns p (p + 2 + j) : Nat) : Int)
  rw [let_get hz]
  unfold kdN
  rw [if_neg (by omega), getD_of hz]
  rfl
def bkD (n : Nat) : PyData → Bool
  | .tuple [_, .int k] => bitN n k.toNat
  | _ => false
def fD : PyData → PyData
  | .tuple [i, _] => i
  | d => d
theorem help_eq {n : Nat} {ns : List Int} {p : Nat} (hp : p + 1 < ns.length) : ((befL ns p ++ behL ns p).filter (bkD n)).map fD = natD (hIx n ns p) := by
  have one : ∀ l : List Nat, ((l.map fun i => ikD i ((kdN ns p i : Nat) : Int)).filter (bkD n)).map fD = natD (l.filter (kb n ns p)) := fun l => by
    unfold natD
    rw [List.filter_map, List.map_map]
    rfl
  unfold hIx natD
  rw [befL_eq hp, behL_eq hp, List.filter_append, List.map_append, one, one, List.map_append]
  rfl
theorem hIx_ok {n : Nat} {ns : List Int} {p i : Nat} (hp : p + 1 < ns.length) : i ∈ hIx n ns p ↔ i < ns.length ∧ i ≠ p ∧ i ≠ p + 1 ∧ kb n ns p i = true := by
  unfold hIx behI
  rw [List.mem_append, List.mem_filter, List.mem_filter, List.mem_range, List.mem_map]
  constructor
  · rintro (⟨h, k⟩ | ⟨⟨j, hj, rfl⟩, k⟩)
    · exact ⟨by omega, by omega, by omega, k⟩
    · have hj := List.mem_range.mp hj
      exact ⟨by omega, by omega, by omega, k⟩
  · rintro ⟨h1, h2, h3, k⟩
    by_cases hi : i < p
    · exact .inl ⟨hi, k⟩
    · exact .inr ⟨⟨i - (p + 2), List.mem_range.mpr (by omega), by omega⟩, k⟩
theorem hIx_up (n : Nat) (ns : List Int) (p : Nat) : (hIx n ns p).Pairwise (· < ·) := by
  unfold hIx behI
  refine List.pairwise_append.mpr ⟨(List.pairwise_lt_range).filter _, ?_, fun x hx y hy => ?_⟩
  · exact (List.pairwise_map.mpr ((List.pairwise_lt_range).imp fun h => by omega)).filter _
  · have hx := List.mem_range.mp (List.mem_filter.mp hx).1
    obtain ⟨j, _, rfl⟩ := List.mem_map.mp (List.mem_filter.mp hy).1
    omega
section
variable {P : Program} {w : World} {K : PySem.W.Frag} {mg : Str → Option Value} {base : Heap}
/-- the method names_index -/
def BitM (P : Program) (w : World) (K : PySem.W.Frag) (mg : Str → Option Value) (base : Heap) (CH : Addr) : Prop := ∃ f fd, Meth K CH "names_index" f ∧ FnOk P w K mg base CX0 1 f fd ["self", "index"] (spBit CH) ∧ Binds K fd ["self", "index"] []
/-- a row, a place, a house -/
def spHP (K : PySem.W.Frag) (CH : Addr) (then_ : (Addr → Prop) → Nat → List Int → Nat → Hp → VK → Prop) : Sp := fun vs H Q _ => ∃ (M : Addr → Prop) (u v : V) (h : Addr) (n : Nat) (tp : Bool) (ns : List Int) (p : Nat), vs = [u, v, .ref h] ∧ Alive M H ∧ Rp K M H u (sqD tp (ns.map PyData.int)) ∧ Rp K M H v (.int (p : Nat)) ∧ p + 1 < ns.length ∧ RowL ns ∧ HAt CH n H h ∧ ¬ M h ∧ then_ M n ns p H Q
theorem NTins {C dx : Addr} {fs : List (Str × V)} : NT (.ins C dx fs) := fun _ z => by cases z
abbrev toIx (K : PySem.W.Frag) (M : Addr → Prop) (n : Nat) (ns : List Int) (p : Nat) (H : Hp) (Q : VK) : Prop := ∀ l ws H', H l = none → Evl.Ex H H' → H' l = some (.lst ws) → RpAll K M H' ws (natD (hIx n ns p)) → Q (.ref l) H'
theorem cl_helper_indexes {f CH : Addr} {fd : FuncData} (F : At K mg "_helper_indexes" s_helper_indexes f fd) (B : HouC K CH) (bm : BitM P w K mg base CH) (ct : Cl P w K mg base CX0 1 "_third_kinds" (FreshR K R_third)) :
    Cl P w K mg base CX0 2 "_helper_indexes" (spHP K CH (toIx K)) := by
  refine ⟨f, fd, _, F.fn.ok sc_helper_indexes (fun vs H Q E h => ?_) (fun cdv A outer sh H vs Q E hr h => ⟨_, wB.ps, ?_⟩), F.gl, F.fn.kp, F.fn.binds fun _ _ _ _ _ _ us hl => match us, hl with | [_, _, _], _ => rfl⟩
  · obtain ⟨M, u, v, h, n, tp, ns, p, rfl, _⟩ := h
    rfl
  · obtain ⟨M, u, v, h, n, tp, ns, p, rfl, al, r1, r2, hp, hrow, ⟨dx, hh⟩, nh, q⟩ := h
    obtain ⟨fb, fdb, bm1, bm2, bm3⟩ := bm
    have hl := hrow.1
    have okd : ∀ d ∈ befL ns p ++ behL ns p, ∃ i k : Nat, d = ikD i (k : Nat) := fun d hd => by
      rw [befL_eq hp, behL_eq hp] at hd
      rcases List.mem_append.mp hd with hd | hd
      · obtain ⟨i, _, rfl⟩ := List.mem_map.mp hd
        exact ⟨_, _, rfl⟩
      · obtain ⟨i, _, rfl⟩ := List.mem_map.mp hd
        exact ⟨_, _, rfl⟩
    refine b_cons (cs_ret (ce_fd al (fd_filterO (t := .two 3 4) (own := [("index", 3), ("kind", 4)]) (bkD n) fD rfl sc_helper_indexes.nd (src_list (FD.pd (fd_callC ct hr (by decide) rfl (ad_cons (nm 0 r1) (ad_cons (nm 1 r2) ad_nil)) ⟨tp, ns, p, hp, by omega, rfl, rfl⟩))) (blkOk_by (N := n_helper_indexes) (sc := defScope s_helper_indexes) (by decide +kernel)) (fun _ _ _ _ _ => pg_tup rfl (pgs_cons (pg_name (i := 3) sc_helper_indexes.nd rfl (.inl rfl)) (pgs_cons (pg_name (i := 4) sc_helper_indexes.nd rfl (.inl rfl)) pgs_nil))) ?_ ?_ ?_ ?_) fun l ws H' h1 h2 h3 h4 => q l ws H' h1 h2 h3 (by rw [← help_eq hp]; exact h4)))
    · intro d hd
      obtain ⟨i, k, rfl⟩ := okd d hd
      exact ⟨_, _, rfl⟩
    · rintro M H d σ' ⟨_, _, _, _, _, _, _, rfl⟩
      rfl
    · have : (befL ns p ++ behL ns p).length ≤ 100000 := by
        unfold befL behL
        rw [List.length_append, List.length_map, List.length_map, List.length_range, List.length_range]
        omega
      exact this
    · rintro s0 H0 C cl fp M' H' d σ' hM lift kp hd ⟨da, db, v1, v2, e, q1, q2, rfl⟩
      obtain ⟨i, k, rfl⟩ := okd d hd
      cases e
      cases q2
      obtain ⟨hh', nh'⟩ := kp _ _ nh NTins hh
      refine ⟨td_val (.mk fun H1 e1 al1 Q q => ?_), PD.is (nm 3 q1) rfl⟩
      have hh1 := e1 _ _ hh' nh' NTins
      refine ce_meth (AtN.name (i := 2) rfl (by first | exact .inl rfl | exact .inr (.inl rfl) | exact .inr (.inr rfl)) rfl) B.ins.cl bm1 bm2 hr (by decide) bm3 pass0 hh1 rfl (ca_cons (ce_nm 4 (ca_nil ⟨h, n, k, rfl, ⟨dx, hh1⟩, fun H3 x3 => ?_⟩)))
      have e2 : bitN n k = bkD n (ikD i (k : Nat)) := by
        show _ = bitN n ((k : Nat) : Int).toNat
        rw [Int.toNat_natCast]
      rw [e2]
      exact q _ H3 x3 (.bl _)
theorem cl_frees {f CH : Addr} {fd : FuncData} (F : At K mg "frees" s_frees f fd) (nb : NoB mg) (ch : Cl P w K mg base CX0 2 "_helper_indexes" (spHP K CH (toIx K))) :
    Cl P w K mg base CX0 3 "frees" (spHP K CH fun M n ns p H Q => ∀ H', Evl.Ex H H' → Q (.bl (decide (0 < (hIx n ns p).length))) H') := by
  refine ⟨f, fd, _, F.fn.ok sc_frees (fun vs H Q E h => ?_) (fun cdv A outer s H vs Q E hr h => ⟨_, wB.ps, ?_⟩), F.gl, F.fn.kp, F.fn.binds fun _ _ _ _ _ _ us hl => match us, hl with | [_, _, _], _ => rfl⟩
  · obtain ⟨M, u, v, h, n, tp, ns, p, rfl, _⟩ := h
    rfl
  · obtain ⟨M, u, v, h, n, tp, ns, p, rfl, al, r1, r2, hp, hrow, hh, nh, q⟩ := h
    refine b_cons (s_ret al (pd_gt (pd_len nb rfl (FD.pd (ds := natD (hIx n ns p)) (.mk fun H1 e1 al1 Q q => ?_)) rfl) pd_int) fun v2 H2 x2 r2 => ?_)
    · exact ce_call ch hr (by decide) rfl (ca_cons (ce_nm 0 (ca_cons (ce_nm 1 (ca_cons (ce_nm 2 (ca_nil ⟨M, u, v, h, n, tp, ns, p, rfl, al1, r1.mono (fun _ z => z) e1, r2.mono (fun _ z => z) e1, hp, hrow, hh.exM e1 nh, nh, q⟩)))))))
    · cases r2
      have e : decide ((0 : Int) < ((natD (hIx n ns p)).length : Nat)) = decide (0 < (hIx n ns p).length) := by
        unfold natD
        rw [List.length_map, Bool.eq_iff_iff, decide_eq_true_eq, decide_eq_true_eq]
        omega
      rw [e]
      exact q H2 x2
end
end FK

namespace FK
open PySem PySem.Spec PyProof.Rows L2 GV
section
variable {P : Program} {w : World} {K : PySem.W.Frag} {mg : Str → Option Value} {base : Heap}
theorem rowW {ns : List Int} (h : RowL ns) : ∀ z ∈ ns, isWeightD (.int z) = true := fun z hz => (h.2.1 z hz).is
def spRowOk (K : PySem.W.Frag) (g : Hp → VK → Prop) : Sp := fun vs H Q _ => ∃ (M : Addr → Prop) (v : V) (tp : Bool) (ns : List Int), vs = [v] ∧ Alive M H ∧ Rp K M H v (sqD tp (ns.map PyData.int)) ∧ RowL ns ∧ g H Q
theorem bagB_of {tp : Bool} {ns : List Int} (hl : ns.length ≤ 40) (hw : ∀ z ∈ ns, isWeightD (.int z) = true) : bagB (sqD tp (ns.map PyData.int)) = true := by
  have e : (ns.map PyData.int).all isWeightD = true := List.all_eq_true.mpr fun d hd => by
    obtain ⟨z, hz, rfl⟩ := List.mem_map.mp hd
    exact hw z hz
  have e2 : decide ((ns.map PyData.int).length ≤ 40) = true := decide_eq_true (by rw [List.length_map]; exact hl)
  cases tp <;> (show (true && decide ((ns.map PyData.int).length ≤ 40) && (ns.map PyData.int).all isWeightD) = true; rw [e, e2]; rfl)
theorem parts_sq' (tp : Bool) (ds : List PyData) : (partsD (sqD tp ds)).length = ds.length := by cases tp <;> rfl
abbrev toB (b : Bool) (H : Hp) (Q : VK) : Prop := ∀ H', Evl.Ex H H' → Q (.bl b) H'
abbrev toN (H : Hp) (Q : VK) : Prop := ∀ H', Evl.Ex H H' → Q .non H'
theorem cl_is_row {f : Addr} {fd : FuncData} (F : At K mg "is_row" s_is_row f fd) (nb : NoB mg) (c1 : Cl P w K mg base CX0 4 "is_bag_row" (PureR K R_bag)) : Cl P w K mg base CX0 5 "is_row" (spRowOk K (toB true)) := by
  refine ⟨f, fd, _, F.fn.ok sc_is_row (fun vs H Q E h => ?_) (fun cdv A outer s H vs Q E hr h => ⟨_, wB.ps, ?_⟩), F.gl, F.fn.kp, F.fn.binds fun _ _ _ _ _ _ us hl => match us, hl with | [_], _ => rfl⟩
  · obtain ⟨M, v, tp, ns, rfl, _⟩ := h
    rfl
  · obtain ⟨M, v, tp, ns, rfl, al, r1, hrow, q⟩ := h
    have hb := bagB_of (tp := tp) hrow.1 (rowW hrow)
    have hl := hrow.1
    refine b_cons (s_ret al (pd_and (k1 := true) (k2 := true) (PD.is (pd_callC c1 hr (by decide) rfl (ad_cons (nm 0 r1) ad_nil) ⟨_, rfl, (by rw [parts_sq', List.length_map]; omega), rfl⟩) (by rw [hb])) fun _ => pd_one (PD.is (pd_eq hr.units (pd_lenSet rfl rfl nb.len rfl nb.set (nm 0 r1) (by omega)) (pd_len nb rfl (nm 0 r1) (n := ns.length) (by rw [len_sq, List.length_map])) rfl rfl) ?_)) fun v2 H2 x2 r2 => ?_)
    · rw [dd_eq.mpr hrow.2.2, eqv_int]
      simp
    · cases r2
      exact q H2 x2
theorem cl_check_row {f : Addr} {fd : FuncData} (F : At K mg "check_row" s_check_row f fd) (c1 : Cl P w K mg base CX0 5 "is_row" (spRowOk K (toB true))) : Cl P w K mg base CX0 6 "check_row" (spRowOk K toN) := by
  refine ⟨f, fd, _, F.fn.ok sc_check_row (fun vs H Q E h => ?_) (fun cdv A outer s H vs Q E hr h => ⟨_, wB.ps, ?_⟩), F.gl, F.fn.kp, F.fn.binds fun _ _ _ _ _ _ us hl => match us, hl with | [_], _ => rfl⟩
  · obtain ⟨M, v, tp, ns, rfl, _⟩ := h
    rfl
  · obtain ⟨M, v, tp, ns, rfl, al, bg, hn, q⟩ := h
    exact b_cons (cs_if (ct_not (ct_val (ce_call c1 hr (by decide) rfl (ca_cons (ce_nm 0 (ca_nil ⟨M, v, tp, ns, rfl, al, bg, hn, fun H2 x2 => ⟨true, rfl, b_nil (b_nil (q H2 x2))⟩⟩)))))))
def R_place (ds : List PyData) (d : PyData) : Prop := ∃ (tp : Bool) (ns : List Int) (p : Nat), p + 1 < ns.length ∧ ds = [sqD tp (ns.map PyData.int), .int (p : Nat)] ∧ d = .bool true
theorem cl_is_place {f : Addr} {fd : FuncData} (F : At K mg "is_place" s_is_place f fd) (nb : NoB mg) (c1 : Cl P w K mg base CX0 2 "is_number" (PureR K R_is_number)) : Cl P w K mg base CX0 3 "is_place" (PureR K R_place) := by
  refine cl_pure F sc_is_place (F.fn.binds fun _ _ _ _ _ _ us hl => match us, hl with | [_, _], _ => rfl) (fun ds d h => ?_) (fun X cdv A outer s H Q E M vs ds d hX hr al r h q => ?_)
  · obtain ⟨_, _, _, _, rfl, _⟩ := h
    rfl
  · obtain ⟨tp, ns, p, hp, rfl, rfl⟩ := h
    obtain ⟨u, v, rfl, r1, r2⟩ := rpa2 r
    subst hX
    refine b_cons (s_ret al (pd_callC c1 hr (by decide) rfl (ad_cons (nm 1 r2) (ad_cons pd_int (ad_cons (pd_sub (pd_len nb rfl (nm 0 r1) (n := ns.length) (by rw [len_sq, List.length_map])) pd_int) ad_nil))) ⟨_, _, _, rfl, ?_⟩) q)
    show PyData.bool true = .bool (decide ((0 : Int) ≤ (p : Nat)) && decide (((p : Nat) : Int) ≤ (ns.length : Nat) - 2))
    rw [decide_eq_true (by omega), decide_eq_true (by omega)]
    rfl
def spPlOk (K : PySem.W.Frag) : Sp := fun vs H Q _ => ∃ (M : Addr → Prop) (u v : V) (tp : Bool) (ns : List Int) (p : Nat), vs = [u, v] ∧ Alive M H ∧ Rp K M H u (sqD tp (ns.map PyData.int)) ∧ Rp K M H v (.int (p : Nat)) ∧ p + 1 < ns.length ∧ toN H Q
theorem cl_check_place {f : Addr} {fd : FuncData} (F : At K mg "check_place" s_check_place f fd) (c1 : Cl P w K mg base CX0 3 "is_place" (PureR K R_place)) : Cl P w K mg base CX0 4 "check_place" (spPlOk K) := by
  refine ⟨f, fd, _, F.fn.ok sc_check_place (fun vs H Q E h => ?_) (fun cdv A outer s H vs Q E hr h => ⟨_, wB.ps, ?_⟩), F.gl, F.fn.kp, F.fn.binds fun _ _ _ _ _ _ us hl => match us, hl with | [_, _], _ => rfl⟩
  · obtain ⟨M, u, v, tp, ns, p, rfl, _⟩ := h
    rfl
  · obtain ⟨M, u, v, tp, ns, p, rfl, al, r1, r2, hp, q⟩ := h
    exact b_cons (s_if (k := false) al (td_not (k := true) (td_val (pd_callC c1 hr (by decide) rfl (ad_cons (nm 0 r1) (ad_cons (nm 1 r2) ad_nil)) ⟨tp, ns, p, hp, rfl, rfl⟩))) (fun k => by cases k) (fun _ H2 x2 => b_nil (b_nil (q H2 x2))))
def spHoOk (CH : Addr) : Sp := fun vs H Q _ => ∃ h n, vs = [.ref h] ∧ HAt CH n H h ∧ toN H Q
theorem cl_check_house {f CH : Addr} {fd : FuncData} (F : At K mg "check_house" s_check_house f fd) (nb : NoB mg) (B : HouC K CH) (gH : mg "House" = some (.ref CH)) : Cl P w K mg base CX0 1 "check_house" (spHoOk CH) := by
  refine ⟨f, fd, _, F.fn.ok sc_check_house (fun vs H Q E h => ?_) (fun cdv A outer s H vs Q E hr h => ⟨_, wB.ps, ?_⟩), F.gl, F.fn.kp, F.fn.binds fun _ _ _ _ _ _ us hl => match us, hl with | [_], _ => rfl⟩
  · obtain ⟨h, n, rfl, _⟩ := h
    rfl
  · obtain ⟨h, n, rfl, ⟨dx, hh⟩, q⟩ := h
    exact b_cons (cs_if (ct_not (ct_val ⟨_, pe_callB (C8.call_isC B.ins) rfl nb.isinstance PyProof.Rows.boot_isinstance (pa_cons wE.pe (pa_cons (pe_glob rfl gH (v := .ref CH) rfl (by decide)) pa_nil)) (by decide) (by decide), ce_nm 0 ⟨h, dx, _, rfl, hh, ⟨true, rfl, b_nil (b_nil (q H (Evl.Ex.refl H)))⟩⟩⟩)))
theorem cl_check_all {f CH : Addr} {fd : FuncData} (F : At K mg "_check_all" s_check_all f fd) (c1 : Cl P w K mg base CX0 6 "check_row" (spRowOk K toN)) (c2 : Cl P w K mg base CX0 4 "check_place" (spPlOk K)) (c3 : Cl P w K mg base CX0 1 "check_house" (spHoOk CH)) : Cl P w K mg base CX0 7 "_check_all" (spHP K CH fun _ _ _ _ H Q => toN H Q) := by
  refine ⟨f, fd, _, F.fn.ok sc_check_all (fun vs H Q E h => ?_) (fun cdv A outer s H vs Q E hr h => ⟨_, wB.ps, ?_⟩), F.gl, F.fn.kp, F.fn.binds fun _ _ _ _ _ _ us hl => match us, hl with | [_, _, _], _ => rfl⟩
  · obtain ⟨M, u, v, h, n, tp, ns, p, rfl, _⟩ := h
    rfl
  · obtain ⟨M, u, v, h, n, tp, ns, p, rfl, al, r1, r2, hp, hrow, hh, nh, q⟩ := h
    refine b_cons (cs_expr (ce_call c1 hr (by decide) rfl (ca_cons (ce_nm 0 (ca_nil ⟨M, u, tp, ns, rfl, al, r1, hrow, fun H2 x2 => ?_⟩)))))
    refine b_cons (cs_expr (ce_call c2 hr (by decide) rfl (ca_cons (ce_nm 0 (ca_cons (ce_nm 1 (ca_nil ⟨M, u, v, tp, ns, p, rfl, al.mono x2, r1.mono (fun _ z => z) (ExM.of x2), r2.mono (fun _ z => z) (ExM.of x2), hp, fun H3 x3 => ?_⟩)))))))
    exact b_cons (cs_expr (ce_call c3 hr (by decide) rfl (ca_cons (ce_nm 2 (ca_nil ⟨h, n, rfl, (hh.ex fun o => x2 _ _).ex fun o => x3 _ _, fun H4 x4 => b_nil (q H4 ((x2.trans x3).trans x4))⟩)))))
/-! ### the functions that the law asks -/
def stL (n : Nat) (ns : List Int) (p : Nat) : List Int := (hIx n ns p).map fun i => ns.getD i 0
def rowD (ns : List Int) : PyData → PyData
  | .int i => .int (ns.getD i.toNat 0)
  | d => d
abbrev toL (K : PySem.W.Frag) (M : Addr → Prop) (zs : List Int) (H : Hp) (Q : VK) : Prop := ∀ l ws H', H l = none → Evl.Ex H H' → H' l = some (.lst ws) → RpAll K M H' ws (zs.map PyData.int) → Q (.ref l) H'
theorem cl_helpers {f CH : Addr} {fd : FuncData} (F : At K mg "helpers" s_helpers f fd) (ck : Cl P w K mg base CX0 7 "_check_all" (spHP K CH fun _ _ _ _ H Q => toN H Q)) (ch : Cl P w K mg base CX0 2 "_helper_indexes" (spHP K CH (toIx K))) :
    Cl P w K mg base CX0 8 "helpers" (spHP K CH fun M n ns p H Q => toL K M (stL n ns p) H Q) := by
  refine ⟨f, fd, _, F.fn.ok sc_helpers (fun vs H Q E h => ?_) (fun cdv A outer s H vs Q E hr h => ⟨_, wB.ps, ?_⟩), F.gl, F.fn.kp, F.fn.binds fun _ _ _ _ _ _ us hl => match us, hl with | [_, _, _], _ => rfl⟩
  · obtain ⟨M, u, v, h, n, tp, ns, p, rfl, _⟩ := h
    rfl
  · obtain ⟨M, u, v, h, n, tp, ns, p, rfl, al, r1, r2, hp, hrow, hh, nh, q⟩ := h
    refine b_cons (cs_expr (ce_call ck hr (by decide) rfl (ca_cons (ce_nm 0 (ca_cons (ce_nm 1 (ca_cons (ce_nm 2 (ca_nil ⟨M, u, v, h, n, tp, ns, p, rfl, al, r1, r2, hp, hrow, hh, nh, fun H2 x2 => ?_⟩)))))))))
    have al2 := al.mono x2
    have r1a := r1.mono (fun _ z => z) (ExM.of x2)
    have r2a := r2.mono (fun _ z => z) (ExM.of x2)
    have hh2 := hh.ex fun o => x2 _ _
    have hl := hrow.1
    refine b_cons (cs_ret (ce_fd al2 (fd_map (t := .one 3) (own := [("index", 3)]) (rowD ns) rfl sc_helpers.nd (src_list (FD.pd (ds := natD (hIx n ns p)) (.mk fun H1 e1 al1 Q q => ce_call ch hr (by decide) rfl (ca_cons (ce_nm 0 (ca_cons (ce_nm 1 (ca_cons (ce_nm 2 (ca_nil ⟨M, u, v, h, n, tp, ns, p, rfl, al1, r1a.mono (fun _ z => z) e1, r2a.mono (fun _ z => z) e1, hp, hrow, hh2.exM e1 nh, nh, q⟩)))))))))) (blkOk_by (N := n_helpers) (sc := defScope s_helpers) (by decide +kernel)) (fun _ _ _ _ _ => pg_name (i := 3) sc_helpers.nd rfl (.inl rfl)) (fun _ _ => trivial) ?_ ?_ ?_) fun l ws H3 hl3 x3 h3 r3 => q l ws H3 (Evl.fresh_back x2 hl3) (x2.trans x3) h3 ?_))
    · rintro M H d σ' ⟨v, _, rfl⟩
      rfl
    · have : (hIx n ns p).length ≤ 100000 := by
        unfold hIx behI
        rw [List.length_append]
        have h1 := List.length_filter_le (kb n ns p) (List.range p)
        have h2 := List.length_filter_le (kb n ns p) ((List.range (ns.length - (p + 2))).map (p + 2 + ·))
        rw [List.length_map, List.length_range] at h2
        rw [List.length_range] at h1
        omega
      unfold natD
      rw [List.length_map]
      exact this
    · rintro s0 H0 C cl fp M' H' d σ' hM lift hd ⟨v', rv, rfl⟩
      obtain ⟨i, hi, rfl⟩ := List.mem_map.mp hd
      obtain ⟨z, hz⟩ := get_i (ns := ns) (i := i) ((hIx_ok hp).mp hi).1
      refine PD.is (pd_ix (nm 0 (lift _ _ r1a)) (nm 3 rv) (ix_sqI hz)) ?_
      show PyData.int z = .int (ns.getD ((i : Nat) : Int).toNat 0)
      rw [Int.toNat_natCast, getD_of hz]
    · have e : (natD (hIx n ns p)).map (rowD ns) = (stL n ns p).map PyData.int := by
        unfold natD stL
        rw [List.map_map, List.map_map]
        refine List.map_congr_left fun i _ => ?_
        show PyData.int (ns.getD ((i : Nat) : Int).toNat 0) = _
        rw [Int.toNat_natCast]
        rfl
      rw [e] at r3
      exact r3
def optD : Option Int → PyData
  | none => .none
  | some z => .int z
def onlyL : List Int → Option Int
  | [z] => some z
  | _ => none
theorem cl_keystone {f CH : Addr} {fd : FuncData} (F : At K mg "keystone" s_keystone f fd) (nb : NoB mg) (ch : Cl P w K mg base CX0 8 "helpers" (spHP K CH fun M n ns p H Q => toL K M (stL n ns p) H Q)) :
    Cl P w K mg base CX0 9 "keystone" (spHP K CH fun M n ns p H Q => ∀ v H', Evl.Ex H H' → Rp K M H' v (optD (onlyL (stL n ns p))) → Q v H') := by
  refine ⟨f, fd, _, F.fn.ok sc_keystone (fun vs H Q E h => ?_) (fun cdv A outer s H vs Q E hr h => ⟨_, wB.ps, ?_⟩), F.gl, F.fn.kp, F.fn.binds fun _ _ _ _ _ _ us hl => match us, hl with | [_, _, _], _ => rfl⟩
  · obtain ⟨M, u, v, h, n, tp, ns, p, rfl, _⟩ := h
    rfl
  · obtain ⟨M, u, v, h, n, tp, ns, p, rfl, al, r1, r2, hp, hrow, hh, nh, q⟩ := h
    refine b_cons (cs_set (i := 3) sc_keystone.nd rfl (.inl rfl) (ce_call ch hr (by decide) rfl (ca_cons (ce_nm 0 (ca_cons (ce_nm 1 (ca_cons (ce_nm 2 (ca_nil ⟨M, u, v, h, n, tp, ns, p, rfl, al, r1, r2, hp, hrow, hh, nh, fun l ws H2 hl x2 h2 r => ?_⟩)))))))))
    generalize stL n ns p = zs at r q
    have al2 := al.mono x2
    have rl : Rp K M H2 (.ref l) (intsD zs) := .lst (al.fresh hl) (.inl h2) r
    refine b_cons (s_ret al2 (pd_if (k := decide (zs.length = 1)) (TD.is (td_eq hr.units (pd_len nb rfl (nm 3 rl) (n := zs.length) (by simp [lenD])) pd_int rfl rfl) ?_) (fun k => ?_) (fun k => ?_)) fun v3 H3 x3 r3 => q v3 H3 (x2.trans x3) r3)
    · rw [eqv_int, Bool.eq_iff_iff, decide_eq_true_eq, decide_eq_true_eq]
      omega
    · match zs, of_decide_eq_true k with
      | [z], _ => exact pd_ix (nm 3 rl) pd_int rfl
    · have e : onlyL zs = none := by
        match zs, of_decide_eq_false k with
        | [], _ => rfl
        | _ :: _ :: _, _ => rfl
        | [_], k => exact absurd rfl k
      rw [e]
      exact pd_non
theorem cl_is_free {f CH : Addr} {fd : FuncData} (F : At K mg "is_free" s_is_free f fd) (ck : Cl P w K mg base CX0 7 "_check_all" (spHP K CH fun _ _ _ _ H Q => toN H Q)) (cf : Cl P w K mg base CX0 3 "frees" (spHP K CH fun M n ns p H Q => ∀ H', Evl.Ex H H' → Q (.bl (decide (0 < (hIx n ns p).length))) H')) :
    Cl P w K mg base CX0 8 "is_free" (spHP K CH fun M n ns p H Q => ∀ H', Evl.Ex H H' → Q (.bl (decide (0 < (hIx n ns p).length))) H') := by
  refine ⟨f, fd, _, F.fn.ok sc_is_free (fun vs H Q E h => ?_) (fun cdv A outer s H vs Q E hr h => ⟨_, wB.ps, ?_⟩), F.gl, F.fn.kp, F.fn.binds fun _ _ _ _ _ _ us hl => match us, hl with | [_, _, _], _ => rfl⟩
  · obtain ⟨M, u, v, h, n, tp, ns, p, rfl, _⟩ := h
    rfl
  · obtain ⟨M, u, v, h, n, tp, ns, p, rfl, al, r1, r2, hp, hrow, hh, nh, q⟩ := h
    refine b_cons (cs_expr (ce_call ck hr (by decide) rfl (ca_cons (ce_nm 0 (ca_cons (ce_nm 1 (ca_cons (ce_nm 2 (ca_nil ⟨M, u, v, h, n, tp, ns, p, rfl, al, r1, r2, hp, hrow, hh, nh, fun H2 x2 => ?_⟩)))))))))
    exact b_cons (cs_ret (ce_call cf hr (by decide) rfl (ca_cons (ce_nm 0 (ca_cons (ce_nm 1 (ca_cons (ce_nm 2 (ca_nil ⟨M, u, v, h, n, tp, ns, p, rfl, al.mono x2, r1.mono (fun _ z => z) (ExM.of x2), r2.mono (fun _ z => z) (ExM.of x2), hp, hrow, hh.ex (fun o => x2 _ _), nh, fun H3 x3 => q H3 (x2.trans x3)⟩)))))))))
def freeL (n : Nat) (ns : List Int) : List Nat := (List.range (ns.length - 1)).filter fun p => decide (0 < (hIx n ns p).length)
theorem cl_free_places {f CH : Addr} {fd : FuncData} (F : At K mg "free_places" s_free_places f fd) (nb : NoB mg) (c1 : Cl P w K mg base CX0 6 "check_row" (spRowOk K toN)) (c2 : Cl P w K mg base CX0 1 "check_house" (spHoOk CH)) (cf : Cl P w K mg base CX0 3 "frees" (spHP K CH fun M n ns p H Q => ∀ H', Evl.Ex H H' → Q (.bl (decide (0 < (hIx n ns p).length))) H')) :
    Cl P w K mg base CX0 7 "free_places" (fun vs H Q _ => ∃ (M : Addr → Prop) (v : V) (h : Addr) (n : Nat) (tp : Bool) (ns : List Int), vs = [v, .ref h] ∧ Alive M H ∧ Rp K M H v (sqD tp (ns.map PyData.int)) ∧ RowL ns ∧ HAt CH n H h ∧ ¬ M h ∧ ∀ l ws H', H l = none → Evl.Ex H H' → H' l = some (.lst ws) → RpAll K M H' ws (natD (freeL n ns)) → Q (.ref l) H') := by
  refine ⟨f, fd, _, F.fn.ok sc_free_places (fun vs H Q E h => ?_) (fun cdv A outer s H vs Q E hr h => ⟨_, wB.ps, ?_⟩), F.gl, F.fn.kp, F.fn.binds fun _ _ _ _ _ _ us hl => match us, hl with | [_, _], _ => rfl⟩
  · obtain ⟨M, v, h, n, tp, ns, rfl, _⟩ := h
    rfl
  · obtain ⟨M, v, h, n, tp, ns, rfl, al, r1, hrow, hh, nh, q⟩ := h
    refine b_cons (cs_expr (ce_call c1 hr (by decide) rfl (ca_cons (ce_nm 0 (ca_nil ⟨M, v, tp, ns, rfl, al, r1, hrow, fun H2 x2 => ?_⟩)))))
    refine b_cons (cs_expr (ce_call c2 hr (by decide) rfl (ca_cons (ce_nm 1 (ca_nil ⟨h, n, rfl, hh.ex (fun o => x2 _ _), fun H3 x3 => ?_⟩)))))
    have al3 := (al.mono x2).mono x3
    have r3 := r1.mono (fun _ z => z) (ExM.of (x2.trans x3))
    obtain ⟨dx, hh3⟩ := (hh.ex fun o => x2 _ _).ex fun o => x3 _ _
    have hl := hrow.1
    refine b_cons (cs_ret (ce_fd al3 (fd_filterO (t := .one 2) (own := [("place", 2)]) (fun d => match d with | .int i => decide (0 < (hIx n ns i.toNat).length) | _ => false) id rfl sc_free_places.nd (src_range1 rfl nb.range (pd_sub (pd_len nb rfl (nm 0 r3) (n := ns.length) (by rw [len_sq, List.length_map])) pd_int) (by omega) (by omega)) (blkOk_by (N := n_free_places) (sc := defScope s_free_places) (by decide +kernel)) (fun _ _ _ _ _ => pg_name (i := 2) sc_free_places.nd rfl (.inl rfl)) (fun _ _ => trivial) ?_ ?_ ?_) fun l ws H4 hl4 x4 h4 r4 => q l ws H4 (Evl.fresh_back (x2.trans x3) hl4) ((x2.trans x3).trans x4) h4 ?_))
    · rintro M H d σ' ⟨v, _, rfl⟩
      rfl
    · rw [List.length_map, List.length_range]
      omega
    · rintro s0 H0 C cl fp M' H' d σ' hM lift kp hd ⟨v', rv, rfl⟩
      obtain ⟨i, hi, rfl⟩ := List.mem_map.mp hd
      have hi := List.mem_range.mp hi
      rw [Int.zero_add] at rv ⊢
      obtain ⟨hh', nh'⟩ := kp _ _ nh NTins hh3
      refine ⟨td_val (.mk fun H1 e1 al1 Q q => ce_call cf hr (by decide) rfl (ca_cons (ce_nm 0 (ca_cons (ce_nm 2 (ca_cons (ce_nm 1 (ca_nil ⟨M', v, v', h, n, tp, ns, i, rfl, al1, (lift _ _ r3).mono (fun _ z => z) e1, rv.mono (fun _ z => z) e1, by omega, hrow, ⟨dx, e1 _ _ hh' nh' NTins⟩, nh', fun H5 x5 => q _ H5 x5 (.bl _)⟩)))))))), nm 2 rv⟩
    · have e : (((List.range ((ns.length : Int) - 1).toNat).map fun i => PyData.int (0 + (i : Nat))).filter fun d => match d with | .int i => decide (0 < (hIx n ns i.toNat).length) | _ => false).map id = natD (freeL n ns) := by
        rw [List.map_id, List.filter_map]
        unfold natD freeL
        rw [show ((ns.length : Int) - 1).toNat = ns.length - 1 by omega]
        have e1 : ((fun d => match d with | .int i => decide (0 < (hIx n ns i.toNat).length) | _ => false) ∘ fun i : Nat => PyData.int (0 + (i : Nat))) = fun p => decide (0 < (hIx n ns p).length) := by
          funext i
          show decide (0 < (hIx n ns (0 + (i : Int)).toNat).length) = _
          rw [show (0 + (i : Int)).toNat = i by omega]
        rw [e1]
        exact List.map_congr_left fun i _ => by rw [Int.zero_add]
      rw [e] at r4
      exact r4
end
end FK

namespace FK
open PySem PySem.Spec PyProof.Rows L2 GV
structure FunC (K : PySem.W.Frag) (mg : Str → Option Value) (x : Str) (st : Stmt) (f : Addr) (fd : FuncData) (cdv : Value) : Prop where
  ex : ∃ oc od kV doc pm an ct osl, fd = PySem.W.fnOf x x (defArgs st) (defBody st) (defScope st) .none kV doc pm an cdv ct ∧ K.lookup f = some ⟨oc, od, .func fd, osl⟩ ∧ PySem.W.codeIn K cdv x = true
  kp : PySem.W.keepIn K (.ref f) = true
  gl : mg x = some (.ref f)
theorem FunC.fn {K : PySem.W.Frag} {mg : Str → Option Value} {x : Str} {st : Stmt} {f : Addr} {fd : FuncData} {cdv : Value} (F : FunC K mg x st f fd cdv) : Fun K x x st f fd := by
  obtain ⟨oc, od, kV, doc, pm, an, ct, osl, h1, h2, h3⟩ := F.ex
  exact ⟨⟨oc, od, kV, doc, pm, an, cdv, ct, osl, h1, h2, h3⟩, F.kp⟩
section
variable {P : Program} {w : World} {K : PySem.W.Frag} {mg : Str → Option Value} {base : Heap}
theorem FunC.ok {x : Str} {st : Stmt} {f : Addr} {fd : FuncData} {cdv : Value} {N ps : List Str} {k : Nat} {sp : Sp} (F : FunC K mg x st f fd cdv) (S : FnScope N ps (defScope st)) (len : ∀ vs H Q E, sp vs H Q E → vs.length = ps.length)
    (body : ∀ (A : Around) (outer : List Env) (s : Shared) (H : Hp) (vs : List V) (Q : VK) (E : XK), Room k (A.deeper (PyProof.Rows.envOfC x (defScope st) s.heap.objs.size f cdv)) → sp vs H Q E →
      wB (cxOf CX0 P w K mg base N x (defScope st) f cdv A outer s H E).nox (defBody st) { nx := fun _ H' => Q .non H', rt := Q } (L2.start N vs) H) : FnOk P w K mg base CX0 (k + 1) f fd ps sp := by
  obtain ⟨oc, od, kV, doc, pm, an, ct, osl, rfl, lk, hcd⟩ := F.ex
  exact fn_of lk hcd S len fun A outer s H vs Q E hr hsp => ⟨_, PSs.nox wB.ps, body A outer s H vs Q E hr hsp⟩
def LamB (mg : Str → Option Value) (base : Heap) (T : List (Addr × Str)) (cdv : Value) (q : Str) : Prop := ∃ c Pt, cdv = .ref c ∧ LamX.TabB base mg c Pt ∧ (Pt, q) ∈ T ∧ ∀ p ∈ T, p.1 = Pt → p.2 = q
theorem exM_ofN {M : Addr → Prop} {H H' : Hp} (e : LamX.ExtN H H') : ExM M H H' := fun a o h _ n => e a o h n

theorem ExM.m0 {M : Addr → Prop} {H H' : Hp} (e : ExM M0 H H') : ExM M H H' := fun a o h _ n => e a o h (fun z => z) n
def nearK (p : Nat) (i : Int) : Int := if i < p then p - i else i - p - 1
def R_near (ds : List PyData) (d : PyData) : Prop := ∃ (p : Nat) (i : Int), ds = [.int (p : Nat), .int i] ∧ d = .int (nearK p i)
theorem cl_nearness {f : Addr} {fd : FuncData} (F : At K mg "_nearness" s_nearness f fd) : Cl P w K mg base CX0 1 "_nearness" (PureR K R_near) := by
  refine cl_pure F sc_nearness (F.fn.binds fun _ _ _ _ _ _ us hl => match us, hl with | [_, _], _ => rfl) (fun ds d h => ?_) (fun X cdv A outer s H Q E M vs ds d hX hr al r h q => ?_)
  · obtain ⟨_, _, rfl, _⟩ := h
    rfl
  · obtain ⟨p, i, rfl, rfl⟩ := h
    obtain ⟨u, v, rfl, r1, r2⟩ := rpa2 r
    subst hX
    refine b_cons (s_ret al (pd_if (k := decide (i < (p : Int))) (td_lt (nm 1 r2) (nm 0 r1)) (fun k => PD.is (pd_sub (nm 0 r1) (nm 1 r2)) ?_) (fun k => PD.is (pd_sub (pd_sub (nm 1 r2) (nm 0 r1)) pd_int) ?_)) q)
    · unfold nearK
      rw [if_pos (of_decide_eq_true k)]
    · unfold nearK
      rw [if_neg (of_decide_eq_false k)]
def ixI (n : Nat) (ns : List Int) (p : Nat) : List Int := (hIx n ns p).map fun i => ((i : Nat) : Int)
def nearL (n : Nat) (ns : List Int) (p : Nat) : Option Int := if hIx n ns p = [] then none else some (ns.getD (firstK (nearK p) (ixI n ns p)).toNat 0)
theorem firstK_mem {key : Int → Int} {ns : List Int} (h : ns ≠ []) : firstK key ns ∈ ns := by
  obtain ⟨h1, _⟩ := argB_spec key ns (ns.length - 1)
  have := List.length_pos_iff.mpr h
  unfold firstK
  rw [List.getD_eq_getElem?_getD, List.getElem?_eq_getElem (by omega)]
  exact List.getElem_mem _
/-- .. and the tables may grow -/
def spHT (K : PySem.W.Frag) (CH : Addr) (T : List (Addr × Str)) (then_ : (Addr → Prop) → Nat → List Int → Nat → Hp → VK → Prop) : Sp := fun vs H Q _ => ∃ (M : Addr → Prop) (u v : V) (h : Addr) (n : Nat) (tp : Bool) (ns : List Int) (p : Nat), vs = [u, v, .ref h] ∧ Alive M H ∧ Rp K M H u (sqD tp (ns.map PyData.int)) ∧ Rp K M H v (.int (p : Nat)) ∧ p + 1 < ns.length ∧ RowL ns ∧ HAt CH n H h ∧ ¬ M h ∧ LamX.Tabs T H ∧ then_ M n ns p H Q
abbrev toT (T : List (Addr × Str)) (o : Option Int) (H : Hp) (Q : VK) : Prop := ∀ v H', ExM M0 H H' → LamX.Tabs T H' → Rp K M0 H' v (optD o) → Q v H'
theorem rp_opt {M : Addr → Prop} {H : Hp} {v : V} {o : Option Int} (r : Rp K M0 H v (optD o)) : Rp K M H v (optD o) := by
  cases o with
  | none =>
    cases r
    exact .non
  | some z =>
    cases r
    exact .int z
theorem cl_nearest {f CH : Addr} {fd : FuncData} {cdv : Value} {T : List (Addr × Str)} (F : FunC K mg "nearest_helper" s_nearest_helper f fd cdv) (nb : NoB mg) (lb : LamB mg base T cdv ((PyProof.Rows.envOfC "nearest_helper" (defScope s_nearest_helper) 0 f cdv).qual ++ "<lambda>"))
    (ck : Cl P w K mg base CX0 7 "_check_all" (spHP K CH fun _ _ _ _ H Q => toN H Q)) (ch : Cl P w K mg base CX0 2 "_helper_indexes" (spHP K CH (toIx K))) (cn : Cl P w K mg base CX0 1 "_nearness" (PureR K R_near)) :
    Cl P w K mg base CX0 8 "nearest_helper" (spHT K CH T fun _ n ns p H Q => toT (K := K) T (nearL n ns p) H Q) := by
  obtain ⟨c, Pt, hc, tb, hmT, hu⟩ := lb
  refine ⟨f, fd, _, F.ok sc_nearest_helper (fun vs H Q E h => ?_) (fun A outer s H vs Q E hr h => ?_), F.gl, F.kp, F.fn.binds fun _ _ _ _ _ _ us hl => match us, hl with | [_, _, _], _ => rfl⟩
  · obtain ⟨M, u, v, h, n, tp, ns, p, rfl, _⟩ := h
    rfl
  · obtain ⟨M, u, v, h, n, tp, ns, p, rfl, al, r1, r2, hp, hrow, hh, nh, hT, q⟩ := h
    refine b_cons (cs_expr (ce_call ck hr (by decide) rfl (ca_cons (ce_nm 0 (ca_cons (ce_nm 1 (ca_cons (ce_nm 2 (ca_nil ⟨M, u, v, h, n, tp, ns, p, rfl, al, r1, r2, hp, hrow, hh, nh, fun H2 x2 => ?_⟩)))))))))
    have al2 := al.mono x2
    have r1a := r1.mono (fun _ z => z) (ExM.of x2)
    have r2a := r2.mono (fun _ z => z) (ExM.of x2)
    have hh2 := hh.ex fun o => x2 _ _
    refine b_cons (cs_set (i := 3) sc_nearest_helper.nd rfl (by first | exact .inl rfl | exact .inr rfl) (ce_call ch hr (by decide) rfl (ca_cons (ce_nm 0 (ca_cons (ce_nm 1 (ca_cons (ce_nm 2 (ca_nil ⟨M, u, v, h, n, tp, ns, p, rfl, al2, r1a, r2a, hp, hrow, hh2, nh, fun l ws H3 hl x3 h3 r3 => ?_⟩)))))))))
    have al3 := al2.mono x3
    have r1b := r1a.mono (fun _ z => z) (ExM.of x3)
    cases r2
    have ei : natD (hIx n ns p) = (ixI n ns p).map PyData.int := by
      unfold natD ixI
      rw [List.map_map]
      rfl
    have rl : Rp K M H3 (.ref l) (intsD (ixI n ns p)) := .lst (al2.fresh hl) (.inl h3) (by rw [← ei]; exact r3)
    have ew := RpAll.of_ints (by rw [← ei]; exact r3 : RpAll K M H3 ws ((ixI n ns p).map PyData.int))
    refine b_cons (s_if (k := decide (hIx n ns p = [])) al3 (TD.is (td_eq hr.units (pd_len nb rfl (nm 3 rl) (n := (ixI n ns p).length) (by simp [lenD])) pd_int rfl rfl) ?_) (fun k H4 x4 => ?_) (fun k H4 x4 => b_nil ?_))
    · unfold ixI
      rw [eqv_int, List.length_map, Bool.eq_iff_iff, decide_eq_true_eq, decide_eq_true_eq, ← List.length_eq_zero_iff]
      omega
    · refine b_cons (s_ret (al3.mono x4) pd_non fun v5 H5 x5 r5 => ?_)
      cases r5
      refine q _ H5 (.of (((x2.trans x3).trans x4).trans x5)) (hT.ext (((x2.trans x3).trans x4).trans x5)) ?_
      unfold nearL
      rw [if_pos (of_decide_eq_true k)]
      exact .non
    · have ne : hIx n ns p ≠ [] := of_decide_eq_false k
      have ne2 : ixI n ns p ≠ [] := fun e => ne (by
        unfold ixI at e
        exact List.map_eq_nil_iff.mp e)
      have x04 := (x2.trans x3).trans x4
      refine b_cons (cs_ret (ce_ix (ce_nm 0 (ce_minKey (k := 1) (i := 4) (a := "index") (nearK p) rfl sc_nearest_helper.nd rfl rfl nb.min (hr.mono (by decide)) tb hc hmT hu (lam1_by (by show lam1B (defScope s_nearest_helper) _ "index" = true; decide +kernel)) rfl (fun _ _ _ _ _ _ => rfl) (ce_nm 3 ⟨l, ixI n ns p, rfl, .inl (.inl (by rw [← ew]; exact x4 _ _ h3)), ne2, hT.ext x04, fun H5 e5 T5 => ⟨fun z hz A2 outer2 s2 H02 f2 c2 H6 hr2 x6 => ?_, fun H6 x6 => ?_⟩⟩)))))
      · exact ce_pd (M := M0) alive0 (pd_callC cn hr2 (by decide) rfl (ad_cons (nm 1 (.int (p : Nat))) (ad_cons (nm 4 (.int z)) ad_nil)) ⟨p, z, rfl, rfl⟩) fun v7 H7 x7 r7 => by
          cases r7
          exact ⟨rfl, x7⟩
      · have eM : ExM M0 H H6 := (ExM.of x04).trans ((exM_ofN e5).trans (.of x6))
        obtain ⟨i, hi, ei⟩ := List.mem_map.mp (firstK_mem (key := nearK p) ne2)
        have ei : ((i : Nat) : Int) = firstK (nearK p) (ixI n ns p) := ei
        obtain ⟨z, hz⟩ := get_i (ns := ns) (i := i) ((hIx_ok hp).mp hi).1
        have en : nearL n ns p = some z := by
          unfold nearL
          rw [if_neg ne, ← ei, Int.toNat_natCast, getD_of hz]
        rw [← ei]
        refine rIx_of (M := M) (r1.mono (fun _ z => z) (ExM.m0 eM)) (ix_sqI hz) fun v7 r7 => ?_
        cases r7
        refine q _ H6 eM (T5.ext x6) ?_
        rw [en]
        exact .int z
end
end FK

namespace FK
open PySem PySem.Spec PyProof.Rows L2 GV
/-! ### kinds, as the law tells them -/
def ltL (lo hi z : Int) : Nat := if z > hi then 2 else if z < lo then 0 else 1
def kdL (ns : List Int) (p i : Nat) : Nat := ltL (lo2 ns p) (hi2 ns p) (ns.getD i 0) + (if i < p then 0 else 3)
def letT : Nat → Str
  | 0 => "l"
  | 1 => "b"
  | _ => "h"
def thL (len p : Nat) : List Nat := (List.range len).filter fun i => decide (i ≠ p) && decide (i ≠ p + 1)
theorem ord_inj {i k : Nat} (hi : i < 6) (hk : k < 6) (e : ordK.getD i "" = ordK.getD k "") : i = k := by
  have all : ((List.range 6).all fun i => (List.range 6).all fun k => !decide (ordK.getD i "" = ordK.getD k "") || decide (i = k)) = true := by decide +kernel
  have h := List.all_eq_true.mp (List.all_eq_true.mp all i (List.mem_range.mpr hi)) k (List.mem_range.mpr hk)
  rw [decide_eq_true e] at h
  exact of_decide_eq_true h
theorem kind_in {n k : Nat} (hk : k < 6) : decide (ordK.getD k "" ∈ kindsL n) = bitN n k := by
  unfold kindsL
  rw [Bool.eq_iff_iff, decide_eq_true_eq, List.mem_map]
  constructor
  · rintro ⟨i, hi, e⟩
    obtain ⟨h1, h2⟩ := List.mem_filter.mp hi
    rw [← ord_inj (List.mem_range.mp h1) hk e]
    exact h2
  · intro h
    exact ⟨k, List.mem_filter.mpr ⟨List.mem_range.mpr hk, h⟩, rfl⟩
theorem kdL_lt (ns : List Int) (p i : Nat) : kdL ns p i < 6 := by
  unfold kdL ltL
  split <;> split <;> (try split) <;> omega
theorem uniq {ns : List Int} (hn : ns.Nodup) {i j : Nat} {z : Int} (h1 : ns[i]? = some z) (h2 : ns[j]? = some z) : i = j := (List.getElem?_inj (List.getElem?_eq_some_iff.mp h1).1 hn).mp (h1.trans h2.symm)
/-- at a third stone of a row both tell the same kind -/
theorem kd_eq {ns : List Int} {p i : Nat} (hn : ns.Nodup) (hp : p + 1 < ns.length) (hi : i < ns.length) (h1 : i ≠ p) (h2 : i ≠ p + 1) : kdL ns p i = kdN ns p i := by
  obtain ⟨x, hx⟩ := get_i (ns := ns) (i := p) (by omega)
  obtain ⟨y, hy⟩ := get_i (ns := ns) (i := p + 1) hp
  obtain ⟨z, hz⟩ := get_i (ns := ns) (i := i) hi
  have zx : z ≠ x := fun e => h1 (uniq hn (by rw [hz, e]) hx)
  have zy : z ≠ y := fun e => h2 (uniq hn (by rw [hz, e]) hy)
  unfold kdL kdN
  congr 1
  unfold ltL ltN lo2 hi2
  rw [getD_of hx, getD_of hy, getD_of hz]
  repeat' split
  all_goals omega
theorem range_cut {len p : Nat} (hp : p + 1 < len) : List.range len = List.range p ++ (p :: (p + 1) :: (List.range (len - (p + 2))).map (p + 2 + ·)) := by
  have e : len = p + 2 + (len - (p + 2)) := by omega
  conv => lhs; rw [e, List.range_add, List.range_succ, List.range_succ]
  simp
theorem th_eq {n : Nat} {ns : List Int} {p : Nat} (hp : p + 1 < ns.length) : (thL ns.length p).filter (kb n ns p) = hIx n ns p := by
  unfold thL hIx behI
  rw [range_cut hp, List.filter_append, List.filter_append]
  have e1 : (List.range p).filter (fun i => decide (i ≠ p) && decide (i ≠ p + 1)) = List.range p := List.filter_eq_self.mpr fun i hi => by
    have := List.mem_range.mp hi
    rw [decide_eq_true (by omega), decide_eq_true (by omega)]
    rfl
  have e2 : (p :: (p + 1) :: (List.range (ns.length - (p + 2))).map (p + 2 + ·)).filter (fun i => decide (i ≠ p) && decide (i ≠ p + 1)) = (List.range (ns.length - (p + 2))).map (p + 2 + ·) := by
    rw [List.filter_cons_of_neg (by simp), List.filter_cons_of_neg (by simp)]
    refine List.filter_eq_self.mpr fun i hi => ?_
    obtain ⟨j, _, rfl⟩ := List.mem_map.mp hi
    rw [decide_eq_true (by omega), decide_eq_true (by omega)]
    rfl
  rw [e1, e2]
theorem th_mem {len p i : Nat} : i ∈ thL len p ↔ i < len ∧ i ≠ p ∧ i ≠ p + 1 := by
  unfold thL
  rw [List.mem_filter, List.mem_range, Bool.and_eq_true, decide_eq_true_eq, decide_eq_true_eq]
section
variable {P : Program} {w : World} {K : PySem.W.Frag} {mg : Str → Option Value} {base : Heap}
def R_num (ds : List PyData) (d : PyData) : Prop := ∃ k, ds = [.int k, .int k] ∧ d = .bool true
theorem cl_law_is_int {f : Addr} {fd : FuncData} (F : At K mg "_law_is_int" s_law_is_int f fd) (nb : NoB mg) : Cl P w K mg base CX0 1 "_law_is_int" (PureR K R_num) := by
  refine cl_pure F sc_law_is_int (F.fn.binds fun _ _ _ _ _ _ us hl => match us, hl with | [_, _], _ => rfl) (fun ds d h => ?_) (fun X cdv A outer s H Q E M vs ds d hX hr al r h q => ?_)
  · obtain ⟨a, rfl, _⟩ := h
    rfl
  · obtain ⟨a, rfl, rfl⟩ := h
    obtain ⟨u, v, rfl, r1, r2⟩ := rpa2 r
    subst hX
    refine b_cons (s_ret al (PD.is (pd_and (pd_isi rfl nb.isinstance rfl nb.int PyProof.Rows.boot_int (nm 0 r1) (kit_int _)) fun _ => pd_and (pd_not (pd_isi rfl nb.isinstance rfl nb.bool PyProof.Rows.boot_bool (nm 0 r1) (kit_bool _))) fun _ => pd_one (pd_eq hr.units (nm 0 r1) (nm 1 r2) rfl rfl)) ?_) q)
    simp [isIntD, isBoolD, PyData.eqv]
def R_truth (ds : List PyData) (d : PyData) : Prop := ∃ k, ds = [.bool k, .bool k] ∧ d = .bool true
theorem cl_law_is_truth {f : Addr} {fd : FuncData} (F : At K mg "_law_is_truth" s_law_is_truth f fd) (nb : NoB mg) : Cl P w K mg base CX0 1 "_law_is_truth" (PureR K R_truth) := by
  refine cl_pure F sc_law_is_truth (F.fn.binds fun _ _ _ _ _ _ us hl => match us, hl with | [_, _], _ => rfl) (fun ds d h => ?_) (fun X cdv A outer s H Q E M vs ds d hX hr al r h q => ?_)
  · obtain ⟨a, rfl, _⟩ := h
    rfl
  · obtain ⟨a, rfl, rfl⟩ := h
    obtain ⟨u, v, rfl, r1, r2⟩ := rpa2 r
    subst hX
    refine b_cons (s_ret al (PD.is (pd_and (pd_isi rfl nb.isinstance rfl nb.bool PyProof.Rows.boot_bool (nm 0 r1) (kit_bool _)) fun _ => pd_one (pd_eq hr.units (nm 0 r1) (nm 1 r2) rfl rfl)) ?_) q)
    cases a <;> simp [isBoolD, PyData.eqv]
def R_kind (ds : List PyData) (d : PyData) : Prop := ∃ (ns : List Int) (p i : Nat), p + 1 < ns.length ∧ i < ns.length ∧ ds = [intsD ns, .int (p : Nat), .int (i : Nat)] ∧ d = .str (ordK.getD (kdL ns p i) "")
theorem cl_law_kind {f : Addr} {fd : FuncData} (F : At K mg "_law_kind" s_law_kind f fd) (nb : NoB mg) : Cl P w K mg base CX0 1 "_law_kind" (PureR K R_kind) := by
  refine cl_pure F sc_law_kind (F.fn.binds fun _ _ _ _ _ _ us hl => match us, hl with | [_, _, _], _ => rfl) (fun ds d h => ?_) (fun X cdv A outer s H Q E M vs ds d hX hr al r h q => ?_)
  · obtain ⟨_, _, _, _, _, rfl, _⟩ := h
    rfl
  · obtain ⟨ns, p, i, hp, hi, rfl, rfl⟩ := h
    obtain ⟨u, v, x, rfl, r1, r2, r3⟩ := rpa3 r
    obtain ⟨a, ha⟩ := get_i (ns := ns) (i := p) (by omega)
    obtain ⟨b, hb⟩ := get_i (ns := ns) (i := p + 1) hp
    obtain ⟨z, hz⟩ := get_i (ns := ns) (i := i) hi
    have elo : lo2 ns p = min a b := by
      unfold lo2
      rw [getD_of ha, getD_of hb]
    have ehi : hi2 ns p = max a b := by
      unfold hi2
      rw [getD_of ha, getD_of hb]
    cases r2
    cases r3
    have p1 : ((p : Nat) : Int) + 1 = ((p + 1 : Nat) : Int) := by omega
    -- the end
    have tail : ∀ (k : Nat) H2, k ≤ 2 → Evl.Ex H H2 → (k + (if i < p then 0 else 3)) = kdL ns p i → wB X ((defBody s_law_kind).drop 3) { nx := fun _ H' => Q .non H', rt := Q } [some u, some (.int (p : Nat)), some (.int (i : Nat)), some (.str (letT k))] H2 := by
      intro k H2 hk x2 e
      have al2 := al.mono x2
      subst hX
      rw [← e] at q
      refine b_cons (s_if (k := decide (i < p)) al2 (TD.is (td_lt (nm 2 (.int (i : Nat))) (nm 1 (.int (p : Nat)))) ?_) (fun h H3 x3 => ?_) (fun h H3 x3 => b_nil ?_))
      · rw [Bool.eq_iff_iff, decide_eq_true_eq, decide_eq_true_eq]
        omega
      · refine b_cons (s_ret (al2.mono x3) (PD.is (pd_addS (nm 3 (.str (letT k))) pd_str ?_) ?_) fun v4 H4 x4 r4 => q v4 H4 ((x2.trans x3).trans x4) r4)
        · match k, hk with
          | 0, _ => decide +kernel
          | 1, _ => decide +kernel
          | 2, _ => decide +kernel
        · rw [if_pos (of_decide_eq_true h)]
          match k, hk with
          | 0, _ => exact congrArg PyData.str (by decide +kernel)
          | 1, _ => exact congrArg PyData.str (by decide +kernel)
          | 2, _ => exact congrArg PyData.str (by decide +kernel)
      · refine b_cons (s_ret (al2.mono x3) (PD.is (pd_addS pd_str (nm 3 (.str (letT k))) ?_) ?_) fun v4 H4 x4 r4 => q v4 H4 ((x2.trans x3).trans x4) r4)
        · match k, hk with
          | 0, _ => decide +kernel
          | 1, _ => decide +kernel
          | 2, _ => decide +kernel
        · rw [if_neg (of_decide_eq_false h)]
          match k, hk with
          | 0, _ => exact congrArg PyData.str (by decide +kernel)
          | 1, _ => exact congrArg PyData.str (by decide +kernel)
          | 2, _ => exact congrArg PyData.str (by decide +kernel)
    have mid : ∀ (k : Nat) H2, k ≤ 1 → Evl.Ex H H2 → k = (if z < min a b then 0 else 1) → wB X ((defBody s_law_kind).drop 2) { nx := fun _ H' => Q .non H', rt := Q } [some u, some (.int (p : Nat)), some (.int (i : Nat)), some (.str (letT k))] H2 := by
      intro k H2 hk x2 e
      have al2 := al.mono x2
      have r1a := r1.mono (fun _ z => z) (ExM.of x2)
      have xi := fun {X : Cx} {σ : L2.St} {H : Hp} => (ixD_ints (ns := ns) ha)
      have tail := tail
      subst hX
      refine b_cons (s_if al2 (td_gt (pd_ix (nm 0 r1a) (nm 2 (.int (i : Nat))) (ixD_ints hz)) (pd_max2 rfl nb.max (pd_ix (nm 0 r1a) (nm 1 (.int (p : Nat))) (ixD_ints ha)) (pd_ix (nm 0 r1a) (PD.is (pd_add (nm 1 (.int (p : Nat))) pd_int) (congrArg PyData.int p1)) (ixD_ints hb)))) (fun h H3 x3 => ?_) (fun h H3 x3 => b_nil (tail k H3 (by omega) (x2.trans x3) ?_)))
      · refine b_cons (s_set (i := 3) (d := .str "h") (al2.mono x3) sc_law_kind.nd rfl (.inl rfl) pd_str fun v4 H4 x4 r4 => ?_)
        cases r4
        refine b_nil (tail 2 H4 (by decide) ((x2.trans x3).trans x4) ?_)
        unfold kdL ltL
        rw [ehi, getD_of hz, if_pos (of_decide_eq_true h)]
      · unfold kdL ltL
        rw [ehi, elo, getD_of hz, if_neg (of_decide_eq_false h), e]
    have mid := mid
    subst hX
    refine b_cons (s_set (i := 3) (d := .str "b") al sc_law_kind.nd rfl (.inl rfl) pd_str fun v2 H2 x2 r2 => ?_)
    cases r2
    have al2 := al.mono x2
    have r1a := r1.mono (fun _ z => z) (ExM.of x2)
    refine b_cons (s_if al2 (td_lt (pd_ix (nm 0 r1a) (nm 2 (.int (i : Nat))) (ixD_ints hz)) (pd_min2 rfl nb.min (pd_ix (nm 0 r1a) (nm 1 (.int (p : Nat))) (ixD_ints ha)) (pd_ix (nm 0 r1a) (PD.is (pd_add (nm 1 (.int (p : Nat))) pd_int) (congrArg PyData.int p1)) (ixD_ints hb)))) (fun h H3 x3 => ?_) (fun h H3 x3 => b_nil (mid 1 H3 (by decide) (x2.trans x3) (by rw [if_neg (of_decide_eq_false h)]))))
    refine b_cons (s_set (i := 3) (d := .str "l") (al2.mono x3) sc_law_kind.nd rfl (.inl rfl) pd_str fun v4 H4 x4 r4 => ?_)
    cases r4
    exact b_nil (mid 0 H4 (by decide) ((x2.trans x3).trans x4) (by rw [if_pos (of_decide_eq_true h)]))
end
end FK

namespace FK
open PySem PySem.Spec PyProof.Rows L2 GV
theorem nearL_of {n : Nat} {ns : List Int} {p j : Nat} (hj : j ∈ hIx n ns p) (h : ∀ y ∈ hIx n ns p, nearK p (j : Nat) < nearK p (y : Nat) ∨ (nearK p (j : Nat) = nearK p (y : Nat) ∧ j ≤ y)) : nearL n ns p = some (ns.getD j 0) := by
  unfold nearL
  rw [if_neg (List.ne_nil_of_mem hj)]
  have up : (ixI n ns p).Pairwise (· < ·) := List.pairwise_map.mpr ((hIx_up n ns p).imp fun h => by omega)
  rw [firstK_eq (key := nearK p) (m := ((j : Nat) : Int)) up (List.mem_map.mpr ⟨j, hj, rfl⟩) fun y hy => ?_, Int.toNat_natCast]
  obtain ⟨i, hi, rfl⟩ := List.mem_map.mp hy
  rcases h i hi with z | ⟨z, z2⟩
  · exact .inl z
  · exact .inr ⟨z, by omega⟩
theorem nearL_none {n : Nat} {ns : List Int} {p : Nat} (h : hIx n ns p = []) : nearL n ns p = none := by
  unfold nearL
  rw [if_pos h]
def lhD (ns : List Int) (p : Nat) (n : Nat) : PyData → Bool
  | .int i => kb n ns p i.toNat
  | _ => false
section
variable {P : Program} {w : World} {K : PySem.W.Frag} {mg : Str → Option Value} {base : Heap}
def R_third' (ds es : List PyData) : Prop := ∃ (ns : List Int) (p : Nat), ns.length ≤ 1000 ∧ ds = [intsD ns, .int (p : Nat)] ∧ es = natD (thL ns.length p)
theorem cl_law_third {f : Addr} {fd : FuncData} (F : At K mg "_law_third" s_law_third f fd) (nb : NoB mg) : Cl P w K mg base CX0 1 "_law_third" (FreshR K R_third') := by
  refine ⟨f, fd, _, F.fn.ok sc_law_third (fun vs H Q E h => ?_) (fun cdv A outer sh H vs Q E hr h => ⟨_, wB.ps, ?_⟩), F.gl, F.fn.kp, F.fn.binds fun _ _ _ _ _ _ us hl => match us, hl with | [_, _], _ => rfl⟩
  · obtain ⟨M, ds, es, al, r, ⟨_, _, _, rfl, _⟩, _⟩ := h
    rw [r.length]
    rfl
  · obtain ⟨M, ds, es, al, r, ⟨ns, p, hl, rfl, rfl⟩, q⟩ := h
    obtain ⟨u, v, rfl, r1, r2⟩ := rpa2 r
    refine b_cons (cs_ret (ce_fd al (fd_filter (t := .one 2) (own := [("at", 2)]) (fun d => match d with | .int i => decide (i.toNat ≠ p) && decide (i.toNat ≠ p + 1) | _ => false) id rfl sc_law_third.nd (src_range1 rfl nb.range (pd_len nb rfl (nm 0 r1) (n := ns.length) (by simp [lenD])) (by omega) (by omega)) (blkOk_by (N := n_law_third) (sc := defScope s_law_third) (by decide +kernel)) (fun _ _ _ _ _ => pg_name (i := 2) sc_law_third.nd rfl (.inl rfl)) (fun _ _ => trivial) ?_ ?_ ?_) fun l ws H2 hl2 x2 h2 r2 => q l ws H2 hl2 x2 h2 ?_))
    · rintro M H d σ' ⟨v, _, rfl⟩
      rfl
    · rw [List.length_map, List.length_range]
      omega
    · rintro s0 H0 C cl fp M' H' d σ' hM lift hd ⟨v', rv, rfl⟩
      obtain ⟨i, hi, rfl⟩ := List.mem_map.mp hd
      rw [Int.zero_add] at rv ⊢
      refine ⟨TD.is (WD.td (wd_and (td_ne hr.units (nm 2 rv) (nm 1 (lift _ _ r2)) rfl rfl) fun _ => wd_and1 (td_ne hr.units (nm 2 rv) (pd_add (nm 1 (lift _ _ r2)) pd_int) rfl rfl))) ?_, nm 2 rv⟩
      rw [eqv_int, eqv_int]
      show _ = (decide (((i : Nat) : Int).toNat ≠ p) && decide (((i : Nat) : Int).toNat ≠ p + 1))
      rw [Int.toNat_natCast, Bool.eq_iff_iff]
      simp only [Bool.and_eq_true, Bool.not_eq_true', decide_eq_false_iff_not, decide_eq_true_eq]
      omega
    · have e : (((List.range ((ns.length : Nat) : Int).toNat).map fun i => PyData.int (0 + (i : Nat))).filter fun d => match d with | .int i => decide (i.toNat ≠ p) && decide (i.toNat ≠ p + 1) | _ => false).map id = natD (thL ns.length p) := by
        rw [List.map_id, List.filter_map]
        unfold natD thL
        rw [Int.toNat_natCast]
        have e1 : ((fun d => match d with | .int i => decide (i.toNat ≠ p) && decide (i.toNat ≠ p + 1) | _ => false) ∘ fun i : Nat => PyData.int (0 + (i : Nat))) = fun i => decide (i ≠ p) && decide (i ≠ p + 1) := by
          funext i
          show (decide ((0 + (i : Int)).toNat ≠ p) && decide ((0 + (i : Int)).toNat ≠ p + 1)) = _
          rw [show (0 + (i : Int)).toNat = i by omega]
        rw [e1]
        exact List.map_congr_left fun i _ => by rw [Int.zero_add]
      rw [e] at r2
      exact r2
def R_list (ds : List PyData) (d : PyData) : Prop := ∃ ns : List Int, ns.length ≤ 1000 ∧ ds = [intsD ns, intsD ns] ∧ d = .bool true
theorem all_true {α : Type} (l : List α) : ((l.map fun _ => true).all id) = true := by
  rw [List.all_map, List.all_eq_true]
  exact fun _ _ => rfl
theorem cl_law_is_list {f : Addr} {fd : FuncData} (F : At K mg "_law_is_list" s_law_is_list f fd) (c1 : Cl P w K mg base CX0 1 "_law_is_int" (PureR K R_num)) (nb : NoB mg) : Cl P w K mg base CX0 2 "_law_is_list" (PureR K R_list) := by
  refine cl_pure F sc_law_is_list (F.fn.binds fun _ _ _ _ _ _ us hl => match us, hl with | [_, _], _ => rfl) (fun ds d h => ?_) (fun X cdv A outer s H Q E M vs ds d hX hr al r h q => ?_)
  · obtain ⟨ns, _, rfl, _⟩ := h
    rfl
  · obtain ⟨ns, hlen, rfl, rfl⟩ := h
    obtain ⟨u, v, rfl, r1, r2⟩ := rpa2 r
    subst hX
    refine b_cons (s_if (k := false) al ?_ (fun k => by cases k) (fun _ H2 x2 => b_nil ?_))
    · refine TD.is (WD.td (wd_or (td_not (td_val (pd_isi rfl nb.isinstance rfl nb.list PyProof.Rows.boot_list (nm 0 r1) (kit_list _)))) fun _ => wd_or1 (td_ne hr.units (pd_len nb rfl (nm 0 r1) rfl) (pd_len nb rfl (nm 1 r2) rfl) rfl rfl))) ?_
      simp [PyData.eqv]
    · have r1' := r1.mono (fun _ z => z) (ExM.of x2)
      have r2' := r2.mono (fun _ z => z) (ExM.of x2)
      have al2 := al.mono x2
      refine b_cons (s_ret al2 (PD.is (pd_callB (cr_all rfl) rfl nb.all PyProof.Rows.boot_all (ad_cons (PD.is (d' := .list ((((List.range ns.length).map fun _ => true)).map PyData.bool)) (FD.pd
        (fd_map (t := .one 2) (own := [("at", 2)]) (fun _ => .bool true) rfl sc_law_is_list.nd (src_range1 rfl nb.range (pd_len nb rfl (nm 1 r2') (n := ns.length) (by simp [lenD])) (by omega) (by omega)) (blkOk_by (N := n_law_is_list) (sc := defScope s_law_is_list) (by decide +kernel)) (fun _ _ _ _ _ => pg_name (i := 2) sc_law_is_list.nd rfl (.inl rfl)) (fun _ _ => trivial) ?_ ?_ ?_)) ?_) ad_nil) rn_all) (congrArg PyData.bool (all_true _))) fun v H3 x3 rv => q v H3 (x2.trans x3) rv)
      · rintro M H d σ' ⟨v, _, rfl⟩
        rfl
      · rw [List.length_map, List.length_range]
        omega
      · rintro s0 H0 C cl fp M' H' d σ' hM lift hd ⟨v', rv, rfl⟩
        obtain ⟨i, hi, rfl⟩ := List.mem_map.mp hd
        have hi := List.mem_range.mp hi
        rw [Int.zero_add] at rv
        obtain ⟨z, hz⟩ := get_i (ns := ns) (i := i) (by omega)
        exact pd_callC c1 hr (by decide) rfl (ad_cons (pd_ix (nm 0 (lift _ _ r1')) (nm 2 rv) (ixD_ints hz)) (ad_cons (pd_ix (nm 1 (lift _ _ r2')) (nm 2 rv) (ixD_ints hz)) ad_nil)) ⟨z, rfl, rfl⟩
      · rw [List.map_map, List.map_map, Int.toNat_natCast]
        rfl
def R_one (ds : List PyData) (d : PyData) : Prop := ∃ o : Option Int, ds = [optD o, optD o] ∧ d = .bool true
theorem cl_law_is_one {f : Addr} {fd : FuncData} (F : At K mg "_law_is_one" s_law_is_one f fd) (c1 : Cl P w K mg base CX0 1 "_law_is_int" (PureR K R_num)) : Cl P w K mg base CX0 2 "_law_is_one" (PureR K R_one) := by
  refine cl_pure F sc_law_is_one (F.fn.binds fun _ _ _ _ _ _ us hl => match us, hl with | [_, _], _ => rfl) (fun ds d h => ?_) (fun X cdv A outer s H Q E M vs ds d hX hr al r h q => ?_)
  · obtain ⟨o, rfl, _⟩ := h
    rfl
  · obtain ⟨o, rfl, rfl⟩ := h
    obtain ⟨u, v, rfl, r1, r2⟩ := rpa2 r
    subst hX
    cases o with
    | none =>
      refine b_cons (s_if (k := true) al (TD.is (td_isN (nm 1 r2)) rfl) (fun _ H2 x2 => ?_) (fun k => by cases k))
      exact b_cons (s_ret (al.mono x2) (PD.is (pd_isN (nm 0 (r1.mono (fun _ z => z) (ExM.of x2)))) rfl) fun v H3 x3 rv => q v H3 (x2.trans x3) rv)
    | some z =>
      refine b_cons (s_if (k := false) al (TD.is (td_isN (nm 1 r2)) rfl) (fun k => by cases k) (fun _ H2 x2 => b_nil ?_))
      exact b_cons (s_ret (al.mono x2) (pd_callC c1 hr (by decide) rfl (ad_cons (nm 0 (r1.mono (fun _ z => z) (ExM.of x2))) (ad_cons (nm 1 (r2.mono (fun _ z => z) (ExM.of x2))) ad_nil)) ⟨z, rfl, rfl⟩) fun v H3 x3 rv => q v H3 (x2.trans x3) rv)
def R_lhelp (ds es : List PyData) : Prop := ∃ (n : Nat) (ns : List Int) (p : Nat), p + 1 < ns.length ∧ ns.length ≤ 1000 ∧ ns.Nodup ∧ ds = [intsD ns, .int (p : Nat), strsD (kindsL n)] ∧ es = (stL n ns p).map PyData.int
theorem cl_law_helpers {f : Addr} {fd : FuncData} (F : At K mg "_law_helpers" s_law_helpers f fd) (ct : Cl P w K mg base CX0 1 "_law_third" (FreshR K R_third')) (ck : Cl P w K mg base CX0 1 "_law_kind" (PureR K R_kind)) : Cl P w K mg base CX0 2 "_law_helpers" (FreshR K R_lhelp) := by
  refine ⟨f, fd, _, F.fn.ok sc_law_helpers (fun vs H Q E h => ?_) (fun cdv A outer sh H vs Q E hr h => ⟨_, wB.ps, ?_⟩), F.gl, F.fn.kp, F.fn.binds fun _ _ _ _ _ _ us hl => match us, hl with | [_, _, _], _ => rfl⟩
  · obtain ⟨M, ds, es, al, r, ⟨_, _, _, _, _, _, rfl, _⟩, _⟩ := h
    rw [r.length]
    rfl
  · obtain ⟨M, ds, es, al, r, ⟨n, ns, p, hp, hl, hn, rfl, rfl⟩, q⟩ := h
    obtain ⟨u, v, x, rfl, r1, r2, r3⟩ := rpa3 r
    refine b_cons (cs_ret (ce_fd al (fd_filter (t := .one 3) (own := [("at", 3)]) (lhD ns p n) (rowD ns) rfl sc_law_helpers.nd (src_list (FD.pd (fd_callC ct hr (by decide) rfl (ad_cons (nm 0 r1) (ad_cons (nm 1 r2) ad_nil)) ⟨ns, p, hl, rfl, rfl⟩))) (blkOk_by (N := n_law_helpers) (sc := defScope s_law_helpers) (by decide +kernel)) (fun _ _ _ _ _ => pg_name (i := 3) sc_law_helpers.nd rfl (.inl rfl)) (fun _ _ => trivial) ?_ ?_ ?_) fun l ws H2 hl2 x2 h2 r4 => q l ws H2 hl2 x2 h2 ?_))
    · rintro M H d σ' ⟨v, _, rfl⟩
      rfl
    · have : (thL ns.length p).length ≤ ns.length := by
        unfold thL
        have := List.length_filter_le (fun i => decide (i ≠ p) && decide (i ≠ p + 1)) (List.range ns.length)
        rwa [List.length_range] at this
      unfold natD
      rw [List.length_map]
      omega
    · rintro s0 H0 C cl fp M' H' d σ' hM lift hd ⟨v', rv, rfl⟩
      obtain ⟨i, hi, rfl⟩ := List.mem_map.mp hd
      obtain ⟨i1, i2, i3⟩ := th_mem.mp hi
      obtain ⟨z, hz⟩ := get_i (ns := ns) (i := i) i1
      refine ⟨TD.is (td_inS (pd_callC ck hr (by decide) rfl (ad_cons (nm 0 (lift _ _ r1)) (ad_cons (nm 1 (lift _ _ r2)) (ad_cons (nm 3 rv) ad_nil))) ⟨ns, p, i, hp, i1, rfl, rfl⟩) (nm 2 (lift _ _ r3))) ?_, PD.is (pd_ix (nm 0 (lift _ _ r1)) (nm 3 rv) (ixD_ints hz)) ?_⟩
      · rw [kind_in (kdL_lt ns p i), kd_eq hn hp i1 i2 i3]
        show _ = kb n ns p ((i : Nat) : Int).toNat
        rw [Int.toNat_natCast]
        rfl
      · show PyData.int z = .int (ns.getD ((i : Nat) : Int).toNat 0)
        rw [Int.toNat_natCast, getD_of hz]
    · have e : ((natD (thL ns.length p)).filter (lhD ns p n)).map (rowD ns) = (stL n ns p).map PyData.int := by
        unfold natD stL
        rw [List.filter_map, List.map_map, List.map_map]
        have e1 : (lhD ns p n ∘ fun i : Nat => PyData.int (i : Nat)) = kb n ns p := by
          funext i
          show kb n ns p ((i : Nat) : Int).toNat = _
          rw [Int.toNat_natCast]
        rw [e1, th_eq hp]
        refine List.map_congr_left fun i _ => ?_
        show PyData.int (ns.getD ((i : Nat) : Int).toNat 0) = _
        rw [Int.toNat_natCast]
        rfl
      rw [e] at r4
      exact r4
end
end FK

namespace FK
open PySem PySem.Spec PyProof.Rows L2 GV
theorem hIx_kb {n : Nat} {ns : List Int} {p j : Nat} (hp : p + 1 < ns.length) (hj : j < ns.length) (h1 : j ≠ p) (h2 : j ≠ p + 1) : j ∈ hIx n ns p ↔ kb n ns p j = true := by
  rw [hIx_ok hp]
  exact ⟨fun h => h.2.2.2, fun h => ⟨hj, h1, h2, h⟩⟩
section
variable {P : Program} {w : World} {K : PySem.W.Frag} {mg : Str → Option Value} {base : Heap}
def R_lnear (ds : List PyData) (d : PyData) : Prop := ∃ (n : Nat) (ns : List Int) (p : Nat), p + 1 < ns.length ∧ ns.length ≤ 1000 ∧ ns.Nodup ∧ ds = [intsD ns, .int (p : Nat), strsD (kindsL n)] ∧ d = optD (nearL n ns p)
theorem cl_law_nearest {f : Addr} {fd : FuncData} (F : At K mg "_law_nearest" s_law_nearest f fd) (nb : NoB mg) (ck : Cl P w K mg base CX0 1 "_law_kind" (PureR K R_kind)) : Cl P w K mg base CX0 2 "_law_nearest" (PureR K R_lnear) := by
  refine cl_pure F sc_law_nearest (F.fn.binds fun _ _ _ _ _ _ us hl => match us, hl with | [_, _, _], _ => rfl) (fun ds d h => ?_) (fun X cdv A outer s H Q E M vs ds d hX hr al r h q => ?_)
  · obtain ⟨_, _, _, _, _, _, rfl, _⟩ := h
    rfl
  · obtain ⟨n, ns, p, hp, hl, hn, rfl, rfl⟩ := h
    obtain ⟨u, v, x, rfl, r1, r2, r3⟩ := rpa3 r
    subst hX
    have elen : ((List.range (((ns.length : Nat) : Int) - 1).toNat).map fun k => PyData.int (1 + (k : Nat))).length = ns.length - 1 := by
      rw [List.length_map, List.length_range]
      omega
    refine b_cons (s_for (t := .one 3) PassesOwn.never rfl (src_range2 rfl nb.range pd_int (pd_len nb rfl (nm 0 r1) (n := ns.length) (by simp [lenD])) (by omega) (by omega)) (pg_name (i := 3) sc_law_nearest.nd rfl (.inl rfl)) al
      (fun Hs i σ' H' => ∃ xs xa, σ' = [some u, some v, some x, xs, xa] ∧ Evl.Ex Hs H' ∧ ∀ j ∈ hIx n ns p, (i : Int) < nearK p (j : Nat)) ?_ ?_ (fun _ _ => trivial) ?_ ?_)
    · refine fun H1 x1 => ⟨_, _, rfl, Evl.Ex.refl _, fun j hj => ?_⟩
      obtain ⟨h1, h2, h3, _⟩ := (hIx_ok hp).mp hj
      unfold nearK
      split <;> omega
    · rintro H1 i σ' H' x1 ⟨_, _, _, ex, _⟩
      exact ⟨.of ex, (al.mono x1).mono ex⟩
    · rintro H1 i d σ' H' H2 σ2 x1 hd ⟨xs, xa, rfl, ex, hJ⟩ x2 ⟨v', rv, rfl⟩
      rw [List.getElem?_map] at hd
      obtain ⟨k, hk, rfl⟩ := Option.map_eq_some_iff.mp hd
      have hki := (List.getElem?_eq_some_iff.mp hk).1
      rw [List.length_range] at hki
      rw [List.getElem?_range hki] at hk
      cases hk
      have es : (1 : Int) + (i : Nat) = ((i + 1 : Nat) : Int) := by omega
      rw [es] at rv
      have xx := (x1.trans ex).trans x2
      have al2 := al.mono xx
      have r1a := r1.mono (fun _ z => z) (ExM.of xx)
      have r2a := r2.mono (fun _ z => z) (ExM.of xx)
      have r3a := r3.mono (fun _ z => z) (ExM.of xx)
      cases rv
      refine b_cons (s_for (t := .one 4) (ds := [.int (((p : Nat) : Int) - ((i + 1 : Nat) : Int)), .int (((p : Nat) : Int) + 1 + ((i + 1 : Nat) : Int))]) PassesOwn.never rfl (src_list (FD.pd (fd_lst (ad_cons (pd_sub (nm 1 r2a) (nm 3 (.int _))) (ad_cons (pd_add (pd_add (nm 1 r2a) pd_int) (nm 3 (.int _))) ad_nil)) (by show 2 ≤ 100000; decide)))) (pg_name (i := 4) sc_law_nearest.nd rfl (.inl rfl)) al2
        (fun Hs m σ' H' => ∃ xa, σ' = [some u, some v, some x, some (.int ((i + 1 : Nat) : Int)), xa] ∧ Evl.Ex Hs H' ∧ (1 ≤ m → ∀ j ∈ hIx n ns p, (j : Int) ≠ (p : Int) - ((i + 1 : Nat) : Int)) ∧ (2 ≤ m → ∀ j ∈ hIx n ns p, (j : Int) ≠ (p : Int) + 1 + ((i + 1 : Nat) : Int))) ?_ ?_ (fun _ _ => trivial) ?_ ?_)
      · exact fun H3 x3 => ⟨_, rfl, Evl.Ex.refl _, fun h => absurd h (by decide), fun h => absurd h (by decide)⟩
      · rintro H3 m σ' H4 x3 ⟨_, _, ex3, _⟩
        exact ⟨.of ex3, (al2.mono x3).mono ex3⟩
      · rintro H3 m d σ' H4 H5 σ3 x3 hd ⟨xa', rfl, ex4, hA, hB⟩ x5 ⟨v5, rv5, rfl⟩
        -- the index that is looked at
        obtain ⟨a, hda, hcase⟩ : ∃ a : Int, d = .int a ∧ ((m = 0 ∧ a = (p : Int) - ((i + 1 : Nat) : Int)) ∨ (m = 1 ∧ a = (p : Int) + 1 + ((i + 1 : Nat) : Int))) := by
          match m, hd with
          | 0, hd =>
            cases hd
            exact ⟨_, rfl, .inl ⟨rfl, rfl⟩⟩
          | 1, hd =>
            cases hd
            exact ⟨_, rfl, .inr ⟨rfl, rfl⟩⟩
          | m + 2, hd => exact absurd hd (by simp)
        subst hda
        cases rv5
        have yy := (x3.trans ex4).trans x5
        have al5 := al2.mono yy
        have r1b := r1a.mono (fun _ z => z) (ExM.of yy)
        have r2b := r2a.mono (fun _ z => z) (ExM.of yy)
        have r3b := r3a.mono (fun _ z => z) (ExM.of yy)
        have hnear : ∀ j : Nat, (j : Int) = a → j ≠ p ∧ j ≠ p + 1 ∧ nearK p (j : Nat) = ((i + 1 : Nat) : Int) := fun j hj => by
          unfold nearK
          rcases hcase with ⟨_, e⟩ | ⟨_, e⟩
          · refine ⟨by omega, by omega, ?_⟩
            rw [if_pos (by omega)]
            omega
          · refine ⟨by omega, by omega, ?_⟩
            rw [if_neg (by omega)]
            omega
        refine b_cons (s_if (k := (decide ((0 : Int) ≤ a) && decide (a < (ns.length : Nat))) && kb n ns p a.toNat) al5 (WD.td (wd_and (td_leLt pd_int (nm 4 (.int a)) (pd_len nb rfl (nm 0 r1b) (n := ns.length) (by simp [lenD]))) fun h => wd_and1 ?_)) (fun h H6 x6 => ?_) (fun h H6 x6 => b_nil (b_nil ?_)))
        · obtain ⟨h1, h2⟩ := Bool.and_eq_true_iff.mp h
          have h1 := of_decide_eq_true h1
          have h2 := of_decide_eq_true h2
          obtain ⟨j, rfl⟩ : ∃ j : Nat, a = (j : Int) := ⟨a.toNat, by omega⟩
          obtain ⟨n1, n2, _⟩ := hnear j rfl
          refine TD.is (td_inS (pd_callC ck hr (by decide) rfl (ad_cons (nm 0 r1b) (ad_cons (nm 1 r2b) (ad_cons (nm 4 (.int _)) ad_nil))) ⟨ns, p, j, hp, by omega, rfl, rfl⟩) (nm 2 r3b)) ?_
          rw [kind_in (kdL_lt ns p j), kd_eq hn hp (by omega) n1 n2, Int.toNat_natCast]
          rfl
        · obtain ⟨h0, h3⟩ := Bool.and_eq_true_iff.mp h
          obtain ⟨h1, h2⟩ := Bool.and_eq_true_iff.mp h0
          have h1 := of_decide_eq_true h1
          have h2 := of_decide_eq_true h2
          obtain ⟨j, rfl⟩ : ∃ j : Nat, a = (j : Int) := ⟨a.toNat, by omega⟩
          rw [Int.toNat_natCast] at h3
          obtain ⟨n1, n2, n3⟩ := hnear j rfl
          have hj : j ∈ hIx n ns p := (hIx_kb hp (by omega) n1 n2).mpr h3
          obtain ⟨z, hz⟩ := get_i (ns := ns) (i := j) (by omega)
          have en : nearL n ns p = some z := by
            rw [nearL_of hj fun y hy => ?_, getD_of hz]
            have hy0 := hJ y hy
            obtain ⟨_, y1, y2, _⟩ := (hIx_ok hp).mp hy
            rw [n3]
            by_cases hlt : ((i + 1 : Nat) : Int) < nearK p (y : Nat)
            · exact .inl hlt
            · refine .inr ⟨by omega, ?_⟩
              have ey : nearK p (y : Nat) = ((i + 1 : Nat) : Int) := by omega
              unfold nearK at ey
              rcases hcase with ⟨_, e⟩ | ⟨hm, e⟩
              · split at ey <;> omega
              · have := hA (by omega) y hy
                split at ey <;> omega
          rw [en] at q
          exact b_cons (s_ret (al5.mono x6) (pd_ix (nm 0 (r1b.mono (fun _ z => z) (ExM.of x6))) (nm 4 (.int _)) (ixD_ints hz)) fun v7 H7 x7 r7 => q v7 H7 (((xx.trans yy).trans x6).trans x7) r7)
        · have miss : ∀ j ∈ hIx n ns p, (j : Int) ≠ a := fun j hj e => by
            obtain ⟨j1, _, _, j4⟩ := (hIx_ok hp).mp hj
            rw [← e, Int.toNat_natCast, j4, decide_eq_true (by omega), decide_eq_true (by omega)] at h
            cases h
          refine ⟨_, rfl, (ex4.trans x5).trans x6, fun hm j hj => ?_, fun hm j hj => ?_⟩
          · rcases hcase with ⟨_, e⟩ | ⟨e0, e⟩
            · rw [← e]
              exact miss j hj
            · exact hA (by omega) j hj
          · rcases hcase with ⟨e0, e⟩ | ⟨_, e⟩
            · omega
            · rw [← e]
              exact miss j hj
      · rintro H3 σ' H4 x3 ⟨xa', rfl, ex4, hA, hB⟩
        refine b_nil ⟨_, _, rfl, ((ex.trans x2).trans x3).trans ex4, fun j hj => ?_⟩
        have h0 := hJ j hj
        have h1 := hA (by show 1 ≤ 2; decide) j hj
        have h2 := hB (by show 2 ≤ 2; decide) j hj
        obtain ⟨_, j1, j2, _⟩ := (hIx_ok hp).mp hj
        unfold nearK at h0 ⊢
        split at h0 <;> rename_i hh
        · rw [if_pos hh]
          omega
        · rw [if_neg hh]
          omega
    · rintro H1 σ' H' x1 ⟨xs, xa, rfl, ex, hJ⟩
      rw [elen] at hJ
      have e : hIx n ns p = [] := by
        refine List.eq_nil_iff_forall_not_mem.mpr fun j hj => ?_
        have h0 := hJ j hj
        obtain ⟨j0, j1, j2, _⟩ := (hIx_ok hp).mp hj
        unfold nearK at h0
        split at h0 <;> omega
      rw [nearL_none e] at q
      exact b_cons (s_ret (al.mono (x1.trans ex)) pd_non fun v2 H2 x2 r2 => q v2 H2 ((x1.trans ex).trans x2) r2)
end
end FK

namespace FK
open PySem PySem.Spec PyProof.Rows L2 GV
/-! ### the helpers as stones of the two sides -/
def kf (n : Nat) (lo hi : Int) (o : Nat) (z : Int) : Bool := bitN n (ltN lo hi z + o)
def sides (n : Nat) (lo hi : Int) (A B : List Int) : List Int := A.filter (kf n lo hi 0) ++ B.filter (kf n lo hi 3)
theorem getD_map_take (ns : List Int) (p : Nat) (hp : p ≤ ns.length) : (List.range p).map (fun i => ns.getD i 0) = ns.take p := by
  refine List.ext_getElem? fun i => ?_
  rw [List.getElem?_map, List.getElem?_take]
  by_cases h : i < p
  · rw [List.getElem?_range h, if_pos h, List.getElem?_eq_getElem (by omega)]
    show some (ns.getD i 0) = _
    rw [List.getD_eq_getElem?_getD, List.getElem?_eq_getElem (by omega)]
    rfl
  · rw [if_neg h, List.getElem?_eq_none (by rw [List.length_range]; omega)]
    rfl
theorem getD_map_drop (ns : List Int) (p : Nat) : ((List.range (ns.length - p)).map (p + ·)).map (fun i => ns.getD i 0) = ns.drop p := by
  refine List.ext_getElem? fun i => ?_
  rw [List.getElem?_map, List.getElem?_map, List.getElem?_drop]
  by_cases h : i < ns.length - p
  · rw [List.getElem?_range h, List.getElem?_eq_getElem (by omega)]
    show some (ns.getD (p + i) 0) = _
    rw [List.getD_eq_getElem?_getD, List.getElem?_eq_getElem (by omega)]
    rfl
  · rw [List.getElem?_eq_none (l := ns) (by omega), List.getElem?_eq_none (by rw [List.length_range]; omega)]
    rfl
theorem map_filter_congr {l : List Nat} {f : Nat → Int} {p : Nat → Bool} {q : Int → Bool} (h : ∀ i ∈ l, p i = q (f i)) : (l.filter p).map f = (l.map f).filter q := by
  induction l with
  | nil => rfl
  | cons a l ih =>
    rw [List.map_cons, List.filter_cons, List.filter_cons, h a (List.mem_cons_self ..)]
    have := ih fun i hi => h i (List.mem_cons_of_mem _ hi)
    split
    · rw [List.map_cons, this]
    · exact this
theorem st_sides {n : Nat} {ns : List Int} {p : Nat} (hp : p + 1 < ns.length) : stL n ns p = sides n (lo2 ns p) (hi2 ns p) (ns.take p) (ns.drop (p + 2)) := by
  unfold stL hIx sides behI
  rw [List.map_append, ← getD_map_take ns p (by omega), ← getD_map_drop ns (p + 2)]
  congr 1
  · refine map_filter_congr fun i hi => ?_
    unfold kb kdN kf
    rw [if_pos (List.mem_range.mp hi)]
  · refine map_filter_congr fun i hi => ?_
    obtain ⟨j, _, rfl⟩ := List.mem_map.mp hi
    unfold kb kdN kf
    rw [if_neg (by omega)]
theorem st_len {n : Nat} {ns : List Int} {p : Nat} : (stL n ns p).length = (hIx n ns p).length := by
  unfold stL
  rw [List.length_map]
/-- a row by its parts -/
theorem sides_at {n : Nat} {A B : List Int} {x y : Int} : stL n (A ++ (x :: y :: B)) A.length = sides n (min x y) (max x y) A B := by
  have hp : A.length + 1 < (A ++ (x :: y :: B)).length := by simp
  rw [st_sides hp]
  have h1 : (A ++ (x :: y :: B)).getD A.length 0 = x := by simp
  have h2 : (A ++ (x :: y :: B)).getD (A.length + 1) 0 = y := by simp [List.getD_eq_getElem?_getD]
  unfold lo2 hi2
  rw [h1, h2, List.take_left]
  congr 1
  rw [show A.length + 2 = (A ++ [x, y]).length by simp, show A ++ (x :: y :: B) = (A ++ [x, y]) ++ B by simp, List.drop_left]
theorem row_parts {ns : List Int} {p : Nat} (hp : p + 1 < ns.length) : ∃ A x y B, ns = A ++ (x :: y :: B) ∧ A.length = p := by
  refine ⟨ns.take p, ns[p], ns[p + 1], ns.drop (p + 2), ?_, by rw [List.length_take]; omega⟩
  rw [← List.drop_eq_getElem_cons, ← List.drop_eq_getElem_cons, List.take_append_drop]
theorem mem_sides {n : Nat} {lo hi : Int} {A B : List Int} {z : Int} : z ∈ sides n lo hi A B ↔ (z ∈ A ∧ kf n lo hi 0 z = true) ∨ (z ∈ B ∧ kf n lo hi 3 z = true) := by
  unfold sides
  rw [List.mem_append, List.mem_filter, List.mem_filter]
/-! ### a stone less -/
theorem ne_nil_mem {l : List Int} : l ≠ [] ↔ ∃ z, z ∈ l := ⟨fun h => List.exists_mem_of_ne_nil l h, fun ⟨z, h⟩ => List.ne_nil_of_mem h⟩
theorem lesser {n : Nat} {ns : List Int} {p a : Nat} {z : Int} (hn : ns.Nodup) (hp : p + 1 < ns.length) (ha : ns[a]? = some z) (h1 : a ≠ p) (h2 : a ≠ p + 1) :
    (∃ q, (p : Int) - (if a < p then 1 else 0) = ((q : Nat) : Int) ∧ q + 1 < (ns.take a ++ ns.drop (a + 1)).length ∧ ((stL n (ns.take a ++ ns.drop (a + 1)) q ≠ []) ↔ ((stL n ns p).filter fun y => !decide (y = z)) ≠ [])) := by
  obtain ⟨A, x, y, B, rfl, rfl⟩ := row_parts hp
  have hal := (List.getElem?_eq_some_iff.mp ha).1
  have key : ∀ (A' B' : List Int), (∀ u, (u ∈ A' ↔ u ∈ A ∧ u ≠ z)) → (∀ u, (u ∈ B' ↔ u ∈ B ∧ u ≠ z)) → ((sides n (min x y) (max x y) A' B' ≠ []) ↔ ((sides n (min x y) (max x y) A B).filter fun y => !decide (y = z)) ≠ []) := fun A' B' hA hB => by
    rw [ne_nil_mem, ne_nil_mem]
    constructor
    · rintro ⟨u, hu⟩
      refine ⟨u, List.mem_filter.mpr ⟨mem_sides.mpr ?_, ?_⟩⟩
      · rcases mem_sides.mp hu with ⟨h, k⟩ | ⟨h, k⟩
        · exact .inl ⟨((hA u).mp h).1, k⟩
        · exact .inr ⟨((hB u).mp h).1, k⟩
      · rcases mem_sides.mp hu with ⟨h, k⟩ | ⟨h, k⟩
        · simpa using ((hA u).mp h).2
        · simpa using ((hB u).mp h).2
    · rintro ⟨u, hu⟩
      obtain ⟨h, k⟩ := List.mem_filter.mp hu
      have k : u ≠ z := by simpa using k
      refine ⟨u, mem_sides.mpr ?_⟩
      rcases mem_sides.mp h with ⟨h, k'⟩ | ⟨h, k'⟩
      · exact .inl ⟨(hA u).mpr ⟨h, k⟩, k'⟩
      · exact .inr ⟨(hB u).mpr ⟨h, k⟩, k'⟩
  obtain ⟨nA, nxB, dis⟩ := List.nodup_append.mp hn
  obtain ⟨nx, nyB⟩ := List.nodup_cons.mp nxB
  obtain ⟨ny, nB⟩ := List.nodup_cons.mp nyB
  have cut : ∀ (L : List Int) (i : Nat), L.Nodup → L[i]? = some z → ∀ u, (u ∈ L.take i ++ L.drop (i + 1) ↔ u ∈ L ∧ u ≠ z) := fun L i hL hi u => by
    obtain ⟨hil, ei⟩ := List.getElem?_eq_some_iff.mp hi
    have e : L = L.take i ++ (z :: L.drop (i + 1)) := by
      conv => lhs; rw [← List.take_append_drop i L, List.drop_eq_getElem_cons hil, ei]
    have nd := hL
    rw [e] at nd
    obtain ⟨_, n2, d2⟩ := List.nodup_append.mp nd
    obtain ⟨n3, _⟩ := List.nodup_cons.mp n2
    constructor
    · intro h
      refine ⟨?_, fun eu => ?_⟩
      · rcases List.mem_append.mp h with h | h
        · exact List.mem_of_mem_take h
        · exact List.mem_of_mem_drop h
      · subst eu
        rcases List.mem_append.mp h with h | h
        · exact d2 _ h _ (List.mem_cons_self ..) rfl
        · exact n3 h
    · rintro ⟨h, k⟩
      rw [e] at h
      rcases List.mem_append.mp h with h | h
      · exact List.mem_append_left _ h
      · rcases List.mem_cons.mp h with h | h
        · exact absurd h k
        · exact List.mem_append_right _ h
  have same : ∀ (L : List Int), z ∉ L → ∀ u, (u ∈ L ↔ u ∈ L ∧ u ≠ z) := fun L hz u => ⟨fun h => ⟨h, fun e => hz (e ▸ h)⟩, fun h => h.1⟩
  rw [sides_at]
  by_cases hlt : a < A.length
  · have haA : A[a]? = some z := by rwa [List.getElem?_append_left hlt] at ha
    have zA : z ∈ A := List.mem_of_getElem? haA
    have zB : z ∉ B := fun h => dis z zA z (List.mem_cons_of_mem _ (List.mem_cons_of_mem _ h)) rfl
    have e : (A ++ (x :: y :: B)).take a ++ (A ++ (x :: y :: B)).drop (a + 1) = (A.take a ++ A.drop (a + 1)) ++ (x :: y :: B) := by
      rw [List.take_append_of_le_length (by omega), List.drop_append_of_le_length (by omega), List.append_assoc]
    have l1 : (A.take a ++ A.drop (a + 1)).length = A.length - 1 := by
      rw [List.length_append, List.length_take, List.length_drop]
      omega
    refine ⟨(A.take a ++ A.drop (a + 1)).length, by rw [if_pos hlt, l1]; omega, by rw [e]; simp only [List.length_append, List.length_cons]; omega, ?_⟩
    rw [e, sides_at]
    exact key _ _ (cut A a nA haA) (same B zB)
  · have hle : A.length + 2 ≤ a := by omega
    obtain ⟨b, rfl⟩ : ∃ b, a = A.length + 2 + b := ⟨a - (A.length + 2), by omega⟩
    have haB : B[b]? = some z := by
      rw [List.getElem?_append_right (by omega), show A.length + 2 + b - A.length = b + 1 + 1 by omega, List.getElem?_cons_succ, List.getElem?_cons_succ] at ha
      exact ha
    have zB : z ∈ B := List.mem_of_getElem? haB
    have zA : z ∉ A := fun h => dis z h z (List.mem_cons_of_mem _ (List.mem_cons_of_mem _ zB)) rfl
    have e : (A ++ (x :: y :: B)).take (A.length + 2 + b) ++ (A ++ (x :: y :: B)).drop (A.length + 2 + b + 1) = A ++ (x :: y :: (B.take b ++ B.drop (b + 1))) := by
      have e0 : A ++ (x :: y :: B) = (A ++ [x, y]) ++ B := by simp
      have l0 : (A ++ [x, y]).length = A.length + 2 := by simp
      rw [e0, List.take_append, List.drop_append, l0, List.take_of_length_le (by rw [l0]; omega), List.drop_of_length_le (by rw [l0]; omega), show A.length + 2 + b - (A.length + 2) = b by omega, show A.length + 2 + b + 1 - (A.length + 2) = b + 1 by omega]
      simp
    refine ⟨A.length, by rw [if_neg hlt]; omega, by rw [e]; simp only [List.length_append, List.length_cons]; omega, ?_⟩
    rw [e, sides_at]
    exact key _ _ (same A zA) (cut B b nB haB)
/-! ### a stone more -/
theorem filter_ins {l : List Int} {f : Int → Bool} {k : Nat} {w : Int} (hw : f w = false) : (l.take k ++ [w] ++ l.drop k).filter f = l.filter f := by
  rw [List.filter_append, List.filter_append, List.filter_cons_of_neg (by rw [hw]; exact Bool.false_ne_true), List.filter_nil, List.append_nil, ← List.filter_append, List.take_append_drop]
/-- those of the wide row that are helpers of the row, and the new stone -/
theorem filt_sides {n : Nat} {lo hi : Int} {A B : List Int} {x y : Int} (hn : (A ++ (x :: y :: B)).Nodup) {g : Int → Bool} (hg : ∀ u ∈ A ++ (x :: y :: B), g u = decide (u ∈ sides n lo hi A B)) : (A ++ (x :: y :: B)).filter g = sides n lo hi A B := by
  obtain ⟨nA, nxB, dis⟩ := List.nodup_append.mp hn
  obtain ⟨nx, nyB⟩ := List.nodup_cons.mp nxB
  obtain ⟨ny, nB⟩ := List.nodup_cons.mp nyB
  have inA : ∀ u ∈ A, g u = kf n lo hi 0 u := fun u hu => by
    rw [hg u (List.mem_append_left _ hu), Bool.eq_iff_iff, decide_eq_true_eq, mem_sides]
    refine ⟨fun h => h.elim (fun h => h.2) fun h => absurd rfl (dis u hu u (List.mem_cons_of_mem _ (List.mem_cons_of_mem _ h.1))), fun h => .inl ⟨hu, h⟩⟩
  have inB : ∀ u ∈ B, g u = kf n lo hi 3 u := fun u hu => by
    rw [hg u (List.mem_append_right _ (List.mem_cons_of_mem _ (List.mem_cons_of_mem _ hu))), Bool.eq_iff_iff, decide_eq_true_eq, mem_sides]
    refine ⟨fun h => h.elim (fun h => absurd rfl (dis u h.1 u (List.mem_cons_of_mem _ (List.mem_cons_of_mem _ hu)))) fun h => h.2, fun h => .inr ⟨hu, h⟩⟩
  have gx : g x = false := by
    rw [hg x (by simp), decide_eq_false_iff_not, mem_sides]
    rintro (⟨h, _⟩ | ⟨h, _⟩)
    · exact dis x h x (List.mem_cons_self ..) rfl
    · exact nx (List.mem_cons_of_mem _ h)
  have gy : g y = false := by
    rw [hg y (by simp), decide_eq_false_iff_not, mem_sides]
    rintro (⟨h, _⟩ | ⟨h, _⟩)
    · exact dis y h y (by simp) rfl
    · exact ny h
  unfold sides
  rw [List.filter_append, List.filter_cons_of_neg (by rw [gx]; exact Bool.false_ne_true), List.filter_cons_of_neg (by rw [gy]; exact Bool.false_ne_true), List.filter_congr inA, List.filter_congr inB]
theorem greater {n : Nat} {ns : List Int} {p a : Nat} {w : Int} (hn : ns.Nodup) (hp : p + 1 < ns.length) (hw : w ∉ ns) (ha : a ≤ ns.length) (h1 : a ≠ p + 1) :
    ∃ q, (p : Int) + (if a ≤ p then 1 else 0) = ((q : Nat) : Int) ∧ q + 1 < (ns.take a ++ [w] ++ ns.drop a).length ∧ a ≠ q ∧ a ≠ q + 1 ∧ a < (ns.take a ++ [w] ++ ns.drop a).length ∧
      stL n (ns.take a ++ [w] ++ ns.drop a) q = if kb n (ns.take a ++ [w] ++ ns.drop a) q a = true then (ns.take a ++ [w] ++ ns.drop a).filter (fun u => decide (u ∈ stL n ns p) || decide (u = w)) else stL n ns p := by
  obtain ⟨A, x, y, B, rfl, rfl⟩ := row_parts hp
  generalize hW : (A ++ (x :: y :: B)).take a ++ [w] ++ (A ++ (x :: y :: B)).drop a = W
  have wn : W.Nodup := hW ▸ ins_nodup hn hw
  have wl : W.length = (A ++ (x :: y :: B)).length + 1 := hW ▸ ins_len _ a w
  have wa : W.getD a 0 = w := by
    rw [← hW, List.getD_eq_getElem?_getD, List.append_assoc, List.getElem?_append_right (by rw [List.length_take]; omega), List.length_take, show a - min a (A ++ (x :: y :: B)).length = 0 by omega]
    rfl
  have wA : w ∉ A := fun h => hw (List.mem_append_left _ h)
  have wB : w ∉ B := fun h => hw (List.mem_append_right _ (List.mem_cons_of_mem _ (List.mem_cons_of_mem _ h)))
  by_cases hle : a ≤ A.length
  · have e : W = (A.take a ++ [w] ++ A.drop a) ++ (x :: y :: B) := by
      rw [← hW, List.take_append_of_le_length hle, List.drop_append_of_le_length hle]
      simp
    have l1 : (A.take a ++ [w] ++ A.drop a).length = A.length + 1 := ins_len A a w
    refine ⟨(A.take a ++ [w] ++ A.drop a).length, by rw [if_pos hle, l1]; omega, by rw [wl, l1]; simp only [List.length_append, List.length_cons] at hp ⊢; omega, by omega, by omega, by omega, ?_⟩
    have ek : kb n W (A.take a ++ [w] ++ A.drop a).length a = kf n (min x y) (max x y) 0 w := by
      unfold kb kdN kf
      rw [wa, if_pos (by omega)]
      have hx : W.getD (A.take a ++ [w] ++ A.drop a).length 0 = x := by rw [e]; simp [List.getD_eq_getElem?_getD]
      have hy : W.getD ((A.take a ++ [w] ++ A.drop a).length + 1) 0 = y := by rw [e, List.getD_eq_getElem?_getD, List.getElem?_append_right (by omega), show (A.take a ++ [w] ++ A.drop a).length + 1 - (A.take a ++ [w] ++ A.drop a).length = 1 by omega]; rfl
      unfold lo2 hi2
      rw [hx, hy]
    rw [ek, sides_at]
    split
    · rename_i hk
      have es : stL n W (A.take a ++ [w] ++ A.drop a).length = sides n (min x y) (max x y) (A.take a ++ [w] ++ A.drop a) B := by rw [e]; exact sides_at
      rw [es, e]
      refine (filt_sides (by rw [← e]; exact wn) fun u hu => ?_).symm
      rw [Bool.eq_iff_iff, Bool.or_eq_true, decide_eq_true_eq, decide_eq_true_eq, decide_eq_true_eq, mem_sides, mem_sides]
      constructor
      · rintro ((⟨h, k⟩ | ⟨h, k⟩) | h)
        · exact .inl ⟨(ins_mem A a w u).mpr (.inr h), k⟩
        · exact .inr ⟨h, k⟩
        · subst h
          exact .inl ⟨(ins_mem A a u u).mpr (.inl rfl), hk⟩
      · rintro (⟨h, k⟩ | ⟨h, k⟩)
        · rcases (ins_mem A a w u).mp h with e | h
          · exact .inr e
          · exact .inl (.inl ⟨h, k⟩)
        · exact .inl (.inr ⟨h, k⟩)
    · rename_i hk
      have es : stL n W (A.take a ++ [w] ++ A.drop a).length = sides n (min x y) (max x y) (A.take a ++ [w] ++ A.drop a) B := by rw [e]; exact sides_at
      rw [es]
      unfold sides
      rw [filter_ins (by simpa using hk)]
  · have hb : A.length + 2 ≤ a := by omega
    obtain ⟨b, rfl⟩ : ∃ b, a = A.length + 2 + b := ⟨a - (A.length + 2), by omega⟩
    have hbB : b ≤ B.length := by
      simp only [List.length_append, List.length_cons] at ha
      omega
    have e : W = A ++ (x :: y :: (B.take b ++ [w] ++ B.drop b)) := by
      have e0 : A ++ (x :: y :: B) = (A ++ [x, y]) ++ B := by simp
      have l0 : (A ++ [x, y]).length = A.length + 2 := by simp
      rw [← hW, e0, List.take_append, List.drop_append, l0, List.take_of_length_le (by rw [l0]; omega), List.drop_of_length_le (by rw [l0]; omega), show A.length + 2 + b - (A.length + 2) = b by omega]
      simp
    refine ⟨A.length, by rw [if_neg hle]; omega, by rw [wl]; omega, by omega, by omega, by rw [wl]; simp only [List.length_append, List.length_cons]; omega, ?_⟩
    have ek : kb n W A.length (A.length + 2 + b) = kf n (min x y) (max x y) 3 w := by
      unfold kb kdN kf
      rw [wa, if_neg (by omega)]
      have hx : W.getD A.length 0 = x := by rw [e]; simp [List.getD_eq_getElem?_getD]
      have hy : W.getD (A.length + 1) 0 = y := by rw [e, List.getD_eq_getElem?_getD, List.getElem?_append_right (by omega), show A.length + 1 - A.length = 1 by omega]; rfl
      unfold lo2 hi2
      rw [hx, hy]
    have es : stL n W A.length = sides n (min x y) (max x y) A (B.take b ++ [w] ++ B.drop b) := by rw [e]; exact sides_at
    rw [ek, sides_at, es]
    split
    · rename_i hk
      rw [e]
      refine (filt_sides (by rw [← e]; exact wn) fun u hu => ?_).symm
      rw [Bool.eq_iff_iff, Bool.or_eq_true, decide_eq_true_eq, decide_eq_true_eq, decide_eq_true_eq, mem_sides, mem_sides]
      constructor
      · rintro ((⟨h, k⟩ | ⟨h, k⟩) | h)
        · exact .inl ⟨h, k⟩
        · exact .inr ⟨(ins_mem B b w u).mpr (.inr h), k⟩
        · subst h
          exact .inr ⟨(ins_mem B b u u).mpr (.inl rfl), hk⟩
      · rintro (⟨h, k⟩ | ⟨h, k⟩)
        · exact .inl (.inl ⟨h, k⟩)
        · rcases (ins_mem B b w u).mp h with e | h
          · exact .inr e
          · exact .inl (.inr ⟨h, k⟩)
    · rename_i hk
      unfold sides
      rw [filter_ins (by simpa using hk)]
end FK

namespace FK
open PySem PySem.Spec PyProof.Rows L2 GV
theorem eqvL (ns : List Int) : PyData.eqv (intsD ns) (intsD ns) = true := SeqAt.eqv_refl _ (SeqAt.canLay_of_shaped (shapedI ns))
theorem eqv_nil (ns : List Int) : PyData.eqv (intsD ns) (.list []) = decide (ns = []) := by
  cases ns with
  | nil => rfl
  | cons a l => rfl
theorem shaped0 : SeqAt.shaped (.list []) = true := by decide +kernel
/-- a list that is new may be written: all that was there stays -/
theorem exM_new {M : Addr → Prop} {H H1 : Hp} {g : Addr} {u : HO} (x : Evl.Ex H H1) (hg : H g = none) : ExM M H (upd H1 g u) := fun a o h _ _ => by
  rw [upd_ne (fun e => by rw [e, hg] at h; cases h)]
  exact x a o h
section
variable {P : Program} {w : World} {K : PySem.W.Frag} {mg : Str → Option Value} {base : Heap}
structure Asks (P : Program) (w : World) (K : PySem.W.Frag) (mg : Str → Option Value) (base : Heap) (CH : Addr) (T : List (Addr × Str)) : Prop where
  nb : NoB mg
  helpers : Cl P w K mg base CX0 8 "helpers" (spHP K CH fun M n ns p H Q => toL K M (stL n ns p) H Q)
  nearest : Cl P w K mg base CX0 8 "nearest_helper" (spHT K CH T fun _ n ns p H Q => toT (K := K) T (nearL n ns p) H Q)
  keystone : Cl P w K mg base CX0 9 "keystone" (spHP K CH fun M n ns p H Q => ∀ v H', Evl.Ex H H' → Rp K M H' v (optD (onlyL (stL n ns p))) → Q v H')
  is_free : Cl P w K mg base CX0 8 "is_free" (spHP K CH fun M n ns p H Q => ∀ H', Evl.Ex H H' → Q (.bl (decide (0 < (hIx n ns p).length))) H')
  free_places : Cl P w K mg base CX0 7 "free_places" (fun vs H Q _ => ∃ (M : Addr → Prop) (v : V) (h : Addr) (n : Nat) (tp : Bool) (ns : List Int), vs = [v, .ref h] ∧ Alive M H ∧ Rp K M H v (sqD tp (ns.map PyData.int)) ∧ RowL ns ∧ HAt CH n H h ∧ ¬ M h ∧ ∀ l ws H', H l = none → Evl.Ex H H' → H' l = some (.lst ws) → RpAll K M H' ws (natD (freeL n ns)) → Q (.ref l) H')
  lhelp : Cl P w K mg base CX0 2 "_law_helpers" (FreshR K R_lhelp)
  lnear : Cl P w K mg base CX0 2 "_law_nearest" (PureR K R_lnear)
  lthird : Cl P w K mg base CX0 1 "_law_third" (FreshR K R_third')
  lkind : Cl P w K mg base CX0 1 "_law_kind" (PureR K R_kind)
  list : Cl P w K mg base CX0 2 "_law_is_list" (PureR K R_list)
  one : Cl P w K mg base CX0 2 "_law_is_one" (PureR K R_one)
  truth : Cl P w K mg base CX0 1 "_law_is_truth" (PureR K R_truth)
/-- what is told of a row, a place and a house, as data -/
structure At3 (K : PySem.W.Frag) (CH : Addr) (n : Nat) (ns : List Int) (p : Nat) (H : Hp) (v : V) (h : Addr) : Prop where
  r : Rp K M0 H v (intsD ns)
  hp : p + 1 < ns.length
  row : RowL ns
  ho : HAt CH n H h
theorem At3.mono {CH : Addr} {n : Nat} {ns : List Int} {p : Nat} {H H' : Hp} {v : V} {h : Addr} (a : At3 K CH n ns p H v h) (e : ExM M0 H H') : At3 K CH n ns p H' v h := ⟨a.r.mono (fun _ z => z) e, a.hp, a.row, a.ho.exM e fun z => z⟩
theorem fd_helpers {X : Cx} {σ : St} {H : Hp} {CH h : Addr} {n : Nat} {ns : List Int} {p i j k : Nat} {v : V} {xn yn zn : Str} {P1 P2 P3 P4 pos : Pos} {T : List (Addr × Str)} (L : Asks X.prog X.w X.K X.mg X.base CH T) (hr : Room 8 X.A) (hg : Gl X "helpers") (a : At3 X.K CH n ns p H v h)
    (h1 : X.N[i]? = some xn) (h2 : X.N[j]? = some yn) (h3 : X.N[k]? = some zn) (v1 : Vis X.env.scope xn) (v2 : Vis X.env.scope yn) (v3 : Vis X.env.scope zn) (s1 : σ[i]? = some (some v)) (s2 : σ[j]? = some (some (.int (p : Nat)))) (s3 : σ[k]? = some (some (.ref h)))
    (d1 : (xn == ("__debug__" : Str)) = false := by decide) (d2 : (yn == ("__debug__" : Str)) = false := by decide) (d3 : (zn == ("__debug__" : Str)) = false := by decide) (c1 : (xn == ("__classdict__" : Str)) = false := by decide) (c2 : (yn == ("__classdict__" : Str)) = false := by decide) (c3 : (zn == ("__classdict__" : Str)) = false := by decide)
    (st1 : starEach (.Name xn P1 :: [.Name yn P2, .Name zn P3]) X.env = (false, eval (.Name xn P1) X.env) :: starEach [.Name yn P2, .Name zn P3] X.env := by rfl) (st2 : starEach (.Name yn P2 :: [.Name zn P3]) X.env = (false, eval (.Name yn P2) X.env) :: starEach [.Name zn P3] X.env := by rfl) (st3 : starEach (.Name zn P3 :: []) X.env = (false, eval (.Name zn P3) X.env) :: starEach [] X.env := by rfl) (hpl : (backTo pos (starEach [.Name yn P2, .Name zn P3] X.env)).any (·.1) = false := by rfl) :
    FD X M0 (.Call (.Name "helpers" P4) [.Name xn P1, .Name yn P2, .Name zn P3] [] pos) σ H ((stL n ns p).map PyData.int) := .mk fun H1 e1 al1 Q q => by
  have a1 := a.mono e1
  exact ce_call L.helpers hr (by decide) hg (ca_cons (ce_name h1 v1 s1 (ca_cons (ce_name h2 v2 s2 (ca_cons (ce_name h3 v3 s3 (ca_nil ⟨M0, v, _, h, n, false, ns, p, rfl, al1, a1.r, .int _, a1.hp, a1.row, a1.ho, fun z => z, q⟩) d3 c3) st3) d2 c2) st2) d1 c1) st1) (by decide) st1 hpl
theorem pd_isfree {X : Cx} {σ : St} {H : Hp} {CH h : Addr} {n : Nat} {ns : List Int} {p i k : Nat} {v : V} {xn zn : Str} {e2 : Expr} {P1 P3 P4 pos : Pos} {T : List (Addr × Str)} (L : Asks X.prog X.w X.K X.mg X.base CH T) (hr : Room 8 X.A) (hg : Gl X "is_free") (a : At3 X.K CH n ns p H v h)
    (h1 : X.N[i]? = some xn) (h3 : X.N[k]? = some zn) (v1 : Vis X.env.scope xn) (v3 : Vis X.env.scope zn) (s1 : σ[i]? = some (some v)) (hp : PD X M0 e2 σ H (.int (p : Nat))) (s3 : σ[k]? = some (some (.ref h)))
    (d1 : (xn == ("__debug__" : Str)) = false := by decide) (d3 : (zn == ("__debug__" : Str)) = false := by decide) (c1 : (xn == ("__classdict__" : Str)) = false := by decide) (c3 : (zn == ("__classdict__" : Str)) = false := by decide)
    (st1 : starEach (.Name xn P1 :: [e2, .Name zn P3]) X.env = (false, eval (.Name xn P1) X.env) :: starEach [e2, .Name zn P3] X.env := by rfl) (st2 : starEach (e2 :: [.Name zn P3]) X.env = (false, eval e2 X.env) :: starEach [.Name zn P3] X.env := by rfl) (st3 : starEach (.Name zn P3 :: []) X.env = (false, eval (.Name zn P3) X.env) :: starEach [] X.env := by rfl) (hpl : (backTo pos (starEach [e2, .Name zn P3] X.env)).any (·.1) = false := by rfl) :
    PD X M0 (.Call (.Name "is_free" P4) [.Name xn P1, e2, .Name zn P3] [] pos) σ H (.bool (decide (0 < (hIx n ns p).length))) := .mk fun H1 e1 al1 Q q => by
  have a1 := a.mono e1
  refine ce_call L.is_free hr (by decide) hg (ca_cons (ce_name h1 v1 s1 (ca_cons (ce_pd alive0 (hp.mono e1) fun u H2 x2 r2 => ca_cons (ce_name h3 v3 s3 (ca_nil ?_) d3 c3) st3) st2) d1 c1) st1) (by decide) st1 hpl
  have a2 := a1.mono (.of x2)
  exact ⟨M0, v, _, h, n, false, ns, p, rfl, alive0, a2.r, r2, a2.hp, a2.row, a2.ho, fun z => z, fun H3 x3 => q _ H3 (x2.trans x3) (.bl _)⟩
def spIP (K : PySem.W.Frag) (CH : Addr) (T : List (Addr × Str)) : Sp := fun vs H Q _ => ∃ (v kv : V) (h : Addr) (n : Nat) (ns : List Int) (p : Nat), vs = [v, .int (p : Nat), .ref h, kv] ∧ At3 K CH n ns p H v h ∧ Rp K M0 H kv (strsD (kindsL n)) ∧ LamX.Tabs T H ∧ ∀ H', ExM M0 H H' → LamX.Tabs T H' → Q (.bl true) H'
end
end FK

namespace FK
open PySem PySem.Spec PyProof.Rows L2 GV
theorem tabs_eqB {a : Addr} {H H' : Hp} {T : List (Addr × Str)} {xs : List V} (t : LamX.Tabs T H) (e : ExB a H H') (h : H a = some (.lst xs)) : LamX.Tabs T H' := GV.Tabs.exS (S := fun x => x = a) t (fun x o n h => e x o n h) fun x e => ⟨_, e ▸ h⟩
theorem only_eq (zs : List Int) : onlyL zs = if zs.length = 1 then zs[0]? else none := by
  match zs with
  | [] => rfl
  | [z] => rfl
  | _ :: _ :: _ => rfl
section
variable {P : Program} {w : World} {K : PySem.W.Frag} {mg : Str → Option Value} {base : Heap}
/-- nearest_helper against the law's own, whatever the row is handed as -/
theorem ce_near {X : Cx} {σ : St} {H : Hp} {CH h : Addr} {n : Nat} {ns : List Int} {p : Nat} {v kv : V} {e1 e2 e3 e4 e5 e6 : Expr} {P1 P2 P3 pA pB pC : Pos} {T : List (Addr × Str)} {Q : VK} (L : Asks X.prog X.w X.K X.mg X.base CH T) (hr : Room 8 X.A) (tp : Bool)
    (hg : Gl X "_law_is_one") (hg2 : Gl X "nearest_helper") (hg3 : Gl X "_law_nearest") (a : At3 X.K CH n ns p H v h) (hT : LamX.Tabs T H) (rk : Rp X.K M0 H kv (strsD (kindsL n)))
    (g1 : PD X M0 e1 σ H (sqD tp (ns.map PyData.int))) (g2 : ∀ H' (Q : VK), Q (.int (p : Nat)) H' → wE X e2 σ H' Q) (g3 : ∀ H' (Q : VK), Q (.ref h) H' → wE X e3 σ H' Q) (g4 : ∀ H' (Q : VK), Q v H' → wE X e4 σ H' Q) (g5 : ∀ H' (Q : VK), Q (.int (p : Nat)) H' → wE X e5 σ H' Q) (g6 : ∀ H' (Q : VK), Q kv H' → wE X e6 σ H' Q)
    (q : ∀ H', ExM M0 H H' → LamX.Tabs T H' → Q (.bl true) H')
    (b1 : starEach (e1 :: [e2, e3]) X.env = (false, eval e1 X.env) :: starEach [e2, e3] X.env := by rfl) (b2 : starEach (e2 :: [e3]) X.env = (false, eval e2 X.env) :: starEach [e3] X.env := by rfl) (b3 : starEach (e3 :: []) X.env = (false, eval e3 X.env) :: starEach [] X.env := by rfl)
    (b4 : starEach (e4 :: [e5, e6]) X.env = (false, eval e4 X.env) :: starEach [e5, e6] X.env := by rfl) (b5 : starEach (e5 :: [e6]) X.env = (false, eval e5 X.env) :: starEach [e6] X.env := by rfl) (b6 : starEach (e6 :: []) X.env = (false, eval e6 X.env) :: starEach [] X.env := by rfl)
    (h1 : (backTo pA (starEach [e2, e3] X.env)).any (·.1) = false := by rfl) (h2 : (backTo pB (starEach [e5, e6] X.env)).any (·.1) = false := by rfl) :
    wE X (.Call (.Name "_law_is_one" P1) [.Call (.Name "nearest_helper" P2) [e1, e2, e3] [] pA, .Call (.Name "_law_nearest" P3) [e4, e5, e6] [] pB] [] pC) σ H Q := by
  refine ce_call L.one hr (by decide) hg (ca_cons (ce_call L.nearest hr (by decide) hg2 (ca_cons (ce_pd alive0 g1 fun u H2 x2 r2 => ca_cons (g2 _ _ (ca_cons (g3 _ _ (ca_nil ?_)) b3)) b2) b1) (by decide) b1 h1))
  have a2 := a.mono (.of x2)
  refine ⟨M0, u, _, h, n, tp, ns, p, rfl, alive0, r2, .int _, a.hp, a.row, a2.ho, fun z => z, hT.ext x2, fun v3 H3 e3' T3 r3 => ?_⟩
  have e03 : ExM M0 H H3 := (ExM.of x2).trans e3'
  have a3 := a.mono e03
  refine ca_cons (ce_pd alive0 (d := optD (nearL n ns p)) (.mk fun H4 e4' al4 Q q => ce_call L.lnear hr (by decide) hg3 (ca_cons (g4 _ _ (ca_cons (g5 _ _ (ca_cons (g6 _ _ (ca_nil ⟨M0, [intsD ns, .int (p : Nat), strsD (kindsL n)], _, alive0, .cons (a3.mono e4').r (.cons (.int _) (.cons (rk.mono (fun _ z => z) (e03.trans e4')) .nil)), ⟨n, ns, p, a.hp, Nat.le_trans a.row.1 (by decide), a.row.2.2, rfl, rfl⟩, q⟩)) b6)) b5)) b4) (by decide) b4 h2) fun v5 H5 x5 r5 => ca_nil ⟨M0, [optD (nearL n ns p), optD (nearL n ns p)], .bool true, alive0, .cons (r3.mono (fun _ z => z) (.of x5)) (.cons r5 .nil), ⟨_, rfl, rfl⟩, fun v6 H6 x6 r6 => ?_⟩)
  cases r6
  exact q H6 (e03.trans (.of (x5.trans x6))) (T3.ext (x5.trans x6))
theorem cl_is_place_kept {f CH : Addr} {fd : FuncData} {T : List (Addr × Str)} (F : At K mg "_law_is_place" s_law_is_place f fd) (L : Asks P w K mg base CH T) : Cl P w K mg base CX0 10 "_law_is_place" (spIP K CH T) := by
  refine ⟨f, fd, _, F.fn.ok sc_law_is_place (fun vs H Q E h => ?_) (fun cdv A outer sh H vs Q E hr h => ⟨_, wB.ps, ?_⟩), F.gl, F.fn.kp, F.fn.binds fun _ _ _ _ _ _ us hl => match us, hl with | [_, _, _, _], _ => rfl⟩
  · obtain ⟨v, kv, h, n, ns, p, rfl, _⟩ := h
    rfl
  obtain ⟨v, kv, h, n, ns, p, rfl, a, rk, hT, q⟩ := h
  have nb := L.nb
  have hr8 : Room 8 _ := hr.mono (by decide : 8 ≤ 9)
  have hl := a.row.1
  have zl : (stL n ns p).length ≤ 1000 := by
    rw [st_len]
    have h1 := List.length_filter_le (kb n ns p) (List.range p)
    have h2 := List.length_filter_le (kb n ns p) (behI ns p)
    have h3 : (behI ns p).length = ns.length - (p + 2) := by
      unfold behI
      rw [List.length_map, List.length_range]
    rw [List.length_range] at h1
    have := a.hp
    unfold hIx
    rw [List.length_append]
    omega
  -- due
  refine b_cons (cs_set (i := 4) sc_law_is_place.nd rfl (.inl rfl) (ce_fd alive0 (fd_callC L.lhelp hr (by decide) rfl (ad_cons (nm 0 a.r) (ad_cons (nm 1 (.int (p : Nat))) (ad_cons (nm 3 rk) ad_nil))) ⟨n, ns, p, a.hp, by omega, a.row.2.2, rfl, rfl⟩) fun ld wd H1 hld x1 hd1 rd1 => ?_))
  generalize hz : stL n ns p = zs at zl rd1
  have a1 := a.mono (.of x1)
  have rd : Rp K M0 H1 (.ref ld) (intsD zs) := .lst (fun z => z) (.inl hd1) rd1
  -- only
  refine b_cons (s_set (i := 5) (d := optD (onlyL zs)) alive0 sc_law_is_place.nd rfl (.inl rfl) (pd_if (k := decide (zs.length = 1)) (TD.is (td_eq hr.units (pd_len nb rfl (nm 4 rd) (n := zs.length) (by simp [lenD])) pd_int rfl rfl) ?_) (fun k => ?_) (fun k => ?_)) fun vo H2 x2 ro => ?_)
  · rw [eqv_int, Bool.eq_iff_iff, decide_eq_true_eq, decide_eq_true_eq]
    omega
  · match zs, of_decide_eq_true k with
    | [z], _ => exact pd_ix (nm 4 rd) pd_int rfl
  · have e : onlyL zs = none := by
      rw [only_eq, if_neg (of_decide_eq_false k)]
    rw [e]
    exact pd_non
  -- given
  refine b_cons (cs_set (i := 6) sc_law_is_place.nd rfl (.inl rfl) (ce_fd alive0 (fd_listOf rfl nb.list (nm 0 (a1.mono (.of x2)).r) rfl) fun lg wg H3 hlg x3 hg3 rg3 => ?_))
  have ag : At3 K CH n ns p H3 (.ref lg) h := ⟨.lst (fun z => z) (.inl hg3) rg3, a.hp, a.row, (a1.mono (.of (x2.trans x3))).ho⟩
  have a3 := a1.mono (.of (x2.trans x3))
  have rd3 := rd.mono (fun _ z => z) (ExM.of (x2.trans x3))
  have ro3 := ro.mono (fun _ z => z) (ExM.of x3)
  -- got
  refine b_cons (cs_set (i := 7) sc_law_is_place.nd rfl (.inl rfl) (ce_fd alive0 (fd_helpers (i := 6) (j := 1) (k := 2) L hr8 rfl ag rfl rfl rfl (.inl rfl) (.inl rfl) (.inl rfl) rfl rfl rfl) fun lo wo H4 hlo x4 ho4 ro4 => ?_))
  rw [hz] at ro4
  have rgot : Rp K M0 H4 (.ref lo) (intsD zs) := .lst (fun z => z) (.inl ho4) ro4
  have ag4 := ag.mono (.of x4)
  have a4 := a3.mono (.of x4)
  have rd4 := rd3.mono (fun _ z => z) (ExM.of x4)
  refine b_cons (s_if (k := false) alive0 (TD.is (WD.td (wd_or (td_not (k := true) (td_val (pd_callC L.list hr (by decide) rfl (ad_cons (nm 7 rgot) (ad_cons (nm 4 rd4) ad_nil)) ⟨zs, zl, rfl, rfl⟩))) fun _ => wd_or1 (td_ne hr.units (nm 6 ag4.r) (nm 0 a4.r) (shapedI ns) (shapedI ns)))) (by rw [eqvL]; rfl)) (fun k => by cases k) (fun _ H5 x5 => b_nil ?_))
  -- got.reverse(); got.append(0)
  refine b_cons (cs_expr (ce_reverse (l := lo) (xs := wo) (ce_nm 7 ⟨rfl, x5 _ _ ho4, ?_⟩)))
  have lw : wo.length ≤ 1000 := by
    rw [ro4.length, List.length_map]
    exact zl
  refine b_cons (cs_expr (ce_append (ce_nm 7 ⟨lo, _, rfl, upd_same, ce_pd alive0 pd_int fun v6 H6 x6 r6 => ⟨_, x6 _ _ upd_same, by rw [List.length_reverse]; omega, ?_⟩⟩)))
  generalize hH7 : upd H6 lo (HO.lst (wo.reverse ++ [v6])) = H7
  have e37 : ExM M0 H3 H7 := by
    intro b o hb _ _
    rw [← hH7, upd_ne (fun e => by rw [e, hlo] at hb; cases hb)]
    refine x6 _ _ ?_
    rw [upd_ne (fun e => by rw [e, hlo] at hb; cases hb)]
    exact x5 _ _ (x4 _ _ hb)
  have T5 : LamX.Tabs T H5 := hT.ext ((x1.trans x2).trans (x3.trans (x4.trans x5)))
  have e57 : ExB lo H5 H7 := by
    intro b o nb' hb
    rw [← hH7, upd_ne nb']
    exact x6 _ _ (by rw [upd_ne nb']; exact hb)
  have T7 : LamX.Tabs T H7 := tabs_eqB T5 e57 (x5 _ _ ho4)
  have e07 : ExM M0 H H7 := (ExM.of (x1.trans (x2.trans x3))).trans e37
  have ag7 := ag.mono e37
  have a7 := a3.mono e37
  have rd7 := rd3.mono (fun _ z => z) e37
  have ro7 := rp_opt (M := M0) (ro3.mono (fun _ z => z) e37)
  have rk7 := rk.mono (fun _ z => z) e07
  -- once more
  refine b_cons (s_if (k := false) alive0 (td_not (k := true) (td_val (pd_callC L.list hr (by decide) rfl (ad_cons (FD.pd (fd_helpers (i := 6) (j := 1) (k := 2) L hr8 rfl ag7 rfl rfl rfl (.inl rfl) (.inl rfl) (.inl rfl) rfl rfl rfl)) (ad_cons (nm 4 rd7) ad_nil)) ⟨zs, zl, by rw [hz], rfl⟩))) (fun k => by cases k) (fun _ H8 x8 => b_nil ?_))
  have ag8 := ag7.mono (.of x8)
  have a8 := a7.mono (.of x8)
  have rk8 := rk7.mono (fun _ z => z) (.of x8)
  refine b_cons (cs_if (ct_not (ct_val (ce_near (P1 := _) L hr8 false rfl rfl rfl a8 (T7.ext x8) rk8 (nm 6 ag8.r) (fun H' Q hq => ce_nm 1 hq) (fun H' Q hq => ce_nm 2 hq) (fun H' Q hq => ce_nm 0 hq) (fun H' Q hq => ce_nm 1 hq) (fun H' Q hq => ce_nm 3 hq) fun H9 e9 T9 => ⟨true, rfl, ?_⟩))))
  rw [if_neg (by decide)]
  have a9 := a8.mono e9
  have rk9 := rk8.mono (fun _ z => z) e9
  refine b_nil (b_cons (cs_if (ct_not (ct_val (ce_near (P1 := _) L hr8 true rfl rfl rfl a9 T9 rk9 (pd_tupleOf rfl nb.tuple (nm 0 a9.r) rfl) (fun H' Q hq => ce_nm 1 hq) (fun H' Q hq => ce_nm 2 hq) (fun H' Q hq => ce_nm 0 hq) (fun H' Q hq => ce_nm 1 hq) (fun H' Q hq => ce_nm 3 hq) fun H10 e10 T10 => ⟨true, rfl, ?_⟩)))))
  rw [if_neg (by decide)]
  have e710 : ExM M0 H7 H10 := (ExM.of x8).trans (e9.trans e10)
  have ag10 := ag7.mono e710
  have a10 := a7.mono e710
  have rd10 := rd7.mono (fun _ z => z) e710
  have ro10 := ro7.mono (fun _ z => z) e710
  -- keystone
  refine b_nil (b_cons (s_if (k := false) alive0 (TD.is (WD.td (wd_or (td_not (k := true) (td_val (pd_callC L.one hr (by decide) rfl (ad_cons (d := optD (onlyL zs)) (.mk fun H1' e1' al1 Q q => ce_call L.keystone hr (by decide) rfl (ca_cons (ce_nm 6 (ca_cons (ce_nm 1 (ca_cons (ce_nm 2 (ca_nil ⟨M0, _, _, h, n, false, ns, p, rfl, al1, (ag10.mono e1').r, .int _, a.hp, a.row, (ag10.mono e1').ho, fun z => z, by show ∀ (v : V) (H' : Hp), Evl.Ex H1' H' → Rp K M0 H' v (optD (onlyL (stL n ns p))) → Q v H'; rw [hz]; exact q⟩)))))))) (ad_cons (nm 5 ro10) ad_nil)) ⟨_, rfl, rfl⟩))) fun _ => wd_or1 (td_ne hr.units (nm 6 ag10.r) (nm 0 a10.r) (shapedI ns) (shapedI ns)))) (by rw [eqvL]; rfl)) (fun k => by cases k) (fun _ H11 x11 => b_nil ?_)))
  have ag11 := ag10.mono (.of x11)
  have a11 := a10.mono (.of x11)
  have rd11 := rd10.mono (fun _ z => z) (ExM.of x11)
  refine b_cons (s_ret (d := .bool true) alive0 (PD.is (pd_and (k1 := true) (k2 := true) (pd_callC L.truth hr (by decide) rfl (ad_cons (pd_isfree (i := 6) (k := 2) L hr8 rfl ag11 rfl rfl (.inl rfl) (.inl rfl) rfl (nm 1 (.int (p : Nat))) rfl) (ad_cons (PD.is (pd_ne hr.units (nm 4 rd11) (FD.pd (fd_lst ad_nil (by simp))) (shapedI zs) shaped0) ?_) ad_nil)) ⟨_, rfl, rfl⟩) fun _ => pd_one (PD.is (pd_eq hr.units (nm 6 ag11.r) (nm 0 a11.r) (shapedI ns) (shapedI ns)) (by rw [eqvL]))) rfl) fun v12 H12 x12 r12 => ?_)
  · rw [eqv_nil, ← hz]
    congr 1
    rw [← st_len (n := n) (ns := ns) (p := p), Bool.eq_iff_iff]
    cases stL n ns p <;> simp
  · cases r12
    exact q H12 (e07.trans (e710.trans (.of (x11.trans x12)))) (T10.ext (x11.trans x12))
end
end FK

namespace FK
open PySem PySem.Spec PyProof.Rows L2 GV
def natI (l : List Nat) : List Int := l.map fun i => ((i : Nat) : Int)
theorem natD_eq (l : List Nat) : natD l = (natI l).map PyData.int := by
  unfold natD natI
  rw [List.map_map]
  rfl
theorem cutD_dropI (ns : List Int) (i : Nat) : cutD (ns.map PyData.int) (some (i : Int)) none = (ns.drop i).map PyData.int := by rw [cutD_drop, List.map_drop]
theorem cutD_takeI (ns : List Int) (i : Nat) : cutD (ns.map PyData.int) none (some (i : Int)) = (ns.take i).map PyData.int := by rw [cutD_take, List.map_take]
theorem row_less {ns : List Int} (a : Nat) (h : RowL ns) : RowL (ns.take a ++ ns.drop (a + 1)) := by
  rw [← List.eraseIdx_eq_take_drop_succ]
  have sub := List.eraseIdx_sublist ns a
  exact ⟨Nat.le_trans sub.length_le h.1, fun z hz => h.2.1 z (sub.subset hz), h.2.2.sublist sub⟩
def frB (n : Nat) (ns : List Int) : PyData → Bool
  | .int i => decide (0 < (hIx n ns i.toNat).length)
  | _ => false
def notD (z : Int) : PyData → Bool
  | .int i => !decide (i = z)
  | _ => false
section
variable {P : Program} {w : World} {K : PySem.W.Frag} {mg : Str → Option Value} {base : Heap}
theorem fd_free {X : Cx} {σ : St} {H : Hp} {CH h : Addr} {n : Nat} {ns : List Int} {k : Nat} {zn : Str} {e1 : Expr} {tp : Bool} {P3 P4 pos : Pos} {T : List (Addr × Str)} (L : Asks X.prog X.w X.K X.mg X.base CH T) (hr : Room 8 X.A) (hg : Gl X "free_places") (row : RowL ns) (ho : HAt CH n H h)
    (g1 : PD X M0 e1 σ H (sqD tp (ns.map PyData.int))) (h3 : X.N[k]? = some zn) (v3 : Vis X.env.scope zn) (s3 : σ[k]? = some (some (.ref h))) (d3 : (zn == ("__debug__" : Str)) = false := by decide) (c3 : (zn == ("__classdict__" : Str)) = false := by decide)
    (st1 : starEach (e1 :: [.Name zn P3]) X.env = (false, eval e1 X.env) :: starEach [.Name zn P3] X.env := by rfl) (st3 : starEach (.Name zn P3 :: []) X.env = (false, eval (.Name zn P3) X.env) :: starEach [] X.env := by rfl) (hpl : (backTo pos (starEach [.Name zn P3] X.env)).any (·.1) = false := by rfl) :
    FD X M0 (.Call (.Name "free_places" P4) [e1, .Name zn P3] [] pos) σ H ((natI (freeL n ns)).map PyData.int) := .mk fun H1 e1' al1 Q q => by
  refine ce_call L.free_places hr (by decide) hg (ca_cons (ce_pd alive0 (g1.mono e1') fun u H2 x2 r2 => ca_cons (ce_name h3 v3 s3 (ca_nil ⟨M0, u, h, n, tp, ns, rfl, alive0, r2, row, (ho.exM e1' fun z => z).exM (ExM.of (M := M0) x2) fun z => z, fun z => z, fun l ws H3 hl x3 h3' r3 => q l ws H3 (Evl.fresh_back x2 hl) (x2.trans x3) h3' (by rw [← natD_eq]; exact r3)⟩) d3 c3) st3) st1) (by decide) st1 hpl
def spFL (K : PySem.W.Frag) (CH : Addr) (T : List (Addr × Str)) : Sp := fun vs H Q _ => ∃ (v kv : V) (h : Addr) (n : Nat) (ns : List Int), vs = [v, .ref h, kv] ∧ Rp K M0 H v (intsD ns) ∧ RowL ns ∧ HAt CH n H h ∧ Rp K M0 H kv (strsD (kindsL n)) ∧ LamX.Tabs T H ∧ ∀ H', ExM M0 H H' → LamX.Tabs T H' → Q (.bl true) H'
theorem cl_is_free_list {f CH : Addr} {fd : FuncData} {T : List (Addr × Str)} (F : At K mg "_law_is_free_list" s_law_is_free_list f fd) (L : Asks P w K mg base CH T) : Cl P w K mg base CX0 10 "_law_is_free_list" (spFL K CH T) := by
  refine ⟨f, fd, _, F.fn.ok sc_law_is_free_list (fun vs H Q E h => ?_) (fun cdv A outer sh H vs Q E hr h => ⟨_, wB.ps, ?_⟩), F.gl, F.fn.kp, F.fn.binds fun _ _ _ _ _ _ us hl => match us, hl with | [_, _, _], _ => rfl⟩
  · obtain ⟨v, kv, h, n, ns, rfl, _⟩ := h
    rfl
  obtain ⟨v, kv, h, n, ns, rfl, r, row, ho, rk, hT, q⟩ := h
  have nb := L.nb
  have hr8 : Room 8 _ := hr.mono (by decide : 8 ≤ 9)
  have hl := row.1
  refine b_cons (s_setLc (i := 3) (t := .one 6) (own := [("place", 6)]) (M := M0) (ds := (List.range ((ns.length : Int) - 1).toNat).map fun i => PyData.int (0 + (i : Nat))) rfl sc_law_is_free_list.nd ?_ (blkOk_by (N := n_law_is_free_list) (sc := defScope s_law_is_free_list) (by decide +kernel)) (fun _ _ _ _ _ => pg_name (i := 6) sc_law_is_free_list.nd rfl (.inl rfl)) (fun _ _ => trivial) ?_ (frB n ns) id ?_ ?_ alive0 rfl rfl rfl fun ld wd H1 hld x1 hd1 rd1 => ?_)
  · exact src_range1 rfl nb.range (pd_sub (pd_len nb rfl (nm 0 r) (n := ns.length) (by simp [lenD])) pd_int) (by omega) (by omega)
  · rintro M H d σ' ⟨v, _, rfl⟩
    rfl
  · rw [List.length_map, List.length_range]
    omega
  · rintro s0 H0 C cl fp M' H' d σ' hM lift hd ⟨v', rv, rfl⟩
    obtain ⟨i, hi, rfl⟩ := List.mem_map.mp hd
    have hi := List.mem_range.mp hi
    rw [Int.zero_add] at rv ⊢
    refine ⟨tsd_one (TD.is (td_ne hr.units (FD.pd (fd_callC L.lhelp hr (by decide) rfl (ad_cons (nm 0 (lift _ _ r)) (ad_cons (nm 6 rv) (ad_cons (nm 2 (lift _ _ rk)) ad_nil))) ⟨n, ns, i, by omega, by omega, row.2.2, rfl, rfl⟩)) (FD.pd (fd_lst ad_nil (by simp))) (shapedI _) shaped0) ?_), fun _ => nm 6 rv⟩
    rw [eqv_nil]
    show _ = decide (0 < (hIx n ns ((i : Nat) : Int).toNat).length)
    rw [Int.toNat_natCast, ← st_len (n := n) (ns := ns) (p := i), Bool.eq_iff_iff]
    cases stL n ns i <;> simp
  have ed : ((((List.range ((ns.length : Int) - 1).toNat).map fun i => PyData.int (0 + (i : Nat))).filter (frB n ns)).map id) = (natI (freeL n ns)).map PyData.int := by
    rw [List.map_id, List.filter_map, ← natD_eq]
    unfold natD freeL
    rw [show ((ns.length : Int) - 1).toNat = ns.length - 1 by omega]
    have e1 : (frB n ns ∘ fun i : Nat => PyData.int (0 + (i : Nat))) = fun p => decide (0 < (hIx n ns p).length) := by
      funext i
      show decide (0 < (hIx n ns (0 + (i : Int)).toNat).length) = _
      rw [show (0 + (i : Int)).toNat = i by omega]
    rw [e1]
    exact List.map_congr_left fun i _ => by rw [Int.zero_add]
  rw [ed] at rd1
  have zl : (natI (freeL n ns)).length ≤ 1000 := by
    unfold natI freeL
    rw [List.length_map]
    have := List.length_filter_le (fun p => decide (0 < (hIx n ns p).length)) (List.range (ns.length - 1))
    rw [List.length_range] at this
    omega
  generalize hz : natI (freeL n ns) = zs at rd1 zl
  have rd : Rp K M0 H1 (.ref ld) (intsD zs) := .lst (fun z => z) (.inl hd1) rd1
  have r1 := r.mono (fun _ z => z) (ExM.of x1)
  refine b_cons (cs_set (i := 4) sc_law_is_free_list.nd rfl (.inl rfl) (ce_fd alive0 (fd_listOf rfl nb.list (nm 0 r1) rfl) fun lg wg H3 hlg x3 hg3 rg3 => ?_))
  have rg : Rp K M0 H3 (.ref lg) (intsD ns) := .lst (fun z => z) (.inl hg3) rg3
  have ho3 : HAt CH n H3 h := (ho.ex fun o => x1 _ _).ex fun o => x3 _ _
  have r3 := r1.mono (fun _ z => z) (ExM.of x3)
  have rd3 := rd.mono (fun _ z => z) (ExM.of x3)
  refine b_cons (cs_set (i := 5) sc_law_is_free_list.nd rfl (.inl rfl) (ce_fd alive0 (fd_free (k := 1) (tp := false) L hr8 rfl row ho3 (nm 4 rg) rfl (.inl rfl) rfl) fun lo wo H4 hlo x4 ho4 ro4 => ?_))
  rw [hz] at ro4
  have rgot : Rp K M0 H4 (.ref lo) (intsD zs) := .lst (fun z => z) (.inl ho4) ro4
  have rg4 := rg.mono (fun _ z => z) (ExM.of x4)
  have r4 := r3.mono (fun _ z => z) (ExM.of x4)
  have rd4 := rd3.mono (fun _ z => z) (ExM.of x4)
  refine b_cons (s_if (k := false) alive0 (TD.is (WD.td (wd_or (td_not (k := true) (td_val (pd_callC L.list hr (by decide) rfl (ad_cons (nm 5 rgot) (ad_cons (nm 3 rd4) ad_nil)) ⟨zs, zl, rfl, rfl⟩))) fun _ => wd_or1 (td_ne hr.units (nm 4 rg4) (nm 0 r4) (shapedI ns) (shapedI ns)))) (by rw [eqvL]; rfl)) (fun k => by cases k) (fun _ H5 x5 => b_nil ?_))
  have lw : wo.length ≤ 1000 := by
    rw [ro4.length, List.length_map]
    exact zl
  refine b_cons (cs_expr (ce_append (ce_nm 5 ⟨lo, _, rfl, x5 _ _ ho4, ce_pd alive0 pd_int fun v6 H6 x6 r6 => ⟨_, x6 _ _ (x5 _ _ ho4), by omega, ?_⟩⟩)))
  generalize hH7 : upd H6 lo (HO.lst (wo ++ [v6])) = H7
  have e37 : ExM M0 H3 H7 := by
    intro b o hb _ _
    rw [← hH7, upd_ne (fun e => by rw [e, hlo] at hb; cases hb)]
    exact x6 _ _ (x5 _ _ (x4 _ _ hb))
  have T5 : LamX.Tabs T H5 := hT.ext (x1.trans (x3.trans (x4.trans x5)))
  have e57 : ExB lo H5 H7 := by
    intro b o nb' hb
    rw [← hH7, upd_ne nb']
    exact x6 _ _ hb
  have T7 : LamX.Tabs T H7 := tabs_eqB T5 e57 (x5 _ _ ho4)
  have r7 := r3.mono (fun _ z => z) e37
  have rd7 := rd3.mono (fun _ z => z) e37
  have ho7 : HAt CH n H7 h := ho3.exM e37 fun z => z
  refine b_cons (s_ret alive0 (pd_callC L.list hr (by decide) rfl (ad_cons (FD.pd (fd_free (k := 1) (tp := true) L hr8 rfl row ho7 (pd_tupleOf rfl nb.tuple (nm 0 r7) rfl) rfl (.inl rfl) rfl)) (ad_cons (nm 3 rd7) ad_nil)) ⟨zs, zl, by rw [hz], rfl⟩) fun v8 H8 x8 r8 => ?_)
  cases r8
  exact q H8 ((ExM.of (x1.trans x3)).trans (e37.trans (.of x8))) (T7.ext x8)
/-! ### a stone less -/
def spLs (K : PySem.W.Frag) (CH : Addr) : Sp := fun vs H Q _ => ∃ (v kv : V) (h : Addr) (n : Nat) (ns : List Int) (p : Nat), vs = [v, .int (p : Nat), .ref h, kv] ∧ At3 K CH n ns p H v h ∧ Rp K M0 H kv (strsD (kindsL n)) ∧ ∀ H', Evl.Ex H H' → Q (.bl true) H'
theorem cl_is_lesser {f CH : Addr} {fd : FuncData} {T : List (Addr × Str)} (F : At K mg "_law_is_lesser" s_law_is_lesser f fd) (L : Asks P w K mg base CH T) : Cl P w K mg base CX0 10 "_law_is_lesser" (spLs K CH) := by
  refine ⟨f, fd, _, F.fn.ok sc_law_is_lesser (fun vs H Q E h => ?_) (fun cdv A outer sh H vs Q E hr h => ⟨_, wB.ps, ?_⟩), F.gl, F.fn.kp, F.fn.binds fun _ _ _ _ _ _ us hl => match us, hl with | [_, _, _, _], _ => rfl⟩
  · obtain ⟨v, kv, h, n, ns, p, rfl, _⟩ := h
    rfl
  obtain ⟨v, kv, h, n, ns, p, rfl, a, rk, q⟩ := h
  have nb := L.nb
  have hr8 : Room 8 _ := hr.mono (by decide : 8 ≤ 9)
  have hl := a.row.1
  have hp := a.hp
  refine b_cons (cs_set (i := 4) sc_law_is_lesser.nd rfl (by first | exact .inl rfl | exact .inr rfl) (ce_fd alive0 (fd_callC L.lhelp hr (by decide) rfl (ad_cons (nm 0 a.r) (ad_cons (nm 1 (.int (p : Nat))) (ad_cons (nm 3 rk) ad_nil))) ⟨n, ns, p, a.hp, by omega, a.row.2.2, rfl, rfl⟩) fun ld wd H1 hld x1 hd1 rd1 => ?_))
  have a1 := a.mono (.of x1)
  have rd : Rp K M0 H1 (.ref ld) (intsD (stL n ns p)) := .lst (fun z => z) (.inl hd1) rd1
  have zl : (stL n ns p).length ≤ 100000 := by
    have h1 := rd1.length
    rw [st_len]
    have h1 := List.length_filter_le (kb n ns p) (List.range p)
    have h2 := List.length_filter_le (kb n ns p) (behI ns p)
    have h3 : (behI ns p).length = ns.length - (p + 2) := by
      unfold behI
      rw [List.length_map, List.length_range]
    rw [List.length_range] at h1
    unfold hIx
    rw [List.length_append]
    omega
  refine b_cons (s_for (t := .one 5) PassesOwn.never rfl (src_list (FD.pd (fd_callC L.lthird hr (by decide) rfl (ad_cons (nm 0 a1.r) (ad_cons (nm 1 (.int (p : Nat))) ad_nil)) ⟨ns, p, by omega, rfl, rfl⟩))) (pg_name (i := 5) sc_law_is_lesser.nd rfl (by first | exact .inl rfl | exact .inr rfl)) (M := M0) alive0
    (fun Hs i σ' H' => ∃ x5 x6 x7 x8, σ' = [some v, some (.int (p : Nat)), some (.ref h), some kv, some (.ref ld), x5, x6, x7, x8] ∧ Evl.Ex Hs H') ?_ ?_ (fun _ _ => trivial) ?_ ?_)
  · exact fun H2 x2 => ⟨_, _, _, _, rfl, Evl.Ex.refl _⟩
  · rintro H2 i σ' H' x2 ⟨_, _, _, _, _, ex⟩
    exact ⟨.of ex, alive0⟩
  · rintro H2 i d σ' H' H3 σ2 x2 hd ⟨x5, x6, x7, x8, rfl, ex⟩ x3 ⟨va, ra, rfl⟩
    obtain ⟨t, ht, rfl⟩ : ∃ t : Nat, t ∈ thL ns.length p ∧ d = .int (t : Nat) := by
      have := List.mem_of_getElem? hd
      unfold natD at this
      obtain ⟨t, h1, h2⟩ := List.mem_map.mp this
      exact ⟨t, h1, h2.symm⟩
    cases ra
    obtain ⟨t1, t2, t3⟩ := th_mem.mp ht
    obtain ⟨z, hz⟩ := get_i (ns := ns) (i := t) t1
    have xx := (x2.trans ex).trans x3
    have a3 := a1.mono (.of xx)
    have rd3 := rd.mono (fun _ z => z) (ExM.of xx)
    obtain ⟨qq, e1, e2, e3⟩ := lesser (n := n) a.row.2.2 hp hz t2 t3
    have i1 : ((t : Nat) : Int) + 1 = ((t + 1 : Nat) : Int) := by omega
    -- rest
    refine b_cons (cs_set (i := 6) sc_law_is_lesser.nd rfl (.inl rfl) (ce_fd alive0 (fd_cat (es := (ns.take t).map PyData.int) (fs := (ns.drop (t + 1)).map PyData.int) (PD.is (FD.pd (fd_slice (nm 0 a3.r) od_none (od_some (nm 5 (.int (t : Nat)))))) (congrArg PyData.list (cutD_takeI ns t))) (PD.is (FD.pd (fd_slice (nm 0 a3.r) (od_some (PD.is (pd_add (nm 5 (.int (t : Nat))) pd_int) (congrArg PyData.int i1))) od_none)) (congrArg PyData.list (cutD_dropI ns (t + 1)))) ?_) fun lr wr H4 hlr x4 hr4 rr4 => ?_))
    · rw [List.length_map, List.length_map, List.length_take, List.length_drop]
      omega
    have rr : Rp K M0 H4 (.ref lr) (intsD (ns.take t ++ ns.drop (t + 1))) := .lst (fun z => z) (.inl hr4) (by rw [List.map_append]; exact rr4)
    have a4 := a3.mono (.of x4)
    have rd4 := rd3.mono (fun _ z => z) (ExM.of x4)
    have ar : At3 K CH n (ns.take t ++ ns.drop (t + 1)) qq H4 (.ref lr) h := ⟨rr, e2, row_less t a.row, a4.ho⟩
    -- left
    refine b_cons (s_setLc (i := 7) (t := .one 8) (own := [("stone", 8)]) (M := M0) (ds := (stL n ns p).map PyData.int) rfl sc_law_is_lesser.nd (src_list (nm 4 rd4)) (blkOk_by (N := n_law_is_lesser) (sc := defScope s_law_is_lesser) (by decide +kernel)) (fun _ _ _ _ _ => pg_name (i := 8) sc_law_is_lesser.nd rfl (.inl rfl)) (fun _ _ => trivial) ?_ (notD z) id ?_ ?_ alive0 rfl rfl rfl fun ll wl H5 hll x5' hl5 rl5 => ?_)
    · rintro M H d σ' ⟨v, _, rfl⟩
      rfl
    · rw [List.length_map]
      exact zl
    · rintro s0 H0 C cl fp M' H' d σ' hM lift hd ⟨v', rv, rfl⟩
      obtain ⟨y, hy, rfl⟩ := List.mem_map.mp hd
      refine ⟨tsd_one (TD.is (td_ne hr.units (nm 8 rv) (pd_ix (nm 0 (lift _ _ a4.r)) (nm 5 (.int (t : Nat))) (ixD_ints hz)) rfl rfl) ?_), fun _ => nm 8 rv⟩
      rw [eqv_int]
      rfl
    have el : (((stL n ns p).map PyData.int).filter (notD z)).map id = ((stL n ns p).filter fun y => !decide (y = z)).map PyData.int := by
      rw [List.map_id, List.filter_map]
      rfl
    rw [el] at rl5
    have rl : Rp K M0 H5 (.ref ll) (intsD ((stL n ns p).filter fun y => !decide (y = z))) := .lst (fun z => z) (.inl hl5) rl5
    have ar5 := ar.mono (.of x5')
    refine b_cons (s_if (k := false) alive0 (td_not (k := true) (td_val (pd_callC L.truth hr (by decide) rfl (ad_cons (pd_isfree (i := 6) (k := 2) L hr8 rfl ar5 rfl rfl (.inl rfl) (.inl rfl) rfl (PD.is (pd_sub (nm 1 (.int (p : Nat))) (pd_intB nb rfl (pd_lt (nm 5 (.int (t : Nat))) (nm 1 (.int (p : Nat)))))) (congrArg PyData.int ?_)) rfl) (ad_cons (PD.is (pd_ne hr.units (nm 7 rl) (FD.pd (fd_lst ad_nil (by simp))) (shapedI _) shaped0) ?_) ad_nil)) ⟨_, rfl, rfl⟩))) (fun k => by cases k) (fun _ H6 x6 => b_nil (b_nil ⟨_, _, _, _, rfl, ((ex.trans x3).trans (x4.trans x5')).trans x6⟩)))
    · rw [← e1]
      congr 1
      by_cases hlt : t < p
      · rw [decide_eq_true (by omega : ((t : Nat) : Int) < (p : Nat)), if_pos rfl, if_pos hlt]
      · rw [decide_eq_false (by omega : ¬ ((t : Nat) : Int) < (p : Nat)), if_neg Bool.false_ne_true, if_neg hlt]
    · rw [eqv_nil]
      congr 1
      rw [← st_len (n := n), Bool.eq_iff_iff, Bool.not_eq_true', decide_eq_false_iff_not, decide_eq_true_eq]
      rw [List.length_pos_iff, ← ne_eq]
      exact e3.symm
  · rintro H2 σ' H' x2 ⟨_, _, _, _, rfl, ex⟩
    exact b_cons (s_ret (M := M0) alive0 pd_bl fun v3 H3 x3 r3 => by
      cases r3
      exact q H3 (((x1.trans x2).trans ex).trans x3))
end
end FK

namespace FK
open PySem PySem.Spec PyProof.Rows L2 GV
/-- what stands while a world is walked through -/
structure WS (CH : Addr) (T : List (Addr × Str)) (b l lk h : Addr) (c : Int) (n : Nat) (ns : List Int) (H : Hp) : Prop where
  hb : ∃ r k, H b = some (potL r c k)
  hl : H l = some (.lst (ns.map V.int))
  hk : H lk = some (.lst ((kindsL n).map V.str))
  ho : HAt CH n H h
  tb : LamX.Tabs T H
  nl : l ≠ b
  nk : lk ≠ b
  nh : h ≠ b
  row : RowL ns
section
variable {CH : Addr} {T : List (Addr × Str)} {b l lk h : Addr} {c : Int} {n : Nat} {ns : List Int} {H H' : Hp} {K : PySem.W.Frag}
theorem WS.exM (s : WS CH T b l lk h c n ns H) (e : ExM M0 H H') (t : LamX.Tabs T H') : WS CH T b l lk h c n ns H' := by
  obtain ⟨r, k, hb⟩ := s.hb
  exact ⟨⟨r, k, e _ _ hb (fun z => z) (fun _ z => by cases z)⟩, e _ _ s.hl (fun z => z) (fun _ z => by cases z), e _ _ s.hk (fun z => z) (fun _ z => by cases z), s.ho.exM e fun z => z, t, s.nl, s.nk, s.nh, s.row⟩
theorem WS.ex (s : WS CH T b l lk h c n ns H) (x : Evl.Ex H H') : WS CH T b l lk h c n ns H' := s.exM (.of x) (s.tb.ext x)
theorem WS.exB {r k : Int} (s : WS CH T b l lk h c n ns H) (e : ExB b H H') (hb' : H' b = some (potL r c k)) : WS CH T b l lk h c n ns H' := by
  obtain ⟨r0, k0, hb⟩ := s.hb
  exact ⟨⟨r, k, hb'⟩, e _ _ s.nl s.hl, e _ _ s.nk s.hk, s.ho.ex fun o => e _ _ s.nh, tabs_eqB s.tb e hb, s.nl, s.nk, s.nh, s.row⟩
theorem WS.r (s : WS CH T b l lk h c n ns H) : Rp K M0 H (.ref l) (intsD ns) := .lst (fun z => z) (.inl s.hl) (.ints ns)
theorem WS.rb (s : WS CH T b l lk h c n ns H) : Rp K (Ma b) H (.ref l) (intsD ns) := .lst s.nl (.inl s.hl) (.ints ns)
theorem WS.k (s : WS CH T b l lk h c n ns H) : Rp K M0 H (.ref lk) (strsD (kindsL n)) := .lst (fun z => z) (.inl s.hk) (.strs _)
theorem WS.at3 {p : Nat} (s : WS CH T b l lk h c n ns H) (hp : p + 1 < ns.length) : At3 K CH n ns p H (.ref l) h := ⟨s.r, hp, s.row, s.ho⟩
end
theorem exM_to {b : Addr} {H H' : Hp} (e : ExM M0 H H') : ExM (Ma b) H H' := fun a o h _ n => e a o h (fun z => z) n
theorem row_more {ns : List Int} {a : Nat} {w : Int} (h : RowL ns) (hl : ns.length ≤ 39) (hw : okW w) (hn : w ∉ ns) : RowL (ns.take a ++ [w] ++ ns.drop a) :=
  ⟨by rw [ins_len]; omega, fun z hz => ((ins_mem ns a w z).mp hz).elim (fun e => e ▸ hw) (h.2.1 z), ins_nodup h.2.2 hn⟩
def inD (l : List Int) (w : Int) : PyData → Bool
  | .int u => decide (u ∈ l) || decide (u = w)
  | _ => false
section
variable {P : Program} {w : World} {K : PySem.W.Frag} {mg : Str → Option Value} {base : Heap}
def spGr (CH : Addr) (T : List (Addr × Str)) : Sp := fun vs H Q _ => ∃ (b l lk h : Addr) (c : Int) (n : Nat) (ns : List Int) (p : Nat), vs = [.ref b, .ref l, .int (p : Nat), .ref h, .ref lk] ∧ WS CH T b l lk h c n ns H ∧ p + 1 < ns.length ∧ ∀ H', WS CH T b l lk h c n ns H' → ExM (Ma b) H H' → Q (.bl true) H'
theorem cl_is_greater {f CH : Addr} {fd : FuncData} {T : List (Addr × Str)} (F : At K mg "_law_is_greater" s_law_is_greater f fd) (L : Asks P w K mg base CH T) (cd : Cl P w K mg base CX0 1 "_law_take" spTake) (cw : Cl P w K mg base CX0 2 "_law_weight" spWeight) : Cl P w K mg base CX0 10 "_law_is_greater" (spGr CH T) := by
  refine ⟨f, fd, _, F.fn.ok sc_law_is_greater (fun vs H Q E h => ?_) (fun cdv A outer sh H vs Q E hr h => ⟨_, wB.ps, ?_⟩), F.gl, F.fn.kp, F.fn.binds fun _ _ _ _ _ _ us hl => match us, hl with | [_, _, _, _, _], _ => rfl⟩
  · obtain ⟨b, l, lk, h, c, n, ns, p, rfl, _⟩ := h
    rfl
  obtain ⟨b, l, lk, h, c, n, ns, p, rfl, s, hp, q⟩ := h
  have nb := L.nb
  have hr8 : Room 8 _ := hr.mono (by decide : 8 ≤ 9)
  have hl := s.row.1
  obtain ⟨r0, k0, hb⟩ := s.hb
  -- weight, at
  refine b_cons (cs_set (i := 5) sc_law_is_greater.nd rfl (by first | exact .inl rfl | exact .inr rfl) (ce_call cw hr (by decide) rfl (ca_cons (ce_nm 0 (ca_cons (ce_nm 1 (ca_nil ⟨b, l, ns, r0, c, k0, rfl, hb, Ne.symm s.nl, s.hl, by omega, fun u r1 k1 H1 hu e1 hb1 => ?_⟩)))))))
  have s1 := s.exB e1 hb1
  refine b_cons (cs_set (i := 6) sc_law_is_greater.nd rfl (by first | exact .inl rfl | exact .inr rfl) (ce_take cd hr (by decide) rfl (fun H1 Q hq => ce_nm 0 hq) (pd_add (pd_len nb rfl (nm 1 s1.rb) (n := ns.length) (by simp [lenD])) pd_int) hb1 (by omega) (n8000 (by omega) (by omega)) fun az r2 k2 H2 z0 z1 e2 hb2 => ?_))
  obtain ⟨a, rfl⟩ : ∃ a : Nat, az = (a : Int) := ⟨az.toNat, by omega⟩
  have ha : a ≤ ns.length := by omega
  have s2 := s1.exB e2 hb2
  have e02 : ExM (Ma b) H H2 := (ExB.exM e1).trans (ExB.exM e2)
  have hpl : ((p : Nat) : Int) + 1 = ((p + 1 : Nat) : Int) := by omega
  refine b_cons (s_if (M := M0) (k := decide (u ∈ ns) || (PyData.eqv (.int (a : Nat)) (.int (((p : Nat) : Int) + 1)) || decide ((39 : Int) < (ns.length : Nat)))) alive0 (WD.td (wd_or (td_in (nm 5 (.int u)) (nm 1 s2.r)) fun _ => wd_or (td_eq hr.units (nm 6 (.int (a : Nat))) (pd_add (nm 2 (.int (p : Nat))) pd_int) rfl rfl) fun _ => wd_or1 (td_gt (pd_len nb rfl (nm 1 s2.r) (n := ns.length) (by simp [lenD])) pd_int))) (fun _ H3 x3 => ?_) (fun hk H3 x3 => b_nil ?_))
  · exact b_cons (s_ret (M := M0) alive0 pd_bl fun v4 H4 x4 r4 => by
      cases r4
      exact q H4 (s2.ex (x3.trans x4)) (e02.trans (.of (x3.trans x4))))
  rw [eqv_int, Bool.or_eq_false_iff, Bool.or_eq_false_iff, decide_eq_false_iff_not, decide_eq_false_iff_not, decide_eq_false_iff_not] at hk
  obtain ⟨hun, hap, h39⟩ := hk
  have hap : a ≠ p + 1 := by omega
  have h39 : ns.length ≤ 39 := by omega
  have s3 := s2.ex x3
  obtain ⟨qq, g1, g2, g3, g4, g5, g6⟩ := greater (n := n) s.row.2.2 hp hun ha hap
  have rowW' := row_more (a := a) s.row h39 hu hun
  generalize hW : ns.take a ++ [u] ++ ns.drop a = W at g2 g5 g6 rowW'
  -- wide
  refine b_cons (cs_set (i := 7) sc_law_is_greater.nd rfl (.inl rfl) (ce_fd alive0 (fd_cat (es := (ns.take a ++ [u]).map PyData.int) (fs := (ns.drop a).map PyData.int) (PD.is (FD.pd (fd_cat (es := (ns.take a).map PyData.int) (fs := [.int u]) (PD.is (FD.pd (fd_slice (nm 1 s3.r) od_none (od_some (nm 6 (.int (a : Nat)))))) (congrArg PyData.list (cutD_takeI ns a))) (FD.pd (fd_lst (ad_cons (nm 5 (.int u)) ad_nil) (by show 1 ≤ 100000; decide))) ?_)) (by rw [List.map_append]; rfl)) (PD.is (FD.pd (fd_slice (nm 1 s3.r) (od_some (nm 6 (.int (a : Nat)))) od_none)) (congrArg PyData.list (cutD_dropI ns a))) ?_) fun lw ww H4 hlw x4 hw4 rw4 => ?_))
  · rw [List.length_map, List.length_take]
    show _ + 1 ≤ _
    omega
  · rw [List.length_map, List.length_map, List.length_append, List.length_take, List.length_drop]
    show _ + 1 + _ ≤ _
    omega
  rw [← List.map_append, hW] at rw4
  have s4 := s3.ex x4
  have rw0 : Rp K M0 H4 (.ref lw) (intsD W) := .lst (fun z => z) (.inl hw4) rw4
  -- moved
  refine b_cons (s_set (i := 8) (d := .int (qq : Nat)) (M := M0) alive0 sc_law_is_greater.nd rfl (.inl rfl) (PD.is (pd_add (nm 2 (.int (p : Nat))) (pd_intB nb rfl (pd_le (nm 6 (.int (a : Nat))) (nm 2 (.int (p : Nat)))))) (congrArg PyData.int ?_)) fun v5 H5 x5 r5 => ?_)
  · rw [← g1]
    congr 1
    by_cases hle : a ≤ p
    · rw [decide_eq_true (by omega : ((a : Nat) : Int) ≤ (p : Nat)), if_pos rfl, if_pos hle]
    · rw [decide_eq_false (by omega : ¬ ((a : Nat) : Int) ≤ (p : Nat)), if_neg Bool.false_ne_true, if_neg hle]
  cases r5
  have s5 := s4.ex x5
  have rw5 := rw0.mono (fun _ z => z) (ExM.of x5)
  -- due
  refine b_cons (cs_set (i := 9) sc_law_is_greater.nd rfl (by first | exact .inl rfl | exact .inr rfl) (ce_fd alive0 (fd_callC L.lhelp hr (by decide) rfl (ad_cons (nm 1 s5.r) (ad_cons (nm 2 (.int (p : Nat))) (ad_cons (nm 4 s5.k) ad_nil))) ⟨n, ns, p, hp, by omega, s.row.2.2, rfl, rfl⟩) fun ld wd H6 hld x6 hd6 rd6 => ?_))
  have s6 := s5.ex x6
  have rw6 := rw5.mono (fun _ z => z) (ExM.of x6)
  have rd : Rp K M0 H6 (.ref ld) (intsD (stL n ns p)) := .lst (fun z => z) (.inl hd6) rd6
  have e06 : ExM (Ma b) H H6 := e02.trans (.of (x3.trans (x4.trans (x5.trans x6))))
  have Wl := rowW'.1
  have stl : ∀ (ms : List Int) (t : Nat), ms.length ≤ 40 → t + 1 < ms.length → (stL n ms t).length ≤ 1000 := fun ms t h1 h2 => by
    rw [st_len]
    have h1 := List.length_filter_le (kb n ms t) (List.range t)
    have h2 := List.length_filter_le (kb n ms t) (behI ms t)
    have h3 : (behI ms t).length = ms.length - (t + 2) := by
      unfold behI
      rw [List.length_map, List.length_range]
    rw [List.length_range] at h1
    unfold hIx
    rw [List.length_append]
    omega
  -- what follows, in both cases
  have rest : ∀ (ld' : Addr) (x11 : Option V) H7, WS CH T b l lk h c n ns H7 → ExM (Ma b) H H7 → Rp K M0 H7 (.ref lw) (intsD W) → Rp K M0 H7 (.ref ld') (intsD (stL n W qq)) →
      wB (cxOf CX0 P w K mg base n_law_is_greater "_law_is_greater" (defScope s_law_is_greater) f cdv A outer sh H E).nox ((defBody s_law_is_greater).drop 7) { nx := fun _ H' => Q .non H', rt := Q } [some (.ref b), some (.ref l), some (.int (p : Nat)), some (.ref h), some (.ref lk), some (.int u), some (.int (a : Nat)), some (.ref lw), some (.int (qq : Nat)), some (.ref ld'), none, x11] H7 := by
    intro ld' x11 H7 s7 e07 rw7 rd7
    have zl := stl W qq Wl g2
    generalize hz : stL n W qq = zs at rd7 zl
    have a7 : At3 K CH n W qq H7 (.ref lw) h := ⟨rw7, g2, rowW', s7.ho⟩
    refine b_cons (s_if (k := false) alive0 (td_not (k := true) (td_val (pd_callC L.list hr (by decide) rfl (ad_cons (FD.pd (fd_helpers (i := 7) (j := 8) (k := 3) L hr8 rfl a7 rfl rfl rfl (.inl rfl) (.inl rfl) (.inl rfl) rfl rfl rfl)) (ad_cons (nm 9 rd7) ad_nil)) ⟨zs, zl, by rw [hz], rfl⟩))) (fun k => by cases k) (fun _ H8 x8 => b_nil ?_))
    have s8 := s7.ex x8
    have a8 := a7.mono (.of x8)
    refine b_cons (cs_if (ct_not (ct_val (ce_near (P1 := _) L hr8 false rfl rfl rfl a8 s8.tb s8.k (nm 7 a8.r) (fun H' Q hq => ce_nm 8 hq) (fun H' Q hq => ce_nm 3 hq) (fun H' Q hq => ce_nm 7 hq) (fun H' Q hq => ce_nm 8 hq) (fun H' Q hq => ce_nm 4 hq) fun H9 e9 T9 => ⟨true, rfl, ?_⟩))))
    rw [if_neg (by decide)]
    have e79 : ExM M0 H7 H9 := (ExM.of x8).trans e9
    have s9 := s7.exM e79 T9
    have a9 := a7.mono e79
    have rd9 := rd7.mono (fun _ z => z) e79
    -- only
    refine b_nil (b_cons (s_set (i := 10) (d := optD (onlyL zs)) alive0 sc_law_is_greater.nd rfl (.inl rfl) (pd_if (k := decide (zs.length = 1)) (TD.is (td_eq hr.units (pd_len nb rfl (nm 9 rd9) (n := zs.length) (by simp [lenD])) pd_int rfl rfl) ?_) (fun k => ?_) (fun k => ?_)) fun vo H10 x10 ro => ?_))
    · rw [eqv_int, Bool.eq_iff_iff, decide_eq_true_eq, decide_eq_true_eq]
      omega
    · match zs, of_decide_eq_true k with
      | [z], _ => exact pd_ix (nm 9 rd9) pd_int rfl
    · have e : onlyL zs = none := by
        rw [only_eq, if_neg (of_decide_eq_false k)]
      rw [e]
      exact pd_non
    have s10 := s9.ex x10
    have a10 := a9.mono (.of x10)
    have rd10 := rd9.mono (fun _ z => z) (ExM.of x10)
    refine b_cons (s_if (k := false) alive0 (td_not (k := true) (td_val (pd_callC L.one hr (by decide) rfl (ad_cons (d := optD (onlyL zs)) (.mk fun H1' e1' al1 Q q => ce_call L.keystone hr (by decide) rfl (ca_cons (ce_nm 7 (ca_cons (ce_nm 8 (ca_cons (ce_nm 3 (ca_nil ⟨M0, _, _, h, n, false, W, qq, rfl, al1, (a10.mono e1').r, .int _, g2, rowW', (a10.mono e1').ho, fun z => z, by show ∀ (v : V) (H' : Hp), Evl.Ex H1' H' → Rp K M0 H' v (optD (onlyL (stL n W qq))) → Q v H'; rw [hz]; exact q⟩)))))))) (ad_cons (nm 10 ro) ad_nil)) ⟨_, rfl, rfl⟩))) (fun k => by cases k) (fun _ H11 x11 => b_nil ?_))
    have a11 := a10.mono (.of x11)
    have rd11 := rd10.mono (fun _ z => z) (ExM.of x11)
    refine b_cons (s_ret alive0 (pd_callC L.truth hr (by decide) rfl (ad_cons (pd_isfree (i := 7) (k := 3) L hr8 rfl a11 rfl rfl (.inl rfl) (.inl rfl) rfl (nm 8 (.int (qq : Nat))) rfl) (ad_cons (PD.is (pd_ne hr.units (nm 9 rd11) (FD.pd (fd_lst ad_nil (by simp))) (shapedI zs) shaped0) ?_) ad_nil)) ⟨_, rfl, rfl⟩) fun v12 H12 x12 r12 => ?_)
    · rw [eqv_nil, ← hz]
      congr 1
      rw [← st_len (n := n) (ns := W) (p := qq), Bool.eq_iff_iff]
      cases stL n W qq <;> simp
    · cases r12
      exact q H12 ((s10.ex x11).ex x12) (e07.trans (exM_to (e79.trans (.of (x10.trans (x11.trans x12))))))
  -- if the new stone helps
  refine b_cons (s_if (M := M0) (k := kb n W qq a) alive0 (TD.is (td_inS (pd_callC L.lkind hr (by decide) rfl (ad_cons (nm 7 rw6) (ad_cons (nm 8 (.int (qq : Nat))) (ad_cons (nm 6 (.int (a : Nat))) ad_nil))) ⟨W, qq, a, g2, g5, rfl, rfl⟩) (nm 4 s6.k)) ?_) (fun hk H7 x7 => ?_) (fun hk H7 x7 => ?_))
  · rw [kind_in (kdL_lt W qq a), kd_eq rowW'.2.2 g2 g5 g3 g4]
    rfl
  · rw [if_pos hk] at g6
    have rw7 := rw6.mono (fun _ z => z) (ExM.of x7)
    have rd7 := rd.mono (fun _ z => z) (ExM.of x7)
    refine b_cons (cs_set (i := 9) sc_law_is_greater.nd rfl (by first | exact .inl rfl | exact .inr rfl) (ce_fd alive0 (fd_filter (t := .one 11) (own := [("stone", 11)]) (inD (stL n ns p) u) id rfl sc_law_is_greater.nd (src_list (nm 7 rw7)) (blkOk_by (N := n_law_is_greater) (sc := defScope s_law_is_greater) (by decide +kernel)) (fun _ _ _ _ _ => pg_name (i := 11) sc_law_is_greater.nd rfl (.inl rfl)) (fun _ _ => trivial) ?_ ?_ ?_) fun ln wn H8 hln x8 hn8 rn8 => ?_))
    · rintro M H d σ' ⟨v, _, rfl⟩
      rfl
    · rw [List.length_map]
      omega
    · rintro s0 H0 C cl fp M' H' d σ' hM lift hd ⟨v', rv, rfl⟩
      obtain ⟨y, hy, rfl⟩ := List.mem_map.mp hd
      refine ⟨TD.is (WD.td (wd_or (td_in (nm 11 rv) (nm 9 (lift _ _ rd7))) fun _ => wd_or1 (td_eq hr.units (nm 11 rv) (nm 5 (.int u)) rfl rfl))) ?_, nm 11 rv⟩
      rw [eqv_int]
      rfl
    have el : ((W.map PyData.int).filter (inD (stL n ns p) u)).map id = (stL n W qq).map PyData.int := by
      rw [List.map_id, List.filter_map, g6]
      rfl
    rw [el] at rn8
    exact b_nil (rest ln none H8 ((s6.ex x7).ex x8) (e06.trans (.of (x7.trans x8))) (rw7.mono (fun _ z => z) (ExM.of x8)) (.lst (fun z => z) (.inl hn8) rn8))
  · rw [if_neg (by rw [hk]; exact Bool.false_ne_true)] at g6
    exact b_nil (rest ld none H7 (s6.ex x7) (e06.trans (.of x7)) (rw6.mono (fun _ z => z) (ExM.of x7)) (by rw [g6]; exact rd.mono (fun _ z => z) (ExM.of x7)))
end
end FK

namespace FK
open PySem PySem.Spec PyProof.Rows L2 GV
abbrev MkH (P : Program) (w : World) (K : PySem.W.Frag) (mg : Str → Option Value) (base : Heap) (CH : Addr) : Prop := ∃ fI fdI, Mk K CH fI ∧ FnOk P w K mg base CX0 2 fI fdI ["self", "text"] (spHInit CH) ∧ Binds K fdI ["self", "text"] []
/-- House(e) -/
theorem ce_houseE {X : Cx} {σ : St} {H : Hp} {CH : Addr} {e : Expr} {p pos : Pos} {j n : Nat} {Q : VK} (mk : MkH X.prog X.w X.K X.mg X.base CH) (gH : X.mg "House" = some (.ref CH)) (hr : Room j X.A) (hj : 3 ≤ j) (hg : Gl X "House") (h1 : 1 ≤ n) (h2 : n < 64) (ha : PD X M0 e σ H (.str (txN n)))
    (q : ∀ h H', H h = none → Evl.Ex H H' → HAt CH n H' h → Q (.ref h) H') (he : starEach (e :: []) X.env = (false, eval e X.env) :: starEach [] X.env := by rfl) (hpl : (backTo pos (starEach [] X.env)).any (·.1) = false := by rfl) : wE X (.Call (.Name "House" p) [e] [] pos) σ H Q := by
  obtain ⟨fI, fdI, m, ok, bi⟩ := mk
  refine ⟨_, pe_make m ok (hr.mono hj) hg gH bi .nil pass0 wA.pa (by decide) he hpl, ca_cons (ce_pd alive0 ha fun v H1 x1 r1 => ca_nil fun x dx hx hdx ne => ?_) he⟩
  cases r1
  refine ⟨x, dx, n, rfl, h1, h2, upd_same, fun H' k a => ⟨rfl, q x H' (Evl.fresh_back x1 hx) (x1.trans fun b o hb => ?_) a⟩⟩
  have nx : b ≠ x := ne_of_none hb hx
  exact k b o (by rw [upd_ne nx, upd_ne (ne_of_none hb hdx)]; exact hb) nx
structure Wld (P : Program) (w : World) (K : PySem.W.Frag) (mg : Str → Option Value) (base : Heap) (CH : Addr) (T : List (Addr × Str)) : Prop where
  asks : Asks P w K mg base CH T
  take : Cl P w K mg base CX0 1 "_law_take" spTake
  box : Cl P w K mg base CX0 1 "_law_box" (spBox K)
  kinds : Cl P w K mg base CX0 1 "_law_kinds" (FreshR K R_kinds)
  text : Cl P w K mg base CX0 1 "_law_text" (PureR K R_text)
  stones : Cl P w K mg base CX0 4 "_law_stones" spRow
  free_list : Cl P w K mg base CX0 10 "_law_is_free_list" (spFL K CH T)
  place : Cl P w K mg base CX0 10 "_law_is_place" (spIP K CH T)
  lesser : Cl P w K mg base CX0 10 "_law_is_lesser" (spLs K CH)
  greater : Cl P w K mg base CX0 10 "_law_is_greater" (spGr CH T)
  mkH : MkH P w K mg base CH
  gH : mg "House" = some (.ref CH)
def spWorld (T : List (Addr × Str)) : Sp := fun vs H Q _ => ∃ (b : Addr) (r c k : Int), vs = [.ref b] ∧ H b = some (potL r c k) ∧ LamX.Tabs T H ∧ ∀ H', ExM (Ma b) H H' → LamX.Tabs T H' → Q (.bl true) H'
theorem row35 : RowL [3, 5] := ⟨by decide, fun z hz => by
  unfold okW
  simp at hz
  omega, by decide⟩
theorem row0 : RowL [] := ⟨by decide, fun z hz => absurd hz List.not_mem_nil, List.nodup_nil⟩
section
variable {P : Program} {w : World} {K : PySem.W.Frag} {mg : Str → Option Value} {base : Heap}
theorem cl_law_is_world {f CH : Addr} {fd : FuncData} {T : List (Addr × Str)} (F : At K mg "_law_is_world" s_law_is_world f fd) (L : Wld P w K mg base CH T) : Cl P w K mg base CX0 11 "_law_is_world" (spWorld T) := by
  refine ⟨f, fd, _, F.fn.ok sc_law_is_world (fun vs H Q E h => ?_) (fun cdv A outer sh H vs Q E hr h => ⟨_, wB.ps, ?_⟩), F.gl, F.fn.kp, F.fn.binds fun _ _ _ _ _ _ us hl => match us, hl with | [_], _ => rfl⟩
  · obtain ⟨b, r, c, k, rfl, _⟩ := h
    rfl
  obtain ⟨b, r0, c, k0, rfl, hb0, hT0, q⟩ := h
  have nb := L.asks.nb
  have hr8 : Room 8 _ := hr.mono (by decide : 8 ≤ 10)
  -- behind the number
  have rest : ∀ (n : Nat) (r k : Int) H1, 1 ≤ n → n < 64 → ExB b H H1 → H1 b = some (potL r c k) →
      wB (cxOf CX0 P w K mg base n_law_is_world "_law_is_world" (defScope s_law_is_world) f cdv A outer sh H E).nox ((defBody s_law_is_world).drop 2) { nx := fun _ H' => Q .non H', rt := Q } [some (.ref b), some (.int (n : Nat)), none, none, none, none, none] H1 := by
    intro n r k H1 n1 n2 e1 hb1
    have T1 : LamX.Tabs T H1 := tabs_eqB hT0 e1 hb0
    refine b_cons (cs_set (i := 2) sc_law_is_world.nd rfl (.inl rfl) (ce_fd alive0 (fd_callC L.kinds hr (by decide) rfl (ad_cons (nm 1 (.int (n : Nat))) ad_nil) ⟨n, rfl, rfl⟩) fun lk wk H2 hlk x2 hk2 rk2 => ?_))
    have ek := RpAll.of_strs rk2
    rw [ek] at hk2
    have nk : lk ≠ b := fun e => by
      rw [e, hb1] at hlk
      cases hlk
    have rk : Rp K M0 H2 (.ref lk) (strsD (kindsL n)) := .lst (fun z => z) (.inl hk2) (.strs _)
    refine b_cons (cs_set (i := 3) sc_law_is_world.nd rfl (.inl rfl) (ce_houseE (n := n) L.mkH L.gH hr (by decide) rfl n1 n2 (pd_callC L.text hr (by decide) rfl (ad_cons (nm 2 rk) ad_nil) ⟨n, n2, rfl, rfl⟩) fun h H3 hh x3 ho3 => ?_))
    have hb3 := x3 _ _ (x2 _ _ hb1)
    have nh : h ≠ b := fun e => by
      rw [e, x2 _ _ hb1] at hh
      cases hh
    refine b_cons (cs_set (i := 4) sc_law_is_world.nd rfl (.inl rfl) (ce_call L.stones hr (by decide) rfl (ca_cons (ce_nm 0 (ca_cons (ce_pd alive0 pd_int fun v4 H4 x4 r4 => ?_))))))
    cases r4
    refine ca_nil ⟨b, 9, r, c, k, rfl, x4 _ _ hb3, by decide, by decide, fun l ns r5 k5 H5 hl5 e5 hb5 h5 row => ?_⟩
    have nl : l ≠ b := fun e => by
      rw [e, x4 _ _ hb3] at hl5
      cases hl5
    have e05 : ExB b H H5 := (((e1.trE x2).trE x3).trE x4).trans e5
    have s5 : WS CH T b l lk h c n ns H5 := ⟨⟨r5, k5, hb5⟩, h5, e5 _ _ nk (x4 _ _ (x3 _ _ hk2)), ho3.ex fun o ho => e5 _ _ nh (x4 _ _ ho), tabs_eqB hT0 e05 hb0, nl, nk, nh, row⟩
    have hl := row.1
    -- free places
    refine b_cons (cs_if (ct_not (ct_val (ce_call L.free_list hr (by decide) rfl (ca_cons (ce_nm 4 (ca_cons (ce_nm 3 (ca_cons (ce_nm 2 (ca_nil ⟨_, _, h, n, ns, rfl, s5.r, row, s5.ho, s5.k, s5.tb, fun H6 e6 T6 => ⟨true, rfl, ?_⟩⟩)))))))))))
    rw [if_neg (by decide)]
    have s6 := s5.exM e6 T6
    have e06 : ExM (Ma b) H H6 := (ExB.exM e05).trans (exM_to e6)
    -- each place
    have hds : ((List.range (((ns.length : Nat) : Int) - 1).toNat).map fun i => PyData.int (0 + (i : Nat))).length = ns.length - 1 := by
      rw [List.length_map, List.length_range]
      omega
    refine b_nil (b_cons (s_for (t := .one 5) PassesOwn.never rfl (src_range1 rfl nb.range (pd_sub (pd_len nb rfl (nm 4 s6.r) (n := ns.length) (by simp [lenD])) pd_int) (by omega) (by omega)) (pg_name (i := 5) sc_law_is_world.nd rfl (.inl rfl)) (M := M0) alive0
      (fun Hs i σ' H' => ∃ x5, σ' = [some (.ref b), some (.int (n : Nat)), some (.ref lk), some (.ref h), some (.ref l), x5, none] ∧ ExM M0 Hs H' ∧ LamX.Tabs T H') ?_ ?_ (fun _ _ => trivial) ?_ ?_))
    · exact fun H7 x7 => ⟨_, rfl, ExM.refl _, T6.ext x7⟩
    · rintro H7 i σ' H' x7 ⟨_, _, e, _⟩
      exact ⟨e, alive0⟩
    · rintro H7 i d σ' H' H8 σ2 x7 hd ⟨x5, rfl, e7, T7⟩ x8 ⟨va, ra, rfl⟩
      obtain ⟨t, ht, rfl⟩ : ∃ t : Nat, t < ns.length - 1 ∧ d = .int (t : Nat) := by
        have := List.mem_of_getElem? hd
        obtain ⟨t, h1, h2⟩ := List.mem_map.mp this
        have h1 := List.mem_range.mp h1
        exact ⟨t, by omega, by rw [← h2, Int.zero_add]⟩
      cases ra
      have s8 := (s6.exM ((ExM.of x7).trans e7) T7).ex x8
      refine b_cons (cs_if (ct_not (ct_val (ce_call L.place hr (by decide) rfl (ca_cons (ce_nm 4 (ca_cons (ce_nm 5 (ca_cons (ce_nm 3 (ca_cons (ce_nm 2 (ca_nil ⟨_, _, h, n, ns, t, rfl, s8.at3 (by omega), s8.k, s8.tb, fun H9 e9 T9 => ⟨true, rfl, ?_⟩⟩)))))))))))))
      rw [if_neg (by decide)]
      exact b_nil (b_nil ⟨_, rfl, e7.trans ((ExM.of x8).trans e9), T9⟩)
    · rintro H7 σ' H' x7 ⟨x5, rfl, e7, T7⟩
      have s7 := s6.exM ((ExM.of x7).trans e7) T7
      have e07 : ExM (Ma b) H H' := e06.trans (exM_to ((ExM.of x7).trans e7))
      refine b_cons (s_if (M := M0) (k := decide (((ns.length : Nat) : Int) < 2)) alive0 (td_lt (pd_len nb rfl (nm 4 s7.r) (n := ns.length) (by simp [lenD])) pd_int) (fun _ H8 x8 => ?_) (fun hk H8 x8 => b_nil ?_))
      · have s8 := s7.ex x8
        refine b_cons (s_ret (d := .bool true) (M := M0) alive0 (PD.is (pd_and (k1 := true) (k2 := true) (PD.is (pd_eq hr.units (da := intsD (stL n [3, 5] 0)) (FD.pd (.mk fun H1' e1' al1 Q q => ?_)) (FD.pd (fd_lst ad_nil (by simp))) (shapedI _) shaped0) (by rfl)) fun _ => pd_one (PD.is (pd_eq hr.units (da := intsD (natI (freeL n []))) (FD.pd (fd_free (k := 3) (tp := false) (ns := []) L.asks hr8 rfl row0 s8.ho (FD.pd (fd_lst ad_nil (by simp))) rfl (.inl rfl) rfl)) (FD.pd (fd_lst ad_nil (by simp))) (shapedI _) shaped0) (by rfl))) rfl) fun v9 H9 x9 r9 => ?_)
        · refine ce_call L.asks.helpers hr (by decide) rfl (ca_cons (ce_pd alive0 (d := intsD [3, 5]) (FD.pd (fd_lst (ad_cons pd_int (ad_cons pd_int ad_nil)) (by show 2 ≤ 100000; decide))) fun v2 H2' x2' r2' => ca_cons (ce_pd alive0 pd_int fun v3 H3' x3' r3' => ca_cons (ce_nm 3 (ca_nil ?_)))))
          exact ⟨M0, v2, v3, h, n, false, [3, 5], 0, rfl, alive0, r2'.mono (fun _ z => z) (ExM.of x3'), r3', by decide, row35, (s8.ho.exM e1' fun z => z).exM (ExM.of (M := M0) (x2'.trans x3')) fun z => z, fun z => z, fun l' ws' H4' hl' x4' h4' r4' => q l' ws' H4' (Evl.fresh_back (x2'.trans x3') hl') ((x2'.trans x3').trans x4') h4' r4'⟩
        · cases r9
          exact q H9 (e07.trans (.of (x8.trans x9))) ((s8.ex x9).tb)
      · have hk : 2 ≤ ns.length := by
          have := of_decide_eq_false hk
          omega
        have s8 := s7.ex x8
        obtain ⟨r8, k8, hb8⟩ := s8.hb
        refine b_cons (cs_set (i := 5) sc_law_is_world.nd rfl (.inl rfl) (ce_take L.take hr (by decide) rfl (fun H1 Q hq => ce_nm 0 hq) (pd_sub (pd_len nb rfl (nm 4 s8.rb) (n := ns.length) (by simp [lenD])) pd_int) hb8 (by omega) (n8000 (by omega) (by omega)) fun pz r9 k9 H9 z0 z1 e9 hb9 => ?_))
        obtain ⟨p, rfl⟩ : ∃ p : Nat, pz = (p : Int) := ⟨pz.toNat, by omega⟩
        have hp : p + 1 < ns.length := by omega
        have s9 := s8.exB e9 hb9
        have e09 : ExM (Ma b) H H9 := e07.trans ((ExM.of x8).trans (ExB.exM e9))
        refine b_cons (cs_if (ct_not (ct_val (ce_call L.lesser hr (by decide) rfl (ca_cons (ce_nm 4 (ca_cons (ce_nm 5 (ca_cons (ce_nm 3 (ca_cons (ce_nm 2 (ca_nil ⟨_, _, h, n, ns, p, rfl, s9.at3 hp, s9.k, fun H10 x10 => ⟨true, rfl, ?_⟩⟩)))))))))))))
        rw [if_neg (by decide)]
        have s10 := s9.ex x10
        refine b_nil (b_cons (s_forRW (slot := 6) PassesOwn.never rfl sc_law_is_world.nd rfl (.inl rfl) rfl nb.range (ce_pd alive0 pd_int fun v11 H11 x11 r11 => ?_)))
        cases r11
        refine ⟨3, fun i σ' H' => ∃ x6, σ' = [some (.ref b), some (.int (n : Nat)), some (.ref lk), some (.ref h), some (.ref l), some (.int (p : Nat)), x6] ∧ WS CH T b l lk h c n ns H' ∧ ExM (Ma b) H H', rfl, by decide, ⟨_, rfl, s10.ex x11, e09.trans (.of (x10.trans x11))⟩, ?_, ?_⟩
        · rintro i σ' H' hi ⟨x6, rfl, s', e'⟩
          refine b_cons (cs_if (ct_not (ct_val (ce_call L.greater hr (by decide) rfl (ca_cons (ce_nm 0 (ca_cons (ce_nm 4 (ca_cons (ce_nm 5 (ca_cons (ce_nm 3 (ca_cons (ce_nm 2 (ca_nil ⟨b, l, lk, h, c, n, ns, p, rfl, s', hp, fun H12 s12 e12 => ⟨true, rfl, ?_⟩⟩)))))))))))))))
          rw [if_neg (by decide)]
          exact b_nil (b_nil ⟨_, rfl, s12, e'.trans e12⟩)
        · rintro σ' H' ⟨x6, rfl, s', e'⟩
          exact b_cons (s_ret (M := M0) alive0 pd_bl fun v12 H12 x12 r12 => by
            cases r12
            exact q H12 (e'.trans (.of x12)) (s'.ex x12).tb)
  -- the number
  refine b_cons (cs_set (i := 1) sc_law_is_world.nd rfl (.inl rfl) (ce_add (ce_pd alive0 pd_int fun v1 H1 x1 r1 => ce_take L.take hr (by decide) rfl (fun H1 Q hq => ce_nm 0 hq) pd_int (x1 _ _ hb0) (by decide) (by decide +kernel) fun z r2 k2 H2 z0 z1 e2 hb2 => ?_)))
  cases r1
  refine ⟨1, z, rfl, rfl, ?_⟩
  have e02 : ExB b H H2 := (ExB.of x1).trans e2
  refine b_cons (cs_if (ct_eq hr.units (ce_take L.take hr (by decide) rfl (fun H1 Q hq => ce_nm 0 hq) pd_int hb2 (by decide) (by decide +kernel) fun z3 r3 k3 H3 z30 z31 e3 hb3 => ce_pd alive0 pd_int fun y H4 x4 r4 => ⟨.int z3, _, .int z3, r4.dp, rfl, rfl, ?_⟩)))
  have e04 : ExB b H H4 := (e02.trans e3).trE x4
  split
  · refine b_cons (cs_set (i := 1) sc_law_is_world.nd rfl (.inl rfl) (ce_shl (ce_pd alive0 pd_int fun v5 H5 x5 r5 => ce_take L.take hr (by decide) rfl (fun H1 Q hq => ce_nm 0 hq) pd_int (x5 _ _ (x4 _ _ hb3)) (by decide) (by decide +kernel) fun z6 r6 k6 H6 z60 z61 e6 hb6 => ?_)))
    cases r5
    refine ⟨1, z6, rfl, rfl, ⟨z60, by omega, by decide⟩, ?_⟩
    obtain ⟨t, rfl⟩ : ∃ t : Nat, z6 = (t : Int) := ⟨z6.toNat, by omega⟩
    have ht : t < 6 := by omega
    have e : (1 : Int) * 2 ^ ((t : Nat) : Int).toNat = ((2 ^ t : Nat) : Int) := by
      rw [Int.toNat_natCast, Int.one_mul]
      simp
    rw [e]
    refine b_nil (rest (2 ^ t) r6 k6 H6 (Nat.one_le_two_pow) ?_ ((e04.trE x5).trans e6) hb6)
    exact Nat.lt_of_lt_of_le (Nat.pow_lt_pow_right (by decide) ht) (by decide)
  · have ez : 1 + z = ((1 + z.toNat : Nat) : Int) := by omega
    rw [ez]
    exact b_nil (rest (1 + z.toNat) r3 k3 H4 (by omega) (by omega) e04 (x4 _ _ hb3))
/-! ### the law -/
def spLaw (K : PySem.W.Frag) (T : List (Addr × Str)) : Sp := fun vs H Q _ => ∃ (a : Addr) (ns : List Int), vs = [.ref a] ∧ SqL K H a (ns.map V.int) ∧ ns.length ≤ 63 ∧ LamX.Tabs T H ∧ ∀ H', Q (.bl true) H'
theorem ok_law {f CH : Addr} {fd : FuncData} {T : List (Addr × Str)} (F : At K mg "law" s_law f fd) (L : Wld P w K mg base CH T) (cw : Cl P w K mg base CX0 11 "_law_is_world" (spWorld T)) : FnOk P w K mg base CX0 12 f fd ["script"] (spLaw K T) := by
  refine F.fn.ok sc_law (fun vs H Q E h => ?_) (fun cdv A outer sh H vs Q E hr h => ⟨_, wB.ps, ?_⟩)
  · obtain ⟨a, ns, rfl, _⟩ := h
    rfl
  obtain ⟨a0, script, rfl, hS, hlen, hT, q⟩ := h
  have nb := L.asks.nb
  have sc0 : ScAt K M0 H a0 script := ScAt.of hS fun z => z
  refine b_cons (s_forRW (slot := 1) PassesOwn.never rfl sc_law.nd rfl (.inl rfl) rfl nb.range (ce_pd alive0 (pd_max2 rfl nb.max pd_int (pd_min2 rfl nb.min pd_int (pd_scLen (j := 0) sc0 rfl nb.len))) fun v H1 x1 r1 => ?_))
  generalize hm : max (1 : Int) (min 5 (script.length : Nat)) = m at r1
  have hm0 : 0 ≤ m ∧ m ≤ 5 := by omega
  cases r1
  refine ⟨m.toNat, fun i σ' H' => (∃ xk, σ' = [some (.ref a0), xk]) ∧ ScAt K M0 H' a0 script ∧ LamX.Tabs T H', by rw [Int.toNat_of_nonneg hm0.1], by omega, ⟨⟨_, rfl⟩, sc0.mono (fun _ z => z) (ExM.of x1), hT.ext x1⟩, ?_, ?_⟩
  · rintro i σ' H' hi ⟨⟨xk, rfl⟩, sc, t⟩
    refine b_cons (cs_if (ct_not (ct_val (ce_call cw hr (by decide) rfl (ca_cons (ce_call L.box hr (by decide) rfl (ca_cons (ce_nm 0 (ca_cons (ce_nm 1 (ca_nil ⟨M0, a0, script, i, rfl, alive0, sc, fun p r c k H2 hp x2 h2 => ca_nil ⟨p, r, c, k, rfl, h2, t.ext x2, fun H3 m3 t3 => ⟨true, rfl, ?_⟩⟩⟩)))))))))))
    rw [if_neg (by decide)]
    refine b_nil (b_nil ⟨⟨_, rfl⟩, ?_, t3⟩)
    have sc2 : ScAt K (Ma p) H2 a0 script := by
      rcases sc with ⟨_, h⟩ | h
      · refine .inl ⟨?_, ?_⟩
        · rintro rfl
          exact GV.Rd.there h hp
        · exact GV.Rd.exM (M := M0) h (fun z => z) (ExM.of x2)
      · exact .inr h
    exact sc2.mono (fun _ z => z.elim) m3
  · rintro σ' H' ⟨⟨xk, rfl⟩, sc, t⟩
    exact b_cons (s_ret (M := M0) alive0 pd_bl fun v H5 x5 r5 => by
      cases r5
      exact q H5)
end
end FK

namespace FK
open PySem PySem.Spec PyProof.Rows L2 GV
theorem at_mk {K : PySem.W.Frag} {h : Heap} {mg : Str → Option Value} {x : Str} {st : Stmt} {f : Addr} {od an : Option Addr} {sl : Array (Option Value)} {oc kV dc pm cd ct : Value} (X : K.In h) (G : h.Ns mainGlobals mg) (a : PySem.W.nsIn K mainGlobals x = some (some (.ref f)))
    (l : K.lookup f = some ⟨oc, od, .func (PySem.W.fnOf x x (defArgs st) (defBody st) (defScope st) .none kV dc pm an cd ct), sl⟩) (c : PySem.W.codeIn K cd x = true) (k : PySem.W.keepIn K (.ref f) = true) : ∃ f fd, At K mg x st f fd :=
  ⟨f, _, fun_mk l c k, PySem.W.mg_of X G a⟩
abbrev qL (x : Str) (st : Stmt) (f c : Addr) : Str := (PyProof.Rows.envOfC x (defScope st) 0 f (.ref c)).qual ++ "<lambda>"
structure LamF (K : PySem.W.Frag) (mg : Str → Option Value) (h : Heap) (x : Str) (st : Stmt) (f c Pt : Addr) : Prop where
  fn : ∃ fd, FunC K mg x st f fd (.ref c)
  hd : PySem.W.CodeHd h c Pt
  tb : h.get? Pt = some (PySem.W.tabObj #[])
  no : K.lookup Pt = none
theorem lam_mk {K : PySem.W.Frag} {h : Heap} {mg : Str → Option Value} {x : Str} {st : Stmt} {f c Pt : Addr} {od an : Option Addr} {sl : Array (Option Value)} {oc kV dc pm ct : Value} (X : K.In h) (G : h.Ns mainGlobals mg) (a : PySem.W.nsIn K mainGlobals x = some (some (.ref f)))
    (l : K.lookup f = some ⟨oc, od, .func (PySem.W.fnOf x x (defArgs st) (defBody st) (defScope st) .none kV dc pm an (.ref c) ct), sl⟩) (co : PySem.W.codeIn K (.ref c) x = true) (k : PySem.W.keepIn K (.ref f) = true) (hd : PySem.W.codeHdIn K c Pt = true) (tb : h.get? Pt = some (PySem.W.tabObj #[])) (no : K.lookup Pt = none) : LamF K mg h x st f c Pt :=
  ⟨⟨_, ⟨_, _, _, _, _, _, _, _, rfl, l, co⟩, k, PySem.W.mg_of X G a⟩, PySem.W.codeHd_of_K X hd, tb, no⟩
theorem gi_mk {K : PySem.W.Frag} {h : Heap} {mg : Str → Option Value} {x : Str} {i : Int} {t : Tok} (X : K.In h) (G : h.Ns mainGlobals mg) (a : PySem.W.nsIn K mainGlobals x = some (some (.int i t))) : ∃ t, mg x = some (.int i t) := ⟨t, PySem.W.mg_of X G a⟩
structure Facts (K : PySem.W.Frag) (mg : Str → Option Value) : Prop where
  nb : NoB mg
  is_integer : ∃ f fd, At K mg "is_integer" s_is_integer f fd
  is_number : ∃ f fd, At K mg "is_number" s_is_number f fd
  number_of_text : ∃ f fd, At K mg "number_of_text" s_number_of_text f fd
  check_house : ∃ f fd, At K mg "check_house" s_check_house f fd
  is_weight : ∃ f fd, At K mg "is_weight" s_is_weight f fd
  is_bag_row : ∃ f fd, At K mg "is_bag_row" s_is_bag_row f fd
  is_row : ∃ f fd, At K mg "is_row" s_is_row f fd
  is_place : ∃ f fd, At K mg "is_place" s_is_place f fd
  check_row : ∃ f fd, At K mg "check_row" s_check_row f fd
  check_place : ∃ f fd, At K mg "check_place" s_check_place f fd
  check_all : ∃ f fd, At K mg "_check_all" s_check_all f fd
  third_kinds : ∃ f fd, At K mg "_third_kinds" s_third_kinds f fd
  helper_indexes : ∃ f fd, At K mg "_helper_indexes" s_helper_indexes f fd
  nearness : ∃ f fd, At K mg "_nearness" s_nearness f fd
  frees : ∃ f fd, At K mg "frees" s_frees f fd
  helpers : ∃ f fd, At K mg "helpers" s_helpers f fd
  keystone : ∃ f fd, At K mg "keystone" s_keystone f fd
  is_free : ∃ f fd, At K mg "is_free" s_is_free f fd
  free_places : ∃ f fd, At K mg "free_places" s_free_places f fd
  law_box : ∃ f fd, At K mg "_law_box" s_law_box f fd
  law_take : ∃ f fd, At K mg "_law_take" s_law_take f fd
  law_is_int : ∃ f fd, At K mg "_law_is_int" s_law_is_int f fd
  law_is_truth : ∃ f fd, At K mg "_law_is_truth" s_law_is_truth f fd
  law_kinds : ∃ f fd, At K mg "_law_kinds" s_law_kinds f fd
  law_text : ∃ f fd, At K mg "_law_text" s_law_text f fd
  law_weight : ∃ f fd, At K mg "_law_weight" s_law_weight f fd
  law_row : ∃ f fd, At K mg "_law_row" s_law_row f fd
  law_stones : ∃ f fd, At K mg "_law_stones" s_law_stones f fd
  law_kind : ∃ f fd, At K mg "_law_kind" s_law_kind f fd
  law_third : ∃ f fd, At K mg "_law_third" s_law_third f fd
  law_is_list : ∃ f fd, At K mg "_law_is_list" s_law_is_list f fd
  law_is_one : ∃ f fd, At K mg "_law_is_one" s_law_is_one f fd
  law_helpers : ∃ f fd, At K mg "_law_helpers" s_law_helpers f fd
  law_nearest : ∃ f fd, At K mg "_law_nearest" s_law_nearest f fd
  law_is_place : ∃ f fd, At K mg "_law_is_place" s_law_is_place f fd
  law_is_free_list : ∃ f fd, At K mg "_law_is_free_list" s_law_is_free_list f fd
  law_is_lesser : ∃ f fd, At K mg "_law_is_lesser" s_law_is_lesser f fd
  law_is_greater : ∃ f fd, At K mg "_law_is_greater" s_law_is_greater f fd
  law_is_world : ∃ f fd, At K mg "_law_is_world" s_law_is_world f fd
  law : ∃ f fd, At K mg "law" s_law f fd
  gW : ∃ t, mg "MOST_WEIGHT" = some (.int mostW t)
  gS : ∃ t, mg "MOST_STONES" = some (.int 40 t)
open PySem.W (nsIn findIn typeIn subIn keepIn isClsIn hasDictIn codeIn fnOf specialIn takesIn mroIn kitOne)
/-- the class House -/
structure HFacts (K : PySem.W.Frag) (mg : Str → Option Value) (CH : Addr) : Prop where
  hc : HouC K CH
  gH : mg "House" = some (.ref CH)
  init : ∃ f fd, Mk K CH f ∧ Fun K "__init__" "House.__init__" s_House_init f fd
  bit : ∃ f fd, Meth K CH "names_index" f ∧ Fun K "names_index" "House.names_index" s_House_names_index f fd
theorem hf_mk {K : PySem.W.Frag} {h : Heap} {mg : Str → Option Value} {C f1 f5 : Addr} (X : K.In h) (G : h.Ns mainGlobals mg) {od1 an1 od5 an5 : Option Addr} {sl1 sl5 : Array (Option Value)} {oc1 kV1 dc1 pm1 cd1 ct1 oc5 kV5 dc5 pm5 cd5 ct5 : Value}
    (aC : nsIn K mainGlobals "House" = some (some (.ref C)))
    (pg : PySem.W.plainGet K C Str.empty = true) (hd : hasDictIn K C = true) (po : PySem.W.plainOver K C = true) (sa : findIn K (.ref C) "__setattr__" = some (some (.builtin "object.__setattr__"))) (mk : PySem.W.makesIn K C = true) (kc : keepIn K (.ref C) = true) (nT : findIn K (.ref C) "text" = some none) (nN : findIn K (.ref C) "number" = some none)
    (ha : findIn K (.ref C) "__class__" = some (some (.builtin "object.__class__"))) (hn : specialIn K (.builtin "object.__class__") "__get__" = some (some (.builtin "getset_descriptor.__get__"))) (ht : takesIn K (.builtin "object.__class__") = some true) (hm : mroIn K C (.type "object") = some true) (s01 : kitOne K (.ref C) (.ref C) = some true)
    (a1 : findIn K (.ref C) "__init__" = some (some (.ref f1))) (i1 : PySem.W.isFn K (.ref f1) = true) (l1 : K.lookup f1 = some ⟨oc1, od1, .func (fnOf "__init__" "House.__init__" (defArgs s_House_init) (defBody s_House_init) (defScope s_House_init) .none kV1 dc1 pm1 an1 cd1 ct1), sl1⟩) (c1 : codeIn K cd1 "House.__init__" = true) (k1 : keepIn K (.ref f1) = true)
    (a5 : findIn K (.ref C) "names_index" = some (some (.ref f5))) (i5 : PySem.W.isFn K (.ref f5) = true) (l5 : K.lookup f5 = some ⟨oc5, od5, .func (fnOf "names_index" "House.names_index" (defArgs s_House_names_index) (defBody s_House_names_index) (defScope s_House_names_index) .none kV5 dc5 pm5 an5 cd5 ct5), sl5⟩) (c5 : codeIn K cd5 "House.names_index" = true) (k5 : keepIn K (.ref f5) = true) : HFacts K mg C :=
  ⟨⟨⟨⟨pg, hd, po, sa⟩, ha, hn, ht, hm, s01⟩, nT, nN⟩, PySem.W.mg_of X G aC, ⟨f1, _, ⟨mk, a1, i1, kc⟩, fun_mk l1 c1 k1⟩, ⟨f5, _, ⟨a5, i5, k5⟩, fun_mk l5 c5 k5⟩⟩
theorem sd_mk {K : PySem.W.Frag} {h : Heap} {mg : Str → Option Value} {w : World} {d : Addr} {es : Array DictEntry} {n : Nat} {t0 t1 t2 t3 t4 t5 t6 t7 : Tok} (X : K.In h) (G : h.Ns mainGlobals mg) (aD : nsIn K mainGlobals "_SIDES" = some (some (.ref d))) (lD : K.lookup d = some ⟨.type "dict", none, .dict es n, #[]⟩) (kl : PySem.W.KeysLit w.params es.toList) (lo : (d == sysModules) = false)
    (n0 : nsIn K d "" = some (some (.int 0 t0))) (n1 : nsIn K d "l" = some (some (.int 1 t1))) (n2 : nsIn K d "b" = some (some (.int 2 t2))) (n3 : nsIn K d "lb" = some (some (.int 3 t3))) (n4 : nsIn K d "h" = some (some (.int 4 t4))) (n5 : nsIn K d "lh" = some (some (.int 5 t5))) (n6 : nsIn K d "bh" = some (some (.int 6 t6))) (n7 : nsIn K d "lbh" = some (some (.int 7 t7))) : Sides K mg w := ⟨d, es, n, PySem.W.mg_of X G aD, ⟨lD, kl, lo⟩, fun i hi => by
  match i, hi with
  | 0, _ => exact ⟨_, n0⟩
  | 1, _ => exact ⟨_, n1⟩
  | 2, _ => exact ⟨_, n2⟩
  | 3, _ => exact ⟨_, n3⟩
  | 4, _ => exact ⟨_, n4⟩
  | 5, _ => exact ⟨_, n5⟩
  | 6, _ => exact ⟨_, n6⟩
  | 7, _ => exact ⟨_, n7⟩
⟩
section
variable {P : Program} {w : World} {K : PySem.W.Frag} {mg : Str → Option Value} {base : Heap}
theorem lwld {CH : Addr} {f c : Addr} {fd : FuncData} {T : List (Addr × Str)} (FA : Facts K mg) (HF : HFacts K mg CH) (S : Sides K mg w) (FN : FunC K mg "nearest_helper" s_nearest_helper f fd (.ref c)) (lb : LamB mg base T (.ref c) ((PyProof.Rows.envOfC "nearest_helper" (defScope s_nearest_helper) 0 f (.ref c)).qual ++ "<lambda>")) : Wld P w K mg base CH T ∧ Cl P w K mg base CX0 11 "_law_is_world" (spWorld T) := by
  have nb := FA.nb
  obtain ⟨_, _, a0⟩ := FA.is_integer
  obtain ⟨_, _, a1⟩ := FA.is_number
  obtain ⟨_, _, a2⟩ := FA.number_of_text
  obtain ⟨_, _, a3⟩ := FA.check_house
  obtain ⟨_, _, a4⟩ := FA.is_weight
  obtain ⟨_, _, a5⟩ := FA.is_bag_row
  obtain ⟨_, _, a6⟩ := FA.is_row
  obtain ⟨_, _, a7⟩ := FA.is_place
  obtain ⟨_, _, a8⟩ := FA.check_row
  obtain ⟨_, _, a9⟩ := FA.check_place
  obtain ⟨_, _, a10⟩ := FA.check_all
  obtain ⟨_, _, a11⟩ := FA.third_kinds
  obtain ⟨_, _, a12⟩ := FA.helper_indexes
  obtain ⟨_, _, a13⟩ := FA.nearness
  obtain ⟨_, _, a14⟩ := FA.frees
  obtain ⟨_, _, a15⟩ := FA.helpers
  obtain ⟨_, _, a16⟩ := FA.keystone
  obtain ⟨_, _, a17⟩ := FA.is_free
  obtain ⟨_, _, a18⟩ := FA.free_places
  obtain ⟨_, _, a19⟩ := FA.law_box
  obtain ⟨_, _, a20⟩ := FA.law_take
  obtain ⟨_, _, a21⟩ := FA.law_is_int
  obtain ⟨_, _, a22⟩ := FA.law_is_truth
  obtain ⟨_, _, a23⟩ := FA.law_kinds
  obtain ⟨_, _, a24⟩ := FA.law_text
  obtain ⟨_, _, a25⟩ := FA.law_weight
  obtain ⟨_, _, a26⟩ := FA.law_row
  obtain ⟨_, _, a27⟩ := FA.law_stones
  obtain ⟨_, _, a28⟩ := FA.law_kind
  obtain ⟨_, _, a29⟩ := FA.law_third
  obtain ⟨_, _, a30⟩ := FA.law_is_list
  obtain ⟨_, _, a31⟩ := FA.law_is_one
  obtain ⟨_, _, a32⟩ := FA.law_helpers
  obtain ⟨_, _, a33⟩ := FA.law_nearest
  obtain ⟨_, _, a34⟩ := FA.law_is_place
  obtain ⟨_, _, a35⟩ := FA.law_is_free_list
  obtain ⟨_, _, a36⟩ := FA.law_is_lesser
  obtain ⟨_, _, a37⟩ := FA.law_is_greater
  obtain ⟨_, _, a38⟩ := FA.law_is_world
  obtain ⟨_, _, a39⟩ := FA.law
  obtain ⟨_, gW⟩ := FA.gW
  obtain ⟨_, gS⟩ := FA.gS
  have cint : Cl P w K mg base CX0 1 "is_integer" _ := cl_is_integer a0 nb
  have cnum := cl_is_number a1 cint
  have cnot : Cl P w K mg base CX0 1 "number_of_text" _ := cl_number_of_text a2 nb S
  have cho : Cl P w K mg base CX0 1 "check_house" (spHoOk CH) := cl_check_house a3 nb HF.hc HF.gH
  have cwt := cl_is_weight a4 cnum gW
  have cbag := cl_is_bag_row a5 nb cwt gS
  have crow := cl_is_row a6 nb cbag
  have cpl := cl_is_place a7 nb cnum
  have ckr := cl_check_row a8 crow
  have ckp := cl_check_place a9 cpl
  have cka := cl_check_all a10 ckr ckp cho
  have ctk : Cl P w K mg base CX0 1 "_third_kinds" _ := cl_third_kinds a11 nb
  obtain ⟨fb, fdb, m1, m2⟩ := HF.bit
  have bm : BitM P w K mg base CH := ⟨fb, fdb, m1, ok_bit m2 HF.hc, m2.binds fun _ _ _ _ _ _ us hl => match us, hl with | [_, _], _ => rfl⟩
  have chi := cl_helper_indexes a12 HF.hc bm ctk
  have cnn : Cl P w K mg base CX0 1 "_nearness" _ := cl_nearness a13
  have cfr := cl_frees a14 nb chi
  have che := cl_helpers a15 cka chi
  have cke := cl_keystone a16 nb che
  have cif := cl_is_free a17 cka cfr
  have cfp := cl_free_places a18 nb ckr cho cfr
  have cne := cl_nearest FN nb lb cka chi cnn
  have lbox : Cl P w K mg base CX0 1 "_law_box" _ := cl_law_box a19 nb
  have ltake : Cl P w K mg base CX0 1 "_law_take" _ := cl_law_take a20 nb
  have lint : Cl P w K mg base CX0 1 "_law_is_int" _ := cl_law_is_int a21 nb
  have ltr : Cl P w K mg base CX0 1 "_law_is_truth" _ := cl_law_is_truth a22 nb
  have lks : Cl P w K mg base CX0 1 "_law_kinds" _ := cl_law_kinds a23 nb
  have ltx : Cl P w K mg base CX0 1 "_law_text" _ := cl_law_text a24
  have lwt := cl_law_weight a25 nb ltake
  have lrow := cl_law_row a26 nb ltake lwt
  have lst := cl_law_stones a27 nb ltake lrow
  have lkd : Cl P w K mg base CX0 1 "_law_kind" _ := cl_law_kind a28 nb
  have lth : Cl P w K mg base CX0 1 "_law_third" _ := cl_law_third a29 nb
  have lls := cl_law_is_list a30 lint nb
  have lon := cl_law_is_one a31 lint
  have lhe := cl_law_helpers a32 lth lkd
  have lne := cl_law_nearest a33 nb lkd
  have A : Asks P w K mg base CH T := ⟨nb, che, cne, cke, cif, cfp, lhe, lne, lth, lkd, lls, lon, ltr⟩
  obtain ⟨fi, fdi, i1, i2⟩ := HF.init
  have W : Wld P w K mg base CH T := ⟨A, ltake, lbox, lks, ltx, lst, cl_is_free_list a35 A, cl_is_place_kept a34 A, cl_is_lesser a36 A, cl_is_greater a37 A ltake lwt, ⟨fi, fdi, i1, ok_hinit i2 HF.hc cnot, i2.binds fun _ _ _ _ _ _ us hl => match us, hl with | [_, _], _ => rfl⟩, HF.gH⟩
  exact ⟨W, cl_law_is_world a38 W⟩
end
theorem law_at {l : PySem.W.OpenLaw} {w : World} {K : PySem.W.Frag} {h : Heap} {mg : Str → Option Value} {fa CH f1 c1 P1 : Addr} (hfa : mg "law" = some (.ref fa)) (A : Facts K mg) (HF : HFacts K mg CH) (S : Sides K mg w) (l1 : LamF K mg h "nearest_helper" s_nearest_helper f1 c1 P1) : LamX.LawAtS l w K CX0 12 63 "script" mg fa h := by
  obtain ⟨f, fd, AL⟩ := A.law
  have e := hfa.symm.trans AL.gl
  cases e
  obtain ⟨oc, od, kV, doc, pm, an, cdv, ct, osl, e1, _, _⟩ := AL.fn.ex
  refine ⟨fd, [(c1, P1)], spLaw K [(P1, qL "nearest_helper" s_nearest_helper f1 c1)], ?_, ?_, ?_, ?_, ?_, ?_⟩
  · simp only [List.mem_cons, List.not_mem_nil, or_false]
    rintro p rfl
    exact l1.tb
  · simp only [List.mem_cons, List.not_mem_nil, or_false]
    rintro p rfl
    exact l1.no
  · simp only [List.mem_cons, List.not_mem_nil, or_false]
    rintro p rfl
    exact l1.hd
  · intro s u
    rw [e1]
    exact .of_eq rfl
  · intro H a ns hl _ ht hS
    refine ⟨a, ns, rfl, hS, hl, ?_, fun _ => rfl⟩
    intro p hp
    simp only [List.mem_cons, List.not_mem_nil, or_false] at hp
    subst hp
    exact LamX.TabS.nil (ht (c1, P1) (by simp))
  · intro base KB GB tb
    obtain ⟨fd1, F1⟩ := l1.fn
    obtain ⟨L, cw⟩ := lwld (P := l.prog) (w := w) (base := base) A HF S F1 ⟨c1, P1, rfl, tb (c1, P1) (List.mem_cons_self ..), List.mem_cons_self .., fun p hp e => by
      rw [List.mem_singleton.mp hp]⟩
    exact ok_law AL L cw
end FK

open PySem PySem.W PyProof.Rows in
set_option maxRecDepth 100000 in
set_option maxHeartbeats 0 in
theorem PySem.Challenge.cw_millbrook_k03_helpers_holds : PySem.Challenge.rw_millbrook_k03_helpers.Holds := by
  w_on; o_law; k_head; (case hw => w_witness2)
  k_fill
  refine LamX.walk_ofTs (l := PySem.Challenge.rw_millbrook_k03_helpers) (n := 63) (k := 12) (x := "script") (CX := fun _ => L2.CX0) rfl (by rw [sizeLine_eq]; decide) rfl ⟨rfl, by decide, by decide⟩ (fun w h Y => PySem.W.km_in_of Y) ?F (fun _ _ _ _ _ z => z)
  case F =>
    intro w mg fa h Y KX G hmg
    have TB := PySem.W.km_tabs_of Y
    refine' FK.law_at hmg ⟨⟨PySem.W.mg_none_of KX G ?z_0, PySem.W.mg_none_of KX G ?z_1, PySem.W.mg_none_of KX G ?z_2, PySem.W.mg_none_of KX G ?z_3, PySem.W.mg_none_of KX G ?z_4, PySem.W.mg_none_of KX G ?z_5, PySem.W.mg_none_of KX G ?z_6, PySem.W.mg_none_of KX G ?z_7, PySem.W.mg_none_of KX G ?z_8, PySem.W.mg_none_of KX G ?z_9, PySem.W.mg_none_of KX G ?z_10, PySem.W.mg_none_of KX G ?z_11, PySem.W.mg_none_of KX G ?z_12, PySem.W.mg_none_of KX G ?z_13, PySem.W.mg_none_of KX G ?z_14, PySem.W.mg_none_of KX G ?z_15, PySem.W.mg_none_of KX G ?z_16⟩, FK.at_mk KX G ?a_17 ?l_18 ?c_19 ?k_20, FK.at_mk KX G ?a_21 ?l_22 ?c_23 ?k_24, FK.at_mk KX G ?a_25 ?l_26 ?c_27 ?k_28, FK.at_mk KX G ?a_29 ?l_30 ?c_31 ?k_32, FK.at_mk KX G ?a_33 ?l_34 ?c_35 ?k_36, FK.at_mk KX G ?a_37 ?l_38 ?c_39 ?k_40, FK.at_mk KX G ?a_41 ?l_42 ?c_43 ?k_44, FK.at_mk KX G ?a_45 ?l_46 ?c_47 ?k_48, FK.at_mk KX G ?a_49 ?l_50 ?c_51 ?k_52, FK.at_mk KX G ?a_53 ?l_54 ?c_55 ?k_56, FK.at_mk KX G ?a_57 ?l_58 ?c_59 ?k_60, FK.at_mk KX G ?a_61 ?l_62 ?c_63 ?k_64, FK.at_mk KX G ?a_65 ?l_66 ?c_67 ?k_68, FK.at_mk KX G ?a_69 ?l_70 ?c_71 ?k_72, FK.at_mk KX G ?a_73 ?l_74 ?c_75 ?k_76, FK.at_mk KX G ?a_77 ?l_78 ?c_79 ?k_80, FK.at_mk KX G ?a_81 ?l_82 ?c_83 ?k_84, FK.at_mk KX G ?a_85 ?l_86 ?c_87 ?k_88, FK.at_mk KX G ?a_89 ?l_90 ?c_91 ?k_92, FK.at_mk KX G ?a_93 ?l_94 ?c_95 ?k_96, FK.at_mk KX G ?a_97 ?l_98 ?c_99 ?k_100, FK.at_mk KX G ?a_101 ?l_102 ?c_103 ?k_104, FK.at_mk KX G ?a_105 ?l_106 ?c_107 ?k_108, FK.at_mk KX G ?a_109 ?l_110 ?c_111 ?k_112, FK.at_mk KX G ?a_113 ?l_114 ?c_115 ?k_116, FK.at_mk KX G ?a_117 ?l_118 ?c_119 ?k_120, FK.at_mk KX G ?a_121 ?l_122 ?c_123 ?k_124, FK.at_mk KX G ?a_125 ?l_126 ?c_127 ?k_128, FK.at_mk KX G ?a_129 ?l_130 ?c_131 ?k_132, FK.at_mk KX G ?a_133 ?l_134 ?c_135 ?k_136, FK.at_mk KX G ?a_137 ?l_138 ?c_139 ?k_140, FK.at_mk KX G ?a_141 ?l_142 ?c_143 ?k_144, FK.at_mk KX G ?a_145 ?l_146 ?c_147 ?k_148, FK.at_mk KX G ?a_149 ?l_150 ?c_151 ?k_152, FK.at_mk KX G ?a_153 ?l_154 ?c_155 ?k_156, FK.at_mk KX G ?a_157 ?l_158 ?c_159 ?k_160, FK.at_mk KX G ?a_161 ?l_162 ?c_163 ?k_164, FK.at_mk KX G ?a_165 ?l_166 ?c_167 ?k_168, FK.at_mk KX G ?a_169 ?l_170 ?c_171 ?k_172, FK.at_mk KX G ?a_173 ?l_174 ?c_175 ?k_176, FK.gi_mk KX G ?g_177, FK.gi_mk KX G ?g_178⟩ (FK.hf_mk KX G ?e_179 ?e_180 ?e_181 ?e_182 ?e_183 ?e_184 ?e_185 ?e_186 ?e_187 ?e_188 ?e_189 ?e_190 ?e_191 ?sub_192 ?e_193 ?e_194 ?e_195 ?e_196 ?e_197 ?e_198 ?e_199 ?e_200 ?e_201 ?e_202) (FK.sd_mk KX G ?e_203 ?e_204 ?kl_205 ?low_206 ?e_207 ?e_208 ?e_209 ?e_210 ?e_211 ?e_212 ?e_213 ?e_214) (FK.lam_mk (Pt := 329) KX G ?m_215 ?m_216 ?m_217 ?m_218 ?hd_219 ?tab_220 ?no_221)
    (case z_0 => k_is)
    (case z_1 => k_is)
    (case z_2 => k_is)
    (case z_3 => k_is)
    (case z_4 => k_is)
    (case z_5 => k_is)
    (case z_6 => k_is)
    (case z_7 => k_is)
    (case z_8 => k_is)
    (case z_9 => k_is)
    (case z_10 => k_is)
    (case z_11 => k_is)
    (case z_12 => k_is)
    (case z_13 => k_is)
    (case z_14 => k_is)
    (case z_15 => k_is)
    (case z_16 => k_is)
    (case a_17 => k_is)
    (case l_18 => k_is)
    (case c_19 => k_is)
    (case k_20 => k_is)
    (case a_21 => k_is)
    (case l_22 => k_is)
    (case c_23 => k_is)
    (case k_24 => k_is)
    (case a_25 => k_is)
    (case l_26 => k_is)
    (case c_27 => k_is)
    (case k_28 => k_is)
    (case a_29 => k_is)
    (case l_30 => k_is)
    (case c_31 => k_is)
    (case k_32 => k_is)
    (case a_33 => k_is)
    (case l_34 => k_is)
    (case c_35 => k_is)
    (case k_36 => k_is)
    (case a_37 => k_is)
    (case l_38 => k_is)
    (case c_39 => k_is)
    (case k_40 => k_is)
    (case a_41 => k_is)
    (case l_42 => k_is)
    (case c_43 => k_is)
    (case k_44 => k_is)
    (case a_45 => k_is)
    (case l_46 => k_is)
    (case c_47 => k_is)
    (case k_48 => k_is)
    (case a_49 => k_is)
    (case l_50 => k_is)
    (case c_51 => k_is)
    (case k_52 => k_is)
    (case a_53 => k_is)
    (case l_54 => k_is)
    (case c_55 => k_is)
    (case k_56 => k_is)
    (case a_57 => k_is)
    (case l_58 => k_is)
    (case c_59 => k_is)
    (case k_60 => k_is)
    (case a_61 => k_is)
    (case l_62 => k_is)
    (case c_63 => k_is)
    (case k_64 => k_is)
    (case a_65 => k_is)
    (case l_66 => k_is)
    (case c_67 => k_is)
    (case k_68 => k_is)
    (case a_69 => k_is)
    (case l_70 => k_is)
    (case c_71 => k_is)
    (case k_72 => k_is)
    (case a_73 => k_is)
    (case l_74 => k_is)
    (case c_75 => k_is)
    (case k_76 => k_is)
    (case a_77 => k_is)
    (case l_78 => k_is)
    (case c_79 => k_is)
    (case k_80 => k_is)
    (case a_81 => k_is)
    (case l_82 => k_is)
    (case c_83 => k_is)
    (case k_84 => k_is)
    (case a_85 => k_is)
    (case l_86 => k_is)
    (case c_87 => k_is)
    (case k_88 => k_is)
    (case a_89 => k_is)
    (case l_90 => k_is)
    (case c_91 => k_is)
    (case k_92 => k_is)
    (case a_93 => k_is)
    (case l_94 => k_is)
    (case c_95 => k_is)
    (case k_96 => k_is)
    (case a_97 => k_is)
    (case l_98 => k_is)
    (case c_99 => k_is)
    (case k_100 => k_is)
    (case a_101 => k_is)
    (case l_102 => k_is)
    (case c_103 => k_is)
    (case k_104 => k_is)
    (case a_105 => k_is)
    (case l_106 => k_is)
    (case c_107 => k_is)
    (case k_108 => k_is)
    (case a_109 => k_is)
    (case l_110 => k_is)
    (case c_111 => k_is)
    (case k_112 => k_is)
    (case a_113 => k_is)
    (case l_114 => k_is)
    (case c_115 => k_is)
    (case k_116 => k_is)
    (case a_117 => k_is)
    (case l_118 => k_is)
    (case c_119 => k_is)
    (case k_120 => k_is)
    (case a_121 => k_is)
    (case l_122 => k_is)
    (case c_123 => k_is)
    (case k_124 => k_is)
    (case a_125 => k_is)
    (case l_126 => k_is)
    (case c_127 => k_is)
    (case k_128 => k_is)
    (case a_129 => k_is)
    (case l_130 => k_is)
    (case c_131 => k_is)
    (case k_132 => k_is)
    (case a_133 => k_is)
    (case l_134 => k_is)
    (case c_135 => k_is)
    (case k_136 => k_is)
    (case a_137 => k_is)
    (case l_138 => k_is)
    (case c_139 => k_is)
    (case k_140 => k_is)
    (case a_141 => k_is)
    (case l_142 => k_is)
    (case c_143 => k_is)
    (case k_144 => k_is)
    (case a_145 => k_is)
    (case l_146 => k_is)
    (case c_147 => k_is)
    (case k_148 => k_is)
    (case a_149 => k_is)
    (case l_150 => k_is)
    (case c_151 => k_is)
    (case k_152 => k_is)
    (case a_153 => k_is)
    (case l_154 => k_is)
    (case c_155 => k_is)
    (case k_156 => k_is)
    (case a_157 => k_is)
    (case l_158 => k_is)
    (case c_159 => k_is)
    (case k_160 => k_is)
    (case a_161 => k_is)
    (case l_162 => k_is)
    (case c_163 => k_is)
    (case k_164 => k_is)
    (case a_165 => k_is)
    (case l_166 => k_is)
    (case c_167 => k_is)
    (case k_168 => k_is)
    (case a_169 => k_is)
    (case l_170 => k_is)
    (case c_171 => k_is)
    (case k_172 => k_is)
    (case a_173 => k_is)
    (case l_174 => k_is)
    (case c_175 => k_is)
    (case k_176 => k_is)
    (case g_177 => k_is)
    (case g_178 => k_is)
    (case e_179 => k_is)
    (case e_180 => k_is)
    (case e_181 => k_is)
    (case e_182 => k_is)
    (case e_183 => k_is)
    (case e_184 => k_is)
    (case e_185 => k_is)
    (case e_186 => k_is)
    (case e_187 => k_is)
    (case e_188 => k_is)
    (case e_189 => k_is)
    (case e_190 => k_is)
    (case e_191 => k_is)
    (case sub_192 => first | rfl | k_is)
    (case e_193 => k_is)
    (case e_194 => k_is)
    (case e_195 => k_is)
    (case e_196 => k_is)
    (case e_197 => k_is)
    (case e_198 => k_is)
    (case e_199 => k_is)
    (case e_200 => k_is)
    (case e_201 => k_is)
    (case e_202 => k_is)
    (case e_203 => k_is)
    (case e_204 => k_is)
    (case kl_205 => exact ⟨⟨_, _, rfl, rfl⟩, ⟨_, _, rfl, rfl⟩, ⟨_, _, rfl, rfl⟩, ⟨_, _, rfl, rfl⟩, ⟨_, _, rfl, rfl⟩, ⟨_, _, rfl, rfl⟩, ⟨_, _, rfl, rfl⟩, ⟨_, _, rfl, rfl⟩, True.intro⟩)
    (case low_206 => first | decide | decide +kernel)
    (case e_207 => k_is)
    (case e_208 => k_is)
    (case e_209 => k_is)
    (case e_210 => k_is)
    (case e_211 => k_is)
    (case e_212 => k_is)
    (case e_213 => k_is)
    (case e_214 => k_is)
    (case m_215 => k_is)
    (case m_216 => k_is)
    (case m_217 => k_is)
    (case m_218 => k_is)
    (case hd_219 => kernel_rfl)
    (case tab_220 => exact TB _ (by simp))
    (case no_221 => first | rfl | k_is)

