import PyProof.Rows.All
import Wide.All
import OpenK.AllK
import Wide.FinOn
import HandS.ForMost
import HandS.SetFor
import HandS.ForExc
import HandS.IsInst
import HandS.Evl
import HandS.Flow
import HandS.Codes
import HandS.Wide
import HandS.TupAny
import HandS.Conv
import HandS.Strs
import HandS.SortInts
import KE.DataMinMax
import KE.DataAny
import KE.SortData
import HandS.SortKw
import HandS.ExcInit
import HandS.ExcField
import HandS.Small
import HandS.TryMany
import HandS.Property
import HandS.Lambda
import KE.KNest
import KE.KNestM
import HandS.EndTab
import PySem.Challenge.RW_millbrook_k14_brook
set_option Elab.async false
set_option linter.all false
set_option maxRecDepth 100000
namespace GV
open PySem PySem.Spec PyProof.Rows L2
/-- a set as it is new -/
abbrev nset (w : World) : Obj := { cls := .type "set", dict := none, data := .set #[] 0 (.fresh 0 0 (!w.params.followText "set-order")) }
section
variable {P : Program} {w : World} {A : Around} {E : Value → Shared → Prop} {s : Shared}
set_option maxHeartbeats 3200000 in
/-- set(l), l a list of ints: its members in the order of the world -/
theorem set_ofL {l : Addr} {items : Array Value} (ns : List Int) {Q : Value → Shared → Prop} (hh : A.handled = none) (hl : s.heap.IsList l items) (hit : IntsAre items.toList ns) (hb : ns.length + 1 < scanBound)
    (fin : ∀ (g : Heap) (tk c : Nat), SetR w g s.heap.objs.size (fun j => decide (j ∈ ns)) c → c ≤ ns.length → (∀ b o, s.heap.get? b = some o → g.get? b = some o) → Q (.ref s.heap.objs.size) { s with heap := g, toks := tk }) :
    wpAny (model P w) A (call (.type "set") [.ref l]) Q E s := by
  have size : items.size = ns.length := by
    have q := IntsAre.length hit
    rwa [Array.length_toList] at q
  obtain ⟨c, tl, hmro⟩ := F.called_set.mro
  have a1 := F.called_set.made
  have a2 := F.called_set.sub
  refine wpAny_call (codeAny_of_tree (show wpAny _ _ (callAny (.type "set") _) _ _ _ from wpAny_pure ⟨Code.quiet_builtin _ (by decide +kernel), codeAny_builtin F.entry_type_call ?_⟩))
  rw [Around.under_plain (weight_type_call_type "set" [.ref l] []) rfl]
  have a3 := F.called_set.notType
  have a4 := F.called_set.canCreate
  have a5 := F.typeCall_set_1 (.ref l)
  repeat (any_goals first | assumption | wp_step)
  refine codeAny_mono (code_set_led1 (.ref l) (E := E) (Q₁ := fun o s₁ => o = .ref s.heap.objs.size ∧ s₁ = { s with heap := s.heap.push (nset w) }) ⟨rfl, rfl⟩) fun r s₁ hr => ?_
  rcases r with er | fl
  · exact hr
  rcases fl with _ | _ | _ | ob
  iterate 3 exact hr.elim
  obtain ⟨rfl, rfl⟩ := hr
  have at0 : (s.heap.push (nset w)).get? s.heap.objs.size = some (nset w) := Heap.get?_push_size _ rfl
  have ty0 : Shared.TypeIs { s with heap := s.heap.push (nset w) } (.ref s.heap.objs.size) "set" := ⟨_, at0, rfl⟩
  have b1 := F.called_set.init.lookup
  have b2 := F.called_set.init.bind (.ref s.heap.objs.size)
  repeat (any_goals first | assumption | wp_step)
  refine codeAny_mono (codeAny_call_builtin (R := wants (fun r s₂ => r = .none ∧ ∃ g tk c, s₂ = { s with heap := g, toks := tk } ∧ SetR w g s.heap.objs.size (fun j => decide (j ∈ ns)) c ∧ c ≤ ns.length ∧ (∀ b o, s.heap.get? b = some o → g.get? b = some o)) E)
    F.called_set.init.plain F.entry_set_init (check_set_init_1 ty0 ?_)) fun r₂ s₂ hr₂ => ?_
  · obtain ⟨⟨oc, od, odt, osl⟩, hol, hcl, nl, hdl⟩ := hl
    simp only at hcl hdl
    subst hcl hdl
    have ol : (s.heap.push (nset w)).get? l = some { cls := .type "list", dict := od, data := .seq items nl, slots := osl } := Heap.get?_push_of_some _ hol
    have c1 := F.sub_list_set
    have c2 := F.sub_list_frozenset
    have c3 : (Value.type "list" == Value.type "dict") = false := by decide
    have isl : (s.heap.push (nset w)).IsList l items := ⟨_, ol, rfl, nl, rfl⟩
    unfold Builtin.«set.__init__» noKeywords Builtin.Frozenset.updateFrom
    generalize hPI : pyIter = PI
    wp_walk
    subst hPI
    refine wpAny_pyIter_list isl (wpAny_bind (wpAny_runValue ?_))
    have lt : l < s.heap.objs.size := Heap.lt_size hol
    have hh3 : A.in1.in1.in1.handled = none := by simp [hh]
    have neI : l ≠ (s.heap.push (nset w)).objs.size := by
      rw [Heap.size_push]
      exact Nat.ne_of_lt (Nat.lt_succ_of_lt lt)
    have nf : s.heap.objs.size ∉ [(s.heap.push (nset w)).objs.size, l] := by
      rw [Heap.size_push]
      simp only [List.mem_cons, List.not_mem_nil, or_false, not_or]
      exact And.intro (Nat.ne_of_lt (Nat.lt_succ_self _)) (Nat.ne_of_gt lt)
    have val : ∀ (i : Nat) (v : Value), items[i]? = some v → ∃ k t, ns[i]? = some k ∧ v = .int k t := fun i v hv => by
      have hi : i < ns.length := by rw [← size]; exact (Array.getElem?_eq_some_iff.mp hv).1
      obtain ⟨t, e⟩ := PyProof.Rows.IntsAre.int_at hit i v (by rwa [Array.getElem?_toList])
      refine ⟨ns[i], t, List.getElem?_eq_getElem hi, ?_⟩
      rw [e, List.getD_eq_getElem?_getD, List.getElem?_eq_getElem hi, Option.getD_some]
    refine set_update_ints ((Walks.list hh3 _ l neI items).toS) s.heap.objs.size nf ns size hb val (items.size - 0) 0 _ (by omega) (Nat.zero_le _) ⟨⟨_, Heap.get?_push_size _ rfl, rfl, rfl⟩, isl.push _⟩ ?z ?y
    case z => exact ⟨0, Nat.le_refl 0, setR_new_at (Heap.get?_push_of_some _ at0)⟩
    case y =>
      rintro ⟨g, gn, dr, tk, os⟩ c' hm hc' hS'
      obtain rfl : gn = s.gens := hm.gens
      obtain rfl : dr = s.drawn := hm.drawn
      obtain rfl : os = s.os := hm.os
      refine wpAny_pure (show wpAny _ _ (ret Value.none) _ _ _ from wpAny_pure ⟨rfl, g, tk, c', rfl, hS', size ▸ hc', fun b o e => ?_⟩)
      have b0 : b < s.heap.objs.size := Heap.lt_size e
      refine hm.heap b o ?_ (Heap.get?_push_of_some _ (Heap.get?_push_of_some _ e))
      rw [Heap.size_push]
      simp only [List.mem_cons, List.not_mem_nil, or_false, not_or]
      exact And.intro (Nat.ne_of_lt b0) (Nat.ne_of_lt (Nat.lt_succ_of_lt b0))
  · rcases r₂ with er | fl₂
    · exact hr₂
    rcases fl₂ with _ | _ | _ | r
    iterate 3 exact hr₂.elim
    obtain ⟨rfl, g, tk, c', rfl, hS', hc', hk'⟩ := hr₂
    repeat (any_goals first | assumption | wp_step)
    exact fin _ _ _ hS' hc' hk'
end
end GV

/-! Rules upon the syntax itself: the weakest reading of a piece of text, and what it gives on data. -/
namespace GV
open PySem PySem.Spec PyProof.Rows L2
abbrev St := L2.St

/-! ### the weakest readings -/
def wE (X : Cx) (e : Expr) : TE := fun σ H Q => ∃ t, PE X e t ∧ t σ H Q
def wT (X : Cx) (e : Expr) : TT := fun σ H Q => ∃ t, PT X e t ∧ t σ H Q
def wA (X : Cx) (es : List Expr) : TA := fun σ H Q => ∃ t, PA X es t ∧ t σ H Q
def wS (X : Cx) (st : Stmt) : TS := fun D σ H => ∃ t, PS X st t ∧ t D σ H
def wB (X : Cx) (st : List Stmt) : TS := fun D σ H => ∃ t, PSs X st t ∧ t D σ H
section
variable {X : Cx}
theorem wE.pe {e : Expr} : PE X e (wE X e) := ⟨fun pins s σ H Q I ⟨_, h, q⟩ => h.run pins s σ H Q I q⟩
theorem wT.pt {e : Expr} : PT X e (wT X e) := ⟨fun pins s σ H Q I ⟨_, h, q⟩ => h.run pins s σ H Q I q⟩
theorem wA.pa {es : List Expr} : PA X es (wA X es) := ⟨fun pos pins s σ H Q I ⟨_, h, q⟩ => h.run pos pins s σ H Q I q⟩
theorem wS.ps {st : Stmt} : PS X st (wS X st) := ⟨fun pins s σ H D I ⟨_, h, q⟩ => h.run pins s σ H D I q⟩
theorem wB.ps {st : List Stmt} : PSs X st (wB X st) := ⟨fun pins s σ H D I ⟨_, h, q⟩ => h.run pins s σ H D I q⟩
end

/-! ### what is known of the heap: all but the mutable things at M and the tables -/
def NT (o : HO) : Prop := ∀ ps, o ≠ .tbl ps
def ExM (M : Addr → Prop) (H H' : Hp) : Prop := ∀ a o, H a = some o → ¬ M a → NT o → H' a = some o
def Alive (M : Addr → Prop) (H : Hp) : Prop := ∀ a, M a → ∃ o, H a = some o
theorem ExM.refl {M : Addr → Prop} (H : Hp) : ExM M H H := fun _ _ h _ _ => h
theorem ExM.trans {M : Addr → Prop} {H H1 H2 : Hp} (a : ExM M H H1) (b : ExM M H1 H2) : ExM M H H2 := fun x o h m n => b x o (a x o h m n) m n
theorem ExM.of {M : Addr → Prop} {H H' : Hp} (e : Evl.Ex H H') : ExM M H H' := fun a o h _ _ => e a o h
theorem Alive.mono {M : Addr → Prop} {H H' : Hp} (a : Alive M H) (e : Evl.Ex H H') : Alive M H' := fun x m => let ⟨o, h⟩ := a x m; ⟨o, e x o h⟩
theorem Alive.fresh {M : Addr → Prop} {H : Hp} {p : Addr} (a : Alive M H) (h : H p = none) : ¬ M p := fun m => by
  obtain ⟨o, q⟩ := a p m
  rw [h] at q
  cases q

mutual
/-- v is the datum d, none of whose parts lies in M -/
inductive Rp (K : PySem.W.Frag) (M : Addr → Prop) (H : Hp) : V → PyData → Prop
  | non : Rp K M H .non .none
  | bl (b : Bool) : Rp K M H (.bl b) (.bool b)
  | int (i : Int) : Rp K M H (.int i) (.int i)
  | str (x : Str) : Rp K M H (.str x) (.str x)
  | lst {a : Addr} {xs : List V} {ds : List PyData} : ¬ M a → Rd H a (.lst xs) → RpAll K M H xs ds → Rp K M H (.ref a) (.list ds)
  | tup {a : Addr} {xs : List V} {ds : List PyData} : ¬ M a → Rd H a (.tup xs) → RpAll K M H xs ds → Rp K M H (.ref a) (.tuple ds)
inductive RpAll (K : PySem.W.Frag) (M : Addr → Prop) (H : Hp) : List V → List PyData → Prop
  | nil : RpAll K M H [] []
  | cons {v : V} {vs : List V} {d : PyData} {ds : List PyData} : Rp K M H v d → RpAll K M H vs ds → RpAll K M H (v :: vs) (d :: ds)
end

section
variable {K : PySem.W.Frag} {M M' : Addr → Prop} {H H' : Hp}
theorem Rd.exM {a : Addr} {xs : List V} (h : Rd H a (.lst xs)) (m : ¬ M a) (e : ExM M H H') : Rd H' a (.lst xs) := by
  rcases h with h | ⟨o, h⟩
  · exact .inl (e _ _ h m (fun _ z => by cases z))
  · exact .inr ⟨o, e _ _ h m (fun _ z => by cases z)⟩
theorem Rd.exT {a : Addr} {xs : List V} (h : Rd H a (.tup xs)) (m : ¬ M a) (e : ExM M H H') : Rd H' a (.tup xs) := by
  rcases h with h | ⟨o, h⟩
  · exact .inl (e _ _ h m (fun _ z => by cases z))
  · exact .inr ⟨o, e _ _ h m (fun _ z => by cases z)⟩
theorem Rd.there {a : Addr} {u : HO} (h : Rd H a u) : H a ≠ none := by
  rcases h with h | ⟨o, h⟩ <;> rw [h] <;> exact fun z => by cases z
mutual
theorem Rp.mono {v : V} {d : PyData} : (r : Rp K M H v d) → (hm : ∀ a, M' a → M a) → ExM M H H' → Rp K M' H' v d
  | .non, _, _ => .non
  | .bl b, _, _ => .bl b
  | .int i, _, _ => .int i
  | .str x, _, _ => .str x
  | .lst m h r, hm, e => .lst (fun z => m (hm _ z)) (Rd.exM h m e) (RpAll.mono r hm e)
  | .tup m h r, hm, e => .tup (fun z => m (hm _ z)) (Rd.exT h m e) (RpAll.mono r hm e)
theorem RpAll.mono {vs : List V} {ds : List PyData} : (r : RpAll K M H vs ds) → (hm : ∀ a, M' a → M a) → ExM M H H' → RpAll K M' H' vs ds
  | .nil, _, _ => .nil
  | .cons r rs, hm, e => .cons (Rp.mono r hm e) (RpAll.mono rs hm e)
end
mutual
/-- further mutable things, none of which was there -/
theorem Rp.wide {v : V} {d : PyData} : (r : Rp K M H v d) → (∀ a, M' a → M a ∨ H a = none) → Rp K M' H v d
  | .non, _ => .non
  | .bl b, _ => .bl b
  | .int i, _ => .int i
  | .str x, _ => .str x
  | .lst m h r, hm => .lst (fun z => (hm _ z).elim m (Rd.there h)) h (RpAll.wide r hm)
  | .tup m h r, hm => .tup (fun z => (hm _ z).elim m (Rd.there h)) h (RpAll.wide r hm)
theorem RpAll.wide {vs : List V} {ds : List PyData} : (r : RpAll K M H vs ds) → (∀ a, M' a → M a ∨ H a = none) → RpAll K M' H vs ds
  | .nil, _ => .nil
  | .cons r rs, hm => .cons (Rp.wide r hm) (RpAll.wide rs hm)
end
mutual
theorem Rp.dp {v : V} {d : PyData} : (r : Rp K M H v d) → Dp K H v d
  | .non => .non
  | .bl b => .bl b
  | .int i => .int i
  | .str x => .str x
  | .lst _ h r => .lst (.inl h) (RpAll.dp r)
  | .tup _ h r => .tup (.inl h) (RpAll.dp r)
theorem RpAll.dp {vs : List V} {ds : List PyData} : (r : RpAll K M H vs ds) → DpAll K H vs ds
  | .nil => .nil
  | .cons r rs => .cons (Rp.dp r) (RpAll.dp rs)
end
theorem RpAll.length : ∀ {vs : List V} {ds : List PyData}, RpAll K M H vs ds → vs.length = ds.length
  | _, _, .nil => rfl
  | _, _, .cons _ rs => congrArg (· + 1) rs.length
theorem RpAll.get : ∀ {vs : List V} {ds : List PyData} {i : Nat} {d : PyData}, RpAll K M H vs ds → ds[i]? = some d → ∃ v, vs[i]? = some v ∧ Rp K M H v d
  | _, _, 0, _, .cons r _, e => by
    simp at e
    subst e
    exact ⟨_, rfl, r⟩
  | _, _, i + 1, d, .cons _ rs, e => by
    obtain ⟨v, h1, h2⟩ := RpAll.get (i := i) (d := d) rs (by simpa using e)
    exact ⟨v, by simpa using h1, h2⟩
  | _, _, _, _, .nil, e => by simp at e
theorem RpAll.append : ∀ {vs ws : List V} {ds es : List PyData}, RpAll K M H vs ds → RpAll K M H ws es → RpAll K M H (vs ++ ws) (ds ++ es)
  | _, _, _, _, .nil, s => s
  | _, _, _, _, .cons r rs, s => .cons r (RpAll.append rs s)
theorem RpAll.ints : ∀ ns : List Int, RpAll K M H (ns.map V.int) (ns.map PyData.int)
  | [] => .nil
  | n :: r => .cons (.int n) (RpAll.ints r)
theorem RpAll.strs : ∀ ns : List Str, RpAll K M H (ns.map V.str) (ns.map PyData.str)
  | [] => .nil
  | n :: r => .cons (.str n) (RpAll.strs r)
theorem RpAll.of_ints : ∀ {vs : List V} {ns : List Int}, RpAll K M H vs (ns.map PyData.int) → vs = ns.map V.int
  | [], [], .nil => rfl
  | _ :: _, n :: r, .cons h hs => by
    cases h
    rw [RpAll.of_ints hs]
    rfl
end

/-! ### what a piece of text gives -/
structure PD (X : Cx) (M : Addr → Prop) (e : Expr) (σ : St) (H : Hp) (d : PyData) : Prop where
  run : ∀ H1, ExM M H H1 → Alive M H1 → ∀ Q : VK, (∀ v H2, Evl.Ex H1 H2 → Rp X.K M H2 v d → Q v H2) → wE X e σ H1 Q
structure TD (X : Cx) (M : Addr → Prop) (e : Expr) (σ : St) (H : Hp) (b : Bool) : Prop where
  run : ∀ H1, ExM M H H1 → Alive M H1 → ∀ Q : Bool → Hp → Prop, (∀ H2, Evl.Ex H1 H2 → Q b H2) → wT X e σ H1 Q
structure AD (X : Cx) (M : Addr → Prop) (es : List Expr) (σ : St) (H : Hp) (ds : List PyData) : Prop where
  run : ∀ H1, ExM M H H1 → Alive M H1 → ∀ Q : List V → Hp → Prop, (∀ vs H2, Evl.Ex H1 H2 → RpAll X.K M H2 vs ds → Q vs H2) → wA X es σ H1 Q

section
variable {X : Cx} {M : Addr → Prop} {σ : St} {H H' : Hp} {a b c e : Expr} {da db d : PyData} {pos : Pos}
theorem PD.mono (h : PD X M e σ H d) (x : ExM M H H') : PD X M e σ H' d := ⟨fun H1 e1 al Q q => h.run H1 (x.trans e1) al Q q⟩
theorem TD.mono {k : Bool} (h : TD X M e σ H k) (x : ExM M H H') : TD X M e σ H' k := ⟨fun H1 e1 al Q q => h.run H1 (x.trans e1) al Q q⟩
theorem AD.mono {es : List Expr} {ds : List PyData} (h : AD X M es σ H ds) (x : ExM M H H') : AD X M es σ H' ds := ⟨fun H1 e1 al Q q => h.run H1 (x.trans e1) al Q q⟩
theorem PD.is {d' : PyData} (h : PD X M e σ H d) (q : d = d') : PD X M e σ H d' := q ▸ h
theorem TD.is {k k' : Bool} (h : TD X M e σ H k) (q : k = k') : TD X M e σ H k' := q ▸ h
/-- names and constants -/
theorem pd_name {i : Nat} {x : Str} {v : V} (hN : X.N[i]? = some x) (hv : Vis X.env.scope x) (hs : σ[i]? = some (some v)) (r : Rp X.K M H v d)
    (hd : (x == ("__debug__" : Str)) = false := by decide) (hcd : (x == ("__classdict__" : Str)) = false := by decide) : PD X M (.Name x pos) σ H d :=
  ⟨fun H1 e1 _ Q q => ⟨_, pe_var hN hv hd hcd, v, hs, q v H1 (Evl.Ex.refl H1) (r.mono (fun _ z => z) e1)⟩⟩
theorem pd_int {i : Int} {j} : PD X M (.Constant (.int i) j pos) σ H (.int i) := ⟨fun H1 _ _ Q q => ⟨_, pe_int, q _ H1 (Evl.Ex.refl H1) (.int i)⟩⟩
theorem pd_bl {k : Bool} {j} : PD X M (.Constant (.bool k) j pos) σ H (.bool k) := ⟨fun H1 _ _ Q q => ⟨_, pe_bl, q _ H1 (Evl.Ex.refl H1) (.bl k)⟩⟩
theorem pd_non {j} : PD X M (.Constant .none j pos) σ H .none := ⟨fun H1 _ _ Q q => ⟨_, pe_non, q _ H1 (Evl.Ex.refl H1) .non⟩⟩
theorem pd_str {x : Str} {j} : PD X M (.Constant (.str x) j pos) σ H (.str x) := ⟨fun H1 _ _ Q q => ⟨_, pe_str, q _ H1 (Evl.Ex.refl H1) (.str x)⟩⟩
theorem pd_globI {x : Str} {i : Int} {t : Tok} (hg : Gl X x) (hm : X.mg x = some (.int i t)) (hd : (x == ("__debug__" : Str)) = false := by decide) : PD X M (.Name x pos) σ H (.int i) :=
  ⟨fun H1 _ _ Q q => ⟨_, pe_glob hg hm (v := .int i) ⟨t, rfl⟩ hd, q _ H1 (Evl.Ex.refl H1) (.int i)⟩⟩

/-! ### two operands -/
/-- an operator by values -/
def RD2 (X : Cx) (M : Addr → Prop) (r : R2) (da db d : PyData) : Prop :=
  ∀ x y H1, Rp X.K M H1 x da → Rp X.K M H1 y db → Alive M H1 → ∀ Q : VK, (∀ v H2, Evl.Ex H1 H2 → Rp X.K M H2 v d → Q v H2) → r x y H1 Q
theorem pd_binR {op : Operator} {r : R2} (ho : OpR X (binaryOp op) r) (hr : RD2 X M r da db d) (ha : PD X M a σ H da) (hb : PD X M b σ H db) : PD X M (.BinOp a op b pos) σ H d := ⟨fun H1 e1 al Q q =>
  ⟨_, pe_op ho wE.pe wE.pe, ha.run H1 e1 al _ fun x H2 x2 rx => hb.run H2 (e1.trans (.of x2)) (al.mono x2) _ fun y H3 x3 ry =>
    hr x y H3 (rx.mono (fun _ z => z) (.of x3)) ry ((al.mono x2).mono x3) Q fun v H4 x4 rv => q v H4 ((x2.trans x3).trans x4) rv⟩⟩
theorem pd_cmpR {op : CmpOp} {r : R2} (ho : OpR X (compareOp op) r) (hm : behindInMarks op b = false) (hr : RD2 X M r da db d) (ha : PD X M a σ H da) (hb : PD X M b σ H db) : PD X M (.Compare a [op] [b] pos) σ H d := ⟨fun H1 e1 al Q q =>
  ⟨_, pe_cmpR ho wE.pe wE.pe hm, ha.run H1 e1 al _ fun x H2 x2 rx => hb.run H2 (e1.trans (.of x2)) (al.mono x2) _ fun y H3 x3 ry =>
    hr x y H3 (rx.mono (fun _ z => z) (.of x3)) ry ((al.mono x2).mono x3) Q fun v H4 x4 rv => q v H4 ((x2.trans x3).trans x4) rv⟩⟩
theorem rd_I0 {g : Int → Int → Int} {i j : Int} : RD2 X M (rI0 fun i j => .int (g i j)) (.int i) (.int j) (.int (g i j)) := fun x y H1 rx ry _ Q q => by
  cases rx
  cases ry
  exact ⟨i, j, rfl, rfl, q _ H1 (Evl.Ex.refl H1) (.int _)⟩
theorem rd_I {C : Int → Int → Prop} {g : Int → Int → Int} {i j : Int} (hc : C i j) : RD2 X M (rI C fun i j => .int (g i j)) (.int i) (.int j) (.int (g i j)) := fun x y H1 rx ry _ Q q => by
  cases rx
  cases ry
  exact ⟨i, j, rfl, rfl, hc, q _ H1 (Evl.Ex.refl H1) (.int _)⟩
theorem rd_B0 {g : Int → Int → Bool} {i j : Int} : RD2 X M (rI0 fun i j => .bl (g i j)) (.int i) (.int j) (.bool (g i j)) := fun x y H1 rx ry _ Q q => by
  cases rx
  cases ry
  exact ⟨i, j, rfl, rfl, q _ H1 (Evl.Ex.refl H1) (.bl _)⟩
theorem pd_add {i j : Int} (ha : PD X M a σ H (.int i)) (hb : PD X M b σ H (.int j)) : PD X M (.BinOp a .Add b pos) σ H (.int (i + j)) := pd_binR op_add rd_I0 ha hb
theorem pd_sub {i j : Int} (ha : PD X M a σ H (.int i)) (hb : PD X M b σ H (.int j)) : PD X M (.BinOp a .Sub b pos) σ H (.int (i - j)) := pd_binR op_sub rd_I0 ha hb
theorem pd_mul {i j : Int} (ha : PD X M a σ H (.int i)) (hb : PD X M b σ H (.int j)) (hc : CMul i j) : PD X M (.BinOp a .Mult b pos) σ H (.int (i * j)) := pd_binR op_mul (rd_I hc) ha hb
theorem pd_lt {i j : Int} (ha : PD X M a σ H (.int i)) (hb : PD X M b σ H (.int j)) : PD X M (.Compare a [.Lt] [b] pos) σ H (.bool (decide (i < j))) := pd_cmpR op_lt (nomark _) rd_B0 ha hb
theorem pd_le {i j : Int} (ha : PD X M a σ H (.int i)) (hb : PD X M b σ H (.int j)) : PD X M (.Compare a [.LtE] [b] pos) σ H (.bool (decide (i ≤ j))) := pd_cmpR op_le (nomark _) rd_B0 ha hb
theorem pd_gt {i j : Int} (ha : PD X M a σ H (.int i)) (hb : PD X M b σ H (.int j)) : PD X M (.Compare a [.Gt] [b] pos) σ H (.bool (decide (j < i))) := pd_cmpR op_gt (nomark _) rd_B0 ha hb
theorem pd_ge {i j : Int} (ha : PD X M a σ H (.int i)) (hb : PD X M b σ H (.int j)) : PD X M (.Compare a [.GtE] [b] pos) σ H (.bool (decide (j ≤ i))) := pd_cmpR op_ge (nomark _) rd_B0 ha hb
end
end GV

namespace GV
open PySem PySem.Spec PyProof.Rows L2
section
variable {X : Cx} {M : Addr → Prop} {σ : St} {H H' : Hp} {a b c e : Expr} {da db d : PyData} {pos : Pos} {es : List Expr} {ds : List PyData}

/-! ### truth, and, or, not -/
theorem pd_and {k1 k2 : Bool} {rest : List Expr} (ha : PD X M a σ H (.bool k1)) (hb : k1 = true → PD X M (.BoolOp .And (b :: rest) pos) σ H (.bool k2)) : PD X M (.BoolOp .And (a :: b :: rest) pos) σ H (.bool (k1 && k2)) := .mk fun H1 e1 al Q q =>
  ⟨_, pe_and wE.pe wE.pe, ha.run H1 e1 al _ fun x H2 x2 rx => by
    cases rx
    refine ⟨k1, rfl, ?_⟩
    cases k1 with
    | true => exact (hb rfl).run H2 (e1.trans (.of x2)) (al.mono x2) Q fun v H3 x3 rv => q v H3 (x2.trans x3) rv
    | false => exact q _ H2 x2 (.bl _)⟩
theorem pd_or {k1 k2 : Bool} {rest : List Expr} (ha : PD X M a σ H (.bool k1)) (hb : k1 = false → PD X M (.BoolOp .Or (b :: rest) pos) σ H (.bool k2)) : PD X M (.BoolOp .Or (a :: b :: rest) pos) σ H (.bool (k1 || k2)) := .mk fun H1 e1 al Q q =>
  ⟨_, pe_or wE.pe wE.pe, ha.run H1 e1 al _ fun x H2 x2 rx => by
    cases rx
    refine ⟨k1, rfl, ?_⟩
    cases k1 with
    | false => exact (hb rfl).run H2 (e1.trans (.of x2)) (al.mono x2) Q fun v H3 x3 rv => q v H3 (x2.trans x3) rv
    | true => exact q _ H2 x2 (.bl _)⟩
theorem pd_one {op} (h : PD X M a σ H d) : PD X M (.BoolOp op [a] pos) σ H d := .mk fun H1 e1 al Q q => ⟨_, pe_one wE.pe, h.run H1 e1 al Q q⟩
theorem pd_not {k : Bool} (h : PD X M a σ H (.bool k)) : PD X M (.UnaryOp .Not a pos) σ H (.bool (!k)) := .mk fun H1 e1 al Q q =>
  ⟨_, pe_not wE.pe, h.run H1 e1 al _ fun x H2 x2 rx => by
    cases rx
    exact ⟨k, rfl, q _ H2 x2 (.bl _)⟩⟩
theorem td_val {k : Bool} (h : PD X M e σ H (.bool k)) (he : ∀ whole, isTrue e X.env whole = (do let v ← whole; standAt e.pos; holding [v] (truthy v)) := by intro _; rfl) : TD X M e σ H k := .mk fun H1 e1 al Q q =>
  ⟨_, pt_val wE.pe he, h.run H1 e1 al _ fun x H2 x2 rx => by
    cases rx
    exact ⟨k, rfl, q H2 x2⟩⟩
theorem td_not {k : Bool} (h : TD X M a σ H k) : TD X M (.UnaryOp .Not a pos) σ H (!k) := .mk fun H1 e1 al Q q => ⟨_, pt_not wT.pt, h.run H1 e1 al _ fun H2 x2 => q H2 x2⟩
/-- a chain of tests -/
structure WD (X : Cx) (M : Addr → Prop) (e : Expr) (σ : St) (H : Hp) (k : Bool) : Prop where
  ex : ∃ t, PW X e t ∧ ∀ H1, ExM M H H1 → Alive M H1 → ∀ Q : Bool → Hp → Prop, (∀ H2, Evl.Ex H1 H2 → Q k H2) → t σ H1 Q
theorem WD.td {k : Bool} (h : WD X M e σ H k) : TD X M e σ H k := .mk fun H1 e1 al Q q => let ⟨t, p, r⟩ := h.ex; ⟨t, p.pt, r H1 e1 al Q q⟩
theorem wd_and1 {k : Bool} (h : TD X M a σ H k) : WD X M (.BoolOp .And [a] pos) σ H k := .mk ⟨_, pw_and1 wT.pt, h.run⟩
theorem wd_or1 {k : Bool} (h : TD X M a σ H k) : WD X M (.BoolOp .Or [a] pos) σ H k := .mk ⟨_, pw_or1 wT.pt, h.run⟩
/-- the reading of a chain, of any of its ends -/
def wW (X : Cx) (e : Expr) : TT := fun σ H Q => ∃ t, PW X e t ∧ t σ H Q
theorem wW.pw {e : Expr} : PW X e (wW X e) := ⟨fun pins s σ H whole Q I ⟨_, h, q⟩ => h.run pins s σ H whole Q I q⟩
theorem wd_and {k1 k2 : Bool} {rest : List Expr} (ha : TD X M a σ H k1) (hb : k1 = true → WD X M (.BoolOp .And (b :: rest) pos) σ H k2) : WD X M (.BoolOp .And (a :: b :: rest) pos) σ H (k1 && k2) :=
  .mk ⟨_, pw_and wT.pt wW.pw, fun H1 e1 al Q q => ha.run H1 e1 al _ fun H2 x2 => by
    cases k1 with
    | true =>
      obtain ⟨t, p, r⟩ := (hb rfl).ex
      exact ⟨t, p, r H2 (e1.trans (.of x2)) (al.mono x2) Q fun H3 x3 => q H3 (x2.trans x3)⟩
    | false => exact q H2 x2⟩
theorem wd_or {k1 k2 : Bool} {rest : List Expr} (ha : TD X M a σ H k1) (hb : k1 = false → WD X M (.BoolOp .Or (b :: rest) pos) σ H k2) : WD X M (.BoolOp .Or (a :: b :: rest) pos) σ H (k1 || k2) :=
  .mk ⟨_, pw_or wT.pt wW.pw, fun H1 e1 al Q q => ha.run H1 e1 al _ fun H2 x2 => by
    cases k1 with
    | false =>
      obtain ⟨t, p, r⟩ := (hb rfl).ex
      exact ⟨t, p, r H2 (e1.trans (.of x2)) (al.mono x2) Q fun H3 x3 => q H3 (x2.trans x3)⟩
    | true => exact q H2 x2⟩
theorem pd_if {k : Bool} (ht : TD X M c σ H k) (ha : k = true → PD X M a σ H d) (hb : k = false → PD X M b σ H d) : PD X M (.IfExp c a b pos) σ H d := .mk fun H1 e1 al Q q =>
  ⟨_, pe_ifExp wT.pt wE.pe wE.pe, ht.run H1 e1 al _ fun H2 x2 => by
    cases k with
    | true => exact (ha rfl).run H2 (e1.trans (.of x2)) (al.mono x2) Q fun v H3 x3 rv => q v H3 (x2.trans x3) rv
    | false => exact (hb rfl).run H2 (e1.trans (.of x2)) (al.mono x2) Q fun v H3 x3 rv => q v H3 (x2.trans x3) rv⟩

/-! ### lists of parts, displays -/
theorem ad_nil : AD X M [] σ H [] := .mk fun H1 _ _ Q q => ⟨_, pa_nil, q [] H1 (Evl.Ex.refl H1) .nil⟩
theorem ad_cons (h : PD X M e σ H d) (hr : AD X M es σ H ds) (hs : starEach (e :: es) X.env = (false, eval e X.env) :: starEach es X.env := by rfl) : AD X M (e :: es) σ H (d :: ds) := .mk fun H1 e1 al Q q =>
  ⟨_, pa_cons wE.pe wA.pa hs, h.run H1 e1 al _ fun v H2 x2 rv => hr.run H2 (e1.trans (.of x2)) (al.mono x2) _ fun vs H3 x3 rvs =>
    q (v :: vs) H3 (x2.trans x3) (.cons (rv.mono (fun _ z => z) (.of x3)) rvs)⟩
theorem Rp.newT {p : Addr} {xs : List V} (al : Alive M H) (hp : H p = none) (r : RpAll X.K M H xs ds) : Rp X.K M (upd H p (.tup xs)) (.ref p) (.tuple ds) :=
  .tup (al.fresh hp) (.inl upd_same) (r.mono (fun _ z => z) (.of (Evl.Ex.new hp)))
theorem Rp.newL {p : Addr} {xs : List V} (al : Alive M H) (hp : H p = none) (r : RpAll X.K M H xs ds) : Rp X.K M (upd H p (.lst xs)) (.ref p) (.list ds) :=
  .lst (al.fresh hp) (.inl upd_same) (r.mono (fun _ z => z) (.of (Evl.Ex.new hp)))
theorem pd_tup {x1} (h : AD X M es σ H ds) (hl : ds.length ≤ 100000) : PD X M (.Tuple es x1 pos) σ H (.tuple ds) := .mk fun H1 e1 al Q q =>
  ⟨_, pe_tup wA.pa, h.run H1 e1 al _ fun vs H2 x2 r => ⟨by rw [r.length]; exact Evl.sz_of hl, fun p hp => q _ _ (x2.trans (Evl.Ex.new hp)) (.newT (al.mono x2) hp r)⟩⟩
/-- .. a new one -/
structure FD (X : Cx) (M : Addr → Prop) (e : Expr) (σ : St) (H : Hp) (ds : List PyData) : Prop where
  run : ∀ H1, ExM M H H1 → Alive M H1 → ∀ Q : VK, (∀ p vs H2, H1 p = none → Evl.Ex H1 H2 → H2 p = some (.lst vs) → RpAll X.K M H2 vs ds → Q (.ref p) H2) → wE X e σ H1 Q
theorem FD.mono (h : FD X M e σ H ds) (x : ExM M H H') : FD X M e σ H' ds := .mk fun H1 e1 al Q q => h.run H1 (x.trans e1) al Q q
theorem FD.pd (h : FD X M e σ H ds) : PD X M e σ H (.list ds) := .mk fun H1 e1 al Q q => h.run H1 e1 al Q fun p vs H2 hp x2 h2 r => q _ H2 x2 (.lst (al.fresh hp) (.inl h2) r)
theorem fd_lst (h : AD X M es σ H ds) (hl : ds.length ≤ 100000) : FD X M (.List es pos) σ H ds := .mk fun H1 e1 al Q q =>
  ⟨_, pe_lst wA.pa, h.run H1 e1 al _ fun vs H2 x2 r => ⟨by rw [r.length]; exact Evl.sz_of hl, fun p hp => q p vs _ (Evl.fresh_back x2 hp) (x2.trans (Evl.Ex.new hp)) upd_same (r.mono (fun _ z => z) (.of (Evl.Ex.new hp)))⟩⟩

/-! ### == and is -/
theorem pd_eq (hu : X.A.units + 64 < cLine) (ha : PD X M a σ H da) (hb : PD X M b σ H db) (sa : SeqAt.shaped da = true) (sb : SeqAt.shaped db = true) : PD X M (.Compare a [.Eq] [b] pos) σ H (.bool (PyData.eqv da db)) :=
  pd_cmpR (op_eqD hu) (nomark _) (fun x y H1 rx ry _ Q q => ⟨da, db, rx.dp, ry.dp, sa, sb, q _ H1 (Evl.Ex.refl H1) (.bl _)⟩) ha hb
theorem pd_ne (hu : X.A.units + 64 < cLine) (ha : PD X M a σ H da) (hb : PD X M b σ H db) (sa : SeqAt.shaped da = true) (sb : SeqAt.shaped db = true) : PD X M (.Compare a [.NotEq] [b] pos) σ H (.bool (!PyData.eqv da db)) :=
  pd_cmpR (op_neD hu) (nomark _) (fun x y H1 rx ry _ Q q => ⟨da, db, rx.dp, ry.dp, sa, sb, q _ H1 (Evl.Ex.refl H1) (.bl _)⟩) ha hb
def isNone : PyData → Bool
  | .none => true
  | _ => false
theorem Rp.isN {K : PySem.W.Frag} {x : V} (r : Rp K M H x d) : decide (x = .non) = isNone d := by
  cases r <;> rfl
theorem pd_isN {j p2} (ha : PD X M a σ H da) : PD X M (.Compare a [.Is] [.Constant .none j p2] pos) σ H (.bool (isNone da)) :=
  pd_cmpR op_isN (nomark _) (fun x y H1 rx ry _ Q q => by
    cases ry
    exact ⟨rfl, q _ H1 (Evl.Ex.refl H1) (by rw [rx.isN]; exact .bl _)⟩) ha pd_non
theorem pd_notN {j p2} (ha : PD X M a σ H da) : PD X M (.Compare a [.IsNot] [.Constant .none j p2] pos) σ H (.bool (!isNone da)) :=
  pd_cmpR op_notN (nomark _) (fun x y H1 rx ry _ Q q => by
    cases ry
    exact ⟨rfl, q _ H1 (Evl.Ex.refl H1) (by rw [rx.isN]; exact .bl _)⟩) ha pd_non

/-! ### items -/
def ixD : PyData → PyData → Option PyData
  | .list ds, .int i => atI ds i
  | .tuple ds, .int i => atI ds i
  | .str z, .int i => if z.length ≤ sizeLine then (atI z.cps.toList i).map fun c => .str ⟨#[c]⟩ else none
  | _, _ => none
theorem atI_rp {K : PySem.W.Frag} {xs : List V} {i : Int} (r : RpAll K M H xs ds) (h : atI ds i = some d) : ∃ v, atI xs i = some v ∧ Rp K M H v d := by
  unfold atI at h ⊢
  rw [r.length]
  cases e : ixN ds.length i with
  | none =>
    rw [e] at h
    cases h
  | some j =>
    rw [e] at h
    obtain ⟨v, h1, h2⟩ := r.get h
    exact ⟨v, h1, h2⟩
theorem pd_ix (ha : PD X M a σ H da) (hb : PD X M b σ H db) (h : ixD da db = some d) (hs : PlainIx b := by exact fun _ _ => rfl) : PD X M (.Subscript a b pos) σ H d := .mk fun H1 e1 al Q q =>
  ⟨_, pe_ix ix_seq wE.pe wE.pe hs, ha.run H1 e1 al _ fun x H2 x2 rx => hb.run H2 (e1.trans (.of x2)) (al.mono x2) _ fun y H3 x3 ry => by
    have rx' := rx.mono (fun _ z => z) (.of x3)
    have fin : ∀ v, Rp X.K M H3 v d → Q v H3 := fun v rv => q v H3 (x2.trans x3) rv
    cases ry with
    | int i =>
      cases rx' with
      | lst m hs rs =>
        obtain ⟨v, hv, rv⟩ := atI_rp rs h
        exact .inl ⟨_, _, i, v, rfl, rfl, .inl hs, hv, fin v rv⟩
      | tup m hs rs =>
        obtain ⟨v, hv, rv⟩ := atI_rp rs h
        exact .inr (.inl ⟨_, _, i, v, rfl, rfl, .inl hs, hv, fin v rv⟩)
      | str z =>
        simp only [ixD] at h
        split at h
        · rename_i hz
          cases e : atI z.cps.toList i with
          | none =>
            rw [e] at h
            cases h
          | some c =>
            rw [e] at h
            cases h
            exact .inr (.inr ⟨z, i, c, rfl, rfl, hz, e, fin _ (.str _)⟩)
        · cases h
      | _ => cases h
    | _ => cases da <;> cases h⟩

/-! ### own defs that leave all as it is -/
def PureR (K : PySem.W.Frag) (R : List PyData → PyData → Prop) : Sp := fun vs H Q _ => ∃ M ds d, Alive M H ∧ RpAll K M H vs ds ∧ R ds d ∧ ∀ v H', Evl.Ex H H' → Rp K M H' v d → Q v H'
theorem pd_call {R : List PyData → PyData → Prop} {CX : CXT} {E : XK} {k : Nat} {f : Addr} {fd : FuncData} {ps : List Str} {x : Str} {p : Pos} (F : FnOk X.prog X.w X.K X.mg X.base CX k f fd ps (PureR X.K R)) (hr : Room k X.A) (hg : Gl X x) (hm : X.mg x = some (.ref f)) (hk : PySem.W.keepIn X.K (.ref f) = true)
    (hb : Binds X.K fd ps []) (hx : Passes CX X E) (h : AD X M (e :: es) σ H ds) (hR : R ds d)
    (hdb : (x == ("__debug__" : Str)) = false := by decide) (he : starEach (e :: es) X.env = (false, eval e X.env) :: starEach es X.env := by rfl) (hpl : (backTo pos (starEach es X.env)).any (·.1) = false := by rfl) : PD X M (.Call (.Name x p) (e :: es) [] pos) σ H d := .mk fun H1 e1 al Q q =>
  ⟨_, pe_call F hr hg hm hk hb .nil hx wA.pa hdb he hpl, h.run H1 e1 al _ fun vs H2 x2 r => by
    rw [List.append_nil]
    exact ⟨M, ds, d, al.mono x2, r, hR, fun v H3 x3 rv => q v H3 (x2.trans x3) rv⟩⟩
end

/-! ### statements -/
section
variable {X : Cx} {M : Addr → Prop} {σ : St} {H : Hp} {c e : Expr} {d : PyData} {pos : Pos} {st : Stmt} {sts A B : List Stmt} {D : Ends}
theorem b_nil (h : D.nx σ H) : wB X [] D σ H := ⟨_, pss_nil, h⟩
theorem b_cons (h : wS X st { D with nx := wB X sts D } σ H) : wB X (st :: sts) D σ H := ⟨_, pss_cons wS.ps wB.ps, h⟩
theorem s_ret (al : Alive M H) (h : PD X M e σ H d) (q : ∀ v H2, Evl.Ex H H2 → Rp X.K M H2 v d → D.rt v H2) : wS X (.Return (some e) pos) D σ H := ⟨_, ps_ret wE.pe, h.run H (ExM.refl H) al _ q⟩
theorem s_retN (q : D.rt .non H) : wS X (.Return none pos) D σ H := ⟨_, ps_retN, q⟩
theorem s_if {k : Bool} (al : Alive M H) (h : TD X M c σ H k) (h1 : k = true → ∀ H2, Evl.Ex H H2 → wB X A D σ H2) (h2 : k = false → ∀ H2, Evl.Ex H H2 → wB X B D σ H2) : wS X (.If c A B pos) D σ H :=
  ⟨_, ps_if wT.pt wB.ps wB.ps, h.run H (ExM.refl H) al _ fun H2 x2 => by
    cases k with
    | true => exact h1 rfl H2 x2
    | false => exact h2 rfl H2 x2⟩
theorem s_set {i : Nat} {x : Str} {p : Pos} (al : Alive M H) (hN : X.N.Nodup) (hi : X.N[i]? = some x) (hx : Loc X.env.scope x) (h : PD X M e σ H d) (q : ∀ v H2, Evl.Ex H H2 → Rp X.K M H2 v d → D.nx (σ.set i (some v)) H2)
    (hs : swapsWith e (some (.Name x p)) pos.line X.env = pure false := by rfl) (hf : X.fn x = true ∨ X.env.scope.names.lookup x = some .local := by first | exact .inl rfl | exact .inr rfl | assumption) : wS X (.Assign [.Name x p] e pos) D σ H :=
  ⟨_, ps_set hN hi hx wE.pe hs hf, h.run H (ExM.refl H) al _ fun v H2 x2 r => q v H2 x2 r⟩
end
end GV

namespace GV
open PySem PySem.Spec PyProof.Rows L2
section
variable {X : Cx} {M : Addr → Prop} {σ : St} {H H' : Hp} {a b c e : Expr} {da db d : PyData} {pos : Pos} {es : List Expr} {ds : List PyData}

/-! ### more of ints -/
theorem pd_neg {i : Int} (ha : PD X M a σ H (.int i)) : PD X M (.UnaryOp .USub a pos) σ H (.int (-i)) := .mk fun H1 e1 al Q q =>
  ⟨_, pe_un un_neg wE.pe, ha.run H1 e1 al _ fun x H2 x2 rx => by
    cases rx
    exact ⟨i, rfl, q _ H2 x2 (.int _)⟩⟩
theorem pd_mulW {i j : Int} (ha : PD X M a σ H (.int i)) (hb : PD X M b σ H (.int j)) (hc : CMulW i j) : PD X M (.BinOp a .Mult b pos) σ H (.int (i * j)) := pd_binR op_mulW (rd_I hc) ha hb
theorem pd_div {i j : Int} (ha : PD X M a σ H (.int i)) (hb : PD X M b σ H (.int j)) (hc : CDivW i j) : PD X M (.BinOp a .FloorDiv b pos) σ H (.int (i / j)) := pd_binR op_fdivW (rd_I hc) ha hb
theorem pd_mod {i j : Int} (ha : PD X M a σ H (.int i)) (hb : PD X M b σ H (.int j)) (hc : 0 < j) : PD X M (.BinOp a .Mod b pos) σ H (.int (i % j)) := pd_binR op_mod (rd_I (C := fun _ j => 0 < j) hc) ha hb
theorem pd_pow {i j : Int} (ha : PD X M a σ H (.int i)) (hb : PD X M b σ H (.int j)) (hc : CPow i j) : PD X M (.BinOp a .Pow b pos) σ H (.int (i ^ j.toNat)) := pd_binR op_pow (rd_I hc) ha hb

/-! ### built-ins, by values -/
def RDn (X : Cx) (M : Addr → Prop) (r : List V → Hp → VK → Prop) (ds : List PyData) (d : PyData) : Prop :=
  ∀ vs H1, RpAll X.K M H1 vs ds → Alive M H1 → ∀ Q : VK, (∀ v H2, Evl.Ex H1 H2 → Rp X.K M H2 v d → Q v H2) → r vs H1 Q
def RFn (X : Cx) (M : Addr → Prop) (r : List V → Hp → VK → Prop) (ds es : List PyData) : Prop :=
  ∀ vs H1, RpAll X.K M H1 vs ds → Alive M H1 → ∀ Q : VK, (∀ p ws H2, H1 p = none → Evl.Ex H1 H2 → H2 p = some (.lst ws) → RpAll X.K M H2 ws es → Q (.ref p) H2) → r vs H1 Q
theorem pd_callB {id : String} {x : Str} {p : Pos} {r : List V → Hp → VK → Prop} (hc : CallR X (.builtin id) r) (hg : Gl X x) (hm : X.mg x = none) (hv : bootBuiltins x = some (.builtin id)) (h : AD X M (e :: es) σ H ds) (hr : RDn X M r ds d)
    (hn : x ≠ "__name__" := by decide) (hdb : (x == ("__debug__" : Str)) = false := by decide) (he : starEach (e :: es) X.env = (false, eval e X.env) :: starEach es X.env := by rfl) (hpl : (backTo pos (starEach es X.env)).any (·.1) = false := by rfl) :
    PD X M (.Call (.Name x p) (e :: es) [] pos) σ H d := .mk fun H1 e1 al Q q =>
  ⟨_, pe_callB hc hg hm hv wA.pa hn hdb he hpl, h.run H1 e1 al _ fun vs H2 x2 rs => hr vs H2 rs (al.mono x2) Q fun v H3 x3 rv => q v H3 (x2.trans x3) rv⟩
theorem pd_callTy {T : String} {x : Str} {p : Pos} {r : List V → Hp → VK → Prop} (hc : CallR X (.type T) r) (hg : Gl X x) (hm : X.mg x = none) (hv : bootBuiltins x = some (.type T)) (h : AD X M (e :: es) σ H ds) (hr : RDn X M r ds d)
    (hn : x ≠ "__name__" := by decide) (hdb : (x == ("__debug__" : Str)) = false := by decide) (he : starEach (e :: es) X.env = (false, eval e X.env) :: starEach es X.env := by rfl) (hpl : (backTo pos (starEach es X.env)).any (·.1) = false := by rfl) :
    PD X M (.Call (.Name x p) (e :: es) [] pos) σ H d := .mk fun H1 e1 al Q q =>
  ⟨_, pe_callTy hc hg hm hv wA.pa hn hdb he hpl, h.run H1 e1 al _ fun vs H2 x2 rs => hr vs H2 rs (al.mono x2) Q fun v H3 x3 rv => q v H3 (x2.trans x3) rv⟩
theorem fd_callTy {T : String} {x : Str} {p : Pos} {r : List V → Hp → VK → Prop} {fs : List PyData} (hc : CallR X (.type T) r) (hg : Gl X x) (hm : X.mg x = none) (hv : bootBuiltins x = some (.type T)) (h : AD X M (e :: es) σ H ds) (hr : RFn X M r ds fs)
    (hn : x ≠ "__name__" := by decide) (hdb : (x == ("__debug__" : Str)) = false := by decide) (he : starEach (e :: es) X.env = (false, eval e X.env) :: starEach es X.env := by rfl) (hpl : (backTo pos (starEach es X.env)).any (·.1) = false := by rfl) :
    FD X M (.Call (.Name x p) (e :: es) [] pos) σ H fs := .mk fun H1 e1 al Q q =>
  ⟨_, pe_callTy hc hg hm hv wA.pa hn hdb he hpl, h.run H1 e1 al _ fun vs H2 x2 rs => hr vs H2 rs (al.mono x2) Q fun p ws H3 hp x3 h3 rv => q p ws H3 (Evl.fresh_back x2 hp) (x2.trans x3) h3 rv⟩
theorem fd_callB {id : String} {x : Str} {p : Pos} {r : List V → Hp → VK → Prop} {fs : List PyData} (hc : CallR X (.builtin id) r) (hg : Gl X x) (hm : X.mg x = none) (hv : bootBuiltins x = some (.builtin id)) (h : AD X M (e :: es) σ H ds) (hr : RFn X M r ds fs)
    (hn : x ≠ "__name__" := by decide) (hdb : (x == ("__debug__" : Str)) = false := by decide) (he : starEach (e :: es) X.env = (false, eval e X.env) :: starEach es X.env := by rfl) (hpl : (backTo pos (starEach es X.env)).any (·.1) = false := by rfl) :
    FD X M (.Call (.Name x p) (e :: es) [] pos) σ H fs := .mk fun H1 e1 al Q q =>
  ⟨_, pe_callB hc hg hm hv wA.pa hn hdb he hpl, h.run H1 e1 al _ fun vs H2 x2 rs => hr vs H2 rs (al.mono x2) Q fun p ws H3 hp x3 h3 rv => q p ws H3 (Evl.fresh_back x2 hp) (x2.trans x3) h3 rv⟩
theorem rpa1 {vs : List V} {K : PySem.W.Frag} (r : RpAll K M H vs [d]) : ∃ v, vs = [v] ∧ Rp K M H v d := by
  obtain ⟨⟩ | ⟨r1, r⟩ := r
  obtain ⟨⟩ := r
  exact ⟨_, rfl, r1⟩
theorem rpa2 {vs : List V} {K : PySem.W.Frag} (r : RpAll K M H vs [da, db]) : ∃ v w, vs = [v, w] ∧ Rp K M H v da ∧ Rp K M H w db := by
  obtain ⟨⟩ | ⟨r1, r⟩ := r
  obtain ⟨v, rfl, r2⟩ := rpa1 r
  exact ⟨_, _, rfl, r1, r2⟩
/-- int(n), int(True) -/
theorem rn_int {i : Int} : RDn X M (fun xs H Q => (∃ i, xs = [.int i] ∧ Q (.int i) H) ∨ ∃ k, xs = [.bl k] ∧ Q (.int (if k then 1 else 0)) H) [.int i] (.int i) := fun vs H1 r _ Q q => by
  obtain ⟨v, rfl, r1⟩ := rpa1 r
  cases r1
  exact .inl ⟨i, rfl, q _ H1 (Evl.Ex.refl H1) (.int _)⟩
theorem rn_intB {k : Bool} : RDn X M (fun xs H Q => (∃ i, xs = [.int i] ∧ Q (.int i) H) ∨ ∃ k, xs = [.bl k] ∧ Q (.int (if k then 1 else 0)) H) [.bool k] (.int (if k then 1 else 0)) := fun vs H1 r _ Q q => by
  obtain ⟨v, rfl, r1⟩ := rpa1 r
  cases r1
  exact .inr ⟨k, rfl, q _ H1 (Evl.Ex.refl H1) (.int _)⟩
theorem rn_abs {i : Int} : RDn X M (fun xs H Q => ∃ i, xs = [.int i] ∧ Q (.int (if i < 0 then -i else i)) H) [.int i] (.int (if i < 0 then -i else i)) := fun vs H1 r _ Q q => by
  obtain ⟨v, rfl, r1⟩ := rpa1 r
  cases r1
  exact ⟨i, rfl, q _ H1 (Evl.Ex.refl H1) (.int _)⟩
theorem rn_max2 {i j : Int} : RDn X M (fun xs H Q => ∃ i j, xs = [.int i, .int j] ∧ Q (.int (if j > i then j else i)) H) [.int i, .int j] (.int (if j > i then j else i)) := fun vs H1 r _ Q q => by
  obtain ⟨v, w, rfl, r1, r2⟩ := rpa2 r
  cases r1
  cases r2
  exact ⟨i, j, rfl, q _ H1 (Evl.Ex.refl H1) (.int _)⟩
theorem rn_min2 {i j : Int} : RDn X M (fun xs H Q => ∃ i j, xs = [.int i, .int j] ∧ Q (.int (if j < i then j else i)) H) [.int i, .int j] (.int (if j < i then j else i)) := fun vs H1 r _ Q q => by
  obtain ⟨v, w, rfl, r1, r2⟩ := rpa2 r
  cases r1
  cases r2
  exact ⟨i, j, rfl, q _ H1 (Evl.Ex.refl H1) (.int _)⟩
/-- len -/
def lenD : PyData → Option Nat
  | .list ds => some ds.length
  | .tuple ds => some ds.length
  | .str z => if z.length ≤ sizeLine then some z.length else none
  | _ => none
theorem rn_len {n : Nat} (h : lenD d = some n) : RDn X M (fun xs H Q => ∃ x n, xs = [x] ∧ LenV X.K x H n ∧ Q (.int n) H) [d] (.int n) := fun vs H1 r _ Q q => by
  obtain ⟨v, rfl, r1⟩ := rpa1 r
  have fin := q (.int n) H1 (Evl.Ex.refl H1) (.int _)
  cases r1 with
  | lst m hs rs =>
    cases h
    exact ⟨_, _, rfl, .inl ⟨_, .inl hs, rs.length.symm⟩, fin⟩
  | tup m hs rs =>
    cases h
    exact ⟨_, _, rfl, .inr ⟨_, .inl hs, rs.length.symm⟩, fin⟩
  | str z =>
    simp only [lenD] at h
    split at h
    · rename_i hz
      cases h
      exact ⟨_, _, rfl, ⟨hz, rfl⟩, fin⟩
    · cases h
  | _ => cases h
/-- list(xs), tuple(xs) -/
def itemsD : PyData → Option (List PyData)
  | .list ds => some ds
  | .tuple ds => some ds
  | _ => none
theorem rf_list (h : itemsD d = some ds) : RFn X M (fun xs H Q => ∃ p ys, xs = [.ref p] ∧ (SqL X.K H p ys ∨ SqT X.K H p ys) ∧ ∀ l, H l = none → Q (.ref l) (upd H l (.lst ys))) [d] ds := fun vs H1 r al Q q => by
  obtain ⟨v, rfl, r1⟩ := rpa1 r
  cases r1 with
  | lst m hs rs =>
    cases h
    exact ⟨_, _, rfl, .inl (.inl hs), fun l hl => q l _ _ hl (Evl.Ex.new hl) upd_same (rs.mono (fun _ z => z) (.of (Evl.Ex.new hl)))⟩
  | tup m hs rs =>
    cases h
    exact ⟨_, _, rfl, .inr (.inl hs), fun l hl => q l _ _ hl (Evl.Ex.new hl) upd_same (rs.mono (fun _ z => z) (.of (Evl.Ex.new hl)))⟩
  | _ => cases h
theorem rn_tuple (h : itemsD d = some ds) : RDn X M (fun xs H Q => ∃ p ys, xs = [.ref p] ∧ ((SqL X.K H p ys ∧ ∀ l, H l = none → Q (.ref l) (upd H l (.tup ys))) ∨ (SqT X.K H p ys ∧ Q (.ref p) H))) [d] (.tuple ds) := fun vs H1 r al Q q => by
  obtain ⟨v, rfl, r1⟩ := rpa1 r
  cases r1 with
  | lst m hs rs =>
    cases h
    exact ⟨_, _, rfl, .inl ⟨.inl hs, fun l hl => q _ _ (Evl.Ex.new hl) (.newT (X := X) al hl rs)⟩⟩
  | tup m hs rs =>
    cases h
    exact ⟨_, _, rfl, .inr ⟨.inl hs, q _ H1 (Evl.Ex.refl H1) (.tup m hs rs)⟩⟩
  | _ => cases h

/-! ### slices of a list -/
theorem cutV_map (xs : List V) (lo hi : Option Int) : True := True.intro
def cutD (xs : List PyData) (lo hi : Option Int) : List PyData := (xs.drop (HT.sIx xs.length 0 lo)).take (HT.sIx xs.length xs.length hi - HT.sIx xs.length 0 lo)
theorem RpAll.take {K : PySem.W.Frag} : ∀ {vs : List V} {ds : List PyData} (n : Nat), RpAll K M H vs ds → RpAll K M H (vs.take n) (ds.take n)
  | _, _, 0, _ => .nil
  | _, _, n + 1, .nil => .nil
  | _, _, n + 1, .cons r rs => .cons r (RpAll.take n rs)
theorem RpAll.drop {K : PySem.W.Frag} : ∀ {vs : List V} {ds : List PyData} (n : Nat), RpAll K M H vs ds → RpAll K M H (vs.drop n) (ds.drop n)
  | _, _, 0, r => r
  | _, _, n + 1, .nil => .nil
  | _, _, n + 1, .cons r rs => RpAll.drop n rs
theorem RpAll.cut {K : PySem.W.Frag} {vs : List V} {ds : List PyData} (lo hi : Option Int) (r : RpAll K M H vs ds) : RpAll K M H (cutV vs lo hi) (cutD ds lo hi) := by
  unfold cutV cutD
  rw [r.length]
  exact (r.drop _).take _
/-- an optional part of a slice -/
structure OD (X : Cx) (M : Addr → Prop) (e : Option Expr) (σ : St) (H : Hp) (o : Option Int) : Prop where
  ex : ∃ t, PO X e t ∧ ∀ H1, ExM M H H1 → Alive M H1 → ∀ Q : Option Int → Hp → Prop, (∀ H2, Evl.Ex H1 H2 → Q o H2) → t σ H1 Q
theorem od_none : OD X M none σ H none := ⟨_, po_none, fun H1 _ _ Q q => q H1 (Evl.Ex.refl H1)⟩
theorem od_some {i : Int} (h : PD X M e σ H (.int i)) : OD X M (some e) σ H (some i) := ⟨_, po_some wE.pe, fun H1 e1 al Q q => h.run H1 e1 al _ fun x H2 x2 r => by
  cases r
  exact ⟨i, rfl, q H2 x2⟩⟩
theorem fd_slice {lo hi : Option Expr} {l u : Option Int} {p2 : Pos} (h : PD X M e σ H (.list ds)) (hl : OD X M lo σ H l) (hu : OD X M hi σ H u) : FD X M (.Subscript e (.Slice lo hi none p2) pos) σ H (cutD ds l u) := by
  obtain ⟨tl, pl, rl⟩ := hl.ex
  obtain ⟨tu, pu, ru⟩ := hu.ex
  refine .mk fun H1 e1 al Q q => ⟨_, pe_slice sl_list wE.pe pl pu, h.run H1 e1 al _ fun x H2 x2 r => ?_⟩
  refine rl H2 (e1.trans (.of x2)) (al.mono x2) _ fun H3 x3 => ru H3 ((e1.trans (.of x2)).trans (.of x3)) ((al.mono x2).mono x3) _ fun H4 x4 => ?_
  have r4 := r.mono (fun _ z => z) (.of (x3.trans x4))
  cases r4 with
  | lst m hs rs =>
    exact ⟨_, _, rfl, .inl hs, fun p hp => q p _ _ (Evl.fresh_back (x2.trans (x3.trans x4)) hp) ((x2.trans (x3.trans x4)).trans (Evl.Ex.new hp)) upd_same ((rs.cut l u).mono (fun _ z => z) (.of (Evl.Ex.new hp)))⟩

/-! ### list + list -/
def rCatR : R2 := fun x y H Q => ∃ l b xs zs, x = .ref l ∧ y = .ref b ∧ Rd H l (.lst xs) ∧ Rd H b (.lst zs) ∧ xs.length + zs.length ≤ sizeLine ∧ ∀ p, H p = none → Q (.ref p) (upd H p (.lst (xs ++ zs)))
theorem op_catR : OpR X (binaryOp .Add) rCatR := by
  intro pins s σ H x y v u Q I rx ry h
  obtain ⟨l, b, xs, zs, rfl, rfl, hH, hB, hz, q⟩ := h
  cases rx
  cases ry
  obtain ⟨z, its, n, r, e⟩ := hH.ok I.hok
  obtain ⟨z2, its2, n2, r2, e2⟩ := hB.ok I.hok
  have hl := r.length
  have hl2 := r2.length
  refine PySem.P.add_list e e2 ?_ (by rw [List.size_toArray, List.size_toArray]; omega)
  have ea : its.toArray ++ its2.toArray = (its ++ its2).toArray := by simp
  rw [ea]
  exact ⟨.ref _, _, I.lnew (t' := s.toks) (r.append r2) (by rw [List.length_append]; omega), rfl, q _ I.fresh⟩
theorem fd_cat {es fs : List PyData} (ha : PD X M a σ H (.list es)) (hb : PD X M b σ H (.list fs)) (hl : es.length + fs.length ≤ 100000) : FD X M (.BinOp a .Add b pos) σ H (es ++ fs) := .mk fun H1 e1 al Q q =>
  ⟨_, pe_op op_catR wE.pe wE.pe, ha.run H1 e1 al _ fun x H2 x2 rx => hb.run H2 (e1.trans (.of x2)) (al.mono x2) _ fun y H3 x3 ry => by
    have rx' := rx.mono (fun _ z => z) (.of x3)
    cases rx' with
    | lst m1 h1 r1 =>
      cases ry with
      | lst m2 h2 r2 =>
        exact ⟨_, _, _, _, rfl, rfl, h1, h2, by rw [r1.length, r2.length]; exact Evl.sz_of hl, fun p hp => q p _ _ (Evl.fresh_back (x2.trans x3) hp) ((x2.trans x3).trans (Evl.Ex.new hp)) upd_same
          ((r1.append r2).mono (fun _ z => z) (.of (Evl.Ex.new hp)))⟩⟩
end
end GV

namespace GV
open PySem PySem.Spec PyProof.Rows L2

/-! ### what is walked -/
/-- from H0 on the iterator gives these data, one after another -/
structure Wk (K : PySem.W.Frag) (M : Addr → Prop) (J : It) (H0 : Hp) (ds : List PyData) : Prop where
  go : ∀ M' i H, (∀ a, M' a → M a ∨ H0 a = none) → ExM M' H0 H → i < ds.length → J.go i H
  stop : ∀ M' H, (∀ a, M' a → M a ∨ H0 a = none) → ExM M' H0 H → J.stop ds.length H
  yld : ∀ M' i H x H', (∀ a, M' a → M a ∨ H0 a = none) → ExM M' H0 H → Alive M' H → J.yld i H x H' → Evl.Ex H H' ∧ ∀ d, ds[i]? = some d → Rp K M' H' x d
structure Src (X : Cx) (M : Addr → Prop) (tg iter : Expr) (σ : St) (H : Hp) (ds : List PyData) : Prop where
  ex : ∃ wi, PI X tg iter wi ∧ ∀ H1, ExM M H H1 → Alive M H1 → ∀ R, (∀ J H2, Evl.Ex H1 H2 → Wk X.K M J H2 ds → R J H2) → wi σ H1 R
section
variable {X : Cx} {K : PySem.W.Frag} {M : Addr → Prop} {σ : St} {H H' : Hp} {a b c e tg iter : Expr} {da db d : PyData} {pos : Pos} {es : List Expr} {ds : List PyData}
theorem rd_inj {a : Addr} {u w : HO} (h : Rd H a u) (h' : H a = some w ∨ ∃ o, H a = some (.frz o w)) (hf : ∀ o z, u ≠ .frz o z) (hf' : ∀ o z, w ≠ .frz o z) : u = w := by
  rcases h with h | ⟨o, h⟩ <;> rcases h' with h' | ⟨o', h'⟩ <;> rw [h] at h' <;> cases h'
  · rfl
  · exact absurd rfl (hf _ _)
  · exact absurd rfl (hf' _ _)
  · rfl
theorem wk_list {a : Addr} {xs : List V} (m : ¬ M a) (h : Rd H a (.lst xs)) (r : RpAll K M H xs ds) : Wk K M (Itl K a) H ds := by
  have nm : ∀ M' : Addr → Prop, (∀ a, M' a → M a ∨ H a = none) → ¬ M' a := fun M' hm z => (hm a z).elim m (Rd.there h)
  have at_ : ∀ (M' : Addr → Prop) (H' : Hp), (∀ a, M' a → M a ∨ H a = none) → ExM M' H H' → Rd H' a (.lst xs) := fun M' H' hm e => Rd.exM (M := M') h (nm M' hm) e
  refine ⟨fun M' i H' hm e hi => ?_, fun M' H' hm e => ?_, fun M' i H' x H'' hm e al y => ?_⟩
  · have hx : i < xs.length := by rw [r.length]; exact hi
    exact ⟨xs, xs[i], .inl (at_ M' H' hm e), List.getElem?_eq_getElem hx⟩
  · exact ⟨xs, .inl (at_ M' H' hm e), by rw [r.length]; exact Nat.le_refl _⟩
  · obtain ⟨rfl, y⟩ := y
    refine ⟨Evl.Ex.refl _, fun d hd => ?_⟩
    obtain ⟨v, hv, rv⟩ := r.get hd
    have q := y xs (.inl (at_ M' _ hm e))
    rw [hv] at q
    cases q
    exact (rv.wide hm).mono (fun _ z => z) e
theorem wk_tup {a : Addr} {xs : List V} (m : ¬ M a) (h : Rd H a (.tup xs)) (r : RpAll K M H xs ds) : Wk K M (Itt K a) H ds := by
  have nm : ∀ M' : Addr → Prop, (∀ a, M' a → M a ∨ H a = none) → ¬ M' a := fun M' hm z => (hm a z).elim m (Rd.there h)
  have at_ : ∀ (M' : Addr → Prop) (H' : Hp), (∀ a, M' a → M a ∨ H a = none) → ExM M' H H' → Rd H' a (.tup xs) := fun M' H' hm e => Rd.exT (M := M') h (nm M' hm) e
  refine ⟨fun M' i H' hm e hi => ?_, fun M' H' hm e => ?_, fun M' i H' x H'' hm e al y => ?_⟩
  · have hx : i < xs.length := by rw [r.length]; exact hi
    exact ⟨xs, xs[i], .inl (at_ M' H' hm e), List.getElem?_eq_getElem hx⟩
  · exact ⟨xs, .inl (at_ M' H' hm e), by rw [r.length]; exact Nat.le_refl _⟩
  · obtain ⟨rfl, y⟩ := y
    refine ⟨Evl.Ex.refl _, fun d hd => ?_⟩
    obtain ⟨v, hv, rv⟩ := r.get hd
    have q := y xs (.inl (at_ M' _ hm e))
    rw [hv] at q
    cases q
    exact (rv.wide hm).mono (fun _ z => z) e
theorem wk_range (lo : Int) (n : Nat) : Wk K M (Itr lo n) H ((List.range n).map fun i => PyData.int (lo + (i : Nat))) := by
  refine ⟨fun M' i H' hm e hi => ?_, fun M' H' hm e => ?_, fun M' i H' x H'' hm e al y => ?_⟩
  · rw [List.length_map, List.length_range] at hi
    exact hi
  · rw [List.length_map, List.length_range]
    exact Nat.le_refl _
  · obtain ⟨rfl, rfl⟩ := y
    refine ⟨Evl.Ex.refl _, fun d hd => ?_⟩
    rw [List.getElem?_map] at hd
    obtain ⟨j, hj, rfl⟩ := Option.map_eq_some_iff.mp hd
    obtain ⟨h1, h2⟩ := List.getElem?_eq_some_iff.mp hj
    rw [List.getElem_range] at h2
    subst h2
    exact .int _
def enumD (ds : List PyData) : List PyData := ds.zipIdx.map fun p => .tuple [.int (p.2 : Nat), p.1]
theorem enumD_get {i : Nat} {d : PyData} (h : (enumD ds)[i]? = some d) : ∃ e, ds[i]? = some e ∧ d = .tuple [.int (i : Nat), e] := by
  unfold enumD at h
  rw [List.getElem?_map] at h
  obtain ⟨p, hp, rfl⟩ := Option.map_eq_some_iff.mp h
  rw [List.getElem?_zipIdx] at hp
  obtain ⟨e, he, rfl⟩ := Option.map_eq_some_iff.mp hp
  exact ⟨e, he, by simp⟩
theorem enumD_length : (enumD ds).length = ds.length := by
  unfold enumD
  rw [List.length_map, List.length_zipIdx]
theorem wk_enum {a : Addr} {xs : List V} (m : ¬ M a) (h : Rd H a (.lst xs)) (r : RpAll K M H xs ds) : Wk K M (Ite K a) H (enumD ds) := by
  have nm : ∀ M' : Addr → Prop, (∀ a, M' a → M a ∨ H a = none) → ¬ M' a := fun M' hm z => (hm a z).elim m (Rd.there h)
  have at_ : ∀ (M' : Addr → Prop) (H' : Hp), (∀ a, M' a → M a ∨ H a = none) → ExM M' H H' → Rd H' a (.lst xs) := fun M' H' hm e => Rd.exM (M := M') h (nm M' hm) e
  refine ⟨fun M' i H' hm e hi => ?_, fun M' H' hm e => ?_, fun M' i H' x H'' hm e al y => ?_⟩
  · have hx : i < xs.length := by rw [r.length, ← enumD_length]; exact hi
    exact ⟨xs, xs[i], .inl (at_ M' H' hm e), List.getElem?_eq_getElem hx⟩
  · exact ⟨xs, .inl (at_ M' H' hm e), by rw [r.length, enumD_length]; exact Nat.le_refl _⟩
  · obtain ⟨T, z, rfl, hT, rfl, y⟩ := y
    refine ⟨Evl.Ex.new hT, fun d hd => ?_⟩
    obtain ⟨e', he, rfl⟩ := enumD_get hd
    obtain ⟨v, hv, rv⟩ := r.get he
    have q := y xs (.inl (at_ M' _ hm e))
    rw [hv] at q
    cases q
    exact .tup (al.fresh hT) (.inl upd_same) (.cons (.int _) (.cons (((rv.wide hm).mono (fun _ z => z) e).mono (fun _ z => z) (.of (Evl.Ex.new hT))) .nil))
theorem src_list (h : PD X M iter σ H (.list ds)) : Src X M tg iter σ H ds := ⟨_, pi_list wE.pe, fun H1 e1 al R q => h.run H1 e1 al _ fun v H2 x2 r => by
  cases r with
  | lst m hr rs => exact ⟨_, rfl, ⟨_, .inl hr⟩, q _ H2 x2 (wk_list m hr rs)⟩⟩
theorem src_tup (h : PD X M iter σ H (.tuple ds)) : Src X M tg iter σ H ds := ⟨_, pi_tup wE.pe, fun H1 e1 al R q => h.run H1 e1 al _ fun v H2 x2 r => by
  cases r with
  | tup m hr rs => exact ⟨_, rfl, ⟨_, .inl hr⟩, q _ H2 x2 (wk_tup m hr rs)⟩⟩
theorem src_enum {p tpos : Pos} {elts : List Expr} {kk : Nat} (hg : Gl X "enumerate") (hm : X.mg "enumerate" = none) (h : PD X M e σ H (.list ds)) (hs : starEach [e] X.env = [(false, eval e X.env)] := by rfl)
    (hs' : starEach (e :: []) X.env = (false, eval e X.env) :: starEach [] X.env := by rfl) : Src X M (.Tuple elts kk tpos) (.Call (.Name "enumerate" p) [e] [] pos) σ H (enumD ds) :=
  ⟨_, pi_enum hg hm wA.pa hs, fun H1 e1 al R q => (ad_cons h ad_nil hs').run H1 e1 al _ fun vs H2 x2 rs => by
    obtain ⟨v, rfl, r⟩ := rpa1 rs
    cases r with
    | lst m hr rr => exact ⟨_, _, rfl, .inl hr, q _ H2 x2 (wk_enum m hr rr)⟩⟩
theorem src_range1 {p : Pos} {j : Int} (hg : Gl X "range") (hm : X.mg "range" = none) (h : PD X M e σ H (.int j)) (h1 : -(2 ^ 62) ≤ j) (h2 : j < 2 ^ 62) (hs : starEach [e] X.env = [(false, eval e X.env)] := by rfl)
    (hs' : starEach (e :: []) X.env = (false, eval e X.env) :: starEach [] X.env := by rfl) : Src X M tg (.Call (.Name "range" p) [e] [] pos) σ H ((List.range j.toNat).map fun i => PyData.int (0 + (i : Nat))) :=
  ⟨_, pi_range1 hg hm wA.pa hs, fun H1 e1 al R q => (ad_cons h ad_nil hs').run H1 e1 al _ fun vs H2 x2 rs => by
    obtain ⟨v, rfl, r⟩ := rpa1 rs
    cases r
    exact ⟨j, rfl, h1, h2, q _ H2 x2 (wk_range 0 j.toNat)⟩⟩
theorem src_range2 {p : Pos} {a b : Expr} {i j : Int} (hg : Gl X "range") (hm : X.mg "range" = none) (ha : PD X M a σ H (.int i)) (hb : PD X M b σ H (.int j)) (h1 : -(2 ^ 62) ≤ i ∧ i < 2 ^ 62) (h2 : -(2 ^ 62) ≤ j ∧ j < 2 ^ 62)
    (hs : starEach [a, b] X.env = [(false, eval a X.env), (false, eval b X.env)] := by rfl) (hs2 : starEach [b] X.env = [(false, eval b X.env)] := by rfl)
    (hsa : starEach (a :: [b]) X.env = (false, eval a X.env) :: starEach [b] X.env := by rfl) (hsb : starEach (b :: []) X.env = (false, eval b X.env) :: starEach [] X.env := by rfl) :
    Src X M tg (.Call (.Name "range" p) [a, b] [] pos) σ H ((List.range (j - i).toNat).map fun k => PyData.int (i + (k : Nat))) :=
  ⟨_, pi_range2 hg hm wA.pa hs hs2, fun H1 e1 al R q => (ad_cons ha (ad_cons hb ad_nil hsb) hsa).run H1 e1 al _ fun vs H2 x2 rs => by
    obtain ⟨v, w, rfl, r1, r2⟩ := rpa2 rs
    cases r1
    cases r2
    exact ⟨i, j, rfl, ⟨h1.1, h1.2, h2.1, h2.2⟩, q _ H2 x2 (wk_range i (j - i).toNat)⟩⟩

/-! ### targets: a name, two names -/
inductive Tg where
  | one (i : Nat)
  | two (i j : Nat)
def Tg.g (K : PySem.W.Frag) : Tg → TG
  | .one i => gName i
  | .two i j => gTup K 2 (gCons (gName i) (gCons (gName j) gNil))
def Tg.Ok (K : PySem.W.Frag) (M : Addr → Prop) (H : Hp) (d : PyData) (σ : St) : Tg → St → Prop
  | .one i, σ' => ∃ v, Rp K M H v d ∧ σ' = σ.set i (some v)
  | .two i j, σ' => ∃ da db v w, d = .tuple [da, db] ∧ Rp K M H v da ∧ Rp K M H w db ∧ σ' = (σ.set i (some v)).set j (some w)
def Tg.Fits : Tg → PyData → Prop
  | .one _, _ => True
  | .two _ _, d => ∃ da db, d = .tuple [da, db]
theorem Tg.run {t : Tg} {v : V} {Q : St → Hp → Prop} (f : t.Fits d) (r : Rp K M H v d) (q : ∀ σ', t.Ok K M H d σ σ' → Q σ' H) : t.g K v σ H Q := by
  cases t with
  | one i => exact q _ ⟨v, r, rfl⟩
  | two i j =>
    obtain ⟨da, db, rfl⟩ := f
    cases r with
    | tup m h rs =>
      obtain ⟨v1, w1, rfl, r1, r2⟩ := rpa2 rs
      exact ⟨_, _, rfl, .inl h, rfl, v1, [w1], rfl, w1, [], rfl, rfl, q _ ⟨da, db, v1, w1, rfl, r1, r2, rfl⟩⟩

/-! ### for -/
theorem s_for {t : Tg} {body : List Stmt} {D : Ends} (hp : PassesOwn (model X.prog X.w) X.A X.env X.xe) (hc : X.calm = true) (hi : Src X M tg iter σ H ds) (hg : PG X tg (t.g X.K)) (al : Alive M H) (J : Hp → Nat → St → Hp → Prop)
    (h0 : ∀ H1, Evl.Ex H H1 → J H1 0 σ H1) (hk : ∀ H1 i σ' H', Evl.Ex H H1 → J H1 i σ' H' → ExM M H1 H' ∧ Alive M H') (hf : ∀ d ∈ ds, t.Fits d)
    (ht : ∀ H1 i d σ' H' H2 σ2, Evl.Ex H H1 → ds[i]? = some d → J H1 i σ' H' → Evl.Ex H' H2 → t.Ok X.K M H2 d σ' σ2 → wB X body { D with nx := J H1 (i + 1), ct := J H1 (i + 1), bk := D.nx } σ2 H2)
    (hd : ∀ H1 σ' H', Evl.Ex H H1 → J H1 ds.length σ' H' → D.nx σ' H') (hs : ∀ x, foldedSetIterable iter X.env x = pure x := by intro _; rfl) : wS X (.For tg iter body [] pos) D σ H := by
  obtain ⟨wi, pi, run⟩ := hi.ex
  refine ⟨_, ps_for hp hc pi hg wB.ps hs, run H (ExM.refl H) al _ fun It H1 x1 wk => ?_⟩
  refine ⟨fun i m σ' H' => m = ds.length - i ∧ i ≤ ds.length ∧ J H1 i σ' H', ⟨ds.length, rfl, Nat.zero_le _, h0 H1 x1⟩, ?_⟩
  rintro i m σ' H' ⟨rfl, hi', j⟩
  obtain ⟨e, al'⟩ := hk H1 i σ' H' x1 j
  by_cases hlt : i < ds.length
  · refine .inr ⟨wk.go M i H' (fun _ z => .inl z) e hlt, J H1 (i + 1), fun σ2 H2 j2 => ⟨ds.length - (i + 1), by omega, rfl, hlt, j2⟩, fun x H2 y => ?_⟩
    obtain ⟨x2, r⟩ := wk.yld M i H' x H2 (fun _ z => .inl z) e al' y
    have hd' : ds[i]? = some ds[i] := List.getElem?_eq_getElem hlt
    exact Tg.run (hf _ (List.getElem_mem hlt)) (r _ hd') fun σ2 ok => ht H1 i _ σ' H' H2 σ2 x1 hd' j x2 ok
  · have e2 : i = ds.length := by omega
    subst e2
    exact .inl ⟨wk.stop M H' (fun _ z => .inl z) e, hd H1 σ' H' x1 j⟩

/-! ### [elt for target in iter if ..] -/
def wTs (X : Cx) (ifs : List Expr) : TT := fun σ H Q => ∃ t, PTs X ifs t ∧ t σ H Q
theorem wTs.pts {ifs : List Expr} : PTs X ifs (wTs X ifs) := ⟨fun pins s σ H Q I ⟨_, h, q⟩ => h.run pins s σ H Q I q⟩
/-- the tests' answer -/
structure TsD (X : Cx) (M : Addr → Prop) (ifs : List Expr) (σ : St) (H : Hp) (k : Bool) : Prop where
  run : ∀ H1, ExM M H H1 → Alive M H1 → ∀ Q : Bool → Hp → Prop, (∀ H2, Evl.Ex H1 H2 → Q k H2) → wTs X ifs σ H1 Q
theorem tsd_nil : TsD X M [] σ H true := ⟨fun H1 _ _ Q q => ⟨_, pts_nil, q H1 (Evl.Ex.refl H1)⟩⟩
theorem tsd_one {k : Bool} (h : TD X M c σ H k) : TsD X M [c] σ H k := ⟨fun H1 e1 al Q q => ⟨_, pts_one wT.pt, h.run H1 e1 al Q q⟩⟩
abbrev Cx.lc (X : Cx) (s : Shared) (H : Hp) (scope : Scope) (C : Addr) (cl : List (Str × Addr)) (fp : List Addr) : Cx := X.blk s H scope (compEnvC scope cl C X.env) fp
theorem lc_core {t : Tg} {elt : Expr} {ifs : List Expr} {scope : Scope} {own : List (Str × Nat)} (hc : X.calm = true) (hN : X.N.Nodup) (hi : Src X M tg iter σ H ds) (ok : BlkOk X.N X.env.scope scope own)
    (hg : ∀ s H C cl fp, PG (Cx.lc X s H scope C cl fp) tg (t.g X.K)) (hf : ∀ d ∈ ds, t.Fits d) (hw : ∀ M H d σ', t.Ok X.K M H d (wipe σ (own.map (·.2))) σ' → wipe σ' (own.map (·.2)) = wipe σ (own.map (·.2)))
    (p : PyData → Bool) (f : PyData → PyData) (hl : ds.length ≤ 100000)
    (body : ∀ s0 H0 C cl fp M' H' d σ', (∀ a, M a → M' a) → (∀ v e, Rp X.K M H v e → Rp X.K M' H' v e) → d ∈ ds → t.Ok X.K M' H' d (wipe σ (own.map (·.2))) σ' →
      TsD (Cx.lc X s0 H0 scope C cl fp) M' ifs σ' H' (p d) ∧ (p d = true → PD (Cx.lc X s0 H0 scope C cl fp) M' elt σ' H' (f d))) :
    ∃ wi, PI X tg iter wi ∧ ∀ H1, ExM M H H1 → Alive M H1 → ∀ Q : VK, (∀ l ws H2, H1 l = none → Evl.Ex H1 H2 → H2 l = some (.lst ws) → RpAll X.K M H2 ws ((ds.filter p).map f) → Q (.ref l) H2) →
      tLc wi (t.g X.K) (fun σ H Q => ∀ s0 H0 C cl fp, wTs (Cx.lc X s0 H0 scope C cl fp) ifs σ H Q) (fun σ H Q => ∀ s0 H0 C cl fp, wE (Cx.lc X s0 H0 scope C cl fp) elt σ H Q) (own.map (·.2)) σ H1 Q := by
  obtain ⟨wi, pi, run⟩ := hi.ex
  refine ⟨wi, pi, fun H1 e1 al Q q => ?_⟩
  refine run H1 e1 al _ fun It Hs xs wk D hD => ?_
  have alS := al.mono xs
  -- D is mutable meanwhile
  let M' : Addr → Prop := fun a => M a ∨ a = D
  have hm : ∀ a, M' a → M a ∨ Hs a = none := fun a z => z.elim .inl fun e => .inr (by rw [e]; exact hD)
  have al2 : ∀ H', Evl.Ex Hs H' → (∃ acc, H' D = some (.lst acc)) → Alive M' H' := fun H' e ⟨acc, h⟩ a z => by
    rcases z with z | z
    · exact (alS.mono e) a z
    · subst z
      exact ⟨_, h⟩
  refine ⟨fun i m H' => m = ds.length - i ∧ i ≤ ds.length ∧ Evl.Ex Hs H' ∧ ∃ acc, H' D = some (.lst acc) ∧ acc.length ≤ i ∧ RpAll X.K M' H' acc (((ds.take i).filter p).map f), ⟨ds.length, rfl, Nat.zero_le _, Evl.Ex.new hD, [], upd_same, Nat.le_refl _, by simpa using RpAll.nil⟩, ?_⟩
  rintro i m H' ⟨rfl, hi', x, acc, hacc, hlen, racc⟩
  have eM : ExM M' Hs H' := .of x
  have al' := al2 H' x ⟨acc, hacc⟩
  by_cases hlt : i < ds.length
  · refine .inr ⟨wk.go M' i H' hm eM hlt, fun H2 => Evl.Ex Hs H2 ∧ ∃ acc, H2 D = some (.lst acc) ∧ acc.length ≤ i + 1 ∧ RpAll X.K M' H2 acc (((ds.take (i + 1)).filter p).map f), fun H2 ⟨a1, a2⟩ => ⟨ds.length - (i + 1), by omega, rfl, hlt, a1, a2⟩, fun v H2 y => ?_⟩
    obtain ⟨x2, r⟩ := wk.yld M' i H' v H2 hm eM al' y
    have hd' : ds[i]? = some ds[i] := List.getElem?_eq_getElem hlt
    have hmem := List.getElem_mem hlt
    have hacc2 : H2 D = some (.lst acc) := x2 _ _ hacc
    have lift : ∀ v e, Rp X.K M H v e → Rp X.K M' H2 v e := fun v e rv => ((rv.mono (fun _ z => z) (e1.trans (.of xs))).wide hm).mono (fun _ z => z) (.of (x.trans x2))
    have al3 := al2 H2 (x.trans x2) ⟨acc, hacc2⟩
    refine Tg.run (hf _ hmem) (r _ hd') fun σ2 okk => ⟨hw _ _ _ _ okk, ?_⟩
    have all := fun s0 H0 C cl fp => body s0 H0 C cl fp M' H2 ds[i] σ2 (fun _ z => .inl z) lift hmem okk
    -- the test
    have tk : (ds.take (i + 1)).filter p = (ds.take i).filter p ++ (if p ds[i] = true then [ds[i]] else []) := by
      rw [List.take_add_one, hd', List.filter_append]
      simp only [Option.toList_some, List.filter_cons, List.filter_nil]
    have fin : ∀ b, b = p ds[i] → ∀ H3, Evl.Ex H2 H3 → (if b = true then (∀ s0 H0 C cl fp, wE (Cx.lc X s0 H0 scope C cl fp) elt σ2 H3 fun y H4 => ∃ acc, H4 D = some (.lst acc) ∧ acc.length < sizeLine ∧
        (Evl.Ex Hs (upd H4 D (.lst (acc ++ [y]))) ∧ ∃ acc', (upd H4 D (.lst (acc ++ [y]))) D = some (.lst acc') ∧ acc'.length ≤ i + 1 ∧ RpAll X.K M' (upd H4 D (.lst (acc ++ [y]))) acc' (((ds.take (i + 1)).filter p).map f)))
        else (Evl.Ex Hs H3 ∧ ∃ acc, H3 D = some (.lst acc) ∧ acc.length ≤ i + 1 ∧ RpAll X.K M' H3 acc (((ds.take (i + 1)).filter p).map f))) := by
      intro b hb H3 x3
      have hacc3 := x3 _ _ hacc2
      cases b with
      | true =>
        rw [if_pos rfl]
        intro s0 H0 C cl fp
        refine ((all s0 H0 C cl fp).2 hb.symm).run H3 (.of x3) (al3.mono x3) _ fun y H4 x4 ry => ?_
        have x5 : Evl.Ex Hs H4 := ((x.trans x2).trans x3).trans x4
        refine ⟨acc, x4 _ _ hacc3, ?_, Evl.Ex.mut x5 hD, _, upd_same, ?_, ?_⟩
        · exact Nat.lt_of_lt_of_le (Nat.lt_of_le_of_lt hlen hlt) (Evl.sz_of hl)
        · rw [List.length_append, List.length_singleton]
          omega
        · rw [tk, if_pos hb.symm, List.map_append]
          have eD : ExM M' H4 (upd H4 D (.lst (acc ++ [y]))) := fun a o h nm _ => by
            rw [upd_ne (fun e => nm (.inr e))]
            exact h
          exact (racc.mono (fun _ z => z) (.of ((x2.trans x3).trans x4))).append (.cons ry .nil) |>.mono (fun _ z => z) eD
      | false =>
        rw [if_neg Bool.false_ne_true]
        refine ⟨(x.trans x2).trans x3, acc, hacc3, by omega, ?_⟩
        rw [tk, if_neg (by rw [← hb]; exact Bool.false_ne_true), List.append_nil]
        exact racc.mono (fun _ z => z) (.of (x2.trans x3))
    intro s0 H0 C cl fp
    exact (all s0 H0 C cl fp).1.run H2 (ExM.refl H2) al3 _ fun H3 x3 => fin _ rfl H3 x3
  · have e2 : i = ds.length := by omega
    subst e2
    refine .inl ⟨wk.stop M' H' hm eM, q D acc H' (Evl.fresh_back xs hD) (xs.trans x) hacc ?_⟩
    rw [List.take_length] at racc
    exact racc.mono (fun _ z => .inl z) (ExM.refl _)
theorem fd_lc {t : Tg} {elt : Expr} {ifs : List Expr} {scope : Scope} {own : List (Str × Nat)} (hc : X.calm = true) (hN : X.N.Nodup) (hi : Src X M tg iter σ H ds) (ok : BlkOk X.N X.env.scope scope own)
    (hg : ∀ s H C cl fp, PG (Cx.lc X s H scope C cl fp) tg (t.g X.K)) (hf : ∀ d ∈ ds, t.Fits d) (hw : ∀ M H d σ', t.Ok X.K M H d (wipe σ (own.map (·.2))) σ' → wipe σ' (own.map (·.2)) = wipe σ (own.map (·.2)))
    (p : PyData → Bool) (f : PyData → PyData) (hl : ds.length ≤ 100000)
    (body : ∀ s0 H0 C cl fp M' H' d σ', (∀ a, M a → M' a) → (∀ v e, Rp X.K M H v e → Rp X.K M' H' v e) → d ∈ ds → t.Ok X.K M' H' d (wipe σ (own.map (·.2))) σ' →
      TsD (Cx.lc X s0 H0 scope C cl fp) M' ifs σ' H' (p d) ∧ (p d = true → PD (Cx.lc X s0 H0 scope C cl fp) M' elt σ' H' (f d)))
    (hs : ∀ x, foldedSetIterable iter X.env x = pure x := by intro _; rfl) : FD X M (.ListComp elt [⟨tg, iter, ifs, 0⟩] scope pos) σ H ((ds.filter p).map f) := by
  obtain ⟨wi, pi, run⟩ := lc_core hc hN hi ok hg hf hw p f hl body
  exact .mk fun H1 e1 al Q q => ⟨_, pe_lc hc hN pi ok hg (fun s0 H0 C cl fp => ⟨fun pins s σ H Q I h => wTs.pts.run pins s σ H Q I (h s0 H0 C cl fp)⟩) (fun s0 H0 C cl fp => ⟨fun pins s σ H Q I h => wE.pe.run pins s σ H Q I (h s0 H0 C cl fp)⟩) hs, run H1 e1 al Q q⟩
/-- y = [elt for target in iter if ..], where y stands in the block alone -/
theorem s_setLc {t : Tg} {elt : Expr} {ifs : List Expr} {scope : Scope} {own : List (Str × Nat)} (hc : X.calm = true) (hN : X.N.Nodup) (hi : Src X M tg iter σ H ds) (ok : BlkOk X.N X.env.scope scope own)
    (hg : ∀ s H C cl fp, PG (Cx.lc X s H scope C cl fp) tg (t.g X.K)) (hf : ∀ d ∈ ds, t.Fits d) (hw : ∀ M H d σ', t.Ok X.K M H d (wipe σ (own.map (·.2))) σ' → wipe σ' (own.map (·.2)) = wipe σ (own.map (·.2)))
    (p : PyData → Bool) (f : PyData → PyData) (hl : ds.length ≤ 100000)
    (body : ∀ s0 H0 C cl fp M' H' d σ', (∀ a, M a → M' a) → (∀ v e, Rp X.K M H v e → Rp X.K M' H' v e) → d ∈ ds → t.Ok X.K M' H' d (wipe σ (own.map (·.2))) σ' →
      TsD (Cx.lc X s0 H0 scope C cl fp) M' ifs σ' H' (p d) ∧ (p d = true → PD (Cx.lc X s0 H0 scope C cl fp) M' elt σ' H' (f d)))
    {i : Nat} {y : Str} {py spos : Pos} {D : Ends} (al : Alive M H) (hy : X.N[i]? = some y) (hyl : X.env.scope.names.lookup y = some .local) (hsw : swapsWith (.ListComp elt [⟨tg, iter, ifs, 0⟩] scope pos) (some (.Name y py)) spos.line X.env = pure true) (q : ∀ l ws H2, H l = none → Evl.Ex H H2 → H2 l = some (.lst ws) → RpAll X.K M H2 ws ((ds.filter p).map f) → D.nx (σ.set i (some (.ref l))) H2)
    (hs : ∀ x, foldedSetIterable iter X.env x = pure x := by intro _; rfl) : wS X (.Assign [.Name y py] (.ListComp elt [⟨tg, iter, ifs, 0⟩] scope pos) spos) D σ H := by
  obtain ⟨wi, pi, run⟩ := lc_core hc hN hi ok hg hf hw p f hl body
  exact ⟨_, ps_setLc hc hN hy hyl hsw pi ok hg (fun s0 H0 C cl fp => ⟨fun pins s σ H Q I h => wTs.pts.run pins s σ H Q I (h s0 H0 C cl fp)⟩) (fun s0 H0 C cl fp => ⟨fun pins s σ H Q I h => wE.pe.run pins s σ H Q I (h s0 H0 C cl fp)⟩) hs, run H (ExM.refl H) al _ q⟩
end
end GV

namespace GV
open PySem PySem.Spec PyProof.Rows L2
/-- the names of the built-ins that the text asks for are the built-ins' own -/
structure NoB (mg : Str → Option Value) : Prop where
  isinstance : mg "isinstance" = none
  int : mg "int" = none
  bool : mg "bool" = none
  str : mg "str" = none
  list : mg "list" = none
  tuple : mg "tuple" = none
  set : mg "set" = none
  len : mg "len" = none
  range : mg "range" = none
  enumerate : mg "enumerate" = none
  abs : mg "abs" = none
  min : mg "min" = none
  max : mg "max" = none
  sum : mg "sum" = none
  any : mg "any" = none
  all : mg "all" = none
  sorted : mg "sorted" = none
section
variable {X : Cx} {M : Addr → Prop} {σ : St} {H H' : Hp} {a b c e : Expr} {da db d : PyData} {pos : Pos} {es : List Expr} {ds : List PyData}

/-! ### isinstance of data, by one built-in class -/
def tyD : PyData → String
  | .none => "NoneType"
  | .bool _ => "bool"
  | .int _ => "int"
  | .str _ => "str"
  | .list _ => "list"
  | .tuple _ => "tuple"
  | .dict _ => "dict"
theorem Rp.tyX {K : PySem.W.Frag} {v : V} (r : Rp K M H v d) : TyX K H v (.type (tyD d)) := by
  cases r with
  | non => exact .base .non
  | bl b => exact .base (.bl b)
  | int i => exact .base (.int i)
  | str x => exact .base (.str x)
  | lst m h rs =>
    rcases h with h | ⟨o, h⟩
    · exact .base (.lst h)
    · exact .base (.frz h)
  | tup m h rs =>
    rcases h with h | ⟨o, h⟩
    · exact .base (.tup h)
    · exact .fTuple h
theorem pd_isi {T : String} {x : Str} {p p2 : Pos} {k : Bool} (hg : Gl X "isinstance") (hm : X.mg "isinstance" = none) (hgT : Gl X x) (hmT : X.mg x = none) (hv : bootBuiltins x = some (.type T)) (ha : PD X M a σ H d) (hk : kitB (tyD d) T = some k)
    (hn : x ≠ "__name__" := by decide) (hd : (x == ("__debug__" : Str)) = false := by decide)
    (h1 : starEach (a :: [.Name x p2]) X.env = (false, eval a X.env) :: starEach [.Name x p2] X.env := by rfl) (h2 : starEach (.Name x p2 :: []) X.env = (false, eval (.Name x p2) X.env) :: starEach [] X.env := by rfl)
    (hpl : (backTo pos (starEach [.Name x p2] X.env)).any (·.1) = false := by rfl) :
    PD X M (.Call (.Name "isinstance" p) [a, .Name x p2] [] pos) σ H (.bool k) := .mk fun H1 e1 al Q q =>
  ⟨_, pe_callB call_isi hg hm PyProof.Rows.boot_isinstance (pa_cons wE.pe (pa_cons (pe_bltn (v := .ty T) hgT hmT hv rfl hn hd) pa_nil h2) h1) (by decide) (by decide) h1 hpl, ha.run H1 e1 al _ fun v H2 x2 r =>
    ⟨v, .ty T, .type (tyD d), .type T, k, rfl, .ty T, r.tyX, kit_ty hk, q _ H2 x2 (.bl k)⟩⟩

/-! ### a chain of two comparisons of ints -/
theorem pd_leLe {i j k : Int} (ha : PD X M a σ H (.int i)) (hb : PD X M b σ H (.int j)) (hc : PD X M c σ H (.int k)) (h1 : lastMarks [.LtE, .LtE] [b, c] = false := by with_unfolding_all rfl) : PD X M (.Compare a [.LtE, .LtE] [b, c] pos) σ H (.bool (decide (i ≤ j) && decide (j ≤ k))) := .mk fun H1 e1 al Q q =>
  ⟨_, pe_chain op_le op_le wE.pe wE.pe wE.pe h1, ha.run H1 e1 al _ fun x H2 x2 rx => hb.run H2 (e1.trans (.of x2)) (al.mono x2) _ fun y H3 x3 ry => by
    cases rx
    cases ry
    refine ⟨i, j, rfl, rfl, _, rfl, ?_⟩
    by_cases h : i ≤ j
    · rw [if_pos (decide_eq_true h)]
      refine hc.run H3 ((e1.trans (.of x2)).trans (.of x3)) ((al.mono x2).mono x3) _ fun z H4 x4 rz => ?_
      cases rz
      refine ⟨j, k, rfl, rfl, q _ H4 ((x2.trans x3).trans x4) ?_⟩
      rw [decide_eq_true h]
      exact .bl _
    · rw [if_neg (by rw [decide_eq_false h]; exact Bool.false_ne_true)]
      refine q _ H3 (x2.trans x3) ?_
      rw [decide_eq_false h]
      exact .bl _⟩

/-! ### any, all, sum, min, max, in -/
theorem RpAll.of_bools {K : PySem.W.Frag} : ∀ {vs : List V} {bs : List Bool}, RpAll K M H vs (bs.map PyData.bool) → vs = bs.map V.bl
  | [], [], .nil => rfl
  | _ :: _, n :: r, .cons h hs => by
    cases h
    rw [RpAll.of_bools hs]
    rfl
theorem rn_any {bs : List Bool} : RDn X M (rAny X.K) [.list (bs.map PyData.bool)] (.bool (bs.any id)) := fun vs H1 r _ Q q => by
  obtain ⟨v, rfl, r1⟩ := rpa1 r
  cases r1 with
  | lst m hs rs => exact ⟨_, bs, rfl, .inl (by rw [← rs.of_bools]; exact hs), q _ H1 (Evl.Ex.refl H1) (.bl _)⟩
theorem rn_all {bs : List Bool} : RDn X M (rAll X.K) [.list (bs.map PyData.bool)] (.bool (bs.all id)) := fun vs H1 r _ Q q => by
  obtain ⟨v, rfl, r1⟩ := rpa1 r
  cases r1 with
  | lst m hs rs => exact ⟨_, bs, rfl, .inl (by rw [← rs.of_bools]; exact hs), q _ H1 (Evl.Ex.refl H1) (.bl _)⟩
theorem rn_sum {ns : List Int} : RDn X M (rSum X.K) [.list (ns.map PyData.int)] (.int ns.sum) := fun vs H1 r _ Q q => by
  obtain ⟨v, rfl, r1⟩ := rpa1 r
  cases r1 with
  | lst m hs rs => exact ⟨_, ns, rfl, .inl (by rw [← rs.of_ints]; exact hs), q _ H1 (Evl.Ex.refl H1) (.int _)⟩
theorem rn_max {ns : List Int} {m : Int} (hm : m ∈ ns) (hx : ∀ y ∈ ns, y ≤ m) : RDn X M (rMax X.K) [.list (ns.map PyData.int)] (.int m) := fun vs H1 r _ Q q => by
  obtain ⟨v, rfl, r1⟩ := rpa1 r
  cases r1 with
  | lst m' hs rs =>
    refine ⟨_, ns, rfl, .inl (by rw [← rs.of_ints]; exact hs), List.length_pos_of_mem hm, fun k hk hkx => q _ H1 (Evl.Ex.refl H1) ?_⟩
    rw [Int.le_antisymm (hx k hk) (hkx m hm)]
    exact .int _
theorem rn_min {ns : List Int} {m : Int} (hm : m ∈ ns) (hx : ∀ y ∈ ns, m ≤ y) : RDn X M (rMin X.K) [.list (ns.map PyData.int)] (.int m) := fun vs H1 r _ Q q => by
  obtain ⟨v, rfl, r1⟩ := rpa1 r
  cases r1 with
  | lst m' hs rs =>
    refine ⟨_, ns, rfl, .inl (by rw [← rs.of_ints]; exact hs), List.length_pos_of_mem hm, fun k hk hkx => q _ H1 (Evl.Ex.refl H1) ?_⟩
    rw [Int.le_antisymm (hkx m hm) (hx k hk)]
    exact .int _

/-! ### min(e, default=f) of a list of ints -/
def minOr (d : PyData) : List Int → PyData
  | [] => d
  | n :: r => .int (r.foldl min n)
theorem ints_alike (ns : List Int) : PySem.W.AlikeAll (ns.map PyData.int) := by
  refine ⟨fun x hx y hy => ?_, fun x hx => ?_⟩
  · obtain ⟨i, _, rfl⟩ := List.mem_map.mp hx
    obtain ⟨j, _, rfl⟩ := List.mem_map.mp hy
    rfl
  · obtain ⟨i, _, rfl⟩ := List.mem_map.mp hx
    exact fun z => by cases z
theorem ints_depth (ns : List Int) : PyData.depthAll (ns.map PyData.int) = 0 := by
  induction ns with
  | nil => rfl
  | cons n r ih =>
    show max (PyData.depth (.int n)) (PyData.depthAll (r.map PyData.int)) = 0
    rw [ih]
    rfl
theorem dpAll_ints {K : PySem.W.Frag} (ns : List Int) : DpAll K H (ns.map V.int) (ns.map PyData.int) := (RpAll.ints (M := fun _ => False) ns).dp
def rMinDf (K : PySem.W.Frag) : List V → List V → Hp → VK → Prop := fun xs zs H Q => ∃ (a : Addr) (ns : List Int) (z : V), xs = [.ref a] ∧ zs = [z] ∧ SqL K H a (ns.map V.int) ∧ (ns = [] → Q z H) ∧ (∀ n r, ns = n :: r → Q (.int (r.foldl min n)) H)
theorem cr_minDf (hc : X.calm = true) (hu : X.A.units + 2 < cLine) : CallRK X (.builtin "min") ["default"] (rMinDf X.K) := by
  intro pins s σ H xs zs us ws Q I rx rz h
  obtain ⟨a, ns, z, rfl, rfl, hs, q0, q1⟩ := h
  obtain ⟨w, rfl, rw'⟩ := vals1 rz
  rw [Vals.ref1 rx]
  obtain ⟨its, rv, pl, _⟩ := I.list hs
  obtain ⟨as, hr⟩ := Dp.readsAll I _ _ its (dpAll_ints ns) rv
  refine PySem.W.min_list_default (I.ok.hd hc) pl.isList hr (ints_alike ns) (by rw [ints_depth]; omega) (fun e h' tk k => ?_) (fun y ys i v h' tk bs e hv hrd k => ?_)
  · refine ⟨z, H, I.kept k, rw', q0 ?_⟩
    cases ns with
    | nil => rfl
    | cons n r => cases e
  · cases ns with
    | nil => cases e
    | cons n r =>
      cases e
      rw [PySem.W.minD_ints] at hrd
      cases hrd with
      | int i t => exact ⟨.int _, H, I.kept k, ⟨t, rfl⟩, q1 n r rfl⟩
theorem pd_minDf {p kp : Pos} {ns : List Int} (hc : X.calm = true) (hu : X.A.units + 2 < cLine) (hg : Gl X "min") (hm : X.mg "min" = none) (ha : PD X M a σ H (.list (ns.map PyData.int))) (hb : PD X M b σ H d)
    (h1 : starEach (a :: []) X.env = (false, eval a X.env) :: starEach [] X.env := by rfl)
    (he : backTo pos (starEach (a :: []) X.env) = (false, eval a X.env) :: backTo pos (starEach [] X.env) := by rfl) (hpl : (backTo pos (starEach (a :: []) X.env)).any (·.1) = false := by rfl)
    (hall : (backToKw pos (keywordEach [⟨some "default", b, kp⟩] X.env)).all (·.1.isSome) = true := by rfl) (hnone : (backToKw pos (keywordEach [⟨some "default", b, kp⟩] X.env)).any (·.1.isNone) = false := by rfl)
    (hks : (backToKw pos (keywordEach [⟨some "default", b, kp⟩] X.env)).filterMap (·.1) = (["default"] : List Str) := by rfl) :
    PD X M (.Call (.Name "min" p) [a] [⟨some "default", b, kp⟩] pos) σ H (minOr d ns) := .mk fun H1 e1 al Q q =>
  ⟨_, pe_callBK (cr_minDf hc hu) hg hm PyProof.Rows.boot_min (pa_cons wE.pe pa_nil h1) (pk_cons wE.pe pk_nil) (by decide) (by decide) he hpl hall hnone hks, ha.run H1 e1 al _ fun v H2 x2 r => hb.run H2 (e1.trans (.of x2)) (al.mono x2) _ fun w H3 x3 rw' => by
    have r3 := r.mono (fun _ z => z) (.of x3)
    cases r3 with
    | lst m hs rs =>
      refine ⟨_, ns, w, rfl, rfl, .inl (by rw [← rs.of_ints]; exact hs), fun e => q _ H3 (x2.trans x3) ?_, fun n r e => q _ H3 (x2.trans x3) ?_⟩
      · rw [e]
        exact rw'
      · rw [e]
        exact .int _⟩
end
end GV

namespace GV
open PySem PySem.Spec PyProof.Rows L2
section
variable {X : Cx} {M : Addr → Prop} {σ : St} {H H' : Hp} {a b c e : Expr} {pos : Pos}
theorem up_ext : ∀ {l m : List Int}, l.Pairwise (· < ·) → m.Pairwise (· < ·) → (∀ k, k ∈ l ↔ k ∈ m) → l = m
  | [], [], _, _, _ => rfl
  | [], y :: m, _, _, h => absurd ((h y).mpr (List.mem_cons_self ..)) (by simp)
  | x :: l, [], _, _, h => absurd ((h x).mp (List.mem_cons_self ..)) (by simp)
  | x :: l, y :: m, p, q, h => by
    obtain ⟨p1, p2⟩ := List.pairwise_cons.mp p
    obtain ⟨q1, q2⟩ := List.pairwise_cons.mp q
    have hx := (h x).mp (List.mem_cons_self ..)
    have hy := (h y).mpr (List.mem_cons_self ..)
    have e : x = y := by
      rcases List.mem_cons.mp hx with e | hx
      · exact e
      · rcases List.mem_cons.mp hy with e | hy
        · exact e.symm
        · have := q1 x hx
          have := p1 y hy
          omega
    subst e
    rw [up_ext p2 q2 fun k => ?_]
    constructor
    · intro hk
      rcases List.mem_cons.mp ((h k).mp (List.mem_cons_of_mem _ hk)) with e | e
      · subst e
        exact absurd (p1 _ hk) (Int.lt_irrefl _)
      · exact e
    · intro hk
      rcases List.mem_cons.mp ((h k).mpr (List.mem_cons_of_mem _ hk)) with e | e
      · subst e
        exact absurd (q1 _ hk) (Int.lt_irrefl _)
      · exact e
/-- sorted(set(e)), e a list of ints, fewer than 64 -/
theorem fd_sortedSet {p p2 q2 : Pos} {ns out : List Int} (hc : X.calm = true) (hg : Gl X "sorted") (hm : X.mg "sorted" = none) (hg2 : Gl X "set") (hm2 : X.mg "set" = none) (ha : PD X M a σ H (.list (ns.map PyData.int)))
    (hl : ns.length < 64) (ho : out.Pairwise (· < ·)) (hmem : ∀ k, k ∈ out ↔ k ∈ ns)
    (na : starEach [a] X.env = (false, eval a X.env) :: starEach [] X.env := by rfl) : FD X M (.Call (.Name "sorted" p) [.Call (.Name "set" p2) [a] [] q2] [] pos) σ H (out.map PyData.int) := .mk fun H1 e1 al Q q => by
  refine ⟨fun σ H Q => wE X a σ H fun x H1 => ∃ l, x = V.ref l ∧ SqL X.K H1 l (ns.map V.int) ∧ ∀ p, H1 p = none → Q (.ref p) (upd H1 p (.lst (out.map V.int))), ⟨fun pins s σ H Q I h => ?_⟩, ?_⟩
  · refine Call_ (ld_blt I hg hm PyProof.Rows.boot_sorted ?_)
    refine PyProof.Rows.callWith_builtin1 (PyProof.Rows.args_cons ?_ rfl) rfl rfl
    refine Call_ (ld_blt I hg2 hm2 PyProof.Rows.boot_set (PyProof.Rows.callWith_type1 (PyProof.Rows.args_cons (thn (wE.pe.run pins s σ H _ I h) fun v s1 ⟨x, H1, I1, r1, l, e2, hq, q1⟩ => PyProof.Rows.args_nil ?_) na) na rfl))
    subst e2
    cases r1
    obtain ⟨its, r, pl, hz⟩ := I1.list hq
    refine set_ofL ns (I1.ok.hd hc) pl.isList (by simpa using r.ints) (by unfold scanBound; omega) fun g tk c R hcl k => PyProof.Rows.args_nil ?_
    have I2 : Inv X pins σ H1 { s1 with heap := g, toks := tk } := I1.kept k
    refine sorted_set R (I1.ok.hd hc) (by omega) fun s' p o c' ns' k2 g2 o2 hp hgp hi hs hm' hlen => ?_
    have en : ns' = out := up_ext hs ho fun z => by
      rw [hm' z, hmem z]
      exact decide_eq_true_iff
    subst en
    have hn : H1 p = none := I2.hok.fresh hp
    have ln : (ns'.map V.int).length ≤ sizeLine := by
      rw [List.length_map]
      refine Evl.sz_of (Nat.le_trans ?_ (show 64 ≤ 100000 by decide))
      omega
    have J : Inv X pins σ (upd H1 p (.lst (ns'.map V.int))) { ({ s1 with heap := g, toks := tk } : Shared) with heap := s'.heap, gens := s'.gens, drawn := s'.drawn, toks := s'.toks } := I2.call (ch := []) (Un.laid k2 hp hn) (I2.hok.laid k2 hp ⟨ln, o.toList, c', vals_of_ints hi, hgp⟩) (by rw [g2]; exact I2.bare) (fun _ z => nomatch z)
    obtain ⟨hp', g', d', t', os'⟩ := s'
    obtain rfl : os' = s1.os := o2
    exact ⟨.ref p, _, J, rfl, q1 p hn⟩
  · refine ha.run H1 e1 al _ fun v H2 x2 r => ?_
    cases r with
    | lst m hr rs => exact ⟨_, rfl, .inl (by rw [← rs.of_ints]; exact hr), fun p hp => q p _ _ (Evl.fresh_back x2 hp) (x2.trans (Evl.Ex.new hp)) upd_same (RpAll.ints out)⟩
end
end GV

namespace GV
open PySem PySem.Spec PyProof.Rows L2
/-! ### a def of the text that keeps a promise, by its name -/
structure Cl (P : Program) (w : World) (K : PySem.W.Frag) (mg : Str → Option Value) (base : Heap) (CX : CXT) (k : Nat) (x : Str) (sp : Sp) : Prop where
  ex : ∃ (f : Addr) (fd : FuncData) (ps : List Str), FnOk P w K mg base CX k f fd ps sp ∧ mg x = some (.ref f) ∧ PySem.W.keepIn K (.ref f) = true ∧ Binds K fd ps []
section
variable {P : Program} {w : World} {K : PySem.W.Frag} {mg : Str → Option Value} {base : Heap}
/-- where a def stands -/
structure At (K : PySem.W.Frag) (mg : Str → Option Value) (x : Str) (st : Stmt) (f : Addr) (fd : FuncData) : Prop where
  fn : Fun K x x st f fd
  gl : mg x = some (.ref f)
theorem pureR_len {R : List PyData → PyData → Prop} {n : Nat} (hR : ∀ ds d, R ds d → ds.length = n) : ∀ vs H Q E, PureR K R vs H Q E → vs.length = n := fun vs H Q E h => by
  obtain ⟨M, ds, d, al, r, hr, _⟩ := h
  rw [r.length]
  exact hR ds d hr
/-- a pure def -/
theorem cl_pure {x : Str} {st : Stmt} {f : Addr} {fd : FuncData} {N ps : List Str} {k : Nat} {R : List PyData → PyData → Prop} (F : At K mg x st f fd) (S : FnScope N ps (defScope st)) (hb : Binds K fd ps []) (hR : ∀ ds d, R ds d → ds.length = ps.length)
    (body : ∀ (X : Cx) (cdv : Value) (A : Around) (outer : List Env) (s : Shared) (H : Hp) (Q : VK) (E : XK) (M : Addr → Prop) (vs : List V) (ds : List PyData) (d : PyData), X = (cxOf CX0 P w K mg base N x (defScope st) f cdv A outer s H E).nox → Room k X.A → Alive M H → RpAll K M H vs ds → R ds d →
      (∀ v H', Evl.Ex H H' → Rp K M H' v d → Q v H') → wB X (defBody st) { nx := fun _ H' => Q .non H', rt := Q } (L2.start N vs) H) :
    Cl P w K mg base CX0 (k + 1) x (PureR K R) := by
  refine ⟨f, fd, ps, F.fn.ok S (pureR_len hR) (fun cdv A outer s H vs Q E hr h => ⟨_, wB.ps, ?_⟩), F.gl, F.fn.kp, hb⟩
  obtain ⟨M, ds, d, al, r, hr', q⟩ := h
  exact body _ cdv A outer s H Q E M vs ds d rfl hr al r hr' q
end
section
variable {X : Cx} {M : Addr → Prop} {σ : St} {H H' : Hp} {a b c e : Expr} {da db d : PyData} {pos : Pos} {es : List Expr} {ds : List PyData}
theorem pd_callC {R : List PyData → PyData → Prop} {j k : Nat} {x : Str} {p : Pos} (cl : Cl X.prog X.w X.K X.mg X.base CX0 k x (PureR X.K R)) (hr : Room j X.A) (hkj : k ≤ j) (hg : Gl X x) (h : AD X M (e :: es) σ H ds) (hR : R ds d)
    (hdb : (x == ("__debug__" : Str)) = false := by decide) (he : starEach (e :: es) X.env = (false, eval e X.env) :: starEach es X.env := by rfl) (hpl : (backTo pos (starEach es X.env)).any (·.1) = false := by rfl) : PD X M (.Call (.Name x p) (e :: es) [] pos) σ H d := by
  obtain ⟨f, fd, ps, F, hm, hk, hb⟩ := cl.ex
  exact pd_call F (hr.mono hkj) hg hm hk hb pass0 h hR hdb he hpl
/-- .. a def that makes a list -/
def FreshR (K : PySem.W.Frag) (R : List PyData → List PyData → Prop) : Sp := fun vs H Q _ => ∃ M ds es, Alive M H ∧ RpAll K M H vs ds ∧ R ds es ∧ ∀ p ws H', H p = none → Evl.Ex H H' → H' p = some (.lst ws) → RpAll K M H' ws es → Q (.ref p) H'
theorem fd_callC {R : List PyData → List PyData → Prop} {fs : List PyData} {j k : Nat} {x : Str} {p : Pos} (cl : Cl X.prog X.w X.K X.mg X.base CX0 k x (FreshR X.K R)) (hr : Room j X.A) (hkj : k ≤ j) (hg : Gl X x) (h : AD X M (e :: es) σ H ds) (hR : R ds fs)
    (hdb : (x == ("__debug__" : Str)) = false := by decide) (he : starEach (e :: es) X.env = (false, eval e X.env) :: starEach es X.env := by rfl) (hpl : (backTo pos (starEach es X.env)).any (·.1) = false := by rfl) : FD X M (.Call (.Name x p) (e :: es) [] pos) σ H fs := by
  obtain ⟨f, fd, ps, F, hm, hk, hb⟩ := cl.ex
  exact .mk fun H1 e1 al Q q => ⟨_, pe_call F (hr.mono hkj) hg hm hk hb .nil pass0 wA.pa hdb he hpl, h.run H1 e1 al _ fun vs H2 x2 r => by
    rw [List.append_nil]
    exact ⟨M, ds, fs, al.mono x2, r, hR, fun p ws H3 hp x3 h3 rv => q p ws H3 (Evl.fresh_back x2 hp) (x2.trans x3) h3 rv⟩⟩

/-! ### where things change: step by step -/
abbrev M0 : Addr → Prop := fun _ => False
theorem alive0 : Alive M0 H := fun _ z => z.elim
theorem Rp.m0 {K : PySem.W.Frag} {v : V} (r : Rp K M H v d) : Rp K M0 H v d := r.mono (fun _ z => z.elim) (ExM.refl H)
theorem RpAll.m0 {K : PySem.W.Frag} {vs : List V} (r : RpAll K M H vs ds) : RpAll K M0 H vs ds := r.mono (fun _ z => z.elim) (ExM.refl H)
theorem ce_pd {Q : VK} (al : Alive M H) (h : PD X M e σ H d) (q : ∀ v H2, Evl.Ex H H2 → Rp X.K M H2 v d → Q v H2) : wE X e σ H Q := h.run H (ExM.refl H) al Q q
theorem ce_fd {Q : VK} (al : Alive M H) (h : FD X M e σ H ds) (q : ∀ p ws H2, H p = none → Evl.Ex H H2 → H2 p = some (.lst ws) → RpAll X.K M H2 ws ds → Q (.ref p) H2) : wE X e σ H Q := h.run H (ExM.refl H) al Q q
/-! ### comparisons as tests -/
theorem td_cmpR {op : CmpOp} {r : R2} {k : Bool} (ho : OpR X (compareOp op) r) (hm : behindInMarks op b = false) (hr : RD2 X M r da db (.bool k)) (ha : PD X M a σ H da) (hb : PD X M b σ H db) : TD X M (.Compare a [op] [b] pos) σ H k := .mk fun H1 e1 al Q q =>
  ⟨_, pt_cmpR ho wE.pe wE.pe hm, ha.run H1 e1 al _ fun x H2 x2 rx => hb.run H2 (e1.trans (.of x2)) (al.mono x2) _ fun y H3 x3 ry =>
    hr x y H3 (rx.mono (fun _ z => z) (.of x3)) ry ((al.mono x2).mono x3) _ fun v H4 x4 rv => by
      cases rv
      exact ⟨k, rfl, q H4 ((x2.trans x3).trans x4)⟩⟩
theorem td_lt {i j : Int} (ha : PD X M a σ H (.int i)) (hb : PD X M b σ H (.int j)) : TD X M (.Compare a [.Lt] [b] pos) σ H (decide (i < j)) := td_cmpR op_lt (nomark _) rd_B0 ha hb
theorem td_le {i j : Int} (ha : PD X M a σ H (.int i)) (hb : PD X M b σ H (.int j)) : TD X M (.Compare a [.LtE] [b] pos) σ H (decide (i ≤ j)) := td_cmpR op_le (nomark _) rd_B0 ha hb
theorem td_gt {i j : Int} (ha : PD X M a σ H (.int i)) (hb : PD X M b σ H (.int j)) : TD X M (.Compare a [.Gt] [b] pos) σ H (decide (j < i)) := td_cmpR op_gt (nomark _) rd_B0 ha hb
theorem td_ge {i j : Int} (ha : PD X M a σ H (.int i)) (hb : PD X M b σ H (.int j)) : TD X M (.Compare a [.GtE] [b] pos) σ H (decide (j ≤ i)) := td_cmpR op_ge (nomark _) rd_B0 ha hb
theorem rd_eqD (hu : X.A.units + 64 < cLine) (sa : SeqAt.shaped da = true) (sb : SeqAt.shaped db = true) : RD2 X M (rEqD X.K) da db (.bool (PyData.eqv da db)) := fun x y H1 rx ry _ Q q => ⟨da, db, rx.dp, ry.dp, sa, sb, q _ H1 (Evl.Ex.refl H1) (.bl _)⟩
theorem rd_neD (hu : X.A.units + 64 < cLine) (sa : SeqAt.shaped da = true) (sb : SeqAt.shaped db = true) : RD2 X M (rNeD X.K) da db (.bool (!PyData.eqv da db)) := fun x y H1 rx ry _ Q q => ⟨da, db, rx.dp, ry.dp, sa, sb, q _ H1 (Evl.Ex.refl H1) (.bl _)⟩
theorem td_eq (hu : X.A.units + 64 < cLine) (ha : PD X M a σ H da) (hb : PD X M b σ H db) (sa : SeqAt.shaped da = true) (sb : SeqAt.shaped db = true) : TD X M (.Compare a [.Eq] [b] pos) σ H (PyData.eqv da db) := td_cmpR (op_eqD hu) (nomark _) (rd_eqD hu sa sb) ha hb
theorem td_ne (hu : X.A.units + 64 < cLine) (ha : PD X M a σ H da) (hb : PD X M b σ H db) (sa : SeqAt.shaped da = true) (sb : SeqAt.shaped db = true) : TD X M (.Compare a [.NotEq] [b] pos) σ H (!PyData.eqv da db) := td_cmpR (op_neD hu) (nomark _) (rd_neD hu sa sb) ha hb
theorem td_isN {j p2} (ha : PD X M a σ H da) : TD X M (.Compare a [.Is] [.Constant .none j p2] pos) σ H (isNone da) :=
  td_cmpR op_isN (nomark _) (fun x y H1 rx ry _ Q q => by
    cases ry
    exact ⟨rfl, q _ H1 (Evl.Ex.refl H1) (by rw [rx.isN]; exact .bl _)⟩) ha pd_non
theorem td_notN {j p2} (ha : PD X M a σ H da) : TD X M (.Compare a [.IsNot] [.Constant .none j p2] pos) σ H (!isNone da) :=
  td_cmpR op_notN (nomark _) (fun x y H1 rx ry _ Q q => by
    cases ry
    exact ⟨rfl, q _ H1 (Evl.Ex.refl H1) (by rw [rx.isN]; exact .bl _)⟩) ha pd_non
theorem snoc_ind {α : Type} {P : List α → Prop} (h0 : P []) (h1 : ∀ l x, P l → P (l ++ [x])) (l : List α) : P l := by
  have key : ∀ n (l : List α), l.length = n → P l := by
    intro n
    induction n with
    | zero =>
      intro l hl
      rw [List.eq_nil_of_length_eq_zero hl]
      exact h0
    | succ n ih =>
      intro l hl
      have hne : l ≠ [] := fun e => by
        rw [e] at hl
        cases hl
      rw [← List.dropLast_concat_getLast hne]
      refine h1 _ _ (ih _ ?_)
      rw [List.length_dropLast, hl]
      rfl
  exact key _ l rfl
theorem filt_all {α : Type} (l : List α) : (l.filter fun _ => true) = l := List.filter_eq_self.mpr fun _ _ => rfl
/-- [elt for target in iter] -/
theorem fd_map {tg iter : Expr} {t : Tg} {elt : Expr} {scope : Scope} {own : List (Str × Nat)} (f : PyData → PyData) (hc : X.calm = true) (hN : X.N.Nodup) (hi : Src X M tg iter σ H ds) (ok : BlkOk X.N X.env.scope scope own)
    (hg : ∀ s H C cl fp, PG (Cx.lc X s H scope C cl fp) tg (t.g X.K)) (hf : ∀ d ∈ ds, t.Fits d) (hw : ∀ M H d σ', t.Ok X.K M H d (wipe σ (own.map (·.2))) σ' → wipe σ' (own.map (·.2)) = wipe σ (own.map (·.2))) (hl : ds.length ≤ 100000)
    (body : ∀ s0 H0 C cl fp M' H' d σ', (∀ a, M a → M' a) → (∀ v e, Rp X.K M H v e → Rp X.K M' H' v e) → d ∈ ds → t.Ok X.K M' H' d (wipe σ (own.map (·.2))) σ' → PD (Cx.lc X s0 H0 scope C cl fp) M' elt σ' H' (f d))
    (hs : ∀ x, foldedSetIterable iter X.env x = pure x := by intro _; rfl) : FD X M (.ListComp elt [⟨tg, iter, [], 0⟩] scope pos) σ H (ds.map f) := by
  have h := fd_lc (pos := pos) hc hN hi ok hg hf hw (fun _ => true) f hl (fun s0 H0 C cl fp M' H' d σ' hM lift hd hok => ⟨tsd_nil, fun _ => body s0 H0 C cl fp M' H' d σ' hM lift hd hok⟩) hs
  rwa [filt_all] at h
/-- [elt for target in iter if test] -/
theorem fd_filter {tg iter tst : Expr} {t : Tg} {elt : Expr} {scope : Scope} {own : List (Str × Nat)} (p : PyData → Bool) (f : PyData → PyData) (hc : X.calm = true) (hN : X.N.Nodup) (hi : Src X M tg iter σ H ds) (ok : BlkOk X.N X.env.scope scope own)
    (hg : ∀ s H C cl fp, PG (Cx.lc X s H scope C cl fp) tg (t.g X.K)) (hf : ∀ d ∈ ds, t.Fits d) (hw : ∀ M H d σ', t.Ok X.K M H d (wipe σ (own.map (·.2))) σ' → wipe σ' (own.map (·.2)) = wipe σ (own.map (·.2))) (hl : ds.length ≤ 100000)
    (body : ∀ s0 H0 C cl fp M' H' d σ', (∀ a, M a → M' a) → (∀ v e, Rp X.K M H v e → Rp X.K M' H' v e) → d ∈ ds → t.Ok X.K M' H' d (wipe σ (own.map (·.2))) σ' → TD (Cx.lc X s0 H0 scope C cl fp) M' tst σ' H' (p d) ∧ PD (Cx.lc X s0 H0 scope C cl fp) M' elt σ' H' (f d))
    (hs : ∀ x, foldedSetIterable iter X.env x = pure x := by intro _; rfl) : FD X M (.ListComp elt [⟨tg, iter, [tst], 0⟩] scope pos) σ H ((ds.filter p).map f) :=
  fd_lc hc hN hi ok hg hf hw p f hl (fun s0 H0 C cl fp M' H' d σ' hM lift hd hok => let ⟨h1, h2⟩ := body s0 H0 C cl fp M' H' d σ' hM lift hd hok; ⟨tsd_one h1, fun _ => h2⟩) hs
/-- the name in slot i, by what is known of its value -/
theorem nm (i : Nat) {x : Str} {v : V} (r : Rp X.K M H v d) (hN : X.N[i]? = some x := by rfl) (hv : Vis X.env.scope x := by first | exact .inl rfl | exact .inr (.inl rfl) | exact .inr (.inr rfl)) (hs : σ[i]? = some (some v) := by rfl)
    (hd : (x == ("__debug__" : Str)) = false := by decide) (hcd : (x == ("__classdict__" : Str)) = false := by decide) : PD X M (.Name x pos) σ H d := pd_name hN hv hs r hd hcd
theorem ce_name {i : Nat} {x : Str} {v : V} {Q : VK} (hN : X.N[i]? = some x) (hv : Vis X.env.scope x) (hs : σ[i]? = some (some v)) (q : Q v H)
    (hd : (x == ("__debug__" : Str)) = false := by decide) (hcd : (x == ("__classdict__" : Str)) = false := by decide) : wE X (.Name x pos) σ H Q := ⟨_, pe_var hN hv hd hcd, v, hs, q⟩
theorem ca_nil {Q : List V → Hp → Prop} (q : Q [] H) : wA X [] σ H Q := ⟨_, pa_nil, q⟩
theorem ca_cons {Q : List V → Hp → Prop} (h : wE X e σ H fun v H2 => wA X es σ H2 fun vs H3 => Q (v :: vs) H3) (hs : starEach (e :: es) X.env = (false, eval e X.env) :: starEach es X.env := by rfl) : wA X (e :: es) σ H Q := ⟨_, pa_cons wE.pe wA.pa hs, h⟩
theorem ce_bin {op : Operator} {r : R2} {Q : VK} (ho : OpR X (binaryOp op) r) (h : wE X a σ H fun x H2 => wE X b σ H2 fun y H3 => r x y H3 Q) : wE X (.BinOp a op b pos) σ H Q := ⟨_, pe_op ho wE.pe wE.pe, h⟩
theorem ce_add {Q : VK} (h : wE X a σ H fun x H2 => wE X b σ H2 fun y H3 => ∃ i j, x = .int i ∧ y = .int j ∧ Q (.int (i + j)) H3) : wE X (.BinOp a .Add b pos) σ H Q := ce_bin op_add h
theorem ce_sub {Q : VK} (h : wE X a σ H fun x H2 => wE X b σ H2 fun y H3 => ∃ i j, x = .int i ∧ y = .int j ∧ Q (.int (i - j)) H3) : wE X (.BinOp a .Sub b pos) σ H Q := ce_bin op_sub h
theorem ce_call {sp : Sp} {Q : VK} {j k : Nat} {x : Str} {p : Pos} (cl : Cl X.prog X.w X.K X.mg X.base CX0 k x sp) (hr : Room j X.A) (hkj : k ≤ j) (hg : Gl X x) (h : wA X (e :: es) σ H fun vs H2 => sp vs H2 Q E0)
    (hdb : (x == ("__debug__" : Str)) = false := by decide) (he : starEach (e :: es) X.env = (false, eval e X.env) :: starEach es X.env := by rfl) (hpl : (backTo pos (starEach es X.env)).any (·.1) = false := by rfl) : wE X (.Call (.Name x p) (e :: es) [] pos) σ H Q := by
  obtain ⟨f, fd, ps, F, hm, hk, hb⟩ := cl.ex
  refine ⟨_, pe_call F (hr.mono hkj) hg hm hk hb .nil pass0 wA.pa hdb he hpl, ?_⟩
  obtain ⟨t, h1, h2⟩ := h
  refine ⟨t, h1, ?_⟩
  have e1 : (fun vs H1 => sp (vs ++ []) H1 Q E0) = fun vs H1 => sp vs H1 Q E0 := by
    funext vs H1
    rw [List.append_nil]
  rw [e1]
  exact h2
theorem ce_ix {Q : VK} (h : wE X a σ H fun x H2 => wE X b σ H2 fun y H3 => rIx X.K x y H3 Q) (hs : PlainIx b := by exact fun _ _ => rfl) : wE X (.Subscript a b pos) σ H Q := ⟨_, pe_ix ix_seq wE.pe wE.pe hs, h⟩
/-- an item of a datum, by values -/
theorem rIx_of {K : PySem.W.Frag} {x : V} {i : Int} {Q : VK} (r : Rp K M H x da) (h : ixD da (.int i) = some d) (q : ∀ v, Rp K M H v d → Q v H) : rIx K x (.int i) H Q := by
  cases r with
  | lst m hs rs =>
    obtain ⟨v, hv, rv⟩ := atI_rp rs h
    exact .inl ⟨_, _, i, v, rfl, rfl, .inl hs, hv, q v rv⟩
  | tup m hs rs =>
    obtain ⟨v, hv, rv⟩ := atI_rp rs h
    exact .inr (.inl ⟨_, _, i, v, rfl, rfl, .inl hs, hv, q v rv⟩)
  | str z =>
    simp only [ixD] at h
    split at h
    · rename_i hz
      cases e : atI z.cps.toList i with
      | none =>
        rw [e] at h
        cases h
      | some c =>
        rw [e] at h
        cases h
        exact .inr (.inr ⟨z, i, c, rfl, rfl, hz, e, q _ (.str _)⟩)
    · cases h
  | _ => cases h
end
section
variable {X : Cx} {M : Addr → Prop} {σ : St} {H H' : Hp} {c e o ix : Expr} {d : PyData} {pos : Pos} {st : Stmt} {sts A B : List Stmt} {D : Ends}
theorem cs_set {i : Nat} {x : Str} {p : Pos} (hN : X.N.Nodup) (hi : X.N[i]? = some x) (hx : Loc X.env.scope x) (h : wE X e σ H fun v H2 => D.nx (σ.set i (some v)) H2)
    (hs : swapsWith e (some (.Name x p)) pos.line X.env = pure false := by rfl) (hf : X.fn x = true ∨ X.env.scope.names.lookup x = some .local := by first | exact .inl rfl | exact .inr rfl | assumption) : wS X (.Assign [.Name x p] e pos) D σ H := ⟨_, ps_set hN hi hx wE.pe hs hf, h⟩
theorem cs_ret (h : wE X e σ H D.rt) : wS X (.Return (some e) pos) D σ H := ⟨_, ps_ret wE.pe, h⟩
theorem cs_expr (h : wE X e σ H fun _ H2 => D.nx σ H2) (hs : swapsWith e none pos.line X.env = pure false := by rfl) : wS X (.Expr e pos) D σ H := ⟨_, ps_expr wE.pe hs, h⟩
/-- o[ix] = e -/
theorem cs_sub {p : Pos} (h : wE X e σ H fun v H1 => wE X o σ H1 fun x H2 => wE X ix σ H2 fun y H3 => rSetL x y v H3 fun H4 => D.nx σ H4)
    (ha : ∀ v, assign (.Subscript o ix p) X.env v = (do
      let ov ← holding [v] (eval o X.env)
      let iv ← holding [v, ov] (eval ix X.env)
      standAt p
      holding [v, ov, iv] (setItem ov iv v)
      release [v, ov, iv] []) := by intro _; rfl)
    (hs : swapsWithSole [.Subscript o ix p] e pos.line X.env = pure false := by rfl) (hw : swappedStores [.Subscript o ix p] e X.env = pure none := by rfl)
    (h1 : (assignEach [.Subscript o ix p] X.env).map (·.2) = [assign (.Subscript o ix p) X.env] := by rfl) : wS X (.Assign [.Subscript o ix p] e pos) D σ H :=
  ⟨_, ps_asg wE.pe (pg_sub wE.pe wE.pe set_list ha) hs hw h1, h⟩
end
end GV

namespace GV
open PySem PySem.Spec PyProof.Rows L2
/-! ### own errors -/
/-- what the __init__ of an error keeps: its arguments, by these names -/
def spInit (C : Addr) (fl : List Str) : Sp := fun vs H Q _ => ∃ (a : Addr) (xs : List V), vs = .ref a :: xs ∧ xs.length = fl.length ∧ H a = some (exo a C none) ∧
  ∀ H' d, (∀ b o, H b = some o → b ≠ a → H' b = some o) → H d = none → d ≠ a → H' a = some (exo a C (some d)) → H' d = some (exd d (fl.zip xs).reverse) → Q .non H'
structure ErrC (P : Program) (w : World) (K : PySem.W.Frag) (mg : Str → Option Value) (base : Heap) (x : Str) (C : Addr) (fl : List Str) : Prop where
  gC : mg x = some (.ref C)
  oex : OexC K C
  xf : XfC K C
  no : ∀ f ∈ fl, PySem.W.findIn K (.ref C) f = some none
  init : ∃ (fI : Addr) (fd : FuncData) (ps : List Str), PySem.W.findIn K (.ref C) "__init__" = some (some (.ref fI)) ∧ PySem.W.typeIn K (.ref fI) = some (.type "function") ∧ FnOk P w K mg base CX0 1 fI fd ps (spInit C fl) ∧ Binds K fd ps []
/-- what a raised one leaves: a new dict that holds the arguments -/
def Raised (C : Addr) (fs : List (Str × V)) (H : Hp) (E : XK) : Prop := ∀ d H', H d = none → Evl.Ex H H' → H' d = some (.xd fs) → E (.ref C) (some d) H'
section
variable {X : Cx} {σ : St} {H : Hp} {D : Ends} {e : Expr} {es : List Expr}
theorem s_raise {W : WX} {x : Str} {C : Addr} {fl : List Str} {p pos pos2 : Pos} (hc : X.calm = true) (er : ErrC X.prog X.w X.K X.mg X.base x C fl) (hr : Room 2 X.A) (tk : Takes X W) (hg : Gl X x)
    (h : wA X (e :: es) σ H fun vs H1 => vs.length = fl.length ∧ vs.length ≤ 1000 ∧ Raised C (fl.zip vs).reverse H1 fun cls d H' => W cls d σ H')
    (hdb : (x == ("__debug__" : Str)) = false := by decide) (he : starEach (e :: es) X.env = (false, eval e X.env) :: starEach es X.env := by rfl) (hpl : (backTo pos (starEach es X.env)).any (·.1) = false := by rfl) :
    wS X (.Raise (some (.Call (.Name x p) (e :: es) [] pos)) none pos2) D σ H := by
  obtain ⟨fI, fd, ps, iC, tI, F1, hb⟩ := er.init
  obtain ⟨t, pa, q⟩ := h
  -- the arguments' own reading, with what is wanted behind it
  refine ⟨_, ps_raise hc tk (pmk_oex (k := 1) (dvs := []) (ds := []) er.oex iC tI F1 hr hb .nil pass0 hg er.gC (ta := fun σ H Q => ∃ Q0, t σ H Q0 ∧ ∀ vs H1, Q0 vs H1 → Q vs H1) ⟨fun pos pins s σ H Q I ⟨Q0, h0, imp⟩ => wpAny_mono (pa.run pos pins s σ H Q0 I h0) (fun us s1 ⟨vs, H1, I1, r1, q1⟩ => ⟨vs, H1, I1, r1, imp vs H1 q1⟩) fun _ _ z => z⟩ hdb he hpl), _, q, fun vs H1 ⟨hl, h1000, hR⟩ => ?_⟩
  refine ⟨h1000, fun a na => ⟨a, vs, by rw [List.append_nil], hl, upd_same, fun H' d k nd da ea ed => ⟨rfl, d, _, ea, ed, ?_, ?_⟩⟩⟩
  · rwa [upd_ne da] at nd
  · rw [upd_ne da] at nd
    refine hR d _ nd (fun b o hb' => ?_) upd_same
    rw [upd_ne (ne_of_none hb' nd), del_ne (ne_of_none hb' na)]
    exact k b o (by rw [upd_ne (ne_of_none hb' na)]; exact hb') (ne_of_none hb' na)
end
end GV

namespace GV
open PySem PySem.Spec PyProof.Rows L2
/-! ### try with clauses that may keep the exception by a name -/
abbrev HdT := Addr → Value → Option Addr → TS
/-- where a clause with a name goes on: the name is gone -/
def Ends.less (D : Ends) (i : Nat) : Ends := { nx := fun σ' H' => D.nx (σ'.set i none) H', rt := D.rt, bk := fun σ' H' => D.bk (σ'.set i none) H', ct := fun σ' H' => D.ct (σ'.set i none) H' }
/-- which clause takes an exception, and what it must do then -/
def wHs (K : PySem.W.Frag) (Wout : WX) (D : Ends) : List (Value × Option Nat × HdT) → WX
  | [] => Wout
  | (c, o, ts) :: r => fun cls d σ H => ∃ b, PySem.W.exmOne K cls c = some b ∧
      (b = true → ∀ a, H a = none → match o with
        | none => ts a cls d D σ H
        | some i => i < σ.length → ts a cls d (Ends.less D i) (σ.set i (some (.ref a))) H) ∧
      (b = false → wHs K Wout D r cls d σ H)
inductive Hds (X : Cx) : List ExceptHandler → List (Value × Option Nat × HdT) → Prop
  | nil : Hds X [] []
  | one {x : Str} {c : Value} {ts : HdT} {b₀ : Stmt} {suite : List Stmt} {np p : Pos} {hs l} : Names X x c →
      (∀ a oe cls d pn, Zc cls d oe → (∃ vs, oe.data = .fields vs) → PSs (X.suite a ((a, oe) :: pn)) (b₀ :: suite) (ts a cls d)) → Hds X hs l →
      Hds X (.ExceptHandler (some (.Name x np)) none (b₀ :: suite) p :: hs) ((c, none, ts) :: l)
  | as_ {x n : Str} {i : Nat} {c : Value} {ts : HdT} {b₀ : Stmt} {suite : List Stmt} {np p : Pos} {hs l} : Names X x c → X.N[i]? = some n → X.env.kindOf n = some .local →
      (∀ a oe cls d pn, Zc cls d oe → (∃ vs, oe.data = .fields vs) → PSs (X.suite a ((a, oe) :: pn)) (b₀ :: suite) (ts a cls d)) → Hds X hs l →
      Hds X (.ExceptHandler (some (.Name x np)) (some n) (b₀ :: suite) p :: hs) ((c, some i, ts) :: l)
theorem ps_tryAs {X : Cx} {body : List Stmt} {h₀ : ExceptHandler} {hds : List ExceptHandler} {l : List (Value × Option Nat × HdT)} {pos : Pos} {tb : WX → TS} {Wout : WX} (hs : X.stack = X.env :: X.outer) (hf : X.env.frame = some X.env.locals) (hN : X.N.Nodup) (tk : Takes X Wout)
    (hb : ∀ (W : WX) (pn : List (Addr × Obj)) (xe : Value → Shared → Prop), Takes (X.tr pn xe) W → PassesOwn (model X.prog X.w) X.A X.env xe → PSs (X.tr pn xe) body (tb W)) (hh : Hds X (h₀ :: hds) l) :
    PS X (.Try body (h₀ :: hds) [] [] pos) fun D σ H => tb (wHs X.K Wout D l) D σ H := by
  constructor
  intro pins s σ H D I h
  have ok := I.ok
  have hfr : X.A.frames = some (X.env :: X.outer) := by
    rw [ok.frames, hs]
  refine wpAny_Try_except (wpAny_mono ((hb (wHs X.K Wout D l) (X.pn ++ pins) _ ?_ PassesOwn.looking).run [] s σ H D (I.toTry _) h) ?_ fun e s1 he => he)
  · rintro u s' ⟨a, B, sI, pins', σ', H', cls, d, rfl, J', nb, up, sky, na, os, ag, w⟩
    have J := J'.ofTry ok
    have sky' : Sky B (X.env :: X.outer) a (Zc cls d) X.env.locals s'.heap := by
      rw [← hs]
      exact sky
    refine Sky.land Zc.steady hfr hf sky' fun h3 fl3 up3 => ?_
    have J3 := J.landed (s' := { heap := h3, gens := s'.gens, drawn := s'.drawn, toks := s'.toks, os := s'.os }) nb fl3.1 (up.trans up3) os ag
    obtain ⟨oe3, vs3, he3, hz3, hd3⟩ := fl3.there
    have nfr : ¬ a ∈ List.filterMap (fun x => x.frame) (X.env :: X.outer) := fun hm => by
      obtain ⟨_, o', e', hnf⟩ := fl3.2.2.1.mem hm
      have e2 : some oe3 = some o' := he3.symm.trans e'
      cases e2
      exact hnf _ hd3
    have nL : a ≠ X.env.locals := fun z => nfr (List.mem_filterMap.mpr ⟨X.env, List.mem_cons_self, by rw [hf, z]⟩)
    have nF : ¬ a ∈ X.fs := fun hm => by
      obtain ⟨e, he, q⟩ := List.mem_filterMap.mp hm
      exact nfr (List.mem_filterMap.mpr ⟨e, List.mem_cons_of_mem _ he, q⟩)
    have S3 := J3.suite he3 hd3 na nL nF
    have go : ∀ {hs' l'}, Hds X hs' l' → wHs X.K Wout D l' cls d σ' H' → wpAny (model X.prog X.w) X.A (handleBy (.ref a) X.env hs') (SP X pins D) X.xe { heap := h3, gens := s'.gens, drawn := s'.drawn, toks := s'.toks, os := s'.os } := by
      intro hs' l' hk
      have LT : ∀ (c : Value) (b : Bool), PySem.W.exmOne X.K cls c = some b → PySem.W.Looks (model X.prog X.w) h3 (excMatches (.ref a) c) b := fun c b hb1 => PySem.W.exm_one J3.kIn (fun A Q E s k q => wpAny_typeOf_ref (k a oe3 he3) (by rw [hz3.1]; exact q)) hb1
      have test : ∀ {x : Str} {c : Value} {np : Pos} {Q : Value → Shared → Prop} {E : Value → Shared → Prop}, Names X x c → Q c { heap := h3, gens := s'.gens, drawn := s'.drawn, toks := s'.toks, os := s'.os } → wpAny (model X.prog X.w) (X.A.mark (some (.ref a))) (eval (.Name x np) X.env) Q E { heap := h3, gens := s'.gens, drawn := s'.drawn, toks := s'.toks, os := s'.os } := by
        intro x c np Q E hc q
        obtain ⟨hg, hdbg, hm | ⟨hm, hv, hnn⟩⟩ := hc
        · exact ld_glob S3 hg hm q hdbg
        · exact ld_blt S3 hg hm hv q hnn hdbg
      induction hk with
      | nil =>
        intro w
        refine wpAny_handleBy_nil ?_
        obtain ⟨k1, k2, k3, oe, vs, T, oT, ts', he, hz, hd, h1, hr⟩ := id fl3
        refine wpAny_bind (wpAny_field he hd h1 ?_)
        rw [if_neg (by simp)]
        refine wpAny_bind ?_
        rw [hf]
        exact HandSPX.setFlight_upZ fl3 fun h4 hh4 up4 => wpAny_throw (tk (.ref a) _ ⟨a, B, sI, pins, σ', H', cls, d, rfl, J, nb, (up.trans up3).trans up4, .inr (.inr (by rw [hs]; exact hh4)), na, os, ag, w⟩)
      | one hc hsu r ih =>
        rintro ⟨b, hb1, hyes, hno⟩
        refine wpAny_handleBy_cons (codeAny_handlers_test (test hc (PySem.W.Looks.here (LT _ _ hb1) ?_))) (fun q => by cases q)
        cases b with
        | false => exact ih (hno rfl)
        | true =>
          refine codeAny_handlers_suite (HandSPX.lands_againZ fl3 fun h4 fl4 up4 => ?_)
          have J4 := J.landed (s' := { heap := h4, gens := s'.gens, drawn := s'.drawn, toks := s'.toks, os := s'.os }) nb fl4.1 ((up.trans up3).trans up4) os ag
          obtain ⟨oe4, vs4, he4, hz4, hd4⟩ := fl4.there
          have S4 := J4.suite he4 hd4 na nL nF
          refine wpAny_mono ((hsu a oe4 cls d (X.pn ++ pins) hz4 ⟨vs4, hd4⟩).run [] _ σ' H' D S4 (hyes rfl a na)) (fun f s6 hsp => ?_) fun _ _ z => z.elim
          show SP X pins D f s6
          cases f with
          | ret u =>
            obtain ⟨v6, σ6, H6, S6, r6, q6⟩ := hsp
            exact ⟨v6, σ6, H6, S6.unsuite ok, r6, q6⟩
          | _ =>
            obtain ⟨σ6, H6, S6, q6⟩ := hsp
            exact ⟨σ6, H6, S6.unsuite ok, q6⟩
      | as_ hc hi hln hsu r ih =>
        rintro ⟨b, hb1, hyes, hno⟩
        refine wpAny_handleBy_cons (codeAny_handlers_test (test hc (PySem.W.Looks.here (LT _ _ hb1) ?_))) (fun q => by cases q)
        cases b with
        | false => exact ih (hno rfl)
        | true =>
          refine codeAny_handlers_suite_as (HandSPX.lands_againZ fl3 fun h4 fl4 up4 => ?_)
          have J4 := J.landed (s' := { heap := h4, gens := s'.gens, drawn := s'.drawn, toks := s'.toks, os := s'.os }) nb fl4.1 ((up.trans up3).trans up4) os ag
          obtain ⟨oe4, vs4, he4, hz4, hd4⟩ := fl4.there
          have S4 := J4.suite he4 hd4 na nL nF
          refine store_ok (X := X.suite a ((a, oe4) :: (X.pn ++ pins))) (v := .ref a) S4 hN hi (.inl hln) rfl (fun s5 S5 => ?_) (.inr hln)
          refine wpAny_mono ((hsu a oe4 cls d (X.pn ++ pins) hz4 ⟨vs4, hd4⟩).run [] s5 _ H' _ S5 (hyes rfl a na (by rw [J.len]; exact (List.getElem?_eq_some_iff.mp hi).1))) (fun f s6 hsp => ?_) fun _ _ z => z.elim
          cases f with
          | ret u =>
            obtain ⟨v6, σ6, H6, S6, r6, q6⟩ := hsp
            exact gone_ok (S6.unsuite ok) hN hi hln fun s7 J7 => ⟨v6, _, H6, J7, r6, q6⟩
          | _ =>
            obtain ⟨σ6, H6, S6, q6⟩ := hsp
            exact gone_ok (S6.unsuite ok) hN hi hln fun s7 J7 => ⟨_, H6, J7, q6⟩
    exact go hh w
  · intro f s1 hsp
    cases f with
    | ret u =>
      obtain ⟨v, σ', H', J', r, q⟩ := hsp
      exact ⟨v, σ', H', J'.ofTry ok, r, q⟩
    | next =>
      obtain ⟨σ', H', J', q⟩ := hsp
      exact wpAny_execs_nil ⟨σ', H', J'.ofTry ok, q⟩
    | _ =>
      obtain ⟨σ', H', J', q⟩ := hsp
      exact ⟨σ', H', J'.ofTry ok, q⟩
end GV

namespace GV
open PySem PySem.Spec PyProof.Rows L2
/-! ### an own error without a word -/
theorem pmk_own0 {X : Cx} {pos : Pos} {C : Addr} {bmB : List Value} {B newId initId : String} {x : Str} {p : Pos} (F : ExcBaseFacts B newId initId bmB) (q : PySem.W.excIn X.K C bmB newId = true) (gC : X.mg x = some (.ref C)) (kC : PySem.W.keepIn X.K (.ref C) = true) (r : Raises X (.ref C)) (hg : Gl X x)
    (hdb : (x == ("__debug__" : Str)) = false := by decide) : PMk X (.Call (.Name x p) [] [] pos) fun σ H Q => Q (.ref C) none H := by
  intro pins s σ H Q I h
  refine wpAny_Call_Name_kw ?_
  refine ld_glob I hg gC ?_ hdb
  refine PySem.W.callWith_K0 (env := X.env) (first := []) I.kIn kC ?_
  obtain ⟨bm, N, nm, qn, bs, hdct, sn, sub, ab, col, dd, k0, k1, k2, k3, k5, mN, hC, hN, hni, T⟩ := exc_obj I.kIn q
  exact wpAny_call_exc_subT F T hC hN hni (fun h' e hm => mk_of I hm r h (HOk.gone I.hok hm.new)) (Nat.zero_le _)
/-- an error class whose objects are made without words -/
structure Err0 (K : PySem.W.Frag) (mg : Str → Option Value) (x : Str) (C : Addr) : Prop where
  gC : mg x = some (.ref C)
  ex : PySem.W.excIn K C [.type "ValueError", .type "Exception", .type "BaseException", .type "object"] "ValueError.__new__" = true
  kC : PySem.W.keepIn K (.ref C) = true
  exC : PySem.W.subIn K (.ref C) (.type "BaseException") = some true
  tyC : PySem.W.typeIn K (.ref C) = some (.type "type")
theorem s_raise0 {X : Cx} {σ : St} {H : Hp} {D : Ends} {W : WX} {x : Str} {C : Addr} {p pos pos2 : Pos} (hc : X.calm = true) (er : Err0 X.K X.mg x C) (tk : Takes X W) (hg : Gl X x) (h : W (.ref C) none σ H) (hdb : (x == ("__debug__" : Str)) = false := by decide) :
    wS X (.Raise (some (.Call (.Name x p) [] [] pos)) none pos2) D σ H := ⟨_, ps_raise hc tk (pmk_own0 F.excBase_ValueError er.ex er.gC er.kC (raises_own er.exC er.tyC) hg hdb), h⟩
end GV

namespace GV
open PySem PySem.Spec PyProof.Rows L2
/-! ### objects: fields, methods, properties -/
/-- e names what stands at a -/
def AtN (X : Cx) (σ : St) (e : Expr) (a : Addr) : Prop := ∀ H1 (Q : VK), Q (.ref a) H1 → wE X e σ H1 Q
section
variable {X : Cx} {M : Addr → Prop} {σ : St} {H H' : Hp} {a b c e o : Expr} {da db d : PyData} {pos : Pos} {es : List Expr} {ds : List PyData} {D : Ends}
theorem AtN.name {i : Nat} {x : Str} {p : Addr} (hN : X.N[i]? = some x) (hv : Vis X.env.scope x) (hs : σ[i]? = some (some (.ref p)))
    (hd : (x == ("__debug__" : Str)) = false := by decide) (hcd : (x == ("__classdict__" : Str)) = false := by decide) : AtN X σ (.Name x pos) p := fun H1 Q q => ce_name hN hv hs q hd hcd
theorem pd_fld {f : Str} {p C dx : Addr} {fs : List (Str × V)} {v : V} (hn : AtN X σ e p) (m : ¬ M p) (hp : H p = some (.ins C dx fs)) (c : Cls X.K C) (n : NoAttr X.K C f) (hf : fs.lookup f = some v) (r : Rp X.K M H v d)
    (hb : attributeBase e f X.env (eval e X.env) = eval e X.env := by rfl) : PD X M (.Attribute e f pos) σ H d := .mk fun H1 e1 al Q q =>
  ⟨_, pe_fld wE.pe hb, hn _ _ ⟨p, C, dx, fs, v, rfl, e1 _ _ hp m (fun _ z => by cases z), c, n, hf, q v H1 (Evl.Ex.refl H1) (r.mono (fun _ z => z) e1)⟩⟩
theorem AtN.fld {f : Str} {p s C dx : Addr} {fs : List (Str × V)} (hn : AtN X σ e p) (c : Cls X.K C) (n : NoAttr X.K C f) (hf : fs.lookup f = some (.ref s)) {Q : VK} (hp : H p = some (.ins C dx fs)) (q : Q (.ref s) H)
    (hb : attributeBase e f X.env (eval e X.env) = eval e X.env := by rfl) : wE X (.Attribute e f pos) σ H Q := ⟨_, pe_fld wE.pe hb, hn _ _ ⟨p, C, dx, fs, _, rfl, hp, c, n, hf, q⟩⟩
/-- o.append(e) -/
theorem ce_append {apos cpos : Pos} {Q : VK} (h : wE X o σ H fun x H1 => ∃ l xs, x = .ref l ∧ H1 l = some (.lst xs) ∧ wE X e σ H1 fun y H2 => ∃ ys, H2 l = some (.lst ys) ∧ ys.length < 100000 ∧ Q .non (upd H2 l (.lst (ys ++ [y]))))
    (h1 : attributeBase o ("append" : Str) X.env (eval o X.env) = eval o X.env := by rfl)
    (h2 : ((((backTo cpos (starEach (e :: []) X.env)).all fun x => !x.1) && (backToKw cpos (keywordEach [] X.env)).all fun x => x.1.isSome) && decide (((e :: []).length + ([] : List Keyword).length + if ([] : List Keyword).isEmpty = true then 0 else 1) < 30)) = true := by rfl)
    (h3 : (apos.endLine == cpos.line) = true := by rfl) (h4 : starEach (e :: []) X.env = (false, eval e X.env) :: starEach [] X.env := by rfl) (h5 : (backTo cpos (starEach [] X.env)).any (·.1) = false := by rfl) :
    wE X (.Call (.Attribute o "append" apos) [e] [] cpos) σ H Q := by
  refine ⟨_, pe_bm PySem.F.plainAttrs_list PySem.F.slot_list_append PySem.F.type_list_append mt_append wE.pe wA.pa h1 h2 h3 h4 h5, ?_⟩
  obtain ⟨t, p, q⟩ := h
  refine ⟨fun σ H Q => ∃ Q0, t σ H Q0 ∧ ∀ x H1, Q0 x H1 → Q x H1, ⟨fun pins s σ H Q I ⟨Q0, h0, imp⟩ => wpAny_mono (p.run pins s σ H Q0 I h0) (fun us s1 ⟨v, H1, I1, r1, q1⟩ => ⟨v, H1, I1, r1, imp v H1 q1⟩) fun _ _ z => z⟩, _, q, ?_⟩
  rintro x H1 ⟨l, xs, rfl, hl, h2⟩
  refine ⟨.inl ⟨rfl, _, SqL.of hl⟩, ?_⟩
  obtain ⟨t2, p2, q2⟩ := h2
  refine ⟨_, pa_cons (te := fun σ H Q => ∃ Q0, t2 σ H Q0 ∧ ∀ x H1, Q0 x H1 → Q x H1) ⟨fun pins s σ H Q I ⟨Q0, h0, imp⟩ => wpAny_mono (p2.run pins s σ H Q0 I h0) (fun us s1 ⟨v, H1, I1, r1, q1⟩ => ⟨v, H1, I1, r1, imp v H1 q1⟩) fun _ _ z => z⟩ pa_nil h4, _, q2, ?_⟩
  rintro y H2 ⟨ys, hy, hlen, hq⟩
  exact ⟨l, ys, y, rfl, rfl, hy, Nat.lt_of_lt_of_le hlen (by rw [sizeLine_eq]; decide), hq⟩
/-- o.pop() -/
theorem ce_pop {apos cpos : Pos} {Q : VK} {l : Addr} {xs : List V} {y : V} (h : wE X o σ H fun x H1 => x = .ref l ∧ H1 l = some (.lst (xs ++ [y])) ∧ Q y (upd H1 l (.lst xs)))
    (h1 : attributeBase o ("pop" : Str) X.env (eval o X.env) = eval o X.env := by rfl) (h3 : (apos.endLine == cpos.line) = true := by rfl) : wE X (.Call (.Attribute o "pop" apos) [] [] cpos) σ H Q := by
  refine ⟨_, pe_bm0 PySem.F.plainAttrs_list PySem.F.slot_list_pop PySem.F.type_list_pop mt_pop wE.pe h1 h3, ?_⟩
  obtain ⟨t, p, q⟩ := h
  refine ⟨fun σ H Q => ∃ Q0, t σ H Q0 ∧ ∀ x H1, Q0 x H1 → Q x H1, ⟨fun pins s σ H Q I ⟨Q0, h0, imp⟩ => wpAny_mono (p.run pins s σ H Q0 I h0) (fun us s1 ⟨v, H1, I1, r1, q1⟩ => ⟨v, H1, I1, r1, imp v H1 q1⟩) fun _ _ z => z⟩, _, q, ?_⟩
  rintro x H1 ⟨rfl, hl, hq⟩
  refine ⟨.inl ⟨rfl, _, SqL.of hl⟩, l, _, y, rfl, rfl, hl, ?_, ?_⟩
  · simp
  · rw [List.dropLast_concat]
    exact hq
/-- o.reverse() -/
theorem ce_reverse {apos cpos : Pos} {Q : VK} {l : Addr} {xs : List V} (h : wE X o σ H fun x H1 => x = .ref l ∧ H1 l = some (.lst xs) ∧ Q .non (upd H1 l (.lst xs.reverse)))
    (h1 : attributeBase o ("reverse" : Str) X.env (eval o X.env) = eval o X.env := by rfl) (h3 : (apos.endLine == cpos.line) = true := by rfl) : wE X (.Call (.Attribute o "reverse" apos) [] [] cpos) σ H Q := by
  refine ⟨_, pe_bm0 PySem.F.plainAttrs_list PySem.F.slot_list_reverse PySem.F.type_list_reverse mt_reverse wE.pe h1 h3, ?_⟩
  obtain ⟨t, p, q⟩ := h
  refine ⟨fun σ H Q => ∃ Q0, t σ H Q0 ∧ ∀ x H1, Q0 x H1 → Q x H1, ⟨fun pins s σ H Q I ⟨Q0, h0, imp⟩ => wpAny_mono (p.run pins s σ H Q0 I h0) (fun us s1 ⟨v, H1, I1, r1, q1⟩ => ⟨v, H1, I1, r1, imp v H1 q1⟩) fun _ _ z => z⟩, _, q, ?_⟩
  rintro x H1 ⟨rfl, hl, hq⟩
  exact ⟨.inl ⟨rfl, _, SqL.of hl⟩, l, _, rfl, rfl, hl, hq⟩
end
/-! ### which data hold no list, so that no change reaches them -/
mutual
def flat : PyData → Bool
  | .list _ => false
  | .dict _ => false
  | .tuple ds => flats ds
  | _ => true
def flats : List PyData → Bool
  | [] => true
  | d :: ds => flat d && flats ds
end
section
variable {K : PySem.W.Frag} {M M' : Addr → Prop} {H H' : Hp}
def Lists (M : Addr → Prop) (H : Hp) : Prop := ∀ a, M a → ∃ xs, H a = some (.lst xs)
mutual
theorem Rp.off {v : V} {d : PyData} : (r : Rp K M' H v d) → flat d = true → Lists M H → Rp K M H v d
  | .non, _, _ => .non
  | .bl b, _, _ => .bl b
  | .int i, _, _ => .int i
  | .str x, _, _ => .str x
  | .lst m h r, hf, hm => absurd hf (by simp [flat])
  | .tup m h r, hf, hm => .tup (fun z => by
      obtain ⟨xs, hx⟩ := hm _ z
      rcases h with h | ⟨o, h⟩ <;> rw [h] at hx <;> cases hx) h (RpAll.off r (by simpa [flat] using hf) hm)
theorem RpAll.off {vs : List V} {ds : List PyData} : (r : RpAll K M' H vs ds) → flats ds = true → Lists M H → RpAll K M H vs ds
  | .nil, _, _ => .nil
  | .cons r rs, hf, hm => .cons (Rp.off r (by simp [flats] at hf; exact hf.1) hm) (RpAll.off rs (by simp [flats] at hf; exact hf.2) hm)
end
/-- .. so what is flat stays whatever becomes of lists -/
def Keep (H H' : Hp) : Prop := ∀ a o, H a = some o → (∀ xs, o ≠ .lst xs) → NT o → H' a = some o
end
end GV

namespace GV
open PySem PySem.Spec PyProof.Rows L2
/-! ### weaker questions -/
theorem PE.weak {X : Cx} {e : Expr} {t : TE} (p : PE X e t) : PE X e fun σ H Q => ∃ Q0 : VK, t σ H Q0 ∧ ∀ v H1, Q0 v H1 → Q v H1 :=
  ⟨fun pins s σ H Q I ⟨Q0, h0, imp⟩ => wpAny_mono (p.run pins s σ H Q0 I h0) (fun us s1 ⟨v, H1, I1, r1, q1⟩ => ⟨v, H1, I1, r1, imp v H1 q1⟩) fun _ _ z => z⟩
theorem wE.weak {X : Cx} {e : Expr} {σ : St} {H : Hp} {Q0 Q : VK} (h : wE X e σ H Q0) (imp : ∀ v H1, Q0 v H1 → Q v H1) : wE X e σ H Q := let ⟨t, p, q⟩ := h; ⟨_, PE.weak p, Q0, q, imp⟩
/-! ### what changes only at S -/
def ExS (S : Addr → Prop) (H H' : Hp) : Prop := ∀ a o, ¬ S a → H a = some o → H' a = some o
theorem ExS.of {S : Addr → Prop} {H H' : Hp} (e : Evl.Ex H H') : ExS S H H' := fun a o _ h => e a o h
theorem ExS.trans {S : Addr → Prop} {H H1 H2 : Hp} (e : ExS S H H1) (f : ExS S H1 H2) : ExS S H H2 := fun a o n h => f a o n (e a o n h)
theorem ExS.upd {S : Addr → Prop} {H : Hp} {b : Addr} {o : HO} (s : S b) : ExS S H (upd H b o) := fun a u n h => by
  rw [upd_ne fun e => n (by rw [e]; exact s)]
  exact h
theorem ExS.mono {S S' : Addr → Prop} {H H' : Hp} (e : ExS S H H') (h : ∀ a, S a → S' a) : ExS S' H H' := fun a o n k => e a o (fun z => n (h a z)) k
theorem ExS.exM {S : Addr → Prop} {H H' : Hp} (e : ExS S H H') : ExM S H H' := fun a o h n _ => e a o n h
theorem ExM.mono {S S' : Addr → Prop} {H H' : Hp} (e : ExM S H H') (h : ∀ a, S a → S' a) : ExM S' H H' := fun a o k n t => e a o k (fun z => n (h a z)) t
theorem ExM.lst {S : Addr → Prop} {H H' : Hp} {a : Addr} {xs : List V} (e : ExM S H H') (n : ¬ S a) (h : H a = some (.lst xs)) : H' a = some (.lst xs) := e a _ h n fun _ z => by cases z
/-- the tables stay -/
theorem Tabs.exS {S : Addr → Prop} {H H' : Hp} {T : List (Addr × Str)} (t : LamX.Tabs T H) (e : ExS S H H') (l : ∀ a, S a → ∃ xs, H a = some (.lst xs)) : LamX.Tabs T H' := fun p hp => by
  obtain ⟨ps, h1, h2, h3⟩ := t p hp
  refine ⟨ps, e _ _ (fun s => ?_) h1, h2, fun pos cv h => ?_⟩
  · obtain ⟨xs, hx⟩ := l _ s
    rw [hx] at h1
    cases h1
  · obtain ⟨c, rfl, hc⟩ := h3 pos cv h
    refine ⟨c, rfl, e _ _ (fun s => ?_) hc⟩
    obtain ⟨xs, hx⟩ := l _ s
    rw [hx] at hc
    cases hc
section
variable {X : Cx} {M : Addr → Prop} {σ : St} {H H' : Hp} {a b c e o : Expr} {da db d : PyData} {pos : Pos} {es : List Expr} {ds : List PyData} {D : Ends}
theorem ce_str {x : Str} {j} {Q : VK} (q : Q (.str x) H) : wE X (.Constant (.str x) j pos) σ H Q := ⟨_, pe_str, q⟩
theorem ce_tup {x1} {Q : VK} (h : wA X es σ H fun vs H1 => vs.length ≤ 1000 ∧ ∀ p, H1 p = none → Q (.ref p) (upd H1 p (.tup vs))) : wE X (.Tuple es x1 pos) σ H Q := by
  obtain ⟨t, p, q⟩ := h
  refine ⟨_, pe_tup (t := fun σ H Q => ∃ Q0, t σ H Q0 ∧ ∀ vs H1, Q0 vs H1 → Q vs H1) ⟨fun pos pins s σ H Q I ⟨Q0, h0, imp⟩ => wpAny_mono (p.run pos pins s σ H Q0 I h0) (fun us s1 ⟨vs, H1, I1, r1, q1⟩ => ⟨vs, H1, I1, r1, imp vs H1 q1⟩) fun _ _ z => z⟩, _, q, ?_⟩
  rintro vs H1 ⟨hl, hq⟩
  exact ⟨Evl.sz_of (by omega), hq⟩
/-- a method's call -/
theorem ce_meth {CX : CXT} {E : XK} {C f p dx : Addr} {fd : FuncData} {ps : List Str} {sp : Sp} {m : Str} {apos : Pos} {pl : Sem Bool} {j k : Nat} {fs : List (Str × V)} {Q : VK} (hn : AtN X σ o p) (c : Cls X.K C) (hm : Meth X.K C m f) (F : FnOk X.prog X.w X.K X.mg X.base CX k f fd ps sp) (hr : Room j X.A) (hkj : k ≤ j) (hb : Binds X.K fd ps []) (hx : Passes CX X E)
    (hp : H p = some (.ins C dx fs)) (hf : fs.lookup m = none) (h : wA X (e :: es) σ H fun vs H2 => sp (.ref p :: vs) H2 Q E)
    (he : starEach (e :: es) X.env = (false, eval e X.env) :: starEach es X.env := by rfl) (hpl : (backTo pos (starEach es X.env)).any (·.1) = false := by rfl)
    (hev : eval (.Call (.Attribute o m apos) (e :: es) [] pos) X.env = (do
      let ov ← eval o X.env
      standAt apos.atName
      let (f, first) ← holding [ov] (getMethod ov m pl)
      callWith pos f first (backTo pos (starEach (e :: es) X.env)) (backToKw pos (keywordEach [] X.env))) := by rfl) : wE X (.Call (.Attribute o m apos) (e :: es) [] pos) σ H Q := by
  refine ⟨_, pe_meth wE.pe c hm F (hr.mono hkj) hb .nil hx wA.pa he hpl hev, hn _ _ ⟨p, dx, fs, rfl, hp, hf, ?_⟩⟩
  obtain ⟨t, h1, h2⟩ := h
  refine ⟨t, h1, ?_⟩
  have e1 : (fun vs H2 => sp (V.ref p :: (vs ++ [])) H2 Q E) = fun vs H2 => sp (V.ref p :: vs) H2 Q E := by
    funext vs H1
    rw [List.append_nil]
  rw [e1]
  exact h2
theorem ce_meth0 {CX : CXT} {E : XK} {C f p dx : Addr} {fd : FuncData} {ps : List Str} {sp : Sp} {m : Str} {apos : Pos} {pl : Sem Bool} {j k : Nat} {fs : List (Str × V)} {Q : VK} (hn : AtN X σ o p) (c : Cls X.K C) (hm : Meth X.K C m f) (F : FnOk X.prog X.w X.K X.mg X.base CX k f fd ps sp) (hr : Room j X.A) (hkj : k ≤ j) (hb : Binds X.K fd ps []) (hx : Passes CX X E)
    (hp : H p = some (.ins C dx fs)) (hf : fs.lookup m = none) (h : sp [.ref p] H Q E)
    (hev : eval (.Call (.Attribute o m apos) [] [] pos) X.env = (do
      let ov ← eval o X.env
      standAt apos.atName
      let (f, first) ← holding [ov] (getMethod ov m pl)
      callWith pos f first (backTo pos (starEach [] X.env)) (backToKw pos (keywordEach [] X.env))) := by rfl) : wE X (.Call (.Attribute o m apos) [] [] pos) σ H Q :=
  ⟨_, pe_meth0 wE.pe c hm F (hr.mono hkj) hb .nil hx hev, hn _ _ ⟨p, dx, fs, rfl, hp, hf, h⟩⟩
/-- a property's value -/
theorem ce_prop {CX : CXT} {E : XK} {C p g b dx : Addr} {f : Str} {fd : FuncData} {ps : List Str} {sp : Sp} {j k : Nat} {fs : List (Str × V)} {Q : VK} (hn : AtN X σ o b) (c : Cls X.K C) (hp : PropOf X.K C f p g) (F : FnOk X.prog X.w X.K X.mg X.base CX k g fd ps sp) (hr : Room j X.A) (hkj : k + 1 ≤ j) (hb : Binds X.K fd ps []) (hx : Passes CX X.nox E)
    (hi : H b = some (.ins C dx fs)) (h : sp [.ref b] H Q E) (hab : attributeBase o f X.env (eval o X.env) = eval o X.env := by rfl) : wE X (.Attribute o f pos) σ H Q :=
  ⟨_, pe_prop wE.pe c hp F (hr.mono hkj) hb .nil hx hab, hn _ _ ⟨b, dx, fs, rfl, hi, h⟩⟩
/-! ### try -/
abbrev tsW (X : Cx) (suite : List Stmt) : HdT := fun a cls d D σ H => ∀ oe pn, Zc cls d oe → (∃ vs, oe.data = .fields vs) → wB (X.suite a ((a, oe) :: pn)) suite D σ H
theorem psW {X : Cx} {suite : List Stmt} {a : Addr} {oe : Obj} {cls : Value} {d : Option Addr} {pn : List (Addr × Obj)} (hz : Zc cls d oe) (hd : ∃ vs, oe.data = .fields vs) : PSs (X.suite a ((a, oe) :: pn)) suite (tsW X suite a cls d) := ⟨fun pins s σ H D I h => wB.ps.run pins s σ H D I (h oe pn hz hd)⟩
theorem s_try {body : List Stmt} {h₀ : ExceptHandler} {hds : List ExceptHandler} {l : List (Value × Option Nat × HdT)} {Wout : WX} (hs : X.stack = X.env :: X.outer) (hf : X.env.frame = some X.env.locals) (hN : X.N.Nodup) (tk : Takes X Wout) (hh : Hds X (h₀ :: hds) l)
    (h : ∀ pn xe, Takes (X.tr pn xe) (wHs X.K Wout D l) → wB (X.tr pn xe) body D σ H) : wS X (.Try body (h₀ :: hds) [] [] pos) D σ H :=
  ⟨_, ps_tryAs (tb := fun W D σ H => ∀ pn xe, Takes (X.tr pn xe) W → wB (X.tr pn xe) body D σ H) hs hf hN tk (fun W pn xe tkW _ => ⟨fun pins s σ H D I h => wB.ps.run pins s σ H D I (h pn xe tkW)⟩) hh, h⟩
/-- e.f, e the exception that the clause holds -/
theorem ce_xf {X : Cx} {a C : Addr} {oe : Obj} {cls : Value} {d : Option Addr} {pn : List (Addr × Obj)} {f : Str} {Q : VK} (xf : XfC X.K C) (n : PySem.W.findIn X.K (.ref C) f = some none) (hz : Zc cls d oe) (hd : ∃ vs, oe.data = .fields vs)
    (h : wE (X.suite a ((a, oe) :: pn)) e σ H fun x H1 => x = .ref a ∧ cls = .ref C ∧ ∃ dd fs v, d = some dd ∧ H1 dd = some (.xd fs) ∧ fs.lookup f = some v ∧ Q v H1)
    (hab : attributeBase e f X.env (eval e X.env) = eval e X.env := by rfl) : wE (X.suite a ((a, oe) :: pn)) (.Attribute e f pos) σ H Q := ⟨_, pe_xf xf n hz hd wE.pe hab, h⟩
end
end GV

namespace GV
open PySem PySem.Spec PyProof.Rows L2
/-! ### the script: a list of whole numbers that nothing changes, wherever it stands -/
def ScAt (K : PySem.W.Frag) (M : Addr → Prop) (H : Hp) (a : Addr) (ns : List Int) : Prop := (¬ M a ∧ Rd H a (.lst (ns.map V.int))) ∨ ∀ H', SqL K H' a (ns.map V.int)
section
variable {K : PySem.W.Frag} {M M' : Addr → Prop} {H H' : Hp} {a : Addr} {ns : List Int}
theorem ScAt.of (h : SqL K H a (ns.map V.int)) (n : ¬ M a) : ScAt K M H a ns := h.elim (fun h => .inl ⟨n, h⟩) fun h => .inr fun _ => .inr h
theorem ScAt.sq (h : ScAt K M H a ns) : SqL K H a (ns.map V.int) := h.elim (fun h => .inl h.2) fun h => h H
theorem ScAt.mono (h : ScAt K M H a ns) (hm : ∀ a, M' a → M a) (e : ExM M H H') : ScAt K M' H' a ns := h.elim (fun ⟨n, h⟩ => .inl ⟨fun z => n (hm _ z), Rd.exM h n e⟩) .inr
end
section
variable {X : Cx} {M : Addr → Prop} {σ : St} {H : Hp} {a : Addr} {e b : Expr} {ns : List Int} {pos : Pos}
theorem pd_scIx {i : Nat} {j : Nat} {x : Str} {p : Pos} {z : Int} (h : ScAt X.K M H a ns) (hb : PD X M b σ H (.int (i : Nat))) (hz : ns[i]? = some z) (hN : X.N[j]? = some x := by rfl) (hv : Vis X.env.scope x := by first | exact .inl rfl | exact .inr (.inl rfl)) (hs : σ[j]? = some (some (.ref a)) := by rfl)
    (hd : (x == ("__debug__" : Str)) = false := by decide) (hcd : (x == ("__classdict__" : Str)) = false := by decide) (hpl : PlainIx b := by exact fun _ _ => rfl) : PD X M (.Subscript (.Name x p) b pos) σ H (.int z) := .mk fun H1 e1 al Q q =>
  ⟨_, pe_ix ix_seq wE.pe wE.pe hpl, ce_name hN hv hs (hb.run H1 e1 al _ fun y H2 x2 ry => by
    cases ry
    have hq := ((h.mono (fun _ z => z) e1).mono (fun _ z => z) (.of x2)).sq
    exact .inl ⟨_, _, (i : Nat), .int z, rfl, rfl, hq, atI_nat (by rw [List.getElem?_map, hz]; rfl), q _ H2 x2 (.int z)⟩) hd hcd⟩
theorem pd_scLen {j : Nat} {x : Str} {p p2 : Pos} (h : ScAt X.K M H a ns) (hg : Gl X "len") (hm : X.mg "len" = none) (hN : X.N[j]? = some x := by rfl) (hv : Vis X.env.scope x := by first | exact .inl rfl | exact .inr (.inl rfl)) (hs : σ[j]? = some (some (.ref a)) := by rfl)
    (hd : (x == ("__debug__" : Str)) = false := by decide) (hcd : (x == ("__classdict__" : Str)) = false := by decide) (hst : starEach (.Name x p :: []) X.env = (false, eval (.Name x p) X.env) :: starEach [] X.env := by rfl) (hpl : (backTo pos (starEach [] X.env)).any (·.1) = false := by rfl) :
    PD X M (.Call (.Name "len" p2) [.Name x p] [] pos) σ H (.int ns.length) := .mk fun H1 e1 al Q q =>
  ⟨_, pe_callB call_len_seq hg hm PySem.boot_len wA.pa (by decide) (by decide) hst hpl, ca_cons (ce_name hN hv hs (ca_nil ⟨a, ns.map V.int, rfl, .inl ((h.mono (fun _ z => z) e1).sq), by
    rw [List.length_map]
    exact q _ H1 (Evl.Ex.refl H1) (.int _)⟩) hd hcd) hst⟩
theorem fd_scSlice {lo hi : Option Expr} {l u : Option Int} {j : Nat} {x : Str} {p p2 : Pos} (h : ScAt X.K M H a ns) (hl : OD X M lo σ H l) (hu : OD X M hi σ H u) (hN : X.N[j]? = some x := by rfl) (hv : Vis X.env.scope x := by first | exact .inl rfl | exact .inr (.inl rfl)) (hs : σ[j]? = some (some (.ref a)) := by rfl)
    (hd : (x == ("__debug__" : Str)) = false := by decide) (hcd : (x == ("__classdict__" : Str)) = false := by decide) : FD X M (.Subscript (.Name x p) (.Slice lo hi none p2) pos) σ H (cutD (ns.map PyData.int) l u) := by
  obtain ⟨tl, pl, rl⟩ := hl.ex
  obtain ⟨tu, pu, ru⟩ := hu.ex
  refine .mk fun H1 e1 al Q q => ⟨_, pe_slice sl_list wE.pe pl pu, ce_name hN hv hs ?_ hd hcd⟩
  refine rl H1 e1 al _ fun H3 x3 => ru H3 (e1.trans (.of x3)) (al.mono x3) _ fun H4 x4 => ?_
  have hq := ((h.mono (fun _ z => z) e1).mono (fun _ z => z) (.of (x3.trans x4))).sq
  exact ⟨_, _, rfl, hq, fun p hp => q p _ _ (Evl.fresh_back (x3.trans x4) hp) ((x3.trans x4).trans (Evl.Ex.new hp)) upd_same (((RpAll.ints ns).cut l u))⟩
end
end GV

-- out of B3
namespace GV
open PySem PySem.Spec PyProof.Rows L2
theorem _root_.L2.Room.u2 {k : Nat} {A : Around} (r : Room k A) : A.units + 2 < cLine := Nat.lt_of_le_of_lt (Nat.add_le_add_left (by decide : 2 ≤ 64) _) r.units
theorem cutD_take (xs : List PyData) (i : Nat) : cutD xs none (some (i : Int)) = xs.take i := by
  unfold cutD
  rw [HT.sIx_none, HT.sIx_nat, List.drop_zero, Nat.sub_zero]
  by_cases h : i ≤ xs.length
  · rw [Nat.min_eq_left h]
  · rw [Nat.min_eq_right (by omega), List.take_of_length_le (Nat.le_refl _), List.take_of_length_le (by omega)]
theorem cutD_drop (xs : List PyData) (i : Nat) : cutD xs (some (i : Int)) none = xs.drop i := by
  unfold cutD
  rw [HT.sIx_none, HT.sIx_nat]
  by_cases h : i ≤ xs.length
  · rw [Nat.min_eq_left h, List.take_of_length_le]
    rw [List.length_drop]
    exact Nat.le_refl _
  · rw [Nat.min_eq_right (by omega), Nat.sub_self, List.take_zero, List.drop_of_length_le (by omega)]
theorem take_snoc {α : Type} {l : List α} {i : Nat} {x : α} (h : l[i]? = some x) : l.take (i + 1) = l.take i ++ [x] := by
  rw [List.take_add_one, h]
  rfl
end GV
-- out of B4
namespace GV
open PySem PySem.Spec PyProof.Rows L2
theorem ixD_list {ds : List PyData} {i : Nat} {d : PyData} (h : ds[i]? = some d) : ixD (.list ds) (.int (i : Nat)) = some d := atI_nat h
theorem ixD_ints {ns : List Int} {i : Nat} {z : Int} (h : ns[i]? = some z) : ixD (.list (ns.map PyData.int)) (.int (i : Nat)) = some (.int z) := ixD_list (by rw [List.getElem?_map, h]; rfl)
section
variable {X : Cx} {M : Addr → Prop} {σ : St} {H H' : Hp} {a e : Expr} {d : PyData} {pos : Pos}
/-- int(e), e an int -/
theorem pd_intI {p : Pos} {i : Int} (nb : NoB X.mg) (hg : Gl X "int") (h : PD X M e σ H (.int i)) (hs : starEach (e :: []) X.env = (false, eval e X.env) :: starEach [] X.env := by rfl) (hpl : (backTo pos (starEach [] X.env)).any (·.1) = false := by rfl) :
    PD X M (.Call (.Name "int" p) [e] [] pos) σ H (.int i) := pd_callTy call_int1 hg nb.int PyProof.Rows.boot_int (ad_cons h ad_nil hs) rn_int (by decide) (by decide) hs hpl
theorem pd_intB {p : Pos} {k : Bool} (nb : NoB X.mg) (hg : Gl X "int") (h : PD X M e σ H (.bool k)) (hs : starEach (e :: []) X.env = (false, eval e X.env) :: starEach [] X.env := by rfl) (hpl : (backTo pos (starEach [] X.env)).any (·.1) = false := by rfl) :
    PD X M (.Call (.Name "int" p) [e] [] pos) σ H (.int (if k then 1 else 0)) := pd_callTy call_int1 hg nb.int PyProof.Rows.boot_int (ad_cons h ad_nil hs) rn_intB (by decide) (by decide) hs hpl
theorem pd_len {p : Pos} {n : Nat} (nb : NoB X.mg) (hg : Gl X "len") (h : PD X M e σ H d) (hn : lenD d = some n) (hs : starEach (e :: []) X.env = (false, eval e X.env) :: starEach [] X.env := by rfl) (hpl : (backTo pos (starEach [] X.env)).any (·.1) = false := by rfl) :
    PD X M (.Call (.Name "len" p) [e] [] pos) σ H (.int n) := pd_callB call_len hg nb.len PySem.boot_len (ad_cons h ad_nil hs) (rn_len hn) (by decide) (by decide) hs hpl
theorem pd_abs {p : Pos} {i : Int} (nb : NoB X.mg) (hg : Gl X "abs") (h : PD X M e σ H (.int i)) (hs : starEach (e :: []) X.env = (false, eval e X.env) :: starEach [] X.env := by rfl) (hpl : (backTo pos (starEach [] X.env)).any (·.1) = false := by rfl) :
    PD X M (.Call (.Name "abs" p) [e] [] pos) σ H (.int (if i < 0 then -i else i)) := pd_callB call_abs hg nb.abs PyProof.Rows.boot_abs (ad_cons h ad_nil hs) rn_abs (by decide) (by decide) hs hpl
theorem pd_sum {p : Pos} {ns : List Int} (hc : X.calm = true) (nb : NoB X.mg) (hg : Gl X "sum") (h : PD X M e σ H (.list (ns.map PyData.int))) (hs : starEach (e :: []) X.env = (false, eval e X.env) :: starEach [] X.env := by rfl) (hpl : (backTo pos (starEach [] X.env)).any (·.1) = false := by rfl) :
    PD X M (.Call (.Name "sum" p) [e] [] pos) σ H (.int ns.sum) := pd_callB (cr_sum hc) hg nb.sum PyProof.Rows.boot_sum (ad_cons h ad_nil hs) rn_sum (by decide) (by decide) hs hpl
end
end GV
-- out of B5
namespace GV
open PySem PySem.Spec PyProof.Rows L2
section
variable {X : Cx} {M : Addr → Prop} {σ : St} {H H' : Hp} {a b c e o : Expr} {da db d : PyData} {pos : Pos} {es : List Expr} {ds : List PyData} {D : Ends}
/-- o.f = e, o an exception being made -/
theorem cs_ost {f : Str} {p' : Pos} (h : wE X e σ H fun y H1 => wE X o σ H1 fun x H2 => ∃ a C, x = .ref a ∧ OexC X.K C ∧ PySem.W.findIn X.K (.ref C) f = some none ∧
      ((H2 a = some (exo a C none) ∧ ∀ dx, H2 dx = none → dx ≠ a → D.nx σ (upd (upd H2 dx (exd dx [(f, y)])) a (exo a C (some dx)))) ∨
        ∃ dx fs, H2 a = some (exo a C (some dx)) ∧ H2 dx = some (exd dx fs) ∧ fs.length ≤ 900 ∧ D.nx σ (upd H2 dx (exd dx ((f, y) :: fs)))))
    (hs : swapsWith e (some (.Attribute o f p')) pos.line X.env = pure false := by rfl) : wS X (.Assign [.Attribute o f p'] e pos) D σ H := ⟨_, ps_ost wE.pe wE.pe hs, h⟩
/-- o.f, a plain attribute of an object -/
theorem ce_fld {f : Str} {Q : VK} (h : wE X e σ H fun x H1 => ∃ a C dx fs v, x = .ref a ∧ H1 a = some (.ins C dx fs) ∧ Cls X.K C ∧ NoAttr X.K C f ∧ fs.lookup f = some v ∧ Q v H1) (hb : attributeBase e f X.env (eval e X.env) = eval e X.env := by rfl) : wE X (.Attribute e f pos) σ H Q := ⟨_, pe_fld wE.pe hb, h⟩
/-- o.f = e -/
theorem cs_fld {f : Str} {p' : Pos} (h : wE X e σ H fun y H1 => wE X o σ H1 fun x H2 => ∃ a C dx fs, x = .ref a ∧ H2 a = some (.ins C dx fs) ∧ Cls X.K C ∧ NoAttr X.K C f ∧ fs.length < 1000 ∧ D.nx σ (upd H2 a (.ins C dx (putF f y fs))))
    (hs : swapsWith e (some (.Attribute o f p')) pos.line X.env = pure false := by rfl) : wS X (.Assign [.Attribute o f p'] e pos) D σ H := ⟨_, ps_fld wE.pe wE.pe hs, h⟩
/-- a call that may raise -/
theorem ce_callX {sp : Sp} {W : WX} {Q : VK} {j k : Nat} {x : Str} {p : Pos} (cl : Cl X.prog X.w X.K X.mg X.base (L2.CX X.prog X.w) k x sp) (hr : Room j X.A) (hkj : k ≤ j) (hg : Gl X x) (tk : Takes X W) (h : wA X (e :: es) σ H fun vs H2 => sp vs H2 Q (fun cls d H' => W cls d σ H'))
    (hdb : (x == ("__debug__" : Str)) = false := by decide) (he : starEach (e :: es) X.env = (false, eval e X.env) :: starEach es X.env := by rfl) (hpl : (backTo pos (starEach es X.env)).any (·.1) = false := by rfl) : wE X (.Call (.Name x p) (e :: es) [] pos) σ H Q := by
  obtain ⟨f, fd, ps, F, hm, hk, hb⟩ := cl.ex
  exact ⟨_, pe_callS F (hr.mono hkj) hg hm hk hb (fun σ => passAt tk σ) wA.pa hdb he hpl, h⟩
theorem cs_if {A B : List Stmt} (h : wT X c σ H fun k H2 => if k = true then wB X A D σ H2 else wB X B D σ H2) : wS X (.If c A B pos) D σ H := ⟨_, ps_if wT.pt wB.ps wB.ps, h⟩
theorem ct_td {k : Bool} {Q : Bool → Hp → Prop} (al : Alive M H) (h : TD X M e σ H k) (q : ∀ H2, Evl.Ex H H2 → Q k H2) : wT X e σ H Q := h.run H (ExM.refl H) al Q q
end
end GV
-- out of B7
namespace GV
open PySem PySem.Spec PyProof.Rows L2
section
variable {X : Cx} {M : Addr → Prop} {σ : St} {H : Hp} {e : Expr} {pos : Pos}
/-- for x in range(n) -/
theorem s_forR {n slot : Nat} {x : Str} {p p1 p2 : Pos} {body : List Stmt} {D : Ends} (hp : PassesOwn (model X.prog X.w) X.A X.env X.xe) (hc : X.calm = true) (hN : X.N.Nodup) (hx : X.N[slot]? = some x) (hl : Loc X.env.scope x) (hg : Gl X "range") (hm : X.mg "range" = none) (h : PD X M e σ H (.int (n : Nat))) (hn : n ≤ 1000000) (al : Alive M H) (J : Hp → Nat → St → Hp → Prop)
    (h0 : ∀ H1, Evl.Ex H H1 → J H1 0 σ H1) (hk : ∀ H1 i σ' H', Evl.Ex H H1 → J H1 i σ' H' → ExM M H1 H' ∧ Alive M H')
    (ht : ∀ H1 i σ' H' H2, Evl.Ex H H1 → i < n → J H1 i σ' H' → Evl.Ex H' H2 → wB X body { D with nx := J H1 (i + 1), ct := J H1 (i + 1), bk := D.nx } (σ'.set slot (some (.int (i : Nat)))) H2)
    (hd : ∀ H1 σ' H', Evl.Ex H H1 → J H1 n σ' H' → D.nx σ' H') (hs : starEach [e] X.env = [(false, eval e X.env)] := by rfl) (hs' : starEach (e :: []) X.env = (false, eval e X.env) :: starEach [] X.env := by rfl)
    (hf : ∀ x, foldedSetIterable (.Call (.Name "range" p) [e] [] p1) X.env x = pure x := by intro _; rfl) (hfn : X.fn x = true ∨ X.env.scope.names.lookup x = some .local := by first | exact .inl rfl | exact .inr rfl | assumption) : wS X (.For (.Name x p2) (.Call (.Name "range" p) [e] [] p1) body [] pos) D σ H := by
  refine s_for (t := .one slot) hp hc (src_range1 hg hm h (by omega) (by omega) hs hs') (pg_name hN hx hl hfn) al J h0 hk (fun _ _ => trivial) ?_ ?_ hf
  · rintro H1 i d σ' H' H2 σ2 x1 hd j x2 ⟨v, rv, rfl⟩
    obtain ⟨k, hk', rfl⟩ := List.mem_iff_getElem?.mp (List.mem_of_getElem? hd) |> fun _ => (by
      rw [List.getElem?_map] at hd
      obtain ⟨k, h1, h2⟩ := Option.map_eq_some_iff.mp hd
      exact ⟨k, h1, h2.symm⟩ : ∃ k, (List.range (Int.toNat (n : Nat)))[i]? = some k ∧ d = PyData.int (0 + (k : Nat)))
    rw [List.getElem?_range (by
      have := (List.getElem?_eq_some_iff.mp hk').1
      simpa using this)] at hk'
    have hin : i < n := by
      have := (List.getElem?_eq_some_iff.mp hd).1
      simpa using this
    cases hk'
    cases rv
    rw [Int.zero_add]
    exact ht H1 i σ' H' H2 x1 hin j x2
  · intro H1 σ' H' x1 j
    refine hd H1 σ' H' x1 ?_
    have e1 : ((List.range (Int.toNat (n : Nat))).map fun i => PyData.int (0 + (i : Nat))).length = n := by simp
    rw [← e1]
    exact j
end
end GV
-- out of B8
namespace GV
open PySem PySem.Spec PyProof.Rows L2
/-! ### which data == may look at -/
theorem shaped_of {d : PyData} (h1 : d.canLay0 = true) (h2 : d.depth ≤ 64) : SeqAt.shaped d = true := by
  simp [SeqAt.shaped, h1, h2]
/-- flat parts, at most one deep -/
def one1 : PyData → Prop
  | .int _ => True
  | .tuple [.int _, .int _] => True
  | _ => False
theorem lay1 {d : PyData} (h : one1 d) : d.canLay0 = true ∧ d.depth ≤ 1 := by
  unfold one1 at h
  split at h
  · exact ⟨rfl, by show 0 ≤ 1; omega⟩
  · exact ⟨rfl, Nat.le_refl 1⟩
  · cases h
theorem lays1 {ds : List PyData} (h : ∀ d ∈ ds, one1 d) : (PyData.list ds).canLay0 = true ∧ (PyData.list ds).depth ≤ 2 := by
  have key : ∀ ds : List PyData, (∀ d ∈ ds, one1 d) → PyData.canLayAll0 ds = true ∧ PyData.depthAll ds ≤ 1 := by
    intro ds
    induction ds with
    | nil => exact fun _ => ⟨rfl, Nat.zero_le _⟩
    | cons d r ih =>
      intro h
      obtain ⟨a, b⟩ := lay1 (h d (List.mem_cons_self))
      obtain ⟨a2, b2⟩ := ih fun x hx => h x (List.mem_cons_of_mem _ hx)
      refine ⟨?_, ?_⟩
      · show (d.canLay0 && PyData.canLayAll0 r) = true
        rw [a, a2]
        rfl
      · show max d.depth (PyData.depthAll r) ≤ 1
        omega
  obtain ⟨a, b⟩ := key ds h
  refine ⟨a, ?_⟩
  show PyData.depthAll ds + 1 ≤ 2
  omega
theorem shaped1 {ds : List PyData} (h : ∀ d ∈ ds, one1 d) : SeqAt.shaped (.list ds) = true := by
  obtain ⟨a, b⟩ := lays1 h
  exact shaped_of a (by omega)
theorem shapedI (ns : List Int) : SeqAt.shaped (.list (ns.map PyData.int)) = true := shaped1 fun d hd => by
  obtain ⟨k, _, rfl⟩ := List.mem_map.mp hd
  trivial
theorem atI_last {α : Type} (l : List α) (x : α) : atI (l ++ [x]) (-1) = some x := by
  unfold atI ixN
  rw [if_neg (by omega), List.length_append, List.length_singleton, if_pos (by omega)]
  show (l ++ [x])[((-1 : Int) + ((l.length + 1 : Nat) : Int)).toNat]? = some x
  rw [show ((-1 : Int) + ((l.length + 1 : Nat) : Int)).toNat = l.length by omega]
  simp
section
variable {X : Cx} {M : Addr → Prop} {σ : St} {H : Hp} {o e : Expr} {pos : Pos}
/-- o.index(e), a whole number that is there -/
theorem pd_index {apos cpos : Pos} {ns : List Int} {k : Int} {j : Nat} (ho : PD X M o σ H (.list (ns.map PyData.int))) (he : PD X M e σ H (.int k)) (hj : ns[j]? = some k) (hf : ∀ m z, m < j → ns[m]? = some z → z ≠ k)
    (h1 : attributeBase o ("index" : Str) X.env (eval o X.env) = eval o X.env := by rfl)
    (h2 : ((((backTo cpos (starEach (e :: []) X.env)).all fun x => !x.1) && (backToKw cpos (keywordEach [] X.env)).all fun x => x.1.isSome) && decide (((e :: []).length + ([] : List Keyword).length + if ([] : List Keyword).isEmpty = true then 0 else 1) < 30)) = true := by rfl)
    (h3 : (apos.endLine == cpos.line) = true := by rfl) (h4 : starEach (e :: []) X.env = (false, eval e X.env) :: starEach [] X.env := by rfl) (h5 : (backTo cpos (starEach [] X.env)).any (·.1) = false := by rfl) :
    PD X M (.Call (.Attribute o "index" apos) [e] [] cpos) σ H (.int (j : Nat)) := .mk fun H1 e1 al Q q => by
  refine ⟨_, pe_bm PySem.F.plainAttrs_list PySem.F.slot_list_index PySem.F.type_list_index mt_index wE.pe (pa_cons wE.pe pa_nil h4) h1 h2 h3 h4 h5, ?_⟩
  refine ho.run H1 e1 al _ fun x H2 x2 r => ?_
  cases r with
  | lst m hs rs =>
    refine ⟨.inl ⟨rfl, _, .inl hs⟩, he.run H2 (e1.trans (.of x2)) (al.mono x2) _ fun y H3 x3 ry => ?_⟩
    cases ry
    have hs3 := GV.Rd.exM hs m (.of x3)
    have ev := rs.of_ints
    subst ev
    refine ⟨_, _, _, j, .int k, rfl, rfl, .inl hs3, rfl, ?_, ?_, ?_, ?_, q _ H3 (x2.trans x3) (.int _)⟩
    · rw [List.all_eq_true]
      intro v hv
      obtain ⟨z, _, rfl⟩ := List.mem_map.mp hv
      rfl
    · rw [List.getElem?_map, hj]
      rfl
    · simp [eqV]
    · intro m z hm hz
      rw [List.getElem?_map] at hz
      obtain ⟨u, hu, rfl⟩ := Option.map_eq_some_iff.mp hz
      simpa [eqV] using hf m u hm hu
end
end GV
-- out of B13
namespace GV
open PySem PySem.Spec PyProof.Rows L2
section
variable {X : Cx} {M : Addr → Prop} {σ : St} {H H' : Hp} {a b c e o : Expr} {da db d : PyData} {pos : Pos} {es : List Expr} {ds : List PyData} {D : Ends}
theorem ce_and {rest : List Expr} {Q : VK} (h : wE X a σ H fun x H2 => ∃ k, x = .bl k ∧ (k = true → wE X (.BoolOp .And (b :: rest) pos) σ H2 Q) ∧ (k = false → Q (.bl false) H2)) : wE X (.BoolOp .And (a :: b :: rest) pos) σ H Q := by
  refine ⟨_, pe_and wE.pe wE.pe, wE.weak h ?_⟩
  rintro x H2 ⟨k, rfl, h1, h2⟩
  refine ⟨k, rfl, ?_⟩
  cases k with
  | true => exact h1 rfl
  | false => exact h2 rfl
theorem ce_one {op} {Q : VK} (h : wE X a σ H Q) : wE X (.BoolOp op [a] pos) σ H Q := ⟨_, pe_one wE.pe, h⟩
theorem ce_eq {Q : VK} (hu : X.A.units + 64 < cLine) (h : wE X a σ H fun x H2 => wE X b σ H2 fun y H3 => ∃ da db, Dp X.K H3 x da ∧ Dp X.K H3 y db ∧ SeqAt.shaped da = true ∧ SeqAt.shaped db = true ∧ Q (.bl (PyData.eqv da db)) H3) : wE X (.Compare a [.Eq] [b] pos) σ H Q :=
  ⟨_, pe_cmpR (op_eqD hu) wE.pe wE.pe (nomark _), h⟩
end
end GV
-- out of B15
namespace GV
open PySem PySem.Spec PyProof.Rows L2
section
variable {X : Cx} {M : Addr → Prop} {σ : St} {H H' : Hp} {a b c e o : Expr} {da db d : PyData} {pos : Pos} {es : List Expr} {ds : List PyData} {D : Ends}
theorem ce_lst {Q : VK} (h : wA X es σ H fun vs H1 => vs.length ≤ 1000 ∧ ∀ p, H1 p = none → Q (.ref p) (upd H1 p (.lst vs))) : wE X (.List es pos) σ H Q := by
  obtain ⟨t, p, q⟩ := h
  refine ⟨_, pe_lst (t := fun σ H Q => ∃ Q0, t σ H Q0 ∧ ∀ vs H1, Q0 vs H1 → Q vs H1) ⟨fun pos pins s σ H Q I ⟨Q0, h0, imp⟩ => wpAny_mono (p.run pos pins s σ H Q0 I h0) (fun us s1 ⟨vs, H1, I1, r1, q1⟩ => ⟨vs, H1, I1, r1, imp vs H1 q1⟩) fun _ _ z => z⟩, _, q, ?_⟩
  rintro vs H1 ⟨hl, hq⟩
  exact ⟨Evl.sz_of (by omega), hq⟩
theorem ct_val {Q : Bool → Hp → Prop} (h : wE X e σ H fun x H2 => ∃ k, x = .bl k ∧ Q k H2) (he : ∀ whole, isTrue e X.env whole = (do let v ← whole; standAt e.pos; holding [v] (truthy v)) := by intro _; rfl) : wT X e σ H Q := ⟨_, pt_val wE.pe he, h⟩
theorem ct_eq {Q : Bool → Hp → Prop} (hu : X.A.units + 64 < cLine) (h : wE X a σ H fun x H2 => wE X b σ H2 fun y H3 => ∃ da db, Dp X.K H3 x da ∧ Dp X.K H3 y db ∧ SeqAt.shaped da = true ∧ SeqAt.shaped db = true ∧ Q (PyData.eqv da db) H3) : wT X (.Compare a [.Eq] [b] pos) σ H Q :=
  ⟨_, pt_cmpR (op_eqD hu) wE.pe wE.pe (nomark _), wE.weak h fun x H2 h2 => wE.weak h2 fun y H3 ⟨da, db, h1, h2, h3, h4, q⟩ => ⟨da, db, h1, h2, h3, h4, _, rfl, q⟩⟩
theorem ct_not {Q : Bool → Hp → Prop} (h : wT X a σ H fun k H2 => Q (!k) H2) : wT X (.UnaryOp .Not a pos) σ H Q := ⟨_, pt_not wT.pt, h⟩
theorem ce_isN {j p2} {Q : VK} (h : wE X a σ H fun x H2 => Q (.bl (decide (x = .non))) H2) : wE X (.Compare a [.Is] [.Constant .none j p2] pos) σ H Q :=
  ⟨_, pe_cmpR op_isN wE.pe pe_non (nomark _), wE.weak h fun x H2 q => ⟨rfl, q⟩⟩
end
end GV
-- out of B18
namespace GV
open PySem PySem.Spec PyProof.Rows L2
section
variable {X : Cx} {σ : St} {H : Hp} {a b : Expr} {pos : Pos}
theorem ct_lt {Q : Bool → Hp → Prop} (h : wE X a σ H fun x H2 => wE X b σ H2 fun y H3 => ∃ i j, x = .int i ∧ y = .int j ∧ Q (decide (i < j)) H3) : wT X (.Compare a [.Lt] [b] pos) σ H Q :=
  ⟨_, pt_cmpR op_lt wE.pe wE.pe (nomark _), wE.weak h fun x H2 h2 => wE.weak h2 fun y H3 ⟨i, j, h1, h2, q⟩ => ⟨i, j, h1, h2, _, rfl, q⟩⟩
end
end GV
-- out of B19
namespace GV
open PySem PySem.Spec PyProof.Rows L2
section
variable {X : Cx} {σ : St} {H : Hp} {a b e o : Expr} {pos : Pos}
theorem PT.weak {X : Cx} {e : Expr} {t : TT} (p : PT X e t) : PT X e fun σ H Q => ∃ Q0 : Bool → Hp → Prop, t σ H Q0 ∧ ∀ v H1, Q0 v H1 → Q v H1 :=
  ⟨fun pins s σ H Q I ⟨Q0, h0, imp⟩ => wpAny_mono (p.run pins s σ H Q0 I h0) (fun us s1 ⟨H1, I1, q1⟩ => ⟨H1, I1, imp _ H1 q1⟩) fun _ _ z => z⟩
theorem wT.weak {Q0 Q : Bool → Hp → Prop} (h : wT X e σ H Q0) (imp : ∀ v H1, Q0 v H1 → Q v H1) : wT X e σ H Q := let ⟨t, p, q⟩ := h; ⟨_, PT.weak p, Q0, q, imp⟩
theorem cw_and1 {Q : Bool → Hp → Prop} (h : wT X a σ H Q) : wW X (.BoolOp .And [a] pos) σ H Q := ⟨_, pw_and1 wT.pt, h⟩
theorem cw_and {rest : List Expr} {Q : Bool → Hp → Prop} (h : wT X a σ H fun k H2 => (k = true → wW X (.BoolOp .And (b :: rest) pos) σ H2 Q) ∧ (k = false → Q false H2)) : wW X (.BoolOp .And (a :: b :: rest) pos) σ H Q :=
  ⟨_, pw_and wT.pt wW.pw, wT.weak h fun k H2 ⟨h1, h2⟩ => by
    cases k with
    | true => exact h1 rfl
    | false => exact h2 rfl⟩
theorem ct_w {Q : Bool → Hp → Prop} (h : wW X e σ H Q) : wT X e σ H Q := let ⟨t, p, q⟩ := h; ⟨t, p.pt, q⟩
theorem ct_gt {Q : Bool → Hp → Prop} (h : wE X a σ H fun x H2 => wE X b σ H2 fun y H3 => ∃ i j, x = .int i ∧ y = .int j ∧ Q (decide (j < i)) H3) : wT X (.Compare a [.Gt] [b] pos) σ H Q :=
  ⟨_, pt_cmpR op_gt wE.pe wE.pe (nomark _), wE.weak h fun x H2 h2 => wE.weak h2 fun y H3 ⟨i, j, h1, h2, q⟩ => ⟨i, j, h1, h2, _, rfl, q⟩⟩
theorem ce_propE {CX : CXT} {E : XK} {C p g : Addr} {f : Str} {fd : FuncData} {ps : List Str} {sp : Sp} {j k : Nat} {Q : VK} (c : Cls X.K C) (hp : PropOf X.K C f p g) (F : FnOk X.prog X.w X.K X.mg X.base CX k g fd ps sp) (hr : Room j X.A) (hkj : k + 1 ≤ j) (hb : Binds X.K fd ps []) (hx : Passes CX X.nox E)
    (h : wE X o σ H fun x H1 => ∃ a dx fs, x = .ref a ∧ H1 a = some (.ins C dx fs) ∧ sp [.ref a] H1 Q E) (hab : attributeBase o f X.env (eval o X.env) = eval o X.env := by rfl) : wE X (.Attribute o f pos) σ H Q :=
  ⟨_, pe_prop wE.pe c hp F (hr.mono hkj) hb .nil hx hab, wE.weak h fun x H1 ⟨a, dx, fs, h1, h2, h3⟩ => ⟨a, dx, fs, h1, h2, h3⟩⟩
/-- C(), an object made -/
theorem ce_make0 {CX : CXT} {E : XK} {f C : Addr} {fd : FuncData} {ps : List Str} {sp : Sp} {j k : Nat} {x : Str} {p : Pos} {Q : VK} (m : Mk X.K C f) (F : FnOk X.prog X.w X.K X.mg X.base CX k f fd ps sp) (hr : Room j X.A) (hkj : k + 1 ≤ j) (hg : Gl X x) (gC : X.mg x = some (.ref C)) (hb : Binds X.K fd ps []) (hx : Passes CX X E)
    (h : ∀ a dx, H a = none → H dx = none → dx ≠ a → sp [.ref a] (upd (upd H dx (.own a)) a (.ins C dx [])) (fun v H2 => v = .non ∧ Q (.ref a) H2) E) (hdb : (x == ("__debug__" : Str)) = false := by decide) : wE X (.Call (.Name x p) [] [] pos) σ H Q :=
  ⟨_, pe_make0 m F (hr.mono hkj) hg gC hb .nil hx hdb, fun a dx h1 h2 h3 => h a dx h1 h2 h3⟩
end
end GV

namespace GV
open PySem PySem.Spec PyProof.Rows L2
section
variable {X : Cx} {σ : St} {H : Hp} {e : Expr} {pos : Pos}
/-- for x in range(n), n a value on the way; nothing need be known of what stays -/
theorem s_forRW {slot : Nat} {x : Str} {p p1 p2 : Pos} {body : List Stmt} {D : Ends} (hp : PassesOwn (model X.prog X.w) X.A X.env X.xe) (hc : X.calm = true) (hN : X.N.Nodup) (hx : X.N[slot]? = some x) (hl : Loc X.env.scope x) (hg : Gl X "range") (hm : X.mg "range" = none)
    (h : wE X e σ H fun v H1 => ∃ (n : Nat) (J : Nat → St → Hp → Prop), v = .int (n : Nat) ∧ n ≤ 1000000 ∧ J 0 σ H1 ∧
      (∀ i σ' H', i < n → J i σ' H' → wB X body { D with nx := J (i + 1), ct := J (i + 1), bk := D.nx } (σ'.set slot (some (.int (i : Nat)))) H') ∧ ∀ σ' H', J n σ' H' → D.nx σ' H')
    (hs : starEach [e] X.env = [(false, eval e X.env)] := by rfl) (hs' : starEach (e :: []) X.env = (false, eval e X.env) :: starEach [] X.env := by rfl)
    (hf : ∀ x, foldedSetIterable (.Call (.Name "range" p) [e] [] p1) X.env x = pure x := by intro _; rfl) (hfn : X.fn x = true ∨ X.env.scope.names.lookup x = some .local := by first | exact .inl rfl | exact .inr rfl | assumption) : wS X (.For (.Name x p2) (.Call (.Name "range" p) [e] [] p1) body [] pos) D σ H := by
  refine ⟨_, ps_for hp hc (pi_range1 hg hm wA.pa hs) (pg_name hN hx hl hfn) wB.ps hf, ca_cons (wE.weak h ?_) hs'⟩
  rintro v H1 ⟨n, J, rfl, hn, h0, ht, hd⟩
  refine ca_nil ⟨(n : Nat), rfl, by omega, by omega, ?_⟩
  have en : ((n : Nat) : Int).toNat = n := by omega
  rw [en]
  refine ⟨fun i m σ' H' => m = n - i ∧ i ≤ n ∧ J i σ' H', ⟨n, rfl, Nat.zero_le _, h0⟩, ?_⟩
  rintro i m σ' H' ⟨rfl, hi', j⟩
  have wk := wk_range (K := X.K) (M := M0) (H := H') 0 n
  have ln : ((List.range n).map fun i => PyData.int (0 + (i : Nat))).length = n := by simp
  by_cases hlt : i < n
  · refine .inr ⟨wk.go M0 i H' (fun _ z => z.elim) (ExM.refl _) (by rw [ln]; exact hlt), J (i + 1), fun σ2 H2 j2 => ⟨n - (i + 1), by omega, rfl, hlt, j2⟩, fun x H2 y => ?_⟩
    obtain ⟨rfl, rfl⟩ := y
    rw [Int.zero_add]
    exact ht i σ' _ hlt j
  · have e2 : i = n := by omega
    subst e2
    have := wk.stop M0 H' (fun _ z => z.elim) (ExM.refl _)
    rw [ln] at this
    exact .inl ⟨this, hd σ' H' j⟩
/-- an item of a list of whatever -/
theorem rIx_lst {K : PySem.W.Frag} {l : Addr} {xs : List V} {i : Int} {v : V} {Q : VK} (h : H l = some (.lst xs)) (hv : atI xs i = some v) (q : Q v H) : rIx K (.ref l) (.int i) H Q := .inl ⟨_, _, i, v, rfl, rfl, .inl (.inl h), hv, q⟩
end
end GV

namespace GV
open PySem PySem.Spec PyProof.Rows L2
section
variable {X : Cx} {σ : St} {H : Hp} {e elt : Expr} {pos : Pos}
/-- [elt for x in range(e)], where elt may change things -/
theorem ce_lcR {slot : Nat} {x : Str} {p p1 p2 : Pos} {scope : Scope} {own : List (Str × Nat)} {Q : VK} (hc : X.calm = true) (hN : X.N.Nodup) (hg : Gl X "range") (hm : X.mg "range" = none) (ok : BlkOk X.N X.env.scope scope own)
    (hx : ∀ s H C cl fp, PG (Cx.lc X s H scope C cl fp) (.Name x p2) (gName slot)) (hw : ∀ v, wipe ((wipe σ (own.map (·.2))).set slot (some v)) (own.map (·.2)) = wipe σ (own.map (·.2)))
    (h : wE X e σ H fun v H1 => ∃ n : Nat, v = .int (n : Nat) ∧ n ≤ 1000000 ∧ ∀ D, H1 D = none → ∃ J : Nat → Hp → Prop, J 0 (upd H1 D (.lst [])) ∧
      (∀ i H', i < n → J i H' → ∀ s0 H0 C cl fp, wE (Cx.lc X s0 H0 scope C cl fp) elt ((wipe σ (own.map (·.2))).set slot (some (.int (i : Nat)))) H' fun y H4 => ∃ acc, H4 D = some (.lst acc) ∧ acc.length < 100000 ∧ J (i + 1) (upd H4 D (.lst (acc ++ [y])))) ∧ ∀ H', J n H' → Q (.ref D) H')
    (hs : starEach [e] X.env = [(false, eval e X.env)] := by rfl) (hs' : starEach (e :: []) X.env = (false, eval e X.env) :: starEach [] X.env := by rfl)
    (hf : ∀ x, foldedSetIterable (.Call (.Name "range" p) [e] [] p1) X.env x = pure x := by intro _; rfl) : wE X (.ListComp elt [⟨.Name x p2, .Call (.Name "range" p) [e] [] p1, [], 0⟩] scope pos) σ H Q := by
  refine ⟨_, pe_lc (tt := fun σ H Q => Q true H) (te := fun σ H Q => ∀ s0 H0 C cl fp, wE (Cx.lc X s0 H0 scope C cl fp) elt σ H Q) hc hN (pi_range1 hg hm wA.pa hs) ok hx (fun _ _ _ _ _ => ⟨fun pins s σ H Q I h => pts_nil.run pins s σ H Q I h⟩)
    (fun s0 H0 C cl fp => ⟨fun pins s σ H Q I h => wE.pe.run pins s σ H Q I (h s0 H0 C cl fp)⟩) hf, ca_cons (wE.weak h ?_) hs'⟩
  rintro v H1 ⟨n, rfl, hn, run⟩
  refine ca_nil ⟨(n : Nat), rfl, by omega, by omega, ?_⟩
  rw [show ((n : Nat) : Int).toNat = n by omega]
  intro D hD
  obtain ⟨J, h0, ht, hd⟩ := run D hD
  refine ⟨fun i m H' => m = n - i ∧ i ≤ n ∧ J i H', ⟨n, rfl, Nat.zero_le _, h0⟩, ?_⟩
  rintro i m H' ⟨rfl, hi', j⟩
  have wk := wk_range (K := X.K) (M := M0) (H := H') 0 n
  have ln : ((List.range n).map fun i => PyData.int (0 + (i : Nat))).length = n := by simp
  by_cases hlt : i < n
  · refine .inr ⟨wk.go M0 i H' (fun _ z => z.elim) (ExM.refl _) (by rw [ln]; exact hlt), J (i + 1), fun H2 j2 => ⟨n - (i + 1), by omega, rfl, hlt, j2⟩, fun x H2 y => ?_⟩
    obtain ⟨rfl, rfl⟩ := y
    rw [Int.zero_add]
    refine ⟨hw _, ?_⟩
    show if true = true then _ else _
    rw [if_pos rfl]
    intro s0 H0 C cl fp
    refine wE.weak (ht i _ hlt j s0 H0 C cl fp) ?_
    rintro y H4 ⟨acc, h1, h2, h3⟩
    exact ⟨acc, h1, Nat.lt_of_lt_of_le h2 (by rw [sizeLine_eq]; decide), h3⟩
  · have e2 : i = n := by omega
    subst e2
    have := wk.stop M0 H' (fun _ z => z.elim) (ExM.refl _)
    rw [ln] at this
    exact .inl ⟨this, hd H' j⟩
end
end GV
namespace GV
open PySem PySem.Spec PyProof.Rows L2
section
variable {X : Cx} {M : Addr → Prop} {σ : St} {H : Hp} {a : Expr} {d : PyData} {pos : Pos}
theorem kitAny2 {K : PySem.W.Frag} {t S T : String} {j k : Bool} (h1 : kitB t S = some j) (h2 : kitB t T = some k) : PySem.W.kitAny K (.type t) [.type S, .type T] = some (j || k) := by
  have e1 := kit_ty (K := K) h1
  have e2 := kit_ty (K := K) h2
  show (match PySem.W.kitOne K (.type t) (.type S) with
    | some true => some true
    | some false => PySem.W.kitAny K (.type t) [.type T]
    | none => none) = _
  rw [e1]
  cases j with
  | true => rfl
  | false =>
    show (match PySem.W.kitOne K (.type t) (.type T) with
      | some true => some true
      | some false => PySem.W.kitAny K (.type t) []
      | none => none) = _
    rw [e2]
    cases k <;> rfl
/-- isinstance(a, (S, T)) -/
theorem pd_isi2 {S T : String} {x y : Str} {p p1 p2 p3 : Pos} {n : Nat} {j k : Bool} (hg : Gl X "isinstance") (hm : X.mg "isinstance" = none) (hgS : Gl X x) (hmS : X.mg x = none) (hvS : bootBuiltins x = some (.type S)) (hgT : Gl X y) (hmT : X.mg y = none) (hvT : bootBuiltins y = some (.type T)) (ha : PD X M a σ H d) (hj : kitB (tyD d) S = some j) (hk : kitB (tyD d) T = some k)
    (nx : x ≠ "__name__" := by decide) (dx : (x == ("__debug__" : Str)) = false := by decide) (ny : y ≠ "__name__" := by decide) (dy : (y == ("__debug__" : Str)) = false := by decide)
    (h1 : starEach (a :: [.Tuple [.Name x p1, .Name y p2] n p3]) X.env = (false, eval a X.env) :: starEach [.Tuple [.Name x p1, .Name y p2] n p3] X.env := by rfl) (h2 : starEach (.Tuple [.Name x p1, .Name y p2] n p3 :: []) X.env = (false, eval (.Tuple [.Name x p1, .Name y p2] n p3) X.env) :: starEach [] X.env := by rfl)
    (h3 : starEach (.Name x p1 :: [.Name y p2]) X.env = (false, eval (.Name x p1) X.env) :: starEach [.Name y p2] X.env := by rfl) (h4 : starEach (.Name y p2 :: []) X.env = (false, eval (.Name y p2) X.env) :: starEach [] X.env := by rfl)
    (hpl : (backTo pos (starEach [.Tuple [.Name x p1, .Name y p2] n p3] X.env)).any (·.1) = false := by rfl) :
    PD X M (.Call (.Name "isinstance" p) [a, .Tuple [.Name x p1, .Name y p2] n p3] [] pos) σ H (.bool (j || k)) := .mk fun H1 e1 al Q q =>
  ⟨_, pe_callB call_isiT hg hm PyProof.Rows.boot_isinstance (pa_cons wE.pe (pa_cons (pe_tup (pa_cons (pe_bltn (v := .ty S) hgS hmS hvS rfl nx dx) (pa_cons (pe_bltn (v := .ty T) hgT hmT hvT rfl ny dy) pa_nil h4) h3)) pa_nil h2) h1) (by decide) (by decide) h1 hpl, ha.run H1 e1 al _ fun v H2 x2 r =>
    ⟨Evl.sz_of (by show 2 ≤ 100000; decide), fun t ht => ⟨v, t, [.ty S, .ty T], .type (tyD d), [.type S, .type T], j || k, rfl, upd_same, .cons (.ty S) (.cons (.ty T) .nil), (r.mono (fun _ z => z) (.of (Evl.Ex.new ht))).tyX, kitAny2 hj hk, q _ _ (x2.trans (Evl.Ex.new ht)) (.bl _)⟩⟩⟩
end
end GV

namespace BK
open PySem PySem.Spec PyProof.Rows L2 GV
abbrev St := L2.St
def topS (i : Nat) : Stmt := PySem.Challenge.pw_millbrook_k14_brook.main.body.getD i (.Pass ⟨0, 0, 0, 0⟩)
abbrev s_InvalidWeight_init : Stmt := inClass (topS 2) 0
abbrev n_InvalidWeight_init : List Str := ["self", "weight"]
abbrev p_InvalidWeight_init : List Str := ["self", "weight"]
theorem sc_InvalidWeight_init : FnScope n_InvalidWeight_init p_InvalidWeight_init (defScope s_InvalidWeight_init) := ⟨rfl, rfl, rfl, by decide +kernel, rfl, by decide +kernel, by decide +kernel⟩
abbrev s_TooMany_init : Stmt := inClass (topS 3) 0
abbrev n_TooMany_init : List Str := ["self", "most", "given"]
abbrev p_TooMany_init : List Str := ["self", "most", "given"]
theorem sc_TooMany_init : FnScope n_TooMany_init p_TooMany_init (defScope s_TooMany_init) := ⟨rfl, rfl, rfl, by decide +kernel, rfl, by decide +kernel, by decide +kernel⟩
abbrev s_is_integer : Stmt := topS 6
abbrev n_is_integer : List Str := ["value"]
abbrev p_is_integer : List Str := ["value"]
theorem sc_is_integer : FnScope n_is_integer p_is_integer (defScope s_is_integer) := ⟨rfl, rfl, rfl, by decide +kernel, rfl, by decide +kernel, by decide +kernel⟩
abbrev s_is_number : Stmt := topS 7
abbrev n_is_number : List Str := ["value", "low", "high"]
abbrev p_is_number : List Str := ["value", "low", "high"]
theorem sc_is_number : FnScope n_is_number p_is_number (defScope s_is_number) := ⟨rfl, rfl, rfl, by decide +kernel, rfl, by decide +kernel, by decide +kernel⟩
abbrev s_is_weight : Stmt := topS 11
abbrev n_is_weight : List Str := ["value"]
abbrev p_is_weight : List Str := ["value"]
theorem sc_is_weight : FnScope n_is_weight p_is_weight (defScope s_is_weight) := ⟨rfl, rfl, rfl, by decide +kernel, rfl, by decide +kernel, by decide +kernel⟩
abbrev s_check_weight : Stmt := topS 12
abbrev n_check_weight : List Str := ["weight"]
abbrev p_check_weight : List Str := ["weight"]
theorem sc_check_weight : FnScope n_check_weight p_check_weight (defScope s_check_weight) := ⟨rfl, rfl, rfl, by decide +kernel, rfl, by decide +kernel, by decide +kernel⟩
abbrev s_covers : Stmt := topS 14
abbrev n_covers : List Str := ["one", "other"]
abbrev p_covers : List Str := ["one", "other"]
theorem sc_covers : FnScope n_covers p_covers (defScope s_covers) := ⟨rfl, rfl, rfl, by decide +kernel, rfl, by decide +kernel, by decide +kernel⟩
abbrev s_covered : Stmt := topS 15
abbrev n_covered : List Str := ["couple", "couples", "one"]
abbrev p_covered : List Str := ["couple", "couples"]
theorem sc_covered : FnScope n_covered p_covered (defScope s_covered) := ⟨rfl, rfl, rfl, by decide +kernel, rfl, by decide +kernel, by decide +kernel⟩
abbrev s_couples_with : Stmt := topS 16
abbrev n_couples_with : List Str := ["couples", "lightest", "weight", "couple"]
abbrev p_couples_with : List Str := ["couples", "lightest", "weight"]
theorem sc_couples_with : FnScope n_couples_with p_couples_with (defScope s_couples_with) := ⟨rfl, rfl, rfl, by decide +kernel, rfl, by decide +kernel, by decide +kernel⟩
abbrev s_far_of : Stmt := topS 17
abbrev n_far_of : List Str := ["row", "couples", "index", "weight", "lightest"]
abbrev p_far_of : List Str := ["row"]
theorem sc_far_of : FnScope n_far_of p_far_of (defScope s_far_of) := ⟨rfl, rfl, rfl, by decide +kernel, rfl, by decide +kernel, by decide +kernel⟩
abbrev s_Brook_init : Stmt := inClass (topS 18) 0
abbrev n_Brook_init : List Str := ["self"]
abbrev p_Brook_init : List Str := ["self"]
theorem sc_Brook_init : FnScope n_Brook_init p_Brook_init (defScope s_Brook_init) := ⟨rfl, rfl, rfl, by decide +kernel, rfl, by decide +kernel, by decide +kernel⟩
abbrev s_Brook_laid : Stmt := inClass (topS 18) 1
abbrev n_Brook_laid : List Str := ["self"]
abbrev p_Brook_laid : List Str := ["self"]
theorem sc_Brook_laid : FnScope n_Brook_laid p_Brook_laid (defScope s_Brook_laid) := ⟨rfl, rfl, rfl, by decide +kernel, rfl, by decide +kernel, by decide +kernel⟩
abbrev s_Brook_couples : Stmt := inClass (topS 18) 2
abbrev n_Brook_couples : List Str := ["self"]
abbrev p_Brook_couples : List Str := ["self"]
theorem sc_Brook_couples : FnScope n_Brook_couples p_Brook_couples (defScope s_Brook_couples) := ⟨rfl, rfl, rfl, by decide +kernel, rfl, by decide +kernel, by decide +kernel⟩
abbrev s_Brook_lightest : Stmt := inClass (topS 18) 3
abbrev n_Brook_lightest : List Str := ["self"]
abbrev p_Brook_lightest : List Str := ["self"]
theorem sc_Brook_lightest : FnScope n_Brook_lightest p_Brook_lightest (defScope s_Brook_lightest) := ⟨rfl, rfl, rfl, by decide +kernel, rfl, by decide +kernel, by decide +kernel⟩
abbrev s_Brook_lay : Stmt := inClass (topS 18) 4
abbrev n_Brook_lay : List Str := ["self", "weight"]
abbrev p_Brook_lay : List Str := ["self", "weight"]
theorem sc_Brook_lay : FnScope n_Brook_lay p_Brook_lay (defScope s_Brook_lay) := ⟨rfl, rfl, rfl, by decide +kernel, rfl, by decide +kernel, by decide +kernel⟩
abbrev s_Brook_lift : Stmt := inClass (topS 18) 5
abbrev n_Brook_lift : List Str := ["self"]
abbrev p_Brook_lift : List Str := ["self"]
theorem sc_Brook_lift : FnScope n_Brook_lift p_Brook_lift (defScope s_Brook_lift) := ⟨rfl, rfl, rfl, by decide +kernel, rfl, by decide +kernel, by decide +kernel⟩
abbrev s_law_pot : Stmt := topS 20
abbrev n_law_pot : List Str := ["script", "at", "cell", "rest"]
abbrev p_law_pot : List Str := ["script", "at"]
theorem sc_law_pot : FnScope n_law_pot p_law_pot (defScope s_law_pot) := ⟨rfl, rfl, rfl, by decide +kernel, rfl, by decide +kernel, by decide +kernel⟩
abbrev s_law_draw : Stmt := topS 21
abbrev n_law_draw : List Str := ["pot", "size", "digit", "low", "mid", "high"]
abbrev p_law_draw : List Str := ["pot", "size"]
theorem sc_law_draw : FnScope n_law_draw p_law_draw (defScope s_law_draw) := ⟨rfl, rfl, rfl, by decide +kernel, rfl, by decide +kernel, by decide +kernel⟩
abbrev s_law_weights : Stmt := topS 22
abbrev n_law_weights : List Str := ["pot", "size", "way", "gap", "weight", "weights", "k"]
abbrev p_law_weights : List Str := ["pot", "size"]
theorem sc_law_weights : FnScope n_law_weights p_law_weights (defScope s_law_weights) := ⟨rfl, rfl, rfl, by decide +kernel, rfl, by decide +kernel, by decide +kernel⟩
abbrev s_law_is_number : Stmt := topS 23
abbrev n_law_is_number : List Str := ["value", "due"]
abbrev p_law_is_number : List Str := ["value", "due"]
theorem sc_law_is_number : FnScope n_law_is_number p_law_is_number (defScope s_law_is_number) := ⟨rfl, rfl, rfl, by decide +kernel, rfl, by decide +kernel, by decide +kernel⟩
abbrev s_law_is_list : Stmt := topS 24
abbrev n_law_is_list : List Str := ["value", "due", "k"]
abbrev p_law_is_list : List Str := ["value", "due"]
theorem sc_law_is_list : FnScope n_law_is_list p_law_is_list (defScope s_law_is_list) := ⟨rfl, rfl, rfl, by decide +kernel, rfl, by decide +kernel, by decide +kernel⟩
abbrev s_law_is_row : Stmt := topS 25
abbrev n_law_is_row : List Str := ["value", "due"]
abbrev p_law_is_row : List Str := ["value", "due"]
theorem sc_law_is_row : FnScope n_law_is_row p_law_is_row (defScope s_law_is_row) := ⟨rfl, rfl, rfl, by decide +kernel, rfl, by decide +kernel, by decide +kernel⟩
abbrev s_law_is_pairs : Stmt := topS 26
abbrev n_law_is_pairs : List Str := ["value", "due", "k"]
abbrev p_law_is_pairs : List Str := ["value", "due"]
theorem sc_law_is_pairs : FnScope n_law_is_pairs p_law_is_pairs (defScope s_law_is_pairs) := ⟨rfl, rfl, rfl, by decide +kernel, rfl, by decide +kernel, by decide +kernel⟩
abbrev s_law_far : Stmt := topS 27
abbrev n_law_far : List Str := ["row", "found", "low", "behind", "weight"]
abbrev p_law_far : List Str := ["row"]
theorem sc_law_far : FnScope n_law_far p_law_far (defScope s_law_far) := ⟨rfl, rfl, rfl, by decide +kernel, rfl, by decide +kernel, by decide +kernel⟩
abbrev s_law_told : Stmt := topS 28
abbrev n_law_told : List Str := ["call", "e"]
abbrev p_law_told : List Str := ["call"]
theorem sc_law_told : FnScope n_law_told p_law_told (defScope s_law_told) := ⟨rfl, rfl, rfl, by decide +kernel, rfl, by decide +kernel, by decide +kernel⟩
abbrev s_law_brook_kept : Stmt := topS 29
abbrev n_law_brook_kept : List Str := ["brook", "stones", "far", "told"]
abbrev p_law_brook_kept : List Str := ["brook", "stones"]
theorem sc_law_brook_kept : FnScope n_law_brook_kept p_law_brook_kept (defScope s_law_brook_kept) := ⟨rfl, rfl, rfl, by decide +kernel, rfl, by decide +kernel, by decide +kernel⟩
abbrev s_law_lay_kept : Stmt := topS 30
abbrev n_law_lay_kept : List Str := ["brook", "stones", "weight", "told"]
abbrev p_law_lay_kept : List Str := ["brook", "stones", "weight"]
theorem sc_law_lay_kept : FnScope n_law_lay_kept p_law_lay_kept (defScope s_law_lay_kept) := ⟨rfl, rfl, rfl, by decide +kernel, rfl, by decide +kernel, by decide +kernel⟩
abbrev s_law_lift_kept : Stmt := topS 31
abbrev n_law_lift_kept : List Str := ["brook", "stones", "told"]
abbrev p_law_lift_kept : List Str := ["brook", "stones"]
theorem sc_law_lift_kept : FnScope n_law_lift_kept p_law_lift_kept (defScope s_law_lift_kept) := ⟨rfl, rfl, rfl, by decide +kernel, rfl, by decide +kernel, by decide +kernel⟩
abbrev s_law_odd_kept : Stmt := topS 32
abbrev n_law_odd_kept : List Str := ["pot", "brook", "over", "odd"]
abbrev p_law_odd_kept : List Str := ["pot", "brook"]
theorem sc_law_odd_kept : FnScope n_law_odd_kept p_law_odd_kept (defScope s_law_odd_kept) := ⟨rfl, rfl, rfl, by decide +kernel, rfl, by decide +kernel, by decide +kernel⟩
abbrev s_law_any_weight : Stmt := topS 33
abbrev n_law_any_weight : List Str := ["pot", "weights"]
abbrev p_law_any_weight : List Str := ["pot", "weights"]
theorem sc_law_any_weight : FnScope n_law_any_weight p_law_any_weight (defScope s_law_any_weight) := ⟨rfl, rfl, rfl, by decide +kernel, rfl, by decide +kernel, by decide +kernel⟩
abbrev s_law_deed_kept : Stmt := topS 34
abbrev n_law_deed_kept : List Str := ["pot", "brook", "stones", "weights", "deed", "many", "k"]
abbrev p_law_deed_kept : List Str := ["pot", "brook", "stones", "weights"]
theorem sc_law_deed_kept : FnScope n_law_deed_kept p_law_deed_kept (defScope s_law_deed_kept) := ⟨rfl, rfl, rfl, by decide +kernel, rfl, by decide +kernel, by decide +kernel⟩
abbrev s_law : Stmt := topS 35
abbrev n_law : List Str := ["script", "pot", "weights", "brooks", "rows", "k", "held", "kept", "at", "which"]
abbrev p_law : List Str := ["script"]
theorem sc_law : FnScope n_law p_law (defScope s_law) := ⟨rfl, rfl, rfl, by decide +kernel, rfl, by decide +kernel, by decide +kernel⟩
end BK

namespace BK
open PySem PySem.Spec PyProof.Rows L2 GV
section
variable {P : Program} {w : World} {K : PySem.W.Frag} {mg : Str → Option Value} {base : Heap}

/-! ### whole numbers -/
def isIntD : PyData → Bool
  | .int _ => true
  | _ => false
def isBoolD : PyData → Bool
  | .bool _ => true
  | _ => false
theorem kit_int (d : PyData) : kitB (tyD d) "int" = some (isIntD d || isBoolD d) := by
  cases d with
  | none => exact (by decide +kernel : kitB "NoneType" "int" = some false)
  | bool _ => exact (by decide +kernel : kitB "bool" "int" = some true)
  | int _ => exact (by decide +kernel : kitB "int" "int" = some true)
  | str _ => exact (by decide +kernel : kitB "str" "int" = some false)
  | list _ => exact (by decide +kernel : kitB "list" "int" = some false)
  | tuple _ => exact (by decide +kernel : kitB "tuple" "int" = some false)
  | dict _ => exact (by decide +kernel : kitB "dict" "int" = some false)
theorem kit_bool (d : PyData) : kitB (tyD d) "bool" = some (isBoolD d) := by
  cases d with
  | none => exact (by decide +kernel : kitB "NoneType" "bool" = some false)
  | bool _ => exact (by decide +kernel : kitB "bool" "bool" = some true)
  | int _ => exact (by decide +kernel : kitB "int" "bool" = some false)
  | str _ => exact (by decide +kernel : kitB "str" "bool" = some false)
  | list _ => exact (by decide +kernel : kitB "list" "bool" = some false)
  | tuple _ => exact (by decide +kernel : kitB "tuple" "bool" = some false)
  | dict _ => exact (by decide +kernel : kitB "dict" "bool" = some false)
def R_is_integer (ds : List PyData) (d : PyData) : Prop := ∃ a, ds = [a] ∧ d = .bool (isIntD a)
theorem cl_is_integer {f : Addr} {fd : FuncData} (F : At K mg "is_integer" s_is_integer f fd) (nb : NoB mg) : Cl P w K mg base CX0 1 "is_integer" (PureR K R_is_integer) := by
  refine cl_pure F sc_is_integer (F.fn.binds fun _ _ _ _ _ _ us hl => match us, hl with | [_], _ => rfl) (fun ds d h => ?_) (fun X cdv A outer s H Q E M vs ds d hX hr al r h q => ?_)
  · obtain ⟨a, rfl, _⟩ := h
    rfl
  · obtain ⟨a, rfl, rfl⟩ := h
    obtain ⟨v, rfl, r1⟩ := rpa1 r
    subst hX
    refine b_cons (s_ret al (PD.is (pd_and (pd_isi rfl nb.isinstance rfl nb.int PyProof.Rows.boot_int (nm 0 r1) (kit_int a)) fun _ => pd_one (pd_not (pd_isi rfl nb.isinstance rfl nb.bool PyProof.Rows.boot_bool (nm 0 r1) (kit_bool a)))) ?_) q)
    cases a <;> rfl
def isNumD (a : PyData) (lo hi : Int) : Bool := match a with
  | .int i => decide (lo ≤ i) && decide (i ≤ hi)
  | _ => false
def R_is_number (ds : List PyData) (d : PyData) : Prop := ∃ a lo hi, ds = [a, .int lo, .int hi] ∧ d = .bool (isNumD a lo hi)
theorem rpa3 {K : PySem.W.Frag} {M : Addr → Prop} {H : Hp} {vs : List V} {a b c : PyData} (r : RpAll K M H vs [a, b, c]) : ∃ u v w, vs = [u, v, w] ∧ Rp K M H u a ∧ Rp K M H v b ∧ Rp K M H w c := by
  obtain ⟨⟩ | ⟨r1, r⟩ := r
  obtain ⟨v, w, rfl, r2, r3⟩ := rpa2 r
  exact ⟨_, _, _, rfl, r1, r2, r3⟩
theorem cl_is_number {f : Addr} {fd : FuncData} (F : At K mg "is_number" s_is_number f fd) (c1 : Cl P w K mg base CX0 1 "is_integer" (PureR K R_is_integer)) : Cl P w K mg base CX0 2 "is_number" (PureR K R_is_number) := by
  refine cl_pure F sc_is_number (F.fn.binds fun _ _ _ _ _ _ us hl => match us, hl with | [_, _, _], _ => rfl) (fun ds d h => ?_) (fun X cdv A outer s H Q E M vs ds d hX hr al r h q => ?_)
  · obtain ⟨a, lo, hi, rfl, _⟩ := h
    rfl
  · obtain ⟨a, lo, hi, rfl, rfl⟩ := h
    obtain ⟨u, v, x, rfl, r1, r2, r3⟩ := rpa3 r
    subst hX
    refine b_cons (s_ret al (PD.is (pd_and (k2 := isNumD a lo hi) (pd_callC c1 hr (by decide) rfl (ad_cons (nm 0 r1) ad_nil) ⟨a, rfl, rfl⟩) fun ha => pd_one ?_) ?_) q)
    · cases a with
      | int i => exact pd_leLe (nm 1 r2) (nm 0 r1) (nm 2 r3)
      | _ => cases ha
    · cases a <;> rfl
/-- MOST_WEIGHT -/
def mostW : Int := 1000000000000
def isWeightD (a : PyData) : Bool := isNumD a (-mostW) mostW
def R_is_weight (ds : List PyData) (d : PyData) : Prop := ∃ a, ds = [a] ∧ d = .bool (isWeightD a)
theorem cl_is_weight {f : Addr} {fd : FuncData} {t : Tok} (F : At K mg "is_weight" s_is_weight f fd) (c1 : Cl P w K mg base CX0 2 "is_number" (PureR K R_is_number)) (gW : mg "MOST_WEIGHT" = some (.int mostW t)) : Cl P w K mg base CX0 3 "is_weight" (PureR K R_is_weight) := by
  refine cl_pure F sc_is_weight (F.fn.binds fun _ _ _ _ _ _ us hl => match us, hl with | [_], _ => rfl) (fun ds d h => ?_) (fun X cdv A outer s H Q E M vs ds d hX hr al r h q => ?_)
  · obtain ⟨a, rfl, _⟩ := h
    rfl
  · obtain ⟨a, rfl, rfl⟩ := h
    obtain ⟨v, rfl, r1⟩ := rpa1 r
    subst hX
    exact b_cons (s_ret al (pd_callC c1 hr (by decide) rfl (ad_cons (nm 0 r1) (ad_cons (pd_neg (pd_globI rfl gW)) (ad_cons (pd_globI rfl gW) ad_nil))) ⟨a, _, _, rfl, rfl⟩) q)
/-! ### couples -/
def cov (p q : Int × Int) : Bool := decide (p.1 ≤ q.1) && decide (q.2 ≤ p.2)
abbrev pairD (p : Int × Int) : PyData := .tuple [.int p.1, .int p.2]
def R_covers (ds : List PyData) (d : PyData) : Prop := ∃ p q : Int × Int, ds = [pairD p, pairD q] ∧ d = .bool (cov p q)
theorem cl_covers {f : Addr} {fd : FuncData} (F : At K mg "covers" s_covers f fd) : Cl P w K mg base CX0 1 "covers" (PureR K R_covers) := by
  refine cl_pure F sc_covers (F.fn.binds fun _ _ _ _ _ _ us hl => match us, hl with | [_, _], _ => rfl) (fun ds d h => ?_) (fun X cdv A outer s H Q E M vs ds d hX hr al r h q => ?_)
  · obtain ⟨a, b, rfl, _⟩ := h
    rfl
  · obtain ⟨a, b, rfl, rfl⟩ := h
    obtain ⟨u, v, rfl, r1, r2⟩ := rpa2 r
    subst hX
    refine b_cons (s_ret al ?_ q)
    exact pd_and (pd_le (pd_ix (nm 0 r1) pd_int rfl) (pd_ix (nm 1 r2) pd_int rfl)) fun _ => pd_one (pd_ge (pd_ix (nm 0 r1) pd_int rfl) (pd_ix (nm 1 r2) pd_int rfl))
/-- any of the couples covers -/
def anyCov (cs : List (Int × Int)) (p : Int × Int) : Bool := cs.any fun c => cov c p
def unP : PyData → Int × Int
  | .tuple [.int a, .int b] => (a, b)
  | _ => (0, 0)
theorem unP_pair (p : Int × Int) : unP (pairD p) = p := rfl
def R_covered (ds : List PyData) (d : PyData) : Prop := ∃ (p : Int × Int) (cs : List (Int × Int)), cs.length ≤ 1000 ∧ ds = [pairD p, .list (cs.map pairD)] ∧ d = .bool (anyCov cs p)
theorem cl_covered {f : Addr} {fd : FuncData} (F : At K mg "covered" s_covered f fd) (c1 : Cl P w K mg base CX0 1 "covers" (PureR K R_covers)) (nb : NoB mg) : Cl P w K mg base CX0 2 "covered" (PureR K R_covered) := by
  refine cl_pure F sc_covered (F.fn.binds fun _ _ _ _ _ _ us hl => match us, hl with | [_, _], _ => rfl) (fun ds d h => ?_) (fun X cdv A outer s H Q E M vs ds d hX hr al r h q => ?_)
  · obtain ⟨p, cs, _, rfl, _⟩ := h
    rfl
  · obtain ⟨p, cs, hl, rfl, rfl⟩ := h
    obtain ⟨u, v, rfl, r1, r2⟩ := rpa2 r
    subst hX
    refine b_cons (s_ret al (PD.is (pd_callB (cr_any rfl) rfl nb.any PyProof.Rows.boot_any (ad_cons (PD.is (d' := .list ((cs.map fun c => cov c p).map PyData.bool)) (FD.pd
      (fd_map (t := .one 2) (own := [("one", 2)]) (fun d => .bool (cov (unP d) p)) rfl sc_covered.nd (src_list (nm 1 r2)) (blkOk_by (N := n_covered) (sc := defScope s_covered) (by decide +kernel)) (fun _ _ _ _ _ => pg_name (i := 2) sc_covered.nd rfl (.inl rfl)) (fun _ _ => trivial) ?_ ?_ ?_)) ?_) ad_nil) rn_any) ?_) q)
    · rintro M H d σ' ⟨v, _, rfl⟩
      rfl
    · rw [List.length_map]
      omega
    · rintro s0 H0 C cl fp M' H' d σ' hM lift hd ⟨v, rv, rfl⟩
      obtain ⟨c, hc, rfl⟩ := List.mem_map.mp hd
      exact pd_callC c1 hr (by decide) rfl (ad_cons (nm 2 rv) (ad_cons (nm 0 (lift _ _ r1)) ad_nil)) ⟨c, p, rfl, rfl⟩
    · simp [List.map_map, Function.comp_def, unP]
    · simp [anyCov, List.any_map, Function.comp_def]
end
end BK

namespace BK
open PySem PySem.Spec PyProof.Rows L2 GV
/-! ### the far couples, as the program makes them -/
def cpl (cs : List (Int × Int)) (m x : Int) : List (Int × Int) := if (decide (x ≤ m) || anyCov cs (m, x)) = true then cs else (m, x) :: cs.filter fun c => decide (x < c.2)
def minO (x : Int) : List Int → Int
  | [] => x
  | n :: r => r.foldl min n
def farStep (s : List Int × List (Int × Int)) (x : Int) : List Int × List (Int × Int) := (s.1 ++ [x], cpl s.2 (minO x s.1) x)
def farP (l : List Int) : List Int × List (Int × Int) := l.foldl farStep ([], [])
def farL (l : List Int) : List (Int × Int) := (farP l).2
theorem farP_snoc (l : List Int) (x : Int) : farP (l ++ [x]) = farStep (farP l) x := by
  unfold farP
  rw [List.foldl_append]
  rfl
theorem farP_fst (l : List Int) : (farP l).1 = l := by
  induction l using snoc_ind with
  | h0 => rfl
  | h1 l x ih =>
    rw [farP_snoc]
    show (farP l).1 ++ [x] = l ++ [x]
    rw [ih]
theorem farL_snoc (l : List Int) (x : Int) : farL (l ++ [x]) = cpl (farL l) (minO x l) x := by
  unfold farL
  rw [farP_snoc]
  show cpl (farP l).2 (minO x (farP l).1) x = _
  rw [farP_fst]
theorem cpl_len (cs : List (Int × Int)) (m x : Int) : (cpl cs m x).length ≤ cs.length + 1 := by
  unfold cpl
  split
  · omega
  · have := List.length_filter_le (fun c : Int × Int => decide (x < c.2)) cs
    simp only [List.length_cons]
    omega
theorem farL_len (l : List Int) : (farL l).length ≤ l.length := by
  induction l using snoc_ind with
  | h0 => exact Nat.le_refl _
  | h1 l x ih =>
    rw [farL_snoc]
    have := cpl_len (farL l) (minO x l) x
    rw [List.length_append, List.length_singleton]
    omega
section
variable {P : Program} {w : World} {K : PySem.W.Frag} {mg : Str → Option Value} {base : Heap}
/-- _couples_with: the list itself, or a new one -/
def spCW (K : PySem.W.Frag) : Sp := fun vs H Q _ => ∃ (M : Addr → Prop) (p : Addr) (ws : List V) (cs : List (Int × Int)) (m x : Int), vs = [.ref p, .int m, .int x] ∧ Alive M H ∧ ¬ M p ∧ H p = some (.lst ws) ∧ RpAll K M H ws (cs.map pairD) ∧ cs.length ≤ 900 ∧
  ∀ p' ws' H', (p' = p ∨ H p' = none) → Evl.Ex H H' → H' p' = some (.lst ws') → RpAll K M H' ws' ((cpl cs m x).map pairD) → Q (.ref p') H'
theorem cl_couples_with {f : Addr} {fd : FuncData} (F : At K mg "_couples_with" s_couples_with f fd) (c1 : Cl P w K mg base CX0 2 "covered" (PureR K R_covered)) : Cl P w K mg base CX0 3 "_couples_with" (spCW K) := by
  refine ⟨f, fd, _, F.fn.ok sc_couples_with (fun vs H Q E h => ?_) (fun cdv A outer s H vs Q E hr h => ⟨_, wB.ps, ?_⟩), F.gl, F.fn.kp, F.fn.binds fun _ _ _ _ _ _ us hl => match us, hl with | [_, _, _], _ => rfl⟩
  · obtain ⟨M, p, ws, cs, m, x, rfl, _⟩ := h
    rfl
  · obtain ⟨M, p, ws, cs, m, x, rfl, al, nm_, hp, rws, hl, q⟩ := h
    have r1 : Rp K M H (.ref p) (.list (cs.map pairD)) := .lst nm_ (.inl hp) rws
    have r2 : Rp K M H (.int m) (.int m) := .int m
    have r3 : Rp K M H (.int x) (.int x) := .int x
    have lc : (cs.map pairD).length ≤ 900 := by
      rw [List.length_map]
      exact hl
    refine b_cons (s_if al (k := decide (x ≤ m) || anyCov cs (m, x)) (WD.td (wd_or (td_le (nm 2 r3) (nm 1 r2)) fun _ => wd_or1 (td_val (pd_callC c1 hr (by decide) rfl (ad_cons (pd_tup (ad_cons (nm 1 r2) (ad_cons (nm 2 r3) ad_nil)) (by simp)) (ad_cons (nm 0 r1) ad_nil)) ⟨(m, x), cs, by omega, rfl, rfl⟩)))) (fun hk H2 x2 => ?_) (fun hk H2 x2 => ?_))
    · refine b_cons (cs_ret (ce_name (i := 0) rfl (.inl rfl) rfl (q p ws H2 (.inl rfl) x2 (x2 _ _ hp) ?_)))
      unfold cpl
      rw [if_pos hk]
      exact rws.mono (fun _ z => z) (.of x2)
    · refine b_nil (b_cons (cs_ret (ce_fd (al.mono x2) (fd_cat (es := [pairD (m, x)]) (fs := ((cs.map pairD).filter fun d => decide (x < (unP d).2)).map id)
        (FD.pd (fd_lst (ad_cons (pd_tup (ad_cons (nm 1 (.int m)) (ad_cons (nm 2 (.int x)) ad_nil)) (by simp)) ad_nil) (by simp)))
        (FD.pd (fd_filter (t := .one 3) (own := [("couple", 3)]) (fun d => decide (x < (unP d).2)) id rfl sc_couples_with.nd (src_list (nm 0 (r1.mono (fun _ z => z) (.of x2)))) (blkOk_by (N := n_couples_with) (sc := defScope s_couples_with) (by decide +kernel)) (fun _ _ _ _ _ => pg_name (i := 3) sc_couples_with.nd rfl (.inl rfl)) (fun _ _ => trivial) ?_ ?_ ?_)) ?_)
        fun p' ws' H3 hp' x3 h3 r => q p' ws' H3 (.inr (Evl.fresh_back x2 hp')) (x2.trans x3) h3 ?_)))
      · rintro M H d σ' ⟨v, _, rfl⟩
        rfl
      · omega
      · rintro s0 H0 C cl fp M' H' d σ' hM lift hd ⟨v, rv, rfl⟩
        obtain ⟨c, hc, rfl⟩ := List.mem_map.mp hd
        exact ⟨td_gt (pd_ix (nm 3 rv) pd_int rfl) (nm 2 (.int x)), nm 3 rv⟩
      · have := List.length_filter_le (fun d => decide (x < (unP d).2)) (cs.map pairD)
        rw [List.length_map]
        simp only [List.length_cons, List.length_nil]
        omega
      · unfold cpl
        rw [if_neg (by rw [hk]; exact Bool.false_ne_true)]
        have e : ((cs.map pairD).filter fun d => decide (x < (unP d).2)).map id = (cs.filter fun c => decide (x < c.2)).map pairD := by
          rw [List.map_id, List.filter_map]
          rfl
        rw [e] at r
        exact r
end
end BK

namespace BK
open PySem PySem.Spec PyProof.Rows L2 GV
section
variable {P : Program} {w : World} {K : PySem.W.Frag} {mg : Str → Option Value} {base : Heap}
theorem minOr_eq (x : Int) (l : List Int) : minOr (.int x) l = .int (minO x l) := by
  cases l <;> rfl
def R_far_of (ds es : List PyData) : Prop := ∃ ns : List Int, ns.length ≤ 900 ∧ ds = [.list (ns.map PyData.int)] ∧ es = (farL ns).map pairD
theorem cl_far_of {f : Addr} {fd : FuncData} (F : At K mg "far_of" s_far_of f fd) (c1 : Cl P w K mg base CX0 3 "_couples_with" (spCW K)) (nb : NoB mg) : Cl P w K mg base CX0 4 "far_of" (FreshR K R_far_of) := by
  refine ⟨f, fd, _, F.fn.ok sc_far_of (fun vs H Q E h => ?_) (fun cdv A outer s H vs Q E hr h => ⟨_, wB.ps, ?_⟩), F.gl, F.fn.kp, F.fn.binds fun _ _ _ _ _ _ us hl => match us, hl with | [_], _ => rfl⟩
  · obtain ⟨M, ds, es, al, r, ⟨ns, _, rfl, _⟩, _⟩ := h
    rw [r.length]
    rfl
  · obtain ⟨M, ds, es, al, r, ⟨ns, hl, rfl, rfl⟩, q⟩ := h
    obtain ⟨v, rfl, r1⟩ := rpa1 r
    -- couples = []
    refine b_cons (cs_set (i := 1) sc_far_of.nd rfl (.inl rfl) (ce_fd al (fd_lst ad_nil (by simp)) fun p ws H1 hp x1 h1 rw1 => ?_))
    have al1 := al.mono x1
    have r1' := r1.mono (fun _ z => z) (ExM.of x1)
    obtain ⟨⟩ := rw1
    refine b_cons (s_for (t := .two 2 3) PassesOwn.never rfl (src_enum rfl nb.enumerate (nm 0 r1')) (pg_tup rfl (pgs_cons (pg_name (i := 2) sc_far_of.nd rfl (.inl rfl)) (pgs_cons (pg_name (i := 3) sc_far_of.nd rfl (.inl rfl)) pgs_nil))) al1
      (fun Hs i σ' H' => ∃ p ws x2 x3 x4, σ' = [some v, some (.ref p), x2, x3, x4] ∧ H p = none ∧ Evl.Ex Hs H' ∧ H' p = some (.lst ws) ∧ RpAll K M H' ws ((farL (ns.take i)).map pairD)) ?_ ?_ ?_ ?_ ?_)
    · intro Hs xs
      exact ⟨p, [], none, none, none, rfl, hp, Evl.Ex.refl _, xs _ _ h1, .nil⟩
    · rintro Hs i σ' H' xs ⟨p', ws', x2, x3, x4, rfl, hp', ex, _⟩
      exact ⟨.of ex, (al1.mono xs).mono ex⟩
    · intro d hd
      obtain ⟨i, hi⟩ := List.mem_iff_getElem?.mp hd
      obtain ⟨e, _, rfl⟩ := enumD_get hi
      exact ⟨_, _, rfl⟩
    · rintro Hs i d σ' H' H2 σ2 xs hd ⟨p', ws', x2, x3, x4, rfl, hp', ex, hw, rws⟩ xh ⟨da, db, v1, v2, rfl, rv1, rv2, rfl⟩
      obtain ⟨e, he, e2⟩ := enumD_get hd
      rw [List.getElem?_map] at he
      obtain ⟨x, hx, rfl⟩ := Option.map_eq_some_iff.mp he
      obtain ⟨e3, e4⟩ : da = .int (i : Nat) ∧ db = .int x := by
        injection e2 with e2
        injection e2 with a b
        injection b with b
        exact ⟨a, b⟩
      subst e3 e4
      cases rv1
      cases rv2
      have hil : i < ns.length := (List.getElem?_eq_some_iff.mp hx).1
      have alH := (((al1.mono xs).mono ex).mono xh)
      have rr : Rp K M H2 v (.list (ns.map PyData.int)) := r1'.mono (fun _ z => z) (.of ((xs.trans ex).trans xh))
      refine b_cons (s_set (i := 4) alH sc_far_of.nd rfl (.inl rfl) (PD.is (pd_minDf rfl hr.u2 rfl nb.min (ns := ns.take i) (PD.is (FD.pd (fd_slice (nm 0 rr) od_none (od_some (nm 2 (.int (i : Int)))))) ?_) (nm 3 (.int x))) (minOr_eq x (ns.take i))) fun v5 H3 x5 r5 => ?_)
      · rw [cutD_take, List.map_take]
      cases r5
      have len1 := farL_len (ns.take i)
      rw [List.length_take] at len1
      have x03 : Evl.Ex H H3 := (((x1.trans xs).trans ex).trans xh).trans x5
      refine b_cons (cs_set (i := 1) sc_far_of.nd rfl (.inl rfl) (ce_call c1 hr (by decide) rfl (ca_cons (ce_name (i := 1) rfl (.inl rfl) rfl (ca_cons (ce_name (i := 4) rfl (.inl rfl) rfl (ca_cons (ce_name (i := 3) rfl (.inl rfl) rfl (ca_nil
        ⟨M, p', ws', farL (ns.take i), _, x, rfl, alH.mono x5, al.fresh hp', x5 _ _ (xh _ _ hw), rws.mono (fun _ z => z) (.of (xh.trans x5)), by omega, fun p2 ws2 H4 hp2 x6 h2 r2 => ?_⟩)))))))))
      refine b_nil ⟨p2, ws2, _, _, _, rfl, ?_, ((ex.trans xh).trans x5).trans x6, h2, ?_⟩
      · rcases hp2 with e | hn
        · rw [e]
          exact hp'
        · exact Evl.fresh_back x03 hn
      · rw [take_snoc hx, farL_snoc]
        exact r2
    · rintro Hs σ' H' xs ⟨p', ws', x2, x3, x4, rfl, hp', ex, hw, rws⟩
      refine b_cons (cs_ret (ce_name (i := 1) rfl (.inl rfl) rfl ?_))
      refine q p' ws' H' hp' ((x1.trans xs).trans ex) hw ?_
      rw [enumD_length, List.length_map, List.take_length] at rws
      exact rws
end
end BK

namespace BK
open PySem PySem.Spec PyProof.Rows L2 GV
section
variable {P : Program} {w : World} {K : PySem.W.Frag} {mg : Str → Option Value} {base : Heap}
/-- a pot: any three ints -/
abbrev potL (r c k : Int) : HO := .lst [.int r, .int c, .int k]
def spPot (K : PySem.W.Frag) : Sp := fun vs H Q _ => ∃ (M : Addr → Prop) (a : Addr) (ns : List Int) (i : Nat), vs = [.ref a, .int i] ∧ Alive M H ∧ ScAt K M H a ns ∧ ∀ p r c H', H p = none → Evl.Ex H H' → H' p = some (potL r c 0) → Q (.ref p) H'
theorem cl_law_pot {f : Addr} {fd : FuncData} (F : At K mg "_law_pot" s_law_pot f fd) (nb : NoB mg) : Cl P w K mg base CX0 1 "_law_pot" (spPot K) := by
  refine ⟨f, fd, _, F.fn.ok sc_law_pot (fun vs H Q E h => ?_) (fun cdv A outer s H vs Q E hr h => ⟨_, wB.ps, ?_⟩), F.gl, F.fn.kp, F.fn.binds fun _ _ _ _ _ _ us hl => match us, hl with | [_, _], _ => rfl⟩
  · obtain ⟨M, a, ns, i, rfl, _⟩ := h
    rfl
  · obtain ⟨M, a, ns, i, rfl, al, r1, q⟩ := h
    have last : ∀ (c z : Int) H2, Evl.Ex H H2 → wB (cxOf CX0 P w K mg base n_law_pot "_law_pot" (defScope s_law_pot) f cdv A outer s H E).nox ((defBody s_law_pot).drop 4) { nx := fun _ H' => Q .non H', rt := Q } [some (.ref a), some (.int i), some (.int c), some (.int z)] H2 := by
      intro c z H2 x2
      refine b_cons (cs_ret (ce_fd (al.mono x2) (fd_lst (ad_cons (nm 3 (.int z)) (ad_cons (pd_mod (pd_intI nb rfl (nm 2 (.int c))) pd_int (by decide)) (ad_cons pd_int ad_nil))) (by simp)) fun p ws H3 hp x3 h3 rw3 => ?_))
      obtain ⟨u, v, x, rfl, a1, a2, a3⟩ := rpa3 rw3
      cases a1
      cases a2
      cases a3
      exact q p _ _ H3 (Evl.fresh_back x2 hp) (x2.trans x3) h3
    have mid : ∀ (c : Int) H2, Evl.Ex H H2 → wB (cxOf CX0 P w K mg base n_law_pot "_law_pot" (defScope s_law_pot) f cdv A outer s H E).nox ((defBody s_law_pot).drop 2) { nx := fun _ H' => Q .non H', rt := Q } [some (.ref a), some (.int i), some (.int c), none] H2 := by
      intro c H2 x2
      refine b_cons (s_set (i := 3) (al.mono x2) sc_law_pot.nd rfl (.inl rfl) pd_int fun v H3 x3 r3 => ?_)
      cases r3
      refine b_cons (s_if ((al.mono x2).mono x3) (td_ge (nm 2 (.int c)) (pd_pow pd_int pd_int ⟨by decide, by decide, by decide⟩)) (fun _ H4 x4 => ?_) (fun _ H4 x4 => b_nil (last c 0 H4 ((x2.trans x3).trans x4))))
      exact b_cons (s_set (i := 3) (((al.mono x2).mono x3).mono x4) sc_law_pot.nd rfl (.inl rfl) (nm 2 (.int c)) fun v H5 x5 r5 => by
        cases r5
        exact b_nil (last c c H5 (((x2.trans x3).trans x4).trans x5)))
    refine b_cons (s_set (i := 2) al sc_law_pot.nd rfl (.inl rfl) (pd_add (pd_add (pd_mul pd_int (nm 1 (.int (i : Int))) (.inl (by decide))) pd_int) (pd_mod (pd_sum rfl nb rfl (PD.is (FD.pd (fd_scSlice (j := 0) r1 od_none (od_some pd_int))) ((congrArg PyData.list (cutD_take _ 1)).trans (by rw [List.map_take])))) pd_int (by decide))) fun v H1 x1 rv => ?_)
    cases rv
    have r1' := r1.mono (fun _ z => z) (ExM.of x1)
    refine b_cons (s_if (al.mono x1) (td_lt (nm 1 (.int (i : Int))) (pd_scLen (j := 0) r1' rfl nb.len)) (fun hk H2 x2 => ?_) (fun _ H2 x2 => b_nil (mid _ H2 (x1.trans x2))))
    have hi : i < ns.length := by
      have := of_decide_eq_true hk
      omega
    refine b_cons (s_set (i := 2) ((al.mono x1).mono x2) sc_law_pot.nd rfl (.inl rfl) (pd_abs nb rfl (pd_scIx (j := 0) (r1'.mono (fun _ z => z) (ExM.of x2)) (nm 1 (.int (i : Int))) (List.getElem?_eq_getElem hi))) fun v H3 x3 r3 => ?_)
    cases r3
    exact b_nil (mid _ H3 ((x1.trans x2).trans x3))
/-- all but b stays -/
def ExB (b : Addr) (H H' : Hp) : Prop := ∀ a o, a ≠ b → H a = some o → H' a = some o
theorem ExB.of {b : Addr} {H H' : Hp} (e : Evl.Ex H H') : ExB b H H' := fun a o _ h => e a o h
theorem ExB.trans {b : Addr} {H H1 H2 : Hp} (e : ExB b H H1) (f : ExB b H1 H2) : ExB b H H2 := fun a o n h => f a o n (e a o n h)
theorem ExB.upd {b : Addr} {H : Hp} {o : HO} : ExB b H (upd H b o) := fun a u n h => by
  rw [upd_ne n]
  exact h
/-- a draw: some number below the size, the pot turned -/
def spDraw : Sp := fun vs H Q _ => ∃ (b : Addr) (n r c k : Int), vs = [.ref b, .int n] ∧ H b = some (potL r c k) ∧ 0 < n ∧ n.natAbs < 2 ^ 8000 ∧ ∀ z r' k' H', 0 ≤ z → z < n → ExB b H H' → H' b = some (potL r' c k') → Q (.int z) H'
theorem emod_lt' (a : Int) {m : Int} (h : 0 < m) : 0 ≤ a % m ∧ a % m < m := ⟨Int.emod_nonneg _ (by omega), Int.emod_lt_of_pos _ h⟩
theorem small_mul {i : Int} (h0 : 0 ≤ i) (h1 : i < 2147483648) : CMul i i := .inl ⟨by omega, by omega⟩
theorem cl_law_draw {f : Addr} {fd : FuncData} (F : At K mg "_law_draw" s_law_draw f fd) (nb : NoB mg) : Cl P w K mg base CX0 1 "_law_draw" spDraw := by
  refine ⟨f, fd, _, F.fn.ok sc_law_draw (fun vs H Q E h => ?_) (fun cdv A outer s H vs Q E hr h => ⟨_, wB.ps, ?_⟩), F.gl, F.fn.kp, F.fn.binds fun _ _ _ _ _ _ us hl => match us, hl with | [_, _], _ => rfl⟩
  · obtain ⟨b, n, r, c, k, rfl, _⟩ := h
    rfl
  · obtain ⟨b, n, r, c, k, rfl, hb, h0, hn, q⟩ := h
    have pot : ∀ {H' : Hp} {r c k : Int}, H' b = some (potL r c k) → Rp K M0 H' (.ref b) (.list [.int r, .int c, .int k]) := fun e => .lst (fun z => z) (.inl e) (.cons (.int _) (.cons (.int _) (.cons (.int _) .nil)))
    refine b_cons (cs_sub (ce_pd alive0 (pd_add (pd_ix (nm 0 (pot hb)) pd_int rfl) pd_int) fun v H1 x1 rv => ce_name (i := 0) rfl (.inl rfl) rfl (ce_pd alive0 pd_int fun y H2 x2 ry => ?_)))
    cases rv
    cases ry
    have hb2 : H2 b = some (potL r c k) := x2 _ _ (x1 _ _ hb)
    refine ⟨b, _, 2, 2, rfl, rfl, hb2, rfl, ?_⟩
    generalize hH3 : upd H2 b (.lst (List.set [V.int r, V.int c, V.int k] 2 (V.int (k + 1)))) = H3
    have hb3 : H3 b = some (potL r c (k + 1)) := by
      rw [← hH3, upd_same]
      rfl
    have e3 : ExB b H H3 := by
      rw [← hH3]
      exact ((ExB.of x1).trans (.of x2)).trans .upd
    -- if pot[0] > 0
    refine b_cons (s_if alive0 (td_gt (pd_ix (nm 0 (pot hb3)) pd_int rfl) pd_int) (fun _ H4 x4 => ?_) (fun _ H4 x4 => ?_))
    · have hb4 := x4 _ _ hb3
      refine b_cons (s_set (i := 2) alive0 sc_law_draw.nd rfl (.inl rfl) (pd_mod (pd_intI nb rfl (pd_ix (nm 0 (pot hb4)) pd_int rfl)) (nm 1 (.int n)) h0) fun v H5 x5 r5 => ?_)
      cases r5
      have hb5 := x5 _ _ hb4
      refine b_cons (cs_sub (ce_pd alive0 (pd_div (pd_ix (nm 0 (pot hb5)) pd_int rfl) (nm 1 (.int n)) (wide_div h0 hn (by decide) (by decide))) fun v H6 x6 r6 => ce_name (i := 0) rfl (.inl rfl) rfl (ce_pd alive0 pd_int fun y H7 x7 r7 => ?_)))
      cases r6
      cases r7
      refine ⟨b, _, 0, 0, rfl, rfl, x7 _ _ (x6 _ _ hb5), rfl, ?_⟩
      refine b_cons (cs_ret (ce_name (i := 2) rfl (.inl rfl) rfl ?_))
      obtain ⟨z0, z1⟩ := emod_lt' r h0
      exact q _ _ (k + 1) _ z0 z1 ((((e3.trans (.of x4)).trans (.of x5)).trans (.of (x6.trans x7))).trans .upd) upd_same
    · have hb4 := x4 _ _ hb3
      refine b_nil (b_cons (s_set (i := 3) alive0 sc_law_draw.nd rfl (.inl rfl) (pd_mod (pd_intI nb rfl (pd_add (pd_mul (pd_ix (nm 0 (pot hb4)) pd_int rfl) pd_int (.inr (by decide))) (pd_mul (pd_ix (nm 0 (pot hb4)) pd_int rfl) pd_int (.inr (by decide))))) pd_int (by decide)) fun v H5 x5 r5 => ?_))
      cases r5
      have hb5 := x5 _ _ hb4
      generalize hlow : (c * 48271 + (k + 1) * 69621) % 2147483629 = low
      obtain ⟨l0, l1⟩ : 0 ≤ low ∧ low < 2147483629 := hlow ▸ emod_lt' _ (by decide)
      refine b_cons (s_set (i := 4) alive0 sc_law_draw.nd rfl (.inl rfl) (pd_mod (pd_intI nb rfl (pd_add (pd_mul (nm 3 (.int low)) (nm 3 (.int low)) (small_mul l0 (by omega))) (pd_div (pd_ix (nm 0 (pot hb5)) pd_int rfl) pd_int (wide_div (b := 40) (by decide) (by decide) (by decide) (by decide))))) pd_int (by decide)) fun v H6 x6 r6 => ?_)
      cases r6
      generalize hmid : (low * low + c / 2147483629) % 1000000007 = mid
      obtain ⟨m0, m1⟩ : 0 ≤ mid ∧ mid < 1000000007 := hmid ▸ emod_lt' _ (by decide)
      refine b_cons (s_set (i := 5) alive0 sc_law_draw.nd rfl (.inl rfl) (pd_mod (pd_intI nb rfl (pd_add (pd_mul (nm 4 (.int mid)) (nm 4 (.int mid)) (small_mul m0 (by omega))) (nm 3 (.int low)))) pd_int (by decide)) fun v H7 x7 r7 => ?_)
      cases r7
      generalize (mid * mid + low) % 998244353 = high
      refine b_cons (s_ret alive0 (pd_mod (pd_intI nb rfl (pd_add (pd_mul (nm 4 (.int mid)) pd_int (.inr (by decide))) (nm 5 (.int high)))) (nm 1 (.int n)) h0) fun v H8 x8 r8 => ?_)
      cases r8
      obtain ⟨z0, z1⟩ := emod_lt' (mid * 998244353 + high) h0
      exact q _ _ _ H8 z0 z1 (e3.trans (.of ((((x4.trans x5).trans x6).trans x7).trans x8))) (x8 _ _ (x7 _ _ (x6 _ _ (x5 _ _ hb4))))
end
end BK

namespace BK
open PySem PySem.Spec PyProof.Rows L2 GV
section
variable {P : Program} {w : World} {K : PySem.W.Frag} {mg : Str → Option Value} {base : Heap}
theorem ok_initW {f C : Addr} {fd : FuncData} (F : Fun K "__init__" "InvalidWeight.__init__" s_InvalidWeight_init f fd) (o : OexC K C) (n : PySem.W.findIn K (.ref C) "weight" = some none) : FnOk P w K mg base CX0 1 f fd ["self", "weight"] (spInit C ["weight"]) := by
  refine F.ok sc_InvalidWeight_init (fun vs H Q E h => ?_) (fun cdv A outer s H vs Q E hr h => ⟨_, wB.ps, ?_⟩)
  · obtain ⟨a, xs, rfl, hl, _⟩ := h
    exact congrArg (· + 1) hl
  · obtain ⟨a, xs, rfl, hl, ha, q⟩ := h
    match xs, hl with
    | [v], _ =>
      refine b_cons (cs_ost (ce_name (i := 1) rfl (.inl rfl) rfl (ce_name (i := 0) rfl (.inl rfl) rfl ⟨a, C, rfl, o, n, .inl ⟨ha, fun dx hdx ne => b_nil (q _ dx (fun b o hb nb => ?_) hdx ne upd_same ?_)⟩⟩)))
      · rw [upd_ne nb, upd_ne (ne_of_none hb hdx)]
        exact hb
      · rw [upd_ne ne, upd_same]
        rfl
theorem ok_initT {f C : Addr} {fd : FuncData} (F : Fun K "__init__" "TooMany.__init__" s_TooMany_init f fd) (o : OexC K C) (n : PySem.W.findIn K (.ref C) "most" = some none) (n2 : PySem.W.findIn K (.ref C) "given" = some none) : FnOk P w K mg base CX0 1 f fd ["self", "most", "given"] (spInit C ["most", "given"]) := by
  refine F.ok sc_TooMany_init (fun vs H Q E h => ?_) (fun cdv A outer s H vs Q E hr h => ⟨_, wB.ps, ?_⟩)
  · obtain ⟨a, xs, rfl, hl, _⟩ := h
    exact congrArg (· + 1) hl
  · obtain ⟨a, xs, rfl, hl, ha, q⟩ := h
    match xs, hl with
    | [v, u], _ =>
      refine b_cons (cs_ost (ce_name (i := 1) rfl (.inl rfl) rfl (ce_name (i := 0) rfl (.inl rfl) rfl ⟨a, C, rfl, o, n, .inl ⟨ha, fun dx hdx ne => ?_⟩⟩)))
      refine b_cons (cs_ost (ce_name (i := 2) rfl (.inl rfl) rfl (ce_name (i := 0) rfl (.inl rfl) rfl ⟨a, C, rfl, o, n2, .inr ⟨dx, [("most", v)], upd_same, ?_, ?_, b_nil (q _ dx (fun b o hb nb => ?_) hdx ne ?_ ?_)⟩⟩)))
      · rw [upd_ne ne, upd_same]
      · show 1 ≤ 900
        decide
      · rw [upd_ne (ne_of_none hb hdx), upd_ne nb, upd_ne (ne_of_none hb hdx)]
        exact hb
      · rw [upd_ne (Ne.symm ne), upd_same]
      · rw [upd_same]
        rfl
/-! ### check_weight -/
def spCheck (K : PySem.W.Frag) (CW : Addr) : Sp := fun vs H Q E => ∃ (M : Addr → Prop) (v : V) (d : PyData), vs = [v] ∧ Alive M H ∧ Rp K M H v d ∧ (isWeightD d = true → ∀ H', Evl.Ex H H' → Q .non H') ∧ (isWeightD d = false → ∀ H1, Evl.Ex H H1 → Raised CW [("weight", v)] H1 E)
theorem cl_check_weight {f CW : Addr} {fd : FuncData} (F : At K mg "check_weight" s_check_weight f fd) (c1 : Cl P w K mg base CX0 3 "is_weight" (PureR K R_is_weight)) (er : ErrC P w K mg base "InvalidWeight" CW ["weight"]) : Cl P w K mg base (L2.CX P w) 4 "check_weight" (spCheck K CW) := by
  refine ⟨f, fd, _, F.fn.okX sc_check_weight (fun vs H Q E h => ?_) (fun cdv A outer s H vs Q E hr h => ⟨_, wB.ps, ?_⟩), F.gl, F.fn.kp, F.fn.binds fun _ _ _ _ _ _ us hl => match us, hl with | [_], _ => rfl⟩
  · obtain ⟨M, v, d, rfl, _⟩ := h
    rfl
  · obtain ⟨M, v, d, rfl, al, r, h1, h2⟩ := h
    refine b_cons (s_if al (td_not (td_val (pd_callC c1 hr (by decide) rfl (ad_cons (nm 0 r) ad_nil) ⟨d, rfl, rfl⟩))) (fun k H2 x2 => ?_) (fun k H2 x2 => ?_))
    · have k' : isWeightD d = false := by
        cases e : isWeightD d with
        | false => rfl
        | true =>
          rw [e] at k
          cases k
      refine b_cons (s_raise rfl er (hr.mono (by decide)) (takes_of rfl rfl rfl rfl) rfl ?_)
      exact ca_cons (ce_name (i := 0) rfl (.inl rfl) rfl (ca_nil ⟨rfl, (by show 1 ≤ 1000; decide), h2 k' _ x2⟩))
    · have k' : isWeightD d = true := by
        cases e : isWeightD d with
        | true => rfl
        | false =>
          rw [e] at k
          cases k
      exact b_nil (b_nil (h1 k' _ x2))
end
end BK

namespace BK
open PySem PySem.Spec PyProof.Rows L2 GV
/-- at b stands a brook whose stones, xs, stand in the list at s -/
structure BrAt (C : Addr) (H : Hp) (b s : Addr) (xs : List Int) : Prop where
  ins : ∃ dx, H b = some (.ins C dx [("_stones", .ref s)])
  lst : H s = some (.lst (xs.map V.int))
structure BrC (K : PySem.W.Frag) (C : Addr) : Prop where
  cls : Cls K C
  nS : NoAttr K C "_stones"
theorem lk_st (s : Addr) : List.lookup ("_stones" : Str) [(("_stones" : Str), V.ref s)] = some (.ref s) := by simp [List.lookup]
theorem BrAt.ne {C : Addr} {H : Hp} {b s : Addr} {xs : List Int} (h : BrAt C H b s xs) : b ≠ s := fun e => by
  obtain ⟨dx, hb⟩ := h.ins
  have hl := h.lst
  rw [← e, hb] at hl
  cases hl
theorem BrAt.ex {C : Addr} {H H' : Hp} {b s : Addr} {xs : List Int} (h : BrAt C H b s xs) (x : Evl.Ex H H') : BrAt C H' b s xs := ⟨let ⟨dx, hb⟩ := h.ins; ⟨dx, x _ _ hb⟩, x _ _ h.lst⟩
theorem BrAt.rp {K : PySem.W.Frag} {C : Addr} {H : Hp} {b s : Addr} {xs : List Int} (h : BrAt C H b s xs) : Rp K M0 H (.ref s) (.list (xs.map PyData.int)) := .lst (fun z => z) (.inl h.lst) (.ints xs)
section
variable {P : Program} {w : World} {K : PySem.W.Frag} {mg : Str → Option Value} {base : Heap}
/-- self._stones -/
theorem pd_stones {X : Cx} {σ : St} {H : Hp} {C b s : Addr} {xs : List Int} {e : Expr} {pos : Pos} (B : BrC X.K C) (h : BrAt C H b s xs) (hn : AtN X σ e b) (hb : attributeBase e ("_stones" : Str) X.env (eval e X.env) = eval e X.env := by rfl) : PD X M0 (.Attribute e "_stones" pos) σ H (.list (xs.map PyData.int)) := by
  obtain ⟨dx, hb'⟩ := h.ins
  exact pd_fld hn (fun z => z) hb' B.cls B.nS (lk_st s) h.rp hb
def spBInit (C : Addr) : Sp := fun vs H Q _ => ∃ (b dx : Addr), vs = [.ref b] ∧ H b = some (.ins C dx []) ∧ ∀ s H', H s = none → (∀ a o, H a = some o → a ≠ b → H' a = some o) → BrAt C H' b s [] → Q .non H'
theorem ok_binit {f C : Addr} {fd : FuncData} (F : Fun K "__init__" "Brook.__init__" s_Brook_init f fd) (B : BrC K C) : FnOk P w K mg base CX0 1 f fd ["self"] (spBInit C) := by
  refine F.ok sc_Brook_init (fun vs H Q E h => ?_) (fun cdv A outer sh H vs Q E hr h => ⟨_, wB.ps, ?_⟩)
  · obtain ⟨b, dx, rfl, _⟩ := h
    rfl
  · obtain ⟨b, dx, rfl, hb, q⟩ := h
    refine b_cons (cs_fld (ce_fd alive0 (fd_lst ad_nil (Nat.zero_le _)) fun p ws H2 hp x2 h2 rs => ce_name (i := 0) rfl (.inl rfl) rfl ⟨b, C, dx, [], rfl, x2 _ _ hb, B.cls, B.nS, (by show 0 < 1000; decide), b_nil (q p _ hp (fun a o ha na => ?_) ⟨⟨dx, upd_same⟩, ?_⟩)⟩))
    · rw [upd_ne na]
      exact x2 _ _ ha
    · cases rs
      rw [upd_ne (Ne.symm (ne_of_none hb hp)), h2]
      rfl
def spLaid (K : PySem.W.Frag) (C : Addr) : Sp := fun vs H Q _ => ∃ (b s : Addr) (xs : List Int), vs = [.ref b] ∧ BrAt C H b s xs ∧ ∀ v H', Evl.Ex H H' → Rp K M0 H' v (.tuple (xs.map PyData.int)) → Q v H'
theorem ok_laid {f C : Addr} {fd : FuncData} (F : Fun K "laid" "Brook.laid" s_Brook_laid f fd) (B : BrC K C) (nb : NoB mg) : FnOk P w K mg base CX0 1 f fd ["self"] (spLaid K C) := by
  refine F.ok sc_Brook_laid (fun vs H Q E h => ?_) (fun cdv A outer sh H vs Q E hr h => ⟨_, wB.ps, ?_⟩)
  · obtain ⟨b, s, xs, rfl, _⟩ := h
    rfl
  · obtain ⟨b, s, xs, rfl, h, q⟩ := h
    exact b_cons (s_ret alive0 (pd_callTy call_tuple_of rfl nb.tuple PyProof.Rows.boot_tuple (ad_cons (pd_stones B h (AtN.name (i := 0) rfl (.inl rfl) rfl)) ad_nil) (rn_tuple rfl)) q)
def spCouples (K : PySem.W.Frag) (C : Addr) : Sp := fun vs H Q _ => ∃ (b s : Addr) (xs : List Int), vs = [.ref b] ∧ xs.length ≤ 40 ∧ BrAt C H b s xs ∧ ∀ p ws H', H p = none → Evl.Ex H H' → H' p = some (.lst ws) → RpAll K M0 H' ws ((farL xs).map pairD) → Q (.ref p) H'
theorem ok_couples {f C : Addr} {fd : FuncData} (F : Fun K "couples" "Brook.couples" s_Brook_couples f fd) (B : BrC K C) (c1 : Cl P w K mg base CX0 4 "far_of" (FreshR K R_far_of)) : FnOk P w K mg base CX0 5 f fd ["self"] (spCouples K C) := by
  refine F.ok sc_Brook_couples (fun vs H Q E h => ?_) (fun cdv A outer sh H vs Q E hr h => ⟨_, wB.ps, ?_⟩)
  · obtain ⟨b, s, xs, rfl, _⟩ := h
    rfl
  · obtain ⟨b, s, xs, rfl, hl, h, q⟩ := h
    exact b_cons (cs_ret (ce_fd alive0 (fd_callC c1 hr (by decide) rfl (ad_cons (pd_stones B h (AtN.name (i := 0) rfl (.inl rfl) rfl)) ad_nil) ⟨xs, by omega, rfl, rfl⟩) q))
def spLightest (K : PySem.W.Frag) (C : Addr) : Sp := fun vs H Q _ => ∃ (b s : Addr) (xs : List Int), vs = [.ref b] ∧ BrAt C H b s xs ∧ ∀ v H', Evl.Ex H H' → Rp K M0 H' v (minOr .none xs) → Q v H'
theorem ok_lightest {f C : Addr} {fd : FuncData} (F : Fun K "lightest" "Brook.lightest" s_Brook_lightest f fd) (B : BrC K C) (nb : NoB mg) : FnOk P w K mg base CX0 1 f fd ["self"] (spLightest K C) := by
  refine F.ok sc_Brook_lightest (fun vs H Q E h => ?_) (fun cdv A outer sh H vs Q E hr h => ⟨_, wB.ps, ?_⟩)
  · obtain ⟨b, s, xs, rfl, _⟩ := h
    rfl
  · obtain ⟨b, s, xs, rfl, h, q⟩ := h
    exact b_cons (s_ret alive0 (pd_minDf rfl hr.u2 rfl nb.min (pd_stones B h (AtN.name (i := 0) rfl (.inl rfl) rfl)) pd_non) q)
/-! ### lay and lift -/
def spLay (K : PySem.W.Frag) (C CW CT : Addr) : Sp := fun vs H Q E => ∃ (b s : Addr) (xs : List Int) (v : V) (d : PyData), vs = [.ref b, v] ∧ BrAt C H b s xs ∧ xs.length ≤ 40 ∧ Rp K M0 H v d ∧
  (isWeightD d = false → ∀ H1, Evl.Ex H H1 → Raised CW [("weight", v)] H1 E) ∧
  (isWeightD d = true → xs.length = 40 → ∀ H1, Evl.Ex H H1 → Raised CT [("given", .int 41), ("most", .int 40)] H1 E) ∧
  (∀ z, d = .int z → isWeightD d = true → xs.length < 40 → ∀ H', ExB s H H' → BrAt C H' b s (xs ++ [z]) → Q .non H')
theorem ok_lay {f C CW CT : Addr} {fd : FuncData} {t : Tok} (F : Fun K "lay" "Brook.lay" s_Brook_lay f fd) (B : BrC K C) (nb : NoB mg) (c1 : Cl P w K mg base (L2.CX P w) 4 "check_weight" (spCheck K CW)) (er : ErrC P w K mg base "TooMany" CT ["most", "given"]) (gS : mg "MOST_STONES" = some (.int 40 t)) :
    FnOk P w K mg base (L2.CX P w) 5 f fd ["self", "weight"] (spLay K C CW CT) := by
  refine F.okX sc_Brook_lay (fun vs H Q E h => ?_) (fun cdv A outer sh H vs Q E hr h => ⟨_, wB.ps, ?_⟩)
  · obtain ⟨b, s, xs, v, d, rfl, _⟩ := h
    rfl
  · obtain ⟨b, s, xs, v, d, rfl, h, hl, r, q1, q2, q3⟩ := h
    have tk : Takes _ (fun cls d (_ : St) H' => E cls d H') := takes_of (X := cxOf (L2.CX P w) P w K mg base n_Brook_lay "Brook.lay" (defScope s_Brook_lay) f cdv A outer sh H E) rfl rfl rfl rfl
    refine b_cons (cs_expr (ce_callX c1 hr (by decide) rfl tk (ca_cons (ce_name (i := 1) rfl (.inl rfl) rfl (ca_nil ⟨M0, v, d, rfl, alive0, r, fun hw H1 x1 => ?_, q1⟩)))))
    have h1 := h.ex x1
    refine b_cons (s_if alive0 (td_eq hr.units (pd_len nb rfl (pd_stones B h1 (AtN.name (i := 0) rfl (.inl rfl) rfl)) rfl) (pd_globI rfl gS) rfl rfl) (fun k H2 x2 => ?_) (fun k H2 x2 => ?_))
    · have hlen : xs.length = 40 := by
        simp [PyData.eqv] at k
        omega
      refine b_cons (s_raise rfl er (hr.mono (by decide)) tk rfl ?_)
      exact ca_cons (ce_pd alive0 (pd_globI rfl gS) fun u H3 x3 r3 => ca_cons (ce_pd alive0 (pd_add (pd_globI rfl gS) pd_int) fun u2 H4 x4 r4 => ca_nil ⟨rfl, (by show 2 ≤ 1000; decide), by
        cases r3
        cases r4
        exact q2 hw hlen _ (((x1.trans x2).trans x3).trans x4)⟩))
    · have hlen : ¬ xs.length = 40 := by
        simp [PyData.eqv] at k
        omega
      have h2 := h1.ex x2
      obtain ⟨dx, hb⟩ := h2.ins
      cases d with
      | int z =>
        cases r
        refine b_nil (b_cons (cs_expr (ce_append (AtN.fld (AtN.name (i := 0) rfl (.inl rfl) rfl) B.cls B.nS (lk_st s) hb ⟨s, _, rfl, h2.lst, ce_name (i := 1) rfl (.inl rfl) rfl ⟨_, h2.lst, ?_, b_nil (q3 z rfl hw (by omega) _ ?_ ⟨⟨dx, ?_⟩, ?_⟩)⟩⟩))))
        · rw [List.length_map]
          omega
        · exact ((ExB.of x1).trans (.of x2)).trans .upd
        · rw [upd_ne h2.ne]
          exact hb
        · rw [upd_same, List.map_append]
          rfl
      | _ => cases hw
def spLift (K : PySem.W.Frag) (C CN : Addr) : Sp := fun vs H Q E => ∃ (b s : Addr) (xs : List Int), vs = [.ref b] ∧ BrAt C H b s xs ∧ (xs = [] → ∀ H1, Evl.Ex H H1 → E (.ref CN) none H1) ∧ (∀ ys z, xs = ys ++ [z] → ∀ H', ExB s H H' → BrAt C H' b s ys → Q (.int z) H')
theorem ok_lift {f C CN : Addr} {fd : FuncData} (F : Fun K "lift" "Brook.lift" s_Brook_lift f fd) (B : BrC K C) (nb : NoB mg) (er : Err0 K mg "NothingLaid" CN) : FnOk P w K mg base (L2.CX P w) 1 f fd ["self"] (spLift K C CN) := by
  refine F.okX sc_Brook_lift (fun vs H Q E h => ?_) (fun cdv A outer sh H vs Q E hr h => ⟨_, wB.ps, ?_⟩)
  · obtain ⟨b, s, xs, rfl, _⟩ := h
    rfl
  · obtain ⟨b, s, xs, rfl, h, q1, q2⟩ := h
    have tk : Takes _ (fun cls d (_ : St) H' => E cls d H') := takes_of (X := cxOf (L2.CX P w) P w K mg base n_Brook_lift "Brook.lift" (defScope s_Brook_lift) f cdv A outer sh H E) rfl rfl rfl rfl
    refine b_cons (s_if alive0 (td_eq hr.units (pd_len nb rfl (pd_stones B h (AtN.name (i := 0) rfl (.inl rfl) rfl)) rfl) pd_int rfl rfl) (fun k H2 x2 => ?_) (fun k H2 x2 => ?_))
    · have hx : xs = [] := by
        simp [PyData.eqv] at k
        exact k
      exact b_cons (s_raise0 rfl er tk rfl (q1 hx _ x2))
    · have hx : xs ≠ [] := by
        rintro rfl
        simp [PyData.eqv] at k
      obtain ⟨ys, z, rfl⟩ : ∃ ys z, xs = ys ++ [z] := ⟨_, _, (List.dropLast_concat_getLast hx).symm⟩
      have h2 := h.ex x2
      obtain ⟨dx, hb⟩ := h2.ins
      have hl := h2.lst
      rw [List.map_append] at hl
      refine b_nil (b_cons (cs_ret (ce_pop (AtN.fld (AtN.name (i := 0) rfl (.inl rfl) rfl) B.cls B.nS (lk_st s) hb ⟨rfl, hl, q2 ys z rfl _ ((ExB.of x2).trans .upd) ⟨⟨dx, ?_⟩, upd_same⟩⟩))))
      rw [upd_ne h2.ne]
      exact hb
end
end BK

namespace BK
open PySem PySem.Spec PyProof.Rows L2 GV
section
variable {P : Program} {w : World} {K : PySem.W.Frag} {mg : Str → Option Value} {base : Heap}
abbrev intsD (ns : List Int) : PyData := .list (ns.map PyData.int)
abbrev tintsD (ns : List Int) : PyData := .tuple (ns.map PyData.int)
abbrev pairsD (ps : List (Int × Int)) : PyData := .list (ps.map pairD)
def R_num (ds : List PyData) (d : PyData) : Prop := ∃ k, ds = [.int k, .int k] ∧ d = .bool true
theorem cl_law_is_number {f : Addr} {fd : FuncData} (F : At K mg "_law_is_number" s_law_is_number f fd) (nb : NoB mg) : Cl P w K mg base CX0 1 "_law_is_number" (PureR K R_num) := by
  refine cl_pure F sc_law_is_number (F.fn.binds fun _ _ _ _ _ _ us hl => match us, hl with | [_, _], _ => rfl) (fun ds d h => ?_) (fun X cdv A outer s H Q E M vs ds d hX hr al r h q => ?_)
  · obtain ⟨a, rfl, _⟩ := h
    rfl
  · obtain ⟨a, rfl, rfl⟩ := h
    obtain ⟨u, v, rfl, r1, r2⟩ := rpa2 r
    subst hX
    refine b_cons (s_ret al (PD.is (pd_and (pd_isi rfl nb.isinstance rfl nb.int PyProof.Rows.boot_int (nm 0 r1) (kit_int _)) fun _ => pd_and (pd_not (pd_isi rfl nb.isinstance rfl nb.bool PyProof.Rows.boot_bool (nm 0 r1) (kit_bool _))) fun _ => pd_one (pd_eq hr.units (nm 0 r1) (nm 1 r2) rfl rfl)) ?_) q)
    simp [isIntD, isBoolD, PyData.eqv]
theorem kit_list (d : PyData) : kitB (tyD d) "list" = some (match d with | .list _ => true | _ => false) := by
  cases d with
  | none => exact (by decide +kernel : kitB "NoneType" "list" = some false)
  | bool _ => exact (by decide +kernel : kitB "bool" "list" = some false)
  | int _ => exact (by decide +kernel : kitB "int" "list" = some false)
  | str _ => exact (by decide +kernel : kitB "str" "list" = some false)
  | list _ => exact (by decide +kernel : kitB "list" "list" = some true)
  | tuple _ => exact (by decide +kernel : kitB "tuple" "list" = some false)
  | dict _ => exact (by decide +kernel : kitB "dict" "list" = some false)
theorem kit_tup (ds : List PyData) : kitB (tyD (.tuple ds)) "tuple" = some true := (by decide +kernel : kitB "tuple" "tuple" = some true)
/-- a list of whole numbers, that one -/
def R_list (ds : List PyData) (d : PyData) : Prop := ∃ ns : List Int, ns.length ≤ 1000 ∧ ds = [intsD ns, intsD ns] ∧ d = .bool true
theorem get_i {ns : List Int} {i : Nat} (h : i < ns.length) : ∃ z, ns[i]? = some z := ⟨_, List.getElem?_eq_getElem h⟩
theorem cl_law_is_list {f : Addr} {fd : FuncData} (F : At K mg "_law_is_list" s_law_is_list f fd) (c1 : Cl P w K mg base CX0 1 "_law_is_number" (PureR K R_num)) (nb : NoB mg) : Cl P w K mg base CX0 2 "_law_is_list" (PureR K R_list) := by
  refine cl_pure F sc_law_is_list (F.fn.binds fun _ _ _ _ _ _ us hl => match us, hl with | [_, _], _ => rfl) (fun ds d h => ?_) (fun X cdv A outer s H Q E M vs ds d hX hr al r h q => ?_)
  · obtain ⟨ns, _, rfl, _⟩ := h
    rfl
  · obtain ⟨ns, hlen, rfl, rfl⟩ := h
    obtain ⟨u, v, rfl, r1, r2⟩ := rpa2 r
    subst hX
    refine b_cons (s_if (k := false) al ?_ (fun k => by cases k) (fun _ H2 x2 => ?_))
    · refine TD.is (WD.td (wd_or (td_not (td_val (pd_isi rfl nb.isinstance rfl nb.list PyProof.Rows.boot_list (nm 0 r1) (kit_list _)))) fun _ => wd_or1 (td_ne hr.units (pd_len nb rfl (nm 0 r1) rfl) (pd_len nb rfl (nm 1 r2) rfl) rfl rfl))) ?_
      simp [PyData.eqv]
    · have r1' := r1.mono (fun _ z => z) (ExM.of x2)
      have r2' := r2.mono (fun _ z => z) (ExM.of x2)
      have al2 := al.mono x2
      refine b_nil (b_cons (s_forR (n := ns.length) (slot := 2) PassesOwn.never rfl sc_law_is_list.nd rfl (.inl rfl) rfl nb.range (PD.is (pd_len nb rfl (nm 1 r2') (n := ns.length) ?_) rfl) (by omega) al2 (fun Hs i σ' H' => (∃ x, σ' = [some u, some v, x]) ∧ Evl.Ex Hs H') ?_ ?_ ?_ ?_))
      · simp [lenD]
      · exact fun H1 x1 => ⟨⟨_, rfl⟩, Evl.Ex.refl _⟩
      · rintro H1 i σ' H' x1 ⟨_, ex⟩
        exact ⟨.of ex, (al2.mono x1).mono ex⟩
      · rintro H1 i σ' H' H3 x1 hi ⟨⟨x, rfl⟩, ex⟩ x3
        obtain ⟨z, hz⟩ := get_i hi
        have xx := (x1.trans ex).trans x3
        have r1'' := r1'.mono (fun _ z => z) (ExM.of xx)
        have r2'' := r2'.mono (fun _ z => z) (ExM.of xx)
        refine b_cons (s_if (k := false) (al2.mono xx) (td_not (k := true) (td_val (pd_callC c1 hr (by decide) rfl (ad_cons (pd_ix (nm 0 r1'') (nm 2 (.int (i : Nat))) (ixD_ints hz)) (ad_cons (pd_ix (nm 1 r2'') (nm 2 (.int (i : Nat))) (ixD_ints hz)) ad_nil)) ⟨z, rfl, rfl⟩))) (fun k => by cases k) (fun _ H4 x4 => ?_))
        exact b_nil (b_nil ⟨⟨_, rfl⟩, (ex.trans x3).trans x4⟩)
      · rintro H1 σ' H' x1 ⟨⟨x, rfl⟩, ex⟩
        exact b_cons (s_ret (al2.mono (x1.trans ex)) pd_bl fun v H3 x3 rv => q v H3 (((x2.trans x1).trans ex).trans x3) rv)
def R_row (ds : List PyData) (d : PyData) : Prop := ∃ ns : List Int, ns.length ≤ 1000 ∧ ds = [tintsD ns, intsD ns] ∧ d = .bool true
theorem cl_law_is_row {f : Addr} {fd : FuncData} (F : At K mg "_law_is_row" s_law_is_row f fd) (c1 : Cl P w K mg base CX0 2 "_law_is_list" (PureR K R_list)) (nb : NoB mg) : Cl P w K mg base CX0 3 "_law_is_row" (PureR K R_row) := by
  refine cl_pure F sc_law_is_row (F.fn.binds fun _ _ _ _ _ _ us hl => match us, hl with | [_, _], _ => rfl) (fun ds d h => ?_) (fun X cdv A outer s H Q E M vs ds d hX hr al r h q => ?_)
  · obtain ⟨ns, _, rfl, _⟩ := h
    rfl
  · obtain ⟨ns, hlen, rfl, rfl⟩ := h
    obtain ⟨u, v, rfl, r1, r2⟩ := rpa2 r
    subst hX
    exact b_cons (s_ret al (pd_and (pd_isi rfl nb.isinstance rfl nb.tuple PyProof.Rows.boot_tuple (nm 0 r1) (kit_tup _)) fun _ => pd_one (pd_callC c1 hr (by decide) rfl (ad_cons (FD.pd (fd_callTy call_list_of rfl nb.list PyProof.Rows.boot_list (ad_cons (nm 0 r1) ad_nil) (rf_list rfl))) (ad_cons (nm 1 r2) ad_nil)) ⟨ns, hlen, rfl, rfl⟩)) q)
def R_pairs (ds : List PyData) (d : PyData) : Prop := ∃ ps : List (Int × Int), ps.length ≤ 1000 ∧ ds = [pairsD ps, pairsD ps] ∧ d = .bool true
theorem ixD_pairs {ps : List (Int × Int)} {i : Nat} {z : Int × Int} (h : ps[i]? = some z) : ixD (pairsD ps) (.int (i : Nat)) = some (pairD z) := ixD_list (by rw [List.getElem?_map, h]; rfl)
theorem cl_law_is_pairs {f : Addr} {fd : FuncData} (F : At K mg "_law_is_pairs" s_law_is_pairs f fd) (c1 : Cl P w K mg base CX0 3 "_law_is_row" (PureR K R_row)) (nb : NoB mg) : Cl P w K mg base CX0 4 "_law_is_pairs" (PureR K R_pairs) := by
  refine cl_pure F sc_law_is_pairs (F.fn.binds fun _ _ _ _ _ _ us hl => match us, hl with | [_, _], _ => rfl) (fun ds d h => ?_) (fun X cdv A outer s H Q E M vs ds d hX hr al r h q => ?_)
  · obtain ⟨ns, _, rfl, _⟩ := h
    rfl
  · obtain ⟨ns, hlen, rfl, rfl⟩ := h
    obtain ⟨u, v, rfl, r1, r2⟩ := rpa2 r
    subst hX
    refine b_cons (s_if (k := false) al ?_ (fun k => by cases k) (fun _ H2 x2 => ?_))
    · refine TD.is (WD.td (wd_or (td_not (td_val (pd_isi rfl nb.isinstance rfl nb.list PyProof.Rows.boot_list (nm 0 r1) (kit_list _)))) fun _ => wd_or1 (td_ne hr.units (pd_len nb rfl (nm 0 r1) rfl) (pd_len nb rfl (nm 1 r2) rfl) rfl rfl))) ?_
      simp [PyData.eqv]
    · have r1' := r1.mono (fun _ z => z) (ExM.of x2)
      have r2' := r2.mono (fun _ z => z) (ExM.of x2)
      have al2 := al.mono x2
      refine b_nil (b_cons (s_forR (n := ns.length) (slot := 2) PassesOwn.never rfl sc_law_is_pairs.nd rfl (.inl rfl) rfl nb.range (PD.is (pd_len nb rfl (nm 1 r2') (n := ns.length) ?_) rfl) (by omega) al2 (fun Hs i σ' H' => (∃ x, σ' = [some u, some v, x]) ∧ Evl.Ex Hs H') ?_ ?_ ?_ ?_))
      · simp [lenD]
      · exact fun H1 x1 => ⟨⟨_, rfl⟩, Evl.Ex.refl _⟩
      · rintro H1 i σ' H' x1 ⟨_, ex⟩
        exact ⟨.of ex, (al2.mono x1).mono ex⟩
      · rintro H1 i σ' H' H3 x1 hi ⟨⟨x, rfl⟩, ex⟩ x3
        obtain ⟨z, hz⟩ : ∃ z, ns[i]? = some z := ⟨_, List.getElem?_eq_getElem hi⟩
        have xx := (x1.trans ex).trans x3
        have r1'' := r1'.mono (fun _ z => z) (ExM.of xx)
        have r2'' := r2'.mono (fun _ z => z) (ExM.of xx)
        refine b_cons (s_if (k := false) (al2.mono xx) (td_not (k := true) (td_val (pd_callC c1 hr (by decide) rfl (ad_cons (pd_ix (nm 0 r1'') (nm 2 (.int (i : Nat))) (ixD_pairs hz)) (ad_cons (FD.pd (fd_callTy call_list_of rfl nb.list PyProof.Rows.boot_list (ad_cons (pd_ix (nm 1 r2'') (nm 2 (.int (i : Nat))) (ixD_pairs hz)) ad_nil) (rf_list rfl))) ad_nil)) ⟨[z.1, z.2], by simp, rfl, rfl⟩))) (fun k => by cases k) (fun _ H4 x4 => ?_))
        exact b_nil (b_nil ⟨⟨_, rfl⟩, (ex.trans x3).trans x4⟩)
      · rintro H1 σ' H' x1 ⟨⟨x, rfl⟩, ex⟩
        exact b_cons (s_ret (al2.mono (x1.trans ex)) pd_bl fun v H3 x3 rv => q v H3 (((x2.trans x1).trans ex).trans x3) rv)
end
end BK


namespace BK
open PySem PySem.Spec PyProof.Rows L2 GV
/-! ### the different numbers of a list, ascending -/
def insU (x : Int) : List Int → List Int
  | [] => [x]
  | y :: l => if x < y then x :: y :: l else if x = y then y :: l else y :: insU x l
def srt (ns : List Int) : List Int := ns.foldr insU []
theorem mem_insU (x k : Int) (l : List Int) : k ∈ insU x l ↔ k = x ∨ k ∈ l := by
  induction l with
  | nil => simp [insU]
  | cons y l ih =>
    unfold insU
    split
    · simp
    · split
      · rename_i h
        subst h
        simp
      · simp only [List.mem_cons, ih]
        exact ⟨fun h => h.elim (fun e => .inr (.inl e)) fun h => h.elim .inl fun e => .inr (.inr e), fun h => h.elim (fun e => .inr (.inl e)) fun h => h.elim .inl fun e => .inr (.inr e)⟩
theorem mem_srt (ns : List Int) (k : Int) : k ∈ srt ns ↔ k ∈ ns := by
  induction ns with
  | nil => rfl
  | cons x ns ih =>
    show k ∈ insU x (srt ns) ↔ _
    rw [mem_insU, ih, List.mem_cons]
theorem up_insU {x : Int} {l : List Int} (h : l.Pairwise (· < ·)) : (insU x l).Pairwise (· < ·) := by
  induction l with
  | nil => exact List.pairwise_singleton _ _
  | cons y l ih =>
    obtain ⟨h1, h2⟩ := List.pairwise_cons.mp h
    unfold insU
    split
    · rename_i hxy
      refine List.pairwise_cons.mpr ⟨fun z hz => ?_, h⟩
      rcases List.mem_cons.mp hz with e | hz
      · omega
      · have := h1 z hz
        omega
    · split
      · exact h
      · refine List.pairwise_cons.mpr ⟨fun z hz => ?_, ih h2⟩
        rcases (mem_insU x z l).mp hz with e | hz
        · omega
        · exact h1 z hz
theorem up_srt (ns : List Int) : (srt ns).Pairwise (· < ·) := by
  induction ns with
  | nil => exact List.Pairwise.nil
  | cons x ns ih => exact up_insU ih
/-! ### the far couples as the law finds them -/
def behL (ns : List Int) (low : Int) : List Int := (ns.drop (ns.idxOf low + 1)).filter fun x => decide (low < x)
def lastHi : List (Int × Int) → Option Int
  | [] => none
  | [p] => some p.2
  | _ :: l => lastHi l
theorem lastHi_snoc (l : List (Int × Int)) (p : Int × Int) : lastHi (l ++ [p]) = some p.2 := by
  induction l with
  | nil => rfl
  | cons a l ih =>
    cases l with
    | nil => rfl
    | cons b l => exact ih
def maxOf : List Int → Int
  | [] => 0
  | [x] => x
  | x :: l => max x (maxOf l)
theorem maxOf_mem {l : List Int} (h : l ≠ []) : maxOf l ∈ l ∧ ∀ y ∈ l, y ≤ maxOf l := by
  induction l with
  | nil => exact absurd rfl h
  | cons x l ih =>
    cases l with
    | nil => simp [maxOf]
    | cons y l =>
      obtain ⟨a, b⟩ := ih (by simp)
      have e : maxOf (x :: y :: l) = max x (maxOf (y :: l)) := rfl
      rw [e]
      refine ⟨?_, fun z hz => ?_⟩
      · by_cases hx : maxOf (y :: l) ≤ x
        · rw [Int.max_eq_left hx]
          exact List.mem_cons_self
        · rw [Int.max_eq_right (by omega)]
          exact List.mem_cons_of_mem _ a
      · rcases List.mem_cons.mp hz with e | hz
        · subst e
          exact Int.le_max_left _ _
        · exact Int.le_trans (b z hz) (Int.le_max_right _ _)
def lfStep (ns : List Int) (found : List (Int × Int)) (low : Int) : List (Int × Int) :=
  if behL ns low = [] then found else
    match lastHi found with
    | none => found ++ [(low, maxOf (behL ns low))]
    | some m => if m < maxOf (behL ns low) then found ++ [(low, maxOf (behL ns low))] else found
def lawFar (ns : List Int) : List (Int × Int) := (srt ns).foldl (lfStep ns) []
theorem lfStep_len (ns : List Int) (found : List (Int × Int)) (low : Int) : (lfStep ns found low).length ≤ found.length + 1 := by
  unfold lfStep
  split
  · omega
  · split
    · simp
    · split
      · simp
      · omega
section
variable {P : Program} {w : World} {K : PySem.W.Frag} {mg : Str → Option Value} {base : Heap}
def R_lfar (ds es : List PyData) : Prop := ∃ ns : List Int, ns.length ≤ 40 ∧ ds = [intsD ns] ∧ es = (lawFar ns).map pairD
theorem eqv_nil {ds : List PyData} : PyData.eqv (.list ds) (.list []) = ds.isEmpty := by
  cases ds <;> simp [PyData.eqv, PyData.eqvAll]
theorem idx_spec {ns : List Int} {k : Int} (h : k ∈ ns) : ns[ns.idxOf k]? = some k ∧ ∀ m z, m < ns.idxOf k → ns[m]? = some z → z ≠ k := by
  induction ns with
  | nil => cases h
  | cons x ns ih =>
    by_cases e : x = k
    · subst e
      rw [List.idxOf_cons_self]
      exact ⟨rfl, fun m z hm => absurd hm (Nat.not_lt_zero _)⟩
    · have hk : k ∈ ns := (List.mem_cons.mp h).resolve_left (Ne.symm e)
      rw [show (x :: ns).idxOf k = ns.idxOf k + 1 by rw [List.idxOf_cons, beq_false_of_ne e]; rfl]
      obtain ⟨a, b⟩ := ih hk
      refine ⟨by simpa using a, fun m z hm hz => ?_⟩
      cases m with
      | zero =>
        simp at hz
        rw [← hz]
        exact e
      | succ m => exact b m z (by omega) (by simpa using hz)
theorem wideP {M : Addr → Prop} {p : Addr} {H : Hp} (hp : H p = none) : ∀ a, (M a ∨ a = p) → M a ∨ H a = none := fun a h => h.imp id fun e => by rw [e]; exact hp
theorem exM_of_exB {M : Addr → Prop} {p : Addr} {H H' : Hp} (e : ExB p H H') : ExM (fun a => M a ∨ a = p) H H' := fun a o h m _ => e a o (fun z => m (.inr z)) h
theorem unI_int {f : Int → Bool} (l : List Int) : ((l.map PyData.int).filter fun d => match d with | .int i => f i | _ => false) = (l.filter f).map PyData.int := by
  rw [List.filter_map]
  rfl
theorem lf_take {ns : List Int} {i : Nat} {low : Int} (h : (srt ns)[i]? = some low) : ((srt ns).take (i + 1)).foldl (lfStep ns) [] = lfStep ns (((srt ns).take i).foldl (lfStep ns) []) low := by
  rw [take_snoc h, List.foldl_append]
  rfl
theorem lf_len (ns l : List Int) : (l.foldl (lfStep ns) []).length ≤ l.length := by
  refine snoc_ind (P := fun l => (l.foldl (lfStep ns) []).length ≤ l.length) (Nat.le_refl 0) (fun l x ih => ?_) l
  rw [List.foldl_append, List.length_append]
  exact Nat.le_trans (lfStep_len _ _ _) (Nat.succ_le_succ ih)
theorem insU_len (x : Int) (l : List Int) : (insU x l).length ≤ l.length + 1 := by
  induction l with
  | nil => exact Nat.le_refl 1
  | cons y l ih =>
    unfold insU
    split
    · exact Nat.le_refl _
    · split
      · exact Nat.le_succ _
      · exact Nat.succ_le_succ ih
theorem srt_len (ns : List Int) : (srt ns).length ≤ ns.length := by
  induction ns with
  | nil => exact Nat.le_refl 0
  | cons x ns ih => exact Nat.le_trans (insU_len _ _) (Nat.succ_le_succ ih)
theorem lastHi_nil {l : List (Int × Int)} (h : lastHi l = none) : l = [] := by
  induction l with
  | nil => rfl
  | cons a l ih =>
    cases l with
    | nil => cases h
    | cons b l => cases ih h
/-- the last couple's heavier weight -/
theorem ixD_last {l : List (Int × Int)} {m : Int} (h : lastHi l = some m) : ∃ lo, ixD (pairsD l) (.int (-1)) = some (pairD (lo, m)) := by
  have hl : l ≠ [] := fun e => by
    rw [e] at h
    cases h
  obtain ⟨q, z, rfl⟩ : ∃ q z, l = q ++ [z] := ⟨_, _, (List.dropLast_concat_getLast hl).symm⟩
  rw [lastHi_snoc] at h
  cases h
  refine ⟨z.1, ?_⟩
  show atI (List.map pairD (q ++ [z])) (-1) = _
  rw [List.map_append]
  exact GV.atI_last _ _
theorem cl_law_far {f : Addr} {fd : FuncData} (F : At K mg "_law_far" s_law_far f fd) (nb : NoB mg) : Cl P w K mg base CX0 1 "_law_far" (FreshR K R_lfar) := by
  refine ⟨f, fd, _, F.fn.ok sc_law_far (fun vs H Q E h => ?_) (fun cdv A outer sh H vs Q E hr h => ⟨_, wB.ps, ?_⟩), F.gl, F.fn.kp, F.fn.binds fun _ _ _ _ _ _ us hl => match us, hl with | [_], _ => rfl⟩
  · obtain ⟨M, ds, es, al, r, ⟨ns, _, rfl, _⟩, _⟩ := h
    rw [r.length]
    rfl
  · obtain ⟨M, ds, es, al, r, ⟨ns, hl, rfl, rfl⟩, q⟩ := h
    obtain ⟨v, rfl, r1⟩ := rpa1 r
    have slen := srt_len ns
    -- found = []
    refine b_cons (cs_set (i := 1) sc_law_far.nd rfl (.inl rfl) (ce_fd al (fd_lst ad_nil (by simp)) fun p ws H1 hp x1 h1 rw1 => ?_))
    obtain ⟨⟩ := rw1
    have r1' : Rp K (fun a => M a ∨ a = p) H1 v (intsD ns) := (r1.wide (wideP hp)).mono (fun _ z => z) (.of x1)
    have al1 : Alive (fun a => M a ∨ a = p) H1 := fun a h => h.elim (al.mono x1 a) fun e => ⟨_, e ▸ h1⟩
    refine b_cons (s_for (t := .one 2) PassesOwn.never rfl (src_list (FD.pd (fd_sortedSet rfl rfl nb.sorted rfl nb.set (nm 0 r1') (by omega) (up_srt ns) (fun k => mem_srt ns k)))) (pg_name (i := 2) sc_law_far.nd rfl (.inr rfl)) al1
      (fun Hs i σ' H' => ∃ ws x2 x3, σ' = [some v, some (.ref p), x2, x3, none] ∧ ExB p Hs H' ∧ H' p = some (.lst ws) ∧ RpAll K (fun a => M a ∨ a = p) H' ws ((((srt ns).take i).foldl (lfStep ns) []).map pairD)) ?_ ?_ (fun _ _ => trivial) ?_ ?_)
    · intro Hs xs
      exact ⟨[], none, none, rfl, fun a o _ h => h, xs _ _ h1, .nil⟩
    · rintro Hs i σ' H' xs ⟨ws, x2, x3, rfl, ex, hw, _⟩
      refine ⟨exM_of_exB ex, fun a h => ?_⟩
      rcases h with h | e
      · obtain ⟨o, ho⟩ := (al.mono x1).mono xs a h
        exact ⟨o, ex a o (fun z => (al.fresh hp) (z ▸ h)) ho⟩
      · exact ⟨_, e ▸ hw⟩
    · rintro Hs i d σ' H' H2 σ2 xs hd ⟨ws, x2, x3, rfl, ex, hw, rws⟩ xh ⟨v2, rv2, rfl⟩
      rw [List.getElem?_map] at hd
      obtain ⟨low, hlow, rfl⟩ := Option.map_eq_some_iff.mp hd
      cases rv2
      have hin : low ∈ ns := (mem_srt ns low).mp (List.mem_of_getElem? hlow)
      obtain ⟨ix1, ix2⟩ := idx_spec hin
      have al2 : Alive (fun a => M a ∨ a = p) H2 := fun a h => by
        rcases h with h | e
        · obtain ⟨o, ho⟩ := (al.mono x1).mono xs a h
          exact ⟨o, xh _ _ (ex a o (fun z => (al.fresh hp) (z ▸ h)) ho)⟩
        · exact ⟨_, e ▸ xh _ _ hw⟩
      have rr : Rp K (fun a => M a ∨ a = p) H2 v (intsD ns) := ((r1'.mono (fun _ z => z) (.of xs)).mono (fun _ z => z) (exM_of_exB ex)).mono (fun _ z => z) (.of xh)
      rw [lf_take hlow]
      have flen := lf_len ns ((srt ns).take i)
      rw [List.length_take] at flen
      generalize hF : ((srt ns).take i).foldl (lfStep ns) [] = F at rws flen ⊢
      -- behind = [...]
      have hcut : cutD (ns.map PyData.int) (some (((ns.idxOf low : Nat) : Int) + 1)) none = (ns.drop (ns.idxOf low + 1)).map PyData.int := by
        rw [show ((ns.idxOf low : Nat) : Int) + 1 = ((ns.idxOf low + 1 : Nat) : Int) by omega, cutD_drop, ← List.map_drop]
      refine b_cons (s_setLc (i := 3) (t := .one 4) (own := [("weight", 4)]) rfl sc_law_far.nd (src_list (FD.pd (fd_slice (nm 0 rr) (od_some (pd_add (pd_index (nm 0 rr) (nm 2 (.int low)) ix1 ix2) pd_int)) od_none))) (blkOk_by (N := n_law_far) (sc := defScope s_law_far) (by decide +kernel)) (fun _ _ _ _ _ => pg_name (i := 4) sc_law_far.nd rfl (.inl rfl)) (fun _ _ => trivial) ?_ (fun d => match d with | .int i => decide (low < i) | _ => false) id ?_ ?_ al2 rfl rfl rfl fun p3 ws3 H3 hp3 x3' h3 r3 => ?_)
      · rintro M H d σ' ⟨v, _, rfl⟩
        rfl
      · rw [hcut, List.length_map, List.length_drop]
        omega
      · rintro s0 H0 C cl fp M' H'' d σ' hM lift hd ⟨v, rv, rfl⟩
        rw [hcut] at hd
        obtain ⟨z, _, rfl⟩ := List.mem_map.mp hd
        exact ⟨tsd_one (td_gt (nm 4 rv) (nm 2 (.int low))), fun _ => nm 4 rv⟩
      rw [hcut, unI_int, List.map_id] at r3
      have al3 := al2.mono x3'
      have hw3 := x3' _ _ (xh _ _ hw)
      have rF : ∀ {H4}, Evl.Ex H3 H4 → Rp K M0 H4 (.ref p) (pairsD F) := fun x => .lst (fun z => z) (.inl (x _ _ hw3)) ((((rws.mono (fun _ z => z) (.of xh)).mono (fun _ z => z) (.of x3')).mono (fun _ z => z) (.of x)).m0)
      have rb : ∀ {H4}, Evl.Ex H3 H4 → Rp K M0 H4 (.ref p3) (intsD (behL ns low)) := fun x => .lst (fun z => z) (.inl (x _ _ h3)) ((r3.mono (fun _ z => z) (.of x)).m0)
      have rbM : ∀ {H4}, Evl.Ex H3 H4 → Rp K (fun a => M a ∨ a = p) H4 (.ref p3) (intsD (behL ns low)) := fun x => .lst (al2.fresh hp3) (.inl (x _ _ h3)) (r3.mono (fun _ z => z) (.of x))
      have x03 : ExB p Hs H3 := (ex.trans (.of xh)).trans (.of x3')
      have shF : SeqAt.shaped (pairsD F) = true := shaped1 fun d hd => by
        obtain ⟨k, _, rfl⟩ := List.mem_map.mp hd
        trivial
      -- if behind != [] and (..)
      refine b_cons (s_if (k := !(behL ns low).isEmpty && (F.isEmpty || match lastHi F with | none => false | some m => decide (m < maxOf (behL ns low)))) alive0 (WD.td (wd_and (TD.is (td_ne hr.units (nm 3 (rb (Evl.Ex.refl _))) (FD.pd (fd_lst ad_nil (by simp))) (shapedI _) rfl) ?_) fun hb => wd_and1 (WD.td (wd_or (TD.is (td_eq hr.units (nm 1 (rF (Evl.Ex.refl _))) (FD.pd (fd_lst ad_nil (by simp))) shF rfl) ?_) fun hF2 => wd_or1 ?_)))) (fun k H4 x4 => ?_) (fun k H4 x4 => ?_))
      · rw [eqv_nil]
        simp
      · rw [eqv_nil]
        simp
      · have hne : behL ns low ≠ [] := fun e => by simp [e] at hb
        obtain ⟨m1, m2⟩ := maxOf_mem hne
        cases hm : lastHi F with
        | none =>
          rw [lastHi_nil hm] at hF2
          cases hF2
        | some m =>
          obtain ⟨lo, hlo⟩ := ixD_last hm
          exact td_gt (pd_callB (cr_max rfl) rfl nb.max PyProof.Rows.boot_max (ad_cons (nm 3 (rb (Evl.Ex.refl _))) ad_nil) (rn_max m1 m2)) (pd_ix (pd_ix (nm 1 (rF (Evl.Ex.refl _))) (pd_neg pd_int) hlo) pd_int rfl)
      · have hne : behL ns low ≠ [] := fun e => by simp [e] at k
        obtain ⟨m1, m2⟩ := maxOf_mem hne
        have step : lfStep ns F low = F ++ [(low, maxOf (behL ns low))] := by
          unfold lfStep
          rw [if_neg hne]
          cases hm : lastHi F with
          | none => rfl
          | some m =>
            rw [hm] at k
            simp only [Bool.and_eq_true, Bool.or_eq_true, decide_eq_true_eq] at k
            rcases k.2 with k2 | k2
            · rw [List.isEmpty_iff.mp k2] at hm
              cases hm
            · exact if_pos k2
        rw [step]
        refine b_cons (cs_expr (ce_append (ce_name (i := 1) rfl (.inl rfl) rfl ⟨p, ws, rfl, x4 _ _ hw3, ce_pd (al3.mono x4) (pd_tup (ad_cons (nm 2 (.int low)) (ad_cons (pd_callB (cr_max rfl) rfl nb.max PyProof.Rows.boot_max (ad_cons (nm 3 (rbM x4)) ad_nil) (rn_max m1 m2)) ad_nil)) (by simp)) fun y H5 x5 r5 => ⟨ws, x5 _ _ (x4 _ _ hw3), ?_, ?_⟩⟩)))
        · rw [rws.length, List.length_map]
          omega
        · have eD : ExM (fun a => M a ∨ a = p) H5 (upd H5 p (.lst (ws ++ [y]))) := fun a o h nm _ => by
            rw [upd_ne (fun e => nm (.inr e))]
            exact h
          refine b_nil (b_nil ⟨_, _, _, rfl, ((x03.trans (.of x4)).trans (.of x5)).trans .upd, upd_same, ?_⟩)
          rw [List.map_append]
          exact (((rws.mono (fun _ z => z) (.of xh)).mono (fun _ z => z) (.of ((x3'.trans x4).trans x5))).append (.cons r5 .nil)).mono (fun _ z => z) eD
      · have step : lfStep ns F low = F := by
          unfold lfStep
          split
          · rfl
          · rename_i hne
            have e1 : (behL ns low).isEmpty = false := by
              cases h : behL ns low with
              | nil => exact absurd h hne
              | cons _ _ => rfl
            rw [e1] at k
            cases hm : lastHi F with
            | none =>
              rw [lastHi_nil hm] at k
              cases k
            | some m =>
              rw [hm] at k
              simp only [Bool.not_false, Bool.true_and, Bool.or_eq_false_iff, decide_eq_false_iff_not] at k
              exact if_neg k.2
        rw [step]
        exact b_nil (b_nil ⟨ws, _, _, rfl, x03.trans (.of x4), x4 _ _ hw3, ((rws.mono (fun _ z => z) (.of xh)).mono (fun _ z => z) (.of (x3'.trans x4)))⟩)
    · rintro Hs σ' H' xs ⟨ws, x2, x3, rfl, ex, hw, rws⟩
      refine b_cons (cs_ret (ce_name (i := 1) rfl (.inl rfl) rfl (q p ws H' hp ?_ hw ?_)))
      · exact fun a o h => ex a o (ne_of_none h hp) (xs _ _ (x1 _ _ h))
      · rw [List.length_map, List.take_length] at rws
        exact rws.mono (fun _ z => .inl z) (ExM.refl _)
end
end BK

namespace BK
/-! ### far couples, said once more: no other rising couple covers them -/
def Ris (l : List Int) (p : Int × Int) : Prop := p.1 < p.2 ∧ [p.1, p.2].Sublist l
def Far (l : List Int) (p : Int × Int) : Prop := Ris l p ∧ ∀ q, Ris l q → cov q p = true → q = p
theorem cov_iff {p q : Int × Int} : cov p q = true ↔ p.1 ≤ q.1 ∧ q.2 ≤ p.2 := by
  unfold cov
  rw [Bool.and_eq_true, decide_eq_true_eq, decide_eq_true_eq]
theorem cov_trans {p q r : Int × Int} (h1 : cov p q = true) (h2 : cov q r = true) : cov p r = true := by
  rw [cov_iff] at *
  omega
theorem cov_anti {p q : Int × Int} (h1 : cov p q = true) (h2 : cov q p = true) : p = q := by
  rw [cov_iff] at *
  exact Prod.ext (by omega) (by omega)
theorem sub_snoc {a x y : Int} {l : List Int} : [a, x].Sublist (l ++ [y]) ↔ [a, x].Sublist l ∨ (x = y ∧ a ∈ l) := by
  constructor
  · intro h
    have h2 := List.reverse_sublist.mpr h
    rw [List.reverse_append] at h2
    simp only [List.reverse_cons, List.reverse_nil, List.nil_append, List.singleton_append, List.cons_append] at h2
    cases h2 with
    | cons _ h3 =>
      left
      have h4 := List.reverse_sublist.mpr h3
      simpa using h4
    | cons_cons _ h3 =>
      right
      refine ⟨rfl, ?_⟩
      have := h3.subset (List.mem_singleton.mpr rfl)
      simpa using this
  · rintro (h | ⟨rfl, h⟩)
    · exact h.trans (List.sublist_append_left _ _)
    · have h1 : [a].Sublist l := List.singleton_sublist.mpr h
      exact h1.append (List.Sublist.refl [x])
theorem ris_snoc {l : List Int} {y : Int} {p : Int × Int} : Ris (l ++ [y]) p ↔ Ris l p ∨ (p.2 = y ∧ p.1 ∈ l ∧ p.1 < y) := by
  unfold Ris
  rw [sub_snoc]
  constructor
  · rintro ⟨h1, h2 | ⟨h2, h3⟩⟩
    · exact .inl ⟨h1, h2⟩
    · exact .inr ⟨h2, h3, h2 ▸ h1⟩
  · rintro (⟨h1, h2⟩ | ⟨h1, h2, h3⟩)
    · exact ⟨h1, .inl h2⟩
    · exact ⟨h1 ▸ h3, .inr ⟨h1, h2⟩⟩
theorem ris_mem {l : List Int} {p : Int × Int} (h : Ris l p) : p.1 ∈ l := h.2.subset List.mem_cons_self
theorem fold_min (r : List Int) (n : Int) : (r.foldl min n ≤ n ∧ ∀ a ∈ r, r.foldl min n ≤ a) ∧ (r.foldl min n = n ∨ r.foldl min n ∈ r) := by
  induction r generalizing n with
  | nil => exact ⟨⟨Int.le_refl _, fun a h => by cases h⟩, .inl rfl⟩
  | cons y r ih =>
    obtain ⟨⟨h1, h2⟩, h3⟩ := ih (min n y)
    refine ⟨⟨Int.le_trans h1 (Int.min_le_left _ _), fun a ha => ?_⟩, ?_⟩
    · rcases List.mem_cons.mp ha with e | ha
      · subst e
        exact Int.le_trans h1 (Int.min_le_right _ _)
      · exact h2 a ha
    · show (r.foldl min (min n y) = n ∨ r.foldl min (min n y) ∈ y :: r)
      rcases h3 with e | h3
      · by_cases hny : n ≤ y
        · left
          rw [e, Int.min_eq_left hny]
        · right
          rw [e, Int.min_eq_right (by omega)]
          exact List.mem_cons_self
      · exact .inr (List.mem_cons_of_mem _ h3)
theorem minO_le (x : Int) (l : List Int) : ∀ a ∈ l, minO x l ≤ a := by
  cases l with
  | nil => exact fun a h => by cases h
  | cons n r =>
    intro a ha
    obtain ⟨⟨h1, h2⟩, _⟩ := fold_min r n
    rcases List.mem_cons.mp ha with e | ha
    · subst e
      exact h1
    · exact h2 a ha
theorem minO_mem (x : Int) (l : List Int) : minO x l ∈ l ∨ (l = [] ∧ minO x l = x) := by
  cases l with
  | nil => exact .inr ⟨rfl, rfl⟩
  | cons n r =>
    left
    rcases (fold_min r n).2 with e | h
    · show r.foldl min n ∈ n :: r
      rw [e]
      exact List.mem_cons_self
    · exact List.mem_cons_of_mem _ h
structure FarInv (l : List Int) (fs : List (Int × Int)) : Prop where
  mem : ∀ p, p ∈ fs ↔ Far l p
  cover : ∀ q, Ris l q → ∃ c ∈ fs, cov c q = true
  up : fs.Pairwise fun p q => p.1 < q.1
theorem farInv_step {l : List Int} {fs : List (Int × Int)} {x m : Int} (ih : FarInv l fs) (hle : ∀ a ∈ l, m ≤ a) (hmem : m ∈ l ∨ m = x) : FarInv (l ++ [x]) (cpl fs m x) := by
  have anyC : anyCov fs (m, x) = true ↔ ∃ c ∈ fs, cov c (m, x) = true := List.any_eq_true
  by_cases h1 : x ≤ m
  · -- nothing new
    have same : ∀ q, Ris (l ++ [x]) q ↔ Ris l q := fun q => by
      rw [ris_snoc]
      refine ⟨fun h => h.elim id fun ⟨_, h2, h3⟩ => ?_, .inl⟩
      have := hle _ h2
      omega
    have e : cpl fs m x = fs := by
      unfold cpl
      rw [decide_eq_true h1]
      rfl
    rw [e]
    refine ⟨fun p => (ih.mem p).trans ?_, fun q h => ih.cover q ((same q).mp h), ih.up⟩
    unfold Far
    rw [same]
    exact ⟨fun h => ⟨h.1, fun q hq => h.2 q ((same q).mp hq)⟩, fun h => ⟨h.1, fun q hq => h.2 q ((same q).mpr hq)⟩⟩
  · have hm : m ∈ l := hmem.resolve_right (by omega)
    have newc : ∀ q : Int × Int, q.2 = x → q.1 ∈ l → cov (m, x) q = true := fun q e h => by
      rw [cov_iff]
      exact ⟨hle _ h, by rw [e]; exact Int.le_refl _⟩
    by_cases h2 : anyCov fs (m, x) = true
    · -- covered
      obtain ⟨c, hc, cc⟩ := anyC.mp h2
      have e : cpl fs m x = fs := by
        unfold cpl
        rw [h2, Bool.or_true]
        rfl
      have rc := ((ih.mem c).mp hc).1
      rw [e]
      refine ⟨fun p => (ih.mem p).trans ⟨fun h => ⟨ris_snoc.mpr (.inl h.1), fun q hq hcov => ?_⟩, fun h => ?_⟩, fun q hq => ?_, ih.up⟩
      · rcases ris_snoc.mp hq with hq | ⟨a, b, _⟩
        · exact h.2 q hq hcov
        · have c1 := cov_trans cc (newc q a b)
          have c2 := h.2 c rc (cov_trans c1 hcov)
          rw [← c2] at hcov ⊢
          exact cov_anti hcov c1
      · have hp : Ris l p := by
          rcases ris_snoc.mp h.1 with hq | ⟨a, b, _⟩
          · exact hq
          · have := h.2 c (ris_snoc.mpr (.inl rc)) (cov_trans cc (newc p a b))
            rw [← this]
            exact rc
        exact ⟨hp, fun q hq => h.2 q (ris_snoc.mpr (.inl hq))⟩
      · rcases ris_snoc.mp hq with hq | ⟨a, b, _⟩
        · exact ih.cover q hq
        · exact ⟨c, hc, cov_trans cc (newc q a b)⟩
    · have noc : ∀ q, Ris l q → cov q (m, x) = true → False := fun q hq hcov => by
        obtain ⟨c, hc, cc⟩ := ih.cover q hq
        exact h2 (anyC.mpr ⟨c, hc, cov_trans cc hcov⟩)
      have e : cpl fs m x = (m, x) :: fs.filter fun c => decide (x < c.2) := by
        unfold cpl
        rw [if_neg]
        rw [Bool.or_eq_true]
        exact fun h => h.elim (fun h => h1 (of_decide_eq_true h)) h2
      have rn : Ris (l ++ [x]) (m, x) := ris_snoc.mpr (.inr ⟨rfl, hm, by show m < x; omega⟩)
      rw [e]
      refine ⟨fun p => ?_, fun q hq => ?_, List.pairwise_cons.mpr ⟨fun c hc => ?_, ih.up.filter _⟩⟩
      · rw [List.mem_cons, List.mem_filter, ih.mem, decide_eq_true_eq]
        refine ⟨fun h => ?_, fun h => ?_⟩
        · rcases h with rfl | ⟨h, hx⟩
          · refine ⟨rn, fun q hq hcov => ?_⟩
            rcases ris_snoc.mp hq with hq | ⟨a, b, _⟩
            · exact (noc q hq hcov).elim
            · exact cov_anti hcov (newc q a b)
          · refine ⟨ris_snoc.mpr (.inl h.1), fun q hq hcov => ?_⟩
            rcases ris_snoc.mp hq with hq | ⟨a, b, _⟩
            · exact h.2 q hq hcov
            · have := (cov_iff.mp hcov).2
              omega
        · rcases ris_snoc.mp h.1 with hq | ⟨a, b, _⟩
          · by_cases hx : x < p.2
            · exact .inr ⟨⟨hq, fun q hq => h.2 q (ris_snoc.mpr (.inl hq))⟩, hx⟩
            · left
              refine (h.2 (m, x) rn (cov_iff.mpr ⟨hle _ (ris_mem hq), ?_⟩)).symm
              show p.2 ≤ x
              omega
          · exact .inl (h.2 (m, x) rn (newc p a b)).symm
      · rcases ris_snoc.mp hq with hq | ⟨a, b, _⟩
        · obtain ⟨c, hc, cc⟩ := ih.cover q hq
          by_cases hx : x < c.2
          · exact ⟨c, List.mem_cons_of_mem _ (List.mem_filter.mpr ⟨hc, decide_eq_true hx⟩), cc⟩
          · refine ⟨(m, x), List.mem_cons_self, cov_trans (cov_iff.mpr ⟨hle _ (ris_mem ((ih.mem c).mp hc).1), ?_⟩) cc⟩
            show c.2 ≤ x
            omega
        · exact ⟨(m, x), List.mem_cons_self, newc q a b⟩
      · obtain ⟨hc, hx⟩ := List.mem_filter.mp hc
        have hx := of_decide_eq_true hx
        have rc := ((ih.mem c).mp hc).1
        have h3 := hle _ (ris_mem rc)
        show m < c.1
        by_cases e : m = c.1
        · exact (noc c rc (cov_iff.mpr ⟨by show c.1 ≤ m; omega, by show x ≤ c.2; omega⟩)).elim
        · omega
theorem farInv (l : List Int) : FarInv l (farL l) := by
  induction l using GV.snoc_ind with
  | h0 =>
    have no : ∀ q, ¬ Ris [] q := fun q h => by
      have := ris_mem h
      cases this
    exact ⟨fun p => ⟨(fun h => absurd h List.not_mem_nil), fun h => (no p h.1).elim⟩, fun q h => (no q h).elim, List.Pairwise.nil⟩
  | h1 l x ih =>
    rw [farL_snoc]
    exact farInv_step ih (minO_le x l) ((minO_mem x l).imp id fun h => h.2)
/-! ### .. and the law's way to them -/
theorem sub_idx {ns : List Int} {a x : Int} (h : a ∈ ns) : [a, x].Sublist ns ↔ x ∈ ns.drop (ns.idxOf a + 1) := by
  induction ns with
  | nil => cases h
  | cons y t ih =>
    by_cases e : y = a
    · subst e
      rw [List.idxOf_cons_self]
      show _ ↔ x ∈ t
      constructor
      · intro h
        cases h with
        | cons _ h => exact h.subset (by simp)
        | cons_cons _ h => exact List.singleton_sublist.mp h
      · exact fun h => (List.singleton_sublist.mpr h).cons_cons _
    · rw [show (y :: t).idxOf a = t.idxOf a + 1 by rw [List.idxOf_cons, beq_false_of_ne e]; rfl]
      have ha : a ∈ t := (List.mem_cons.mp h).resolve_left (Ne.symm e)
      rw [show (y :: t).drop (t.idxOf a + 1 + 1) = t.drop (t.idxOf a + 1) from rfl, ← ih ha]
      constructor
      · intro h
        cases h with
        | cons _ h => exact h
        | cons_cons _ h => exact absurd rfl e
      · exact fun h => h.cons _
theorem ris_iff {ns : List Int} {p : Int × Int} : Ris ns p ↔ p.1 ∈ ns ∧ p.2 ∈ behL ns p.1 := by
  unfold Ris behL
  rw [List.mem_filter, decide_eq_true_eq]
  constructor
  · rintro ⟨h1, h2⟩
    have ha : p.1 ∈ ns := h2.subset List.mem_cons_self
    exact ⟨ha, (sub_idx ha).mp h2, h1⟩
  · rintro ⟨h1, h2, h3⟩
    exact ⟨h3, (sub_idx h1).mpr h2⟩
/-- a couple that the law notes -/
def Rec (ns done : List Int) (p : Int × Int) : Prop := p.1 ∈ done ∧ behL ns p.1 ≠ [] ∧ p.2 = maxOf (behL ns p.1) ∧ ∀ a ∈ done, a < p.1 → ∀ y ∈ behL ns a, y < p.2
theorem far_rec {ns done : List Int} (hd : ∀ k, k ∈ done ↔ k ∈ ns) (p : Int × Int) : Far ns p ↔ Rec ns done p := by
  constructor
  · rintro ⟨h1, h2⟩
    obtain ⟨m1, m2⟩ := ris_iff.mp h1
    have hne : behL ns p.1 ≠ [] := List.ne_nil_of_mem m2
    obtain ⟨x1, x2⟩ := maxOf_mem hne
    have e : p.2 = maxOf (behL ns p.1) := by
      have := h2 (p.1, maxOf (behL ns p.1)) (ris_iff.mpr ⟨m1, x1⟩) (cov_iff.mpr ⟨Int.le_refl _, x2 _ m2⟩)
      exact (congrArg Prod.snd this).symm
    refine ⟨(hd _).mpr m1, hne, e, fun a ha hlt y hy => ?_⟩
    by_cases hyp : y < p.2
    · exact hyp
    · have := h2 (a, y) (ris_iff.mpr ⟨(hd a).mp ha, hy⟩) (cov_iff.mpr ⟨by show a ≤ p.1; omega, by show p.2 ≤ y; omega⟩)
      have := congrArg Prod.fst this
      have : a = p.1 := this
      omega
  · rintro ⟨h1, h2, h3, h4⟩
    obtain ⟨x1, x2⟩ := maxOf_mem h2
    refine ⟨ris_iff.mpr ⟨(hd _).mp h1, h3 ▸ x1⟩, fun q hq hcov => ?_⟩
    obtain ⟨c1, c2⟩ := cov_iff.mp hcov
    obtain ⟨m1, m2⟩ := ris_iff.mp hq
    by_cases e : q.1 = p.1
    · have := x2 q.2 (e ▸ m2)
      exact Prod.ext e (by omega)
    · have := h4 q.1 ((hd _).mpr m1) (by omega) q.2 m2
      omega
structure LawInv (ns done : List Int) (fs : List (Int × Int)) : Prop where
  mem : ∀ p, p ∈ fs ↔ Rec ns done p
  up : fs.Pairwise fun p q => p.1 < q.1
  last : ∀ m, lastHi fs = some m → ∀ a ∈ done, ∀ y ∈ behL ns a, y ≤ m
  lastM : ∀ m, lastHi fs = some m → ∃ a ∈ done, m ∈ behL ns a
  none_ : fs = [] → ∀ a ∈ done, behL ns a = []
theorem lawInv_step {ns done : List Int} {fs : List (Int × Int)} {low : Int} (ih : LawInv ns done fs) (hlow : ∀ a ∈ done, a < low) : LawInv ns (done ++ [low]) (lfStep ns fs low) := by
  have old : ∀ p : Int × Int, p.1 ∈ done → (Rec ns (done ++ [low]) p ↔ Rec ns done p) := fun p hp => by
    have := hlow _ hp
    unfold Rec
    constructor
    · rintro ⟨_, h2, h3, h4⟩
      exact ⟨hp, h2, h3, fun a ha => h4 a (List.mem_append_left _ ha)⟩
    · rintro ⟨h1, h2, h3, h4⟩
      refine ⟨List.mem_append_left _ h1, h2, h3, fun a ha hlt => ?_⟩
      rcases List.mem_append.mp ha with ha | ha
      · exact h4 a ha hlt
      · rw [List.mem_singleton.mp ha] at hlt
        omega
  have notin : low ∉ done := fun h => Int.lt_irrefl _ (hlow _ h)
  -- whether the new one is noted
  have split : ∀ {fs' : List (Int × Int)}, (∀ p, p ∈ fs' ↔ p ∈ fs ∨ (p.1 = low ∧ Rec ns (done ++ [low]) p)) → ∀ p, p ∈ fs' ↔ Rec ns (done ++ [low]) p := fun h p => by
    rw [h p, ih.mem p]
    constructor
    · rintro (h | ⟨_, h⟩)
      · exact (old p h.1).mpr h
      · exact h
    · intro h
      rcases List.mem_append.mp h.1 with h1 | h1
      · exact .inl ((old p h1).mp h)
      · exact .inr ⟨List.mem_singleton.mp h1, h⟩
  unfold lfStep
  by_cases hb : behL ns low = []
  · rw [if_pos hb]
    refine ⟨split fun p => ⟨.inl, fun h => h.elim id fun ⟨e, h⟩ => ?_⟩, ih.up, fun m hm a ha y hy => ?_, fun m hm => ?_, fun h a ha => ?_⟩
    · exact (h.2.1 (e ▸ hb)).elim
    · rcases List.mem_append.mp ha with ha | ha
      · exact ih.last m hm a ha y hy
      · rw [List.mem_singleton.mp ha, hb] at hy
        cases hy
    · obtain ⟨a, ha, h⟩ := ih.lastM m hm
      exact ⟨a, List.mem_append_left _ ha, h⟩
    · rcases List.mem_append.mp ha with ha | ha
      · exact ih.none_ h a ha
      · rw [List.mem_singleton.mp ha]
        exact hb
  · rw [if_neg hb]
    obtain ⟨x1, x2⟩ := maxOf_mem hb
    -- noting it
    have note : (∀ a ∈ done, ∀ y ∈ behL ns a, y < maxOf (behL ns low)) → LawInv ns (done ++ [low]) (fs ++ [(low, maxOf (behL ns low))]) := fun hn => by
      have rc : Rec ns (done ++ [low]) (low, maxOf (behL ns low)) := ⟨List.mem_append_right _ (List.mem_singleton.mpr rfl), hb, rfl, fun a ha hlt y hy => by
        rcases List.mem_append.mp ha with ha | ha
        · exact hn a ha y hy
        · rw [List.mem_singleton.mp ha] at hlt
          exact absurd hlt (Int.lt_irrefl _)⟩
      refine ⟨split fun p => ?_, ?_, fun m hm a ha y hy => ?_, fun m hm => ?_, fun h => ?_⟩
      · rw [List.mem_append, List.mem_singleton]
        refine ⟨fun h => h.imp id ?_, fun h => h.imp id ?_⟩
        · rintro rfl
          exact ⟨rfl, rc⟩
        · rintro ⟨e, h⟩
          exact Prod.ext e (by rw [h.2.2.1, e])
      · refine List.pairwise_append.mpr ⟨ih.up, List.pairwise_singleton _ _, fun p hp q hq => ?_⟩
        rw [List.mem_singleton.mp hq]
        exact hlow _ ((ih.mem p).mp hp).1
      · rw [lastHi_snoc] at hm
        cases hm
        rcases List.mem_append.mp ha with ha | ha
        · exact Int.le_of_lt (hn a ha y hy)
        · rw [List.mem_singleton.mp ha] at hy
          exact x2 y hy
      · rw [lastHi_snoc] at hm
        cases hm
        exact ⟨low, List.mem_append_right _ (List.mem_singleton.mpr rfl), x1⟩
      · simp at h
    cases hm : lastHi fs with
    | none =>
      refine note fun a ha y hy => ?_
      rw [ih.none_ (lastHi_nil hm) a ha] at hy
      cases hy
    | some m =>
      show LawInv ns (done ++ [low]) (if m < maxOf (behL ns low) then fs ++ [(low, maxOf (behL ns low))] else fs)
      by_cases hlt : m < maxOf (behL ns low)
      · rw [if_pos hlt]
        refine note fun a ha y hy => ?_
        have := ih.last m hm a ha y hy
        omega
      · rw [if_neg hlt]
        obtain ⟨a0, ha0, hm0⟩ := ih.lastM m hm
        refine ⟨split fun p => ⟨.inl, fun h => h.elim id fun ⟨e, h⟩ => ?_⟩, ih.up, fun m' hm' a ha y hy => ?_, fun m' hm' => ?_, fun h => ?_⟩
        · have h5 := h.2.2.2 a0 (List.mem_append_left _ ha0) (e ▸ hlow _ ha0) m hm0
          have h6 := h.2.2.1
          rw [e] at h6
          omega
        · rw [hm] at hm'
          cases hm'
          rcases List.mem_append.mp ha with ha | ha
          · exact ih.last m hm a ha y hy
          · rw [List.mem_singleton.mp ha] at hy
            have := x2 y hy
            omega
        · rw [hm] at hm'
          cases hm'
          exact ⟨a0, List.mem_append_left _ ha0, hm0⟩
        · rw [h] at hm
          cases hm
theorem lawInv (ns : List Int) : ∀ done : List Int, done.Pairwise (· < ·) → LawInv ns done (done.foldl (lfStep ns) []) := by
  intro done
  induction done using GV.snoc_ind with
  | h0 => exact fun _ => ⟨fun p => ⟨fun h => absurd h List.not_mem_nil, fun h => absurd h.1 List.not_mem_nil⟩, List.Pairwise.nil, (fun m hm => by cases hm), (fun m hm => by cases hm), fun _ a ha => absurd ha List.not_mem_nil⟩
  | h1 l x ih =>
    intro h
    obtain ⟨h1, _, h3⟩ := List.pairwise_append.mp h
    rw [List.foldl_append]
    exact lawInv_step (ih h1) fun a ha => h3 a ha x (List.mem_singleton.mpr rfl)
theorem sorted_ext {l1 l2 : List (Int × Int)} (h1 : l1.Pairwise fun p q => p.1 < q.1) (h2 : l2.Pairwise fun p q => p.1 < q.1) (h : ∀ p, p ∈ l1 ↔ p ∈ l2) : l1 = l2 := by
  induction l1 generalizing l2 with
  | nil =>
    cases l2 with
    | nil => rfl
    | cons p r => exact absurd ((h p).mpr List.mem_cons_self) List.not_mem_nil
  | cons p r ih =>
    cases l2 with
    | nil => exact absurd ((h p).mp List.mem_cons_self) List.not_mem_nil
    | cons p' r' =>
      obtain ⟨a1, a2⟩ := List.pairwise_cons.mp h1
      obtain ⟨b1, b2⟩ := List.pairwise_cons.mp h2
      have e : p = p' := by
        rcases List.mem_cons.mp ((h p).mp List.mem_cons_self) with e | e
        · exact e
        · rcases List.mem_cons.mp ((h p').mpr List.mem_cons_self) with e2 | e2
          · exact e2.symm
          · have := b1 p e
            have := a1 p' e2
            omega
      subst e
      rw [ih a2 b2 fun q => ?_]
      constructor
      · intro hq
        rcases List.mem_cons.mp ((h q).mp (List.mem_cons_of_mem _ hq)) with e | e
        · subst e
          exact absurd (a1 _ hq) (Int.lt_irrefl _)
        · exact e
      · intro hq
        rcases List.mem_cons.mp ((h q).mpr (List.mem_cons_of_mem _ hq)) with e | e
        · subst e
          exact absurd (b1 _ hq) (Int.lt_irrefl _)
        · exact e
theorem lawFar_eq (ns : List Int) : lawFar ns = farL ns := by
  have h1 := lawInv ns (srt ns) (up_srt ns)
  have h2 := farInv ns
  exact sorted_ext h1.up h2.up fun p => (h1.mem p).trans ((far_rec (mem_srt ns) p).symm.trans (h2.mem p).symm)
end BK

namespace BK
open PySem PySem.Spec PyProof.Rows L2 GV
/-! ### what _law_told makes of a call -/
/-- which clause takes which error -/
structure Exm3 (K : PySem.W.Frag) (CW CT CN : Addr) : Prop where
  ww : PySem.W.exmOne K (.ref CW) (.ref CW) = some true
  tw : PySem.W.exmOne K (.ref CT) (.ref CW) = some false
  tt : PySem.W.exmOne K (.ref CT) (.ref CT) = some true
  nw : PySem.W.exmOne K (.ref CN) (.ref CW) = some false
  nt : PySem.W.exmOne K (.ref CN) (.ref CT) = some false
  nn : PySem.W.exmOne K (.ref CN) (.ref CN) = some true
structure Told (K : PySem.W.Frag) (mg : Str → Option Value) (CW CT CN : Addr) : Prop where
  gW : mg "InvalidWeight" = some (.ref CW)
  gT : mg "TooMany" = some (.ref CT)
  gN : mg "NothingLaid" = some (.ref CN)
  ex : Exm3 K CW CT CN
  xW : XfC K CW
  xT : XfC K CT
  nW : PySem.W.findIn K (.ref CW) "weight" = some none
  nM : PySem.W.findIn K (.ref CT) "most" = some none
  nG : PySem.W.findIn K (.ref CT) "given" = some none
/-- a new tuple of these -/
def NewT (H : Hp) (vs : List V) (Q : VK) : Prop := ∀ p H2, H p = none → Evl.Ex H H2 → H2 p = some (.tup vs) → Q (.ref p) H2
def ToldV (Q : VK) : VK := fun v H1 => NewT H1 [.str "value", v] Q
def ToldX (CW CT CN : Addr) (Q : VK) : XK := fun cls d H1 =>
  (cls = .ref CW ∧ ∃ dd fs v, d = some dd ∧ H1 dd = some (.xd fs) ∧ fs.lookup ("weight" : Str) = some v ∧ NewT H1 [.str "InvalidWeight", v] Q) ∨
  (cls = .ref CT ∧ ∃ dd fs v u, d = some dd ∧ H1 dd = some (.xd fs) ∧ fs.lookup ("most" : Str) = some v ∧ fs.lookup ("given" : Str) = some u ∧ NewT H1 [.str "TooMany", v, u] Q) ∨
  (cls = .ref CN ∧ NewT H1 [.str "NothingLaid"] Q)
def TTt (CW CT CN : Addr) : (XK → Hp → VK → Prop) → Hp → VK → Prop := fun tl H Q => tl (ToldX CW CT CN Q) H (ToldV Q)
theorem slot1 {σ : L2.St} {a : Addr} (h : 1 < σ.length) : (σ.set 1 (some (V.ref a)))[1]? = some (some (V.ref a)) := by
  rw [List.getElem?_set_self h]
theorem told_gives {X : Cx} {g CW CT CN : Addr} {cdg : Value} {q : Str} (T : Told X.K X.mg CW CT CN) : LamX.GivesTo X n_law_told "_law_told" (defScope s_law_told) g cdg (defBody s_law_told) "call" q (TTt CW CT CN) := by
  intro f c' s H Q tl hcall hco htt
  refine ⟨_, wB.ps, ?_⟩
  refine b_cons (s_try (Wout := fun _ _ _ _ => False) rfl rfl sc_law_told.nd (fun u s' ⟨_, _, _, _, _, _, _, _, _, _, _, _, _, _, _, _, z⟩ => z.elim)
    (.as_ (i := 1) ⟨rfl, by decide, .inl T.gW⟩ rfl rfl (fun a oe cls d pn hz hd => psW hz hd) (.as_ (i := 1) ⟨rfl, by decide, .inl T.gT⟩ rfl rfl (fun a oe cls d pn hz hd => psW hz hd) (.one ⟨rfl, by decide, .inl T.gN⟩ (fun a oe cls d pn hz hd => psW hz hd) .nil)))
    fun pn xe tk => ?_)
  refine b_cons (cs_ret (ce_tup (ca_cons (ce_str (ca_cons ⟨_, PE.weak (hcall _ pn xe (ToldX CW CT CN Q) _ _ tk fun cls d σ' H' h => ?_), ToldV Q, ⟨rfl, hco, htt⟩, fun v2 H2 hq => ca_nil ⟨(by show 2 ≤ 1000; decide), fun p hp => hq p _ hp (Evl.Ex.new hp) upd_same⟩⟩)))))
  rcases h with ⟨rfl, dd, fs, v, rfl, hdd, hf, hq⟩ | ⟨rfl, dd, fs, v, u, rfl, hdd, hf1, hf2, hq⟩ | ⟨rfl, hq⟩
  · refine ⟨true, T.ex.ww, fun _ a ha hlt => ?_, fun z => by cases z⟩
    intro oe pn hz hd
    refine b_cons (cs_ret (ce_tup (ca_cons (ce_str (ca_cons (ce_xf T.xW T.nW hz hd (ce_name (i := 1) rfl (.inl rfl) ?_ ⟨rfl, rfl, dd, fs, v, rfl, hdd, hf, ca_nil ⟨(by show 2 ≤ 1000; decide), fun p hp => hq p _ hp (Evl.Ex.new hp) upd_same⟩⟩)))))))
    exact slot1 hlt
  · refine ⟨false, T.ex.tw, (fun z => by cases z), fun _ => ⟨true, T.ex.tt, fun _ a ha hlt => ?_, fun z => by cases z⟩⟩
    intro oe pn hz hd
    refine b_cons (cs_ret (ce_tup (ca_cons (ce_str (ca_cons (ce_xf T.xT T.nM hz hd (ce_name (i := 1) rfl (.inl rfl) ?_ ⟨rfl, rfl, dd, fs, v, rfl, hdd, hf1, ca_cons (ce_xf T.xT T.nG hz hd (ce_name (i := 1) rfl (.inl rfl) ?_ ⟨rfl, rfl, dd, fs, u, rfl, hdd, hf2, ca_nil ⟨(by show 3 ≤ 1000; decide), fun p hp => hq p _ hp (Evl.Ex.new hp) upd_same⟩⟩))⟩)))))))
    · exact slot1 hlt
    · exact slot1 hlt
  · refine ⟨false, T.ex.nw, (fun z => by cases z), fun _ => ⟨false, T.ex.nt, (fun z => by cases z), fun _ => ⟨true, T.ex.nn, fun _ a ha => ?_, fun z => by cases z⟩⟩⟩
    intro oe pn hz hd
    exact b_cons (cs_ret (ce_tup (ca_cons (ce_str (ca_nil ⟨(by show 1 ≤ 1000; decide), fun p hp => hq p _ hp (Evl.Ex.new hp) upd_same⟩)))))
end BK

namespace BK
open PySem PySem.Spec PyProof.Rows L2 GV
/-- a def of the text, with the code object that is its own -/
structure FunC (K : PySem.W.Frag) (mg : Str → Option Value) (x : Str) (st : Stmt) (f : Addr) (fd : FuncData) (cdv : Value) : Prop where
  ex : ∃ oc od kV doc pm an ct osl, fd = PySem.W.fnOf x x (defArgs st) (defBody st) (defScope st) .none kV doc pm an cdv ct ∧ K.lookup f = some ⟨oc, od, .func fd, osl⟩ ∧ PySem.W.codeIn K cdv x = true
  kp : PySem.W.keepIn K (.ref f) = true
  gl : mg x = some (.ref f)
theorem FunC.fn {K : PySem.W.Frag} {mg : Str → Option Value} {x : Str} {st : Stmt} {f : Addr} {fd : FuncData} {cdv : Value} (F : FunC K mg x st f fd cdv) : Fun K x x st f fd := by
  obtain ⟨oc, od, kV, doc, pm, an, ct, osl, h1, h2, h3⟩ := F.ex
  exact ⟨⟨oc, od, kV, doc, pm, an, cdv, ct, osl, h1, h2, h3⟩, F.kp⟩
section
variable {P : Program} {w : World} {K : PySem.W.Frag} {mg : Str → Option Value} {base : Heap}
theorem FunC.ok {x : Str} {st : Stmt} {f : Addr} {fd : FuncData} {cdv : Value} {N ps : List Str} {k : Nat} {sp : Sp} (F : FunC K mg x st f fd cdv) (S : FnScope N ps (defScope st)) (len : ∀ vs H Q E, sp vs H Q E → vs.length = ps.length)
    (body : ∀ (A : Around) (outer : List Env) (s : Shared) (H : Hp) (vs : List V) (Q : VK) (E : XK), Room k (A.deeper (PyProof.Rows.envOfC x (defScope st) s.heap.objs.size f cdv)) → sp vs H Q E →
      wB (cxOf CX0 P w K mg base N x (defScope st) f cdv A outer s H E).nox (defBody st) { nx := fun _ H' => Q .non H', rt := Q } (L2.start N vs) H) : FnOk P w K mg base CX0 (k + 1) f fd ps sp := by
  obtain ⟨oc, od, kV, doc, pm, an, ct, osl, rfl, lk, hcd⟩ := F.ex
  exact fn_of lk hcd S len fun A outer s H vs Q E hr hsp => ⟨_, PSs.nox wB.ps, body A outer s H vs Q E hr hsp⟩
/-- the table of the code objects of the lambda in the def whose code is cdv -/
def LamB (mg : Str → Option Value) (base : Heap) (T : List (Addr × Str)) (cdv : Value) (q : Str) : Prop := ∃ c Pt, cdv = .ref c ∧ LamX.TabB base mg c Pt ∧ (Pt, q) ∈ T ∧ ∀ p ∈ T, p.1 = Pt → p.2 = q
theorem ce_told {X : Cx} {σ : St} {H : Hp} {CW CT CN g : Addr} {fd : FuncData} {T : List (Addr × Str)} {k : Nat} {params : Arguments} {body : Expr} {scope : Scope} {p lpos pos : Pos} {Q : VK} (F : At X.K X.mg "_law_told" s_law_told g fd) (To : Told X.K X.mg CW CT CN) (lb : LamB X.mg X.base T X.env.code (X.env.qual ++ "<lambda>"))
    (hr : Room (k + 2) X.A) (hg : Gl X "_law_told") (L : LamX.LamS X.env.scope scope) (hdef : defaultsOf params X.env = ([], [])) (hbind : ∀ (q : Str) (cl : List (Str × Addr)) (pm cv ctv : Value), bindArgs (PySem.W.kla_fn "<lambda>" q params body scope cl pm cv ctv) ⟨[], []⟩ = pure [])
    (hT : LamX.Tabs T H) (h : ∀ H1, LamX.ExtN H H1 → LamX.Tabs T H1 → ∀ A outer s H0 f c', Room k (A.deeper (LamX.lamEnv X scope s.heap.objs.size f c')) → wE (LamX.lamCx X A outer s H0 (ToldX CW CT CN Q) scope f c') body σ H1 (ToldV Q)) :
    wE X (.Call (.Name "_law_told" p) [.Lambda params body scope lpos] [] pos) σ H Q := by
  obtain ⟨oc, od, kV, doc, pm, an, cdv, ct, osl, e, lk, hcd⟩ := F.fn.ex
  obtain ⟨c, Pt, hc, tb, hm, hu⟩ := lb
  have hb := F.fn.binds (ps := p_law_told) fun _ _ _ _ _ _ us hl => match us, hl with | [_], _ => rfl
  rw [e] at lk hb
  exact ⟨_, LamX.pe_lamcall (t := fun E σ H Q => ∀ (A : Around) (outer : List Env) (s : Shared) (H0 : Hp) (f c' : Addr), Room k (A.deeper (LamX.lamEnv X scope s.heap.objs.size f c')) → wE (LamX.lamCx X A outer s H0 E scope f c') body σ H Q) hg F.gl F.fn.kp lk hcd hb sc_law_told rfl (.inl rfl) (told_gives To) tb hc hm hu hr L hdef hbind
    (fun A outer s H0 E f c' hr' => ⟨fun pins sh σ H Q I h => wE.pe.run pins sh σ H Q I (h A outer s H0 f c' hr')⟩), hT, h⟩
end
end BK

namespace BK
open PySem PySem.Spec PyProof.Rows L2 GV
theorem exM_ofN {M : Addr → Prop} {H H' : Hp} (e : LamX.ExtN H H') : ExM M H H' := fun a o h _ n => e a o h n
theorem BrAt.exM {C : Addr} {H H' : Hp} {b s : Addr} {xs : List Int} {M : Addr → Prop} (h : BrAt C H b s xs) (e : ExM M H H') (n1 : ¬ M b) (n2 : ¬ M s) : BrAt C H' b s xs :=
  ⟨let ⟨dx, hb⟩ := h.ins; ⟨dx, e _ _ hb n1 fun _ z => by cases z⟩, e.lst n2 h.lst⟩
/-- what stands of the methods and of the world about a brook -/
structure BrM (P : Program) (w : World) (K : PySem.W.Frag) (mg : Str → Option Value) (base : Heap) (C CW CT CN : Addr) : Prop where
  br : BrC K C
  lay : ∃ f fd, Meth K C "lay" f ∧ FnOk P w K mg base (L2.CX P w) 5 f fd ["self", "weight"] (spLay K C CW CT) ∧ Binds K fd ["self", "weight"] []
  lift : ∃ f fd, Meth K C "lift" f ∧ FnOk P w K mg base (L2.CX P w) 1 f fd ["self"] (spLift K C CN) ∧ Binds K fd ["self"] []
  laid : ∃ p f fd, PropOf K C "laid" p f ∧ FnOk P w K mg base CX0 1 f fd ["self"] (spLaid K C) ∧ Binds K fd ["self"] []
  couples : ∃ p f fd, PropOf K C "couples" p f ∧ FnOk P w K mg base CX0 5 f fd ["self"] (spCouples K C) ∧ Binds K fd ["self"] []
  lightest : ∃ p f fd, PropOf K C "lightest" p f ∧ FnOk P w K mg base CX0 1 f fd ["self"] (spLightest K C) ∧ Binds K fd ["self"] []
theorem lk_no {m : Str} (s : Addr) (h : (m == ("_stones" : Str)) = false) : List.lookup m [(("_stones" : Str), V.ref s)] = none := by
  simp [List.lookup, h]
theorem lk_most (u v : V) : List.lookup ("most" : Str) [(("given" : Str), u), (("most" : Str), v)] = some v := by
  have e : (("most" : Str) == ("given" : Str)) = false := by decide
  simp [List.lookup, e]
theorem lk_given (u v : V) : List.lookup ("given" : Str) [(("given" : Str), u), (("most" : Str), v)] = some u := by
  simp [List.lookup]
section
variable {P : Program} {w : World} {K : PySem.W.Frag} {mg : Str → Option Value} {base : Heap}
abbrev S2 (s r : Addr) : Addr → Prop := fun a => a = s ∨ a = r
def spLayK (K : PySem.W.Frag) (C : Addr) (T : List (Addr × Str)) : Sp := fun vs H Q _ => ∃ (b r s : Addr) (xs : List Int) (z : Int), vs = [.ref b, .ref r, .int z] ∧ BrAt C H b s xs ∧ H r = some (.lst (xs.map V.int)) ∧ s ≠ r ∧ xs.length ≤ 40 ∧ isWeightD (.int z) = true ∧ LamX.Tabs T H ∧
  ∀ H' xs', LamX.Tabs T H' → ExM (S2 s r) H H' → BrAt C H' b s xs' → H' r = some (.lst (xs'.map V.int)) → xs'.length ≤ 40 → Q (.bl true) H'
theorem cl_lay_kept {f g C CW CT CN : Addr} {fd fdT : FuncData} {cdv : Value} {T : List (Addr × Str)} (F : FunC K mg "_law_lay_kept" s_law_lay_kept f fd cdv) (nb : NoB mg) (B : BrM P w K mg base C CW CT CN) (FT : At K mg "_law_told" s_law_told g fdT) (To : Told K mg CW CT CN)
    (lb : LamB mg base T cdv ((PyProof.Rows.envOfC "_law_lay_kept" (defScope s_law_lay_kept) 0 f cdv).qual ++ "<lambda>")) : Cl P w K mg base CX0 8 "_law_lay_kept" (spLayK K C T) := by
  refine ⟨f, fd, _, F.ok sc_law_lay_kept (fun vs H Q E h => ?_) (fun A outer sh H vs Q E hr h => ?_), F.gl, F.kp, F.fn.binds fun _ _ _ _ _ _ us hl => match us, hl with | [_, _, _], _ => rfl⟩
  · obtain ⟨b, r, s, xs, z, rfl, _⟩ := h
    rfl
  · obtain ⟨b, r, s, xs, z, rfl, hB, hR, nsr, hlen, hw, hT, q⟩ := h
    obtain ⟨fL, fdL, mL, okL, bL⟩ := B.lay
    refine b_cons (cs_set (i := 3) sc_law_lay_kept.nd rfl (.inl rfl) (ce_told (k := 5) FT To lb (hr.mono (by decide)) rfl (LamX.lamS_by (by show LamX.lamSB (defScope s_law_lay_kept) _ = true; decide +kernel)) rfl (fun _ _ _ _ _ => rfl) hT fun H1 e1 t1 A2 outer2 sh2 H0 f2 c' hr2 => ?_))
    have hB1 : BrAt C H1 b s xs := hB.exM (M := M0) (exM_ofN e1) (fun z => z) fun z => z
    have hR1 : H1 r = some (.lst (xs.map V.int)) := (exM_ofN (M := M0) e1).lst (fun z => z) hR
    obtain ⟨dx, hins⟩ := hB1.ins
    have nrb : r ≠ b := fun e => by
      rw [e, hins] at hR1
      cases hR1
    refine ce_meth (k := 5) (j := 5) (AtN.name (i := 0) rfl (.inr (.inr rfl)) rfl) B.br.cls mL okL hr2 (by decide) bL (passes_call (takes_of rfl rfl rfl rfl) fun _ _ _ _ h => h) hins (lk_no s (by decide)) (ca_cons (ce_name (i := 2) rfl (.inr (.inr rfl)) rfl (ca_nil ⟨b, s, xs, .int z, .int z, rfl, hB1, hlen, .int z, fun h => ?_, fun _ h40 H2 x2 => ?_, fun z' ez _ hlt H2 x2 hB2 => ?_⟩)))
    · rw [hw] at h
      cases h
    · -- full: the error, noted
      intro d H3 hd x3 h3
      refine .inr (.inl ⟨rfl, d, _, .int 40, .int 41, rfl, h3, lk_most _ _, lk_given _ _, fun p H4 hp x4 h4 => ?_⟩)
      have rT : Rp K M0 H4 (.ref p) (.tuple [.str "TooMany", .int 40, .int 41]) := .tup (fun z => z) (.inl h4) (.cons (.str _) (.cons (.int _) (.cons (.int _) .nil)))
      have x14 := (x2.trans x3).trans x4
      have rR : Rp K M0 H4 (.ref r) (intsD xs) := .lst (fun z => z) (.inl (x14 _ _ hR1)) (.ints xs)
      refine b_cons (s_if (k := true) alive0 (TD.is (td_ge (pd_len nb rfl (nm 1 rR) (n := xs.length) (by simp [lenD])) pd_int) (by simp [h40])) (fun _ H5 x5 => ?_) (fun k => by cases k))
      refine b_cons (s_ret alive0 (PD.is (pd_eq hr.units (nm 3 (rT.mono (fun _ z => z) (.of x5))) (pd_tup (ad_cons pd_str (ad_cons pd_int (ad_cons pd_int ad_nil))) (by simp)) (by decide +kernel) (by decide +kernel)) (d' := .bool true) (by simp [PyData.eqv, PyData.eqvAll])) fun v H6 x6 rv => ?_)
      cases rv
      have x16 := (x14.trans x5).trans x6
      exact q H6 xs (t1.ext x16) ((exM_ofN e1).trans (.of x16)) (hB1.ex x16) (x16 _ _ hR1) hlen
    · -- laid
      cases ez
      intro p H4 hp x4 h4
      have t2 : LamX.Tabs T H2 := GV.Tabs.exS (S := fun a => a = s) t1 (fun a o n h => x2 a o n h) fun a e => ⟨_, e ▸ hB1.lst⟩
      have hR4 : H4 r = some (.lst (xs.map V.int)) := x4 _ _ (x2 _ _ (Ne.symm nsr) hR1)
      have rT : Rp K M0 H4 (.ref p) (.tuple [.str "value", .none]) := .tup (fun z => z) (.inl h4) (.cons (.str _) (.cons .non .nil))
      have rR : Rp K M0 H4 (.ref r) (intsD xs) := .lst (fun z => z) (.inl hR4) (.ints xs)
      refine b_cons (s_if (k := false) alive0 (TD.is (td_ge (pd_len nb rfl (nm 1 rR) (n := xs.length) (by simp [lenD])) pd_int) (by simp; omega)) (fun k => by cases k) (fun _ H5 x5 => ?_))
      have hR5 := x5 _ _ hR4
      have npr : r ≠ p := fun e => by
        rw [← e, hR4] at h4
        cases h4
      refine b_nil (b_cons (cs_expr (ce_append (ce_name (i := 1) rfl (.inl rfl) rfl ⟨r, _, rfl, hR5, ce_name (i := 2) rfl (.inr (.inl rfl)) rfl ⟨_, hR5, by rw [List.length_map]; omega, ?_⟩⟩))))
      have rT6 : Rp K M0 (upd H5 r (.lst (xs.map V.int ++ [.int z]))) (.ref p) (.tuple [.str "value", .none]) := .tup (fun z => z) (.inl (by rw [upd_ne (Ne.symm npr)]; exact x5 _ _ h4)) (.cons (.str _) (.cons .non .nil))
      refine b_cons (s_ret alive0 (PD.is (pd_and (pd_eq hr.units (pd_ix (nm 3 rT6) pd_int rfl) pd_str (by decide +kernel) (by decide +kernel)) fun _ => pd_one (pd_isN (pd_ix (nm 3 rT6) pd_int rfl))) (d' := .bool true) (by simp [PyData.eqv, isNone])) fun v H7 x7 rv => ?_)
      cases rv
      have e15 : ExS (S2 s r) H1 H5 := (ExS.mono (S := fun a => a = s) (fun a o n h => x2 a o n h) fun a e => .inl e).trans ((ExS.of x4).trans (.of x5))
      have e17 : ExS (S2 s r) H1 H7 := (e15.trans (.upd (.inr rfl))).trans (.of x7)
      have nb2 : ¬ S2 s r b := fun h => h.elim (fun e => hB1.ne e) fun e => nrb e.symm
      have hB5 := (hB2.ex x4).ex x5
      obtain ⟨dx2, hins2⟩ := hB2.ins
      refine q H7 (xs ++ [z]) ?_ ((exM_ofN e1).trans e17.exM) ⟨⟨dx, ?_⟩, ?_⟩ ?_ ?_
      · exact GV.Tabs.exS t1 e17 fun a h => h.elim (fun e => ⟨_, e ▸ hB1.lst⟩) fun e => ⟨_, e ▸ hR1⟩
      · exact e17 _ _ nb2 hins
      · refine x7 _ _ ?_
        rw [upd_ne nsr]
        exact hB5.lst
      · refine x7 _ _ ?_
        rw [upd_same, List.map_append]
        rfl
      · rw [List.length_append, List.length_singleton]
        omega
end
end BK

namespace BK
open PySem PySem.Spec PyProof.Rows L2 GV
section
variable {P : Program} {w : World} {K : PySem.W.Frag} {mg : Str → Option Value} {base : Heap}
def spLiftK (K : PySem.W.Frag) (C : Addr) (T : List (Addr × Str)) : Sp := fun vs H Q _ => ∃ (b r s : Addr) (xs : List Int), vs = [.ref b, .ref r] ∧ BrAt C H b s xs ∧ H r = some (.lst (xs.map V.int)) ∧ s ≠ r ∧ xs.length ≤ 40 ∧ LamX.Tabs T H ∧
  ∀ H' xs', LamX.Tabs T H' → ExM (S2 s r) H H' → BrAt C H' b s xs' → H' r = some (.lst (xs'.map V.int)) → xs'.length ≤ 40 → (∀ x ∈ xs', x ∈ xs) → Q (.bl true) H'
theorem cl_lift_kept {f g C CW CT CN : Addr} {fd fdT : FuncData} {cdv : Value} {T : List (Addr × Str)} (F : FunC K mg "_law_lift_kept" s_law_lift_kept f fd cdv) (nb : NoB mg) (B : BrM P w K mg base C CW CT CN) (FT : At K mg "_law_told" s_law_told g fdT) (To : Told K mg CW CT CN) (c1 : Cl P w K mg base CX0 1 "_law_is_number" (PureR K R_num))
    (lb : LamB mg base T cdv ((PyProof.Rows.envOfC "_law_lift_kept" (defScope s_law_lift_kept) 0 f cdv).qual ++ "<lambda>")) : Cl P w K mg base CX0 8 "_law_lift_kept" (spLiftK K C T) := by
  refine ⟨f, fd, _, F.ok sc_law_lift_kept (fun vs H Q E h => ?_) (fun A outer sh H vs Q E hr h => ?_), F.gl, F.kp, F.fn.binds fun _ _ _ _ _ _ us hl => match us, hl with | [_, _], _ => rfl⟩
  · obtain ⟨b, r, s, xs, rfl, _⟩ := h
    rfl
  · obtain ⟨b, r, s, xs, rfl, hB, hR, nsr, hlen, hT, q⟩ := h
    obtain ⟨fL, fdL, mL, okL, bL⟩ := B.lift
    refine b_cons (cs_set (i := 2) sc_law_lift_kept.nd rfl (.inl rfl) (ce_told (k := 5) FT To lb (hr.mono (by decide)) rfl (LamX.lamS_by (by show LamX.lamSB (defScope s_law_lift_kept) _ = true; decide +kernel)) rfl (fun _ _ _ _ _ => rfl) hT fun H1 e1 t1 A2 outer2 sh2 H0 f2 c' hr2 => ?_))
    have hB1 : BrAt C H1 b s xs := hB.exM (M := M0) (exM_ofN e1) (fun z => z) fun z => z
    have hR1 : H1 r = some (.lst (xs.map V.int)) := (exM_ofN (M := M0) e1).lst (fun z => z) hR
    obtain ⟨dx, hins⟩ := hB1.ins
    have nrb : r ≠ b := fun e => by
      rw [e, hins] at hR1
      cases hR1
    refine ce_meth0 (k := 1) (j := 5) (AtN.name (i := 0) rfl (.inr (.inr rfl)) rfl) B.br.cls mL okL hr2 (by decide) bL (passes_call (takes_of rfl rfl rfl rfl) fun _ _ _ _ h => h) hins (lk_no s (by decide)) ⟨b, s, xs, rfl, hB1, fun hx H2 x2 => ?_, fun ys z hx H2 x2 hB2 => ?_⟩
    · -- nothing there
      subst hx
      refine .inr (.inr ⟨rfl, fun p H4 hp x4 h4 => ?_⟩)
      have rT : Rp K M0 H4 (.ref p) (.tuple [.str "NothingLaid"]) := .tup (fun z => z) (.inl h4) (.cons (.str _) .nil)
      have x14 := x2.trans x4
      have rR : Rp K M0 H4 (.ref r) (intsD []) := .lst (fun z => z) (.inl (x14 _ _ hR1)) (.ints [])
      refine b_cons (s_if (k := true) alive0 (TD.is (td_eq hr.units (nm 1 rR) (FD.pd (fd_lst ad_nil (by simp))) (shapedI []) rfl) (by rw [eqv_nil]; rfl)) (fun _ H5 x5 => ?_) (fun k => by cases k))
      refine b_cons (s_ret alive0 (PD.is (pd_eq hr.units (nm 2 (rT.mono (fun _ z => z) (.of x5))) (pd_tup (ad_cons pd_str ad_nil) (by simp)) (by decide +kernel) (by decide +kernel)) (d' := .bool true) (by simp [PyData.eqv, PyData.eqvAll])) fun v H6 x6 rv => ?_)
      cases rv
      have x16 := (x14.trans x5).trans x6
      exact q H6 [] (t1.ext x16) ((exM_ofN e1).trans (.of x16)) (hB1.ex x16) (x16 _ _ hR1) hlen fun _ h => h
    · -- lifted
      subst hx
      intro p H4 hp x4 h4
      have hR4 : H4 r = some (.lst ((ys ++ [z]).map V.int)) := x4 _ _ (x2 _ _ (Ne.symm nsr) hR1)
      have rR : Rp K M0 H4 (.ref r) (intsD (ys ++ [z])) := .lst (fun z => z) (.inl hR4) (.ints _)
      refine b_cons (s_if (k := false) alive0 (TD.is (td_eq hr.units (nm 1 rR) (FD.pd (fd_lst ad_nil (by simp))) (shapedI _) rfl) (by rw [eqv_nil]; cases ys <;> rfl)) (fun k => by cases k) (fun _ H5 x5 => ?_))
      have hR5 := x5 _ _ hR4
      have rT : ∀ {H6}, Evl.Ex H5 H6 → Rp K M0 H6 (.ref p) (.tuple [.str "value", .int z]) := fun x => .tup (fun z => z) (.inl (x _ _ (x5 _ _ h4))) (.cons (.str _) (.cons (.int _) .nil))
      refine b_nil (b_cons (cs_ret (ce_and (ce_pd alive0 (pd_eq hr.units (pd_ix (nm 2 (rT (Evl.Ex.refl _))) pd_int rfl) pd_str (by decide +kernel) (by decide +kernel)) fun v H6 x6 rv => ?_))))
      cases rv
      refine ⟨_, rfl, fun _ => ce_one ?_, fun k => ?_⟩
      · refine ce_call c1 hr (by decide) rfl ?_
        refine ca_cons (ce_pd alive0 (pd_ix (nm 2 (rT x6)) pd_int rfl) fun v H7 x7 rv => ?_)
        refine ca_cons (ce_pop (xs := ys.map V.int) (y := .int z) (ce_name (i := 1) rfl (.inl rfl) rfl ⟨rfl, ?_, ca_nil ⟨M0, _, _, alive0, .cons (by cases rv; exact .int z) (.cons (.int z) .nil), ⟨z, rfl, rfl⟩, fun v8 H8 x8 r8 => ?_⟩⟩))
        · rw [x7 _ _ (x6 _ _ hR5), List.map_append]
          rfl
        cases r8
        have e17 : ExS (S2 s r) H1 H8 := (((((ExS.mono (S := fun a => a = s) (fun a o n h => x2 a o n h) fun a e => .inl e).trans (.of x4)).trans (.of x5)).trans (.of (x6.trans x7))).trans (.upd (.inr rfl))).trans (.of x8)
        have nb2 : ¬ S2 s r b := fun h => h.elim (fun e => hB1.ne e) fun e => nrb e.symm
        have hB7 := (((hB2.ex x4).ex x5).ex x6).ex x7
        refine q H8 ys ?_ ((exM_ofN e1).trans e17.exM) ⟨⟨dx, e17 _ _ nb2 hins⟩, ?_⟩ ?_ ?_ ?_
        · exact GV.Tabs.exS t1 e17 fun a h => h.elim (fun e => ⟨_, e ▸ hB1.lst⟩) fun e => ⟨_, e ▸ hR1⟩
        · refine x8 _ _ ?_
          rw [upd_ne nsr]
          exact hB7.lst
        · exact x8 _ _ upd_same
        · rw [List.length_append] at hlen
          omega
        · exact fun x hx => List.mem_append_left _ hx
      · simp [PyData.eqv] at k
end
end BK

namespace BK
open PySem PySem.Spec PyProof.Rows L2 GV
section
variable {P : Program} {w : World} {K : PySem.W.Frag} {mg : Str → Option Value} {base : Heap}
/-- the eight odd values -/
def odds (over : Int) : List PyData := [.none, .bool true, .bool false, .str "1", .tuple [.int 1], .list [.int 1], .int over, .int (-over)]
theorem odd_not {over : Int} (h : 1000000000000 < over) {d : PyData} (hd : d ∈ odds over) : isWeightD d = false ∧ PyData.eqv d d = true ∧ d.canLay0 = true ∧ d.depth ≤ 1 := by
  have key : ∀ i : Int, (i < -1000000000000 ∨ 1000000000000 < i) → isWeightD (.int i) = false := fun i hi => by
    show (decide (-mostW ≤ i) && decide (i ≤ mostW)) = false
    rcases hi with hi | hi
    · rw [decide_eq_false (by unfold mostW; omega), Bool.false_and]
    · rw [decide_eq_false (p := i ≤ mostW) (by unfold mostW; omega), Bool.and_false]
  simp only [odds, List.mem_cons, List.not_mem_nil, or_false] at hd
  rcases hd with rfl | rfl | rfl | rfl | rfl | rfl | rfl | rfl
  · exact ⟨rfl, by simp [PyData.eqv], rfl, by decide⟩
  · exact ⟨rfl, by simp [PyData.eqv], rfl, by decide⟩
  · exact ⟨rfl, by simp [PyData.eqv], rfl, by decide⟩
  · exact ⟨rfl, by simp [PyData.eqv], by decide +kernel, by decide⟩
  · exact ⟨rfl, by simp [PyData.eqv, PyData.eqvAll], rfl, by decide⟩
  · exact ⟨rfl, by simp [PyData.eqv, PyData.eqvAll], rfl, by decide⟩
  · exact ⟨key _ (.inr h), by simp [PyData.eqv], rfl, by show 0 ≤ 1; omega⟩
  · exact ⟨key _ (.inl (by omega)), by simp [PyData.eqv], rfl, by show 0 ≤ 1; omega⟩
def spOddK (K : PySem.W.Frag) (C : Addr) (T : List (Addr × Str)) : Sp := fun vs H Q _ => ∃ (a b s : Addr) (xs : List Int) (r c k : Int), vs = [.ref a, .ref b] ∧ H a = some (potL r c k) ∧ BrAt C H b s xs ∧ xs.length ≤ 40 ∧ a ≠ s ∧ LamX.Tabs T H ∧
  ∀ H' r' k', LamX.Tabs T H' → ExM (fun x => x = a) H H' → H' a = some (potL r' c k') → Q (.bl true) H'
theorem exM_eqB {a : Addr} {H H' : Hp} (e : ExB a H H') : ExM (fun x => x = a) H H' := fun x o h n _ => e x o n h
theorem cl_odd_kept {f g C CW CT CN : Addr} {fd fdT : FuncData} {cdv : Value} {T : List (Addr × Str)} (F : FunC K mg "_law_odd_kept" s_law_odd_kept f fd cdv) (nb : NoB mg) (B : BrM P w K mg base C CW CT CN) (FT : At K mg "_law_told" s_law_told g fdT) (To : Told K mg CW CT CN) (cd : Cl P w K mg base CX0 1 "_law_draw" spDraw)
    (lb : LamB mg base T cdv ((PyProof.Rows.envOfC "_law_odd_kept" (defScope s_law_odd_kept) 0 f cdv).qual ++ "<lambda>")) : Cl P w K mg base CX0 8 "_law_odd_kept" (spOddK K C T) := by
  refine ⟨f, fd, _, F.ok sc_law_odd_kept (fun vs H Q E h => ?_) (fun A outer sh H vs Q E hr h => ?_), F.gl, F.kp, F.fn.binds fun _ _ _ _ _ _ us hl => match us, hl with | [_, _], _ => rfl⟩
  · obtain ⟨a, b, s, xs, r, c, k, rfl, _⟩ := h
    rfl
  · obtain ⟨a, b, s, xs, r, c, k, rfl, ha, hB, hlen, nas, hT, q⟩ := h
    obtain ⟨fL, fdL, mL, okL, bL⟩ := B.lay
    obtain ⟨dx0, hins0⟩ := hB.ins
    have nab : a ≠ b := fun e => by
      rw [e, hins0] at ha
      cases ha
    refine b_cons (cs_set (i := 2) sc_law_odd_kept.nd rfl (.inl rfl) (ce_add (ce_pd alive0 (pd_add (pd_pow pd_int pd_int ⟨by decide, by decide, by decide⟩) pd_int) fun v H1 x1 r1 => ce_call cd hr (by decide) rfl (ca_cons (ce_name (i := 0) rfl (.inl rfl) rfl (ca_cons (ce_pd alive0 (pd_pow pd_int pd_int ⟨by decide, by decide, by decide⟩) fun v2 H2 x2 r2 => ca_nil ⟨a, _, r, c, k, by cases r2; rfl, x2 _ _ (x1 _ _ ha), by decide, by decide +kernel, fun z r' k' H3 z0 z1 e3 ha3 => ?_⟩)))))))
    cases r1
    refine ⟨_, z, rfl, rfl, ?_⟩
    generalize hov : ((10 : Int) ^ (12 : Int).toNat + 1 + z) = over
    have hover : 1000000000000 < over := by
      rw [← hov]
      show (1000000000000 : Int) < 1000000000000 + 1 + z
      omega
    have e13 : ExB a H H3 := ((ExB.of x1).trans (.of x2)).trans e3
    -- odd = [..][_law_draw(pot, 8)]
    have alA : Alive (fun x => x = a) H3 := fun x e => ⟨_, e ▸ ha3⟩
    refine b_cons (cs_set (i := 3) sc_law_odd_kept.nd rfl (.inr rfl) (ce_ix (ce_pd (M := fun x => x = a) (d := .list (odds over)) alA (FD.pd (fd_lst (ad_cons pd_non (ad_cons pd_bl (ad_cons pd_bl (ad_cons pd_str (ad_cons (pd_tup (ad_cons pd_int ad_nil) (by simp)) (ad_cons (FD.pd (fd_lst (ad_cons pd_int ad_nil) (by simp))) (ad_cons (nm 2 (.int over)) (ad_cons (pd_neg (nm 2 (.int over))) ad_nil)))))))) (by show 8 ≤ 100000; decide))) fun v4 H4 x4 r4 => ?_)))
    refine ce_call cd hr (by decide) rfl (ca_cons (ce_name (i := 0) rfl (.inl rfl) rfl (ca_cons (ce_pd alive0 pd_int fun v5 H5 x5 r5 => ca_nil ⟨a, _, r', c, k', by cases r5; rfl, x5 _ _ (x4 _ _ ha3), by decide, by decide +kernel, fun z5 r6 k6 H6 z50 z51 e6 ha6 => ?_⟩))))
    obtain ⟨d, hd⟩ : ∃ d, (odds over)[z5.toNat]? = some d := ⟨_, List.getElem?_eq_getElem (by show z5.toNat < 8; omega)⟩
    have hmem := List.mem_of_getElem? hd
    obtain ⟨o1, o2, o3, o4⟩ := odd_not hover hmem
    have r46 := (r4.mono (fun _ z => z) (.of x5)).mono (fun _ z => z) (exM_eqB e6)
    refine rIx_of (d := d) r46 ?_ fun v6 rv6 => ?_
    · have := ixD_list hd
      rwa [show ((z5.toNat : Nat) : Int) = z5 by omega] at this
    have e16 : ExB a H H6 := ((e13.trans (.of x4)).trans (.of x5)).trans e6
    have t6 : LamX.Tabs T H6 := GV.Tabs.exS (S := fun x => x = a) hT (fun x o n h => e16 x o n h) fun x e => ⟨_, e ▸ ha⟩
    have hB6 : BrAt C H6 b s xs := hB.exM (exM_eqB e16) (fun e => nab e.symm) fun e => nas e.symm
    refine b_cons (cs_ret (ce_eq hr.units (ce_told (k := 5) FT To lb (hr.mono (by decide)) rfl (LamX.lamS_by (by show LamX.lamSB (defScope s_law_odd_kept) _ = true; decide +kernel)) rfl (fun _ _ _ _ _ => rfl) t6 fun H7 e7 t7 A2 outer2 sh2 H0 f2 c' hr2 => ?_)))
    have hB7 : BrAt C H7 b s xs := hB6.exM (M := M0) (exM_ofN e7) (fun z => z) fun z => z
    obtain ⟨dx, hins⟩ := hB7.ins
    have r7 : Rp K M0 H7 v6 d := rv6.m0.mono (fun _ z => z) (exM_ofN e7)
    refine ce_meth (k := 5) (j := 5) (AtN.name (i := 1) rfl (.inr (.inr rfl)) rfl) B.br.cls mL okL hr2 (by decide) bL (passes_call (takes_of rfl rfl rfl rfl) fun _ _ _ _ h => h) hins (lk_no s (by decide)) (ca_cons (ce_name (i := 3) rfl (.inr (.inr rfl)) rfl (ca_nil ⟨b, s, xs, v6, d, rfl, hB7, hlen, r7, fun _ H8 x8 => ?_, fun h => ?_, fun z' ez h => ?_⟩)))
    · intro de H9 hde x9 h9
      refine .inl ⟨rfl, de, _, v6, rfl, h9, by simp [List.lookup], fun p H10 hp x10 h10 => ?_⟩
      have x710 := (x8.trans x9).trans x10
      have r10 : Rp K M0 H10 v6 d := r7.mono (fun _ z => z) (.of x710)
      refine ce_pd alive0 (pd_tup (ad_cons pd_str (ad_cons (nm 3 r10) ad_nil)) (by simp)) fun y H11 x11 r11 => ?_
      have rT : Rp K M0 H11 (.ref p) (.tuple [.str "InvalidWeight", d]) := .tup (fun z => z) (.inl (x11 _ _ h10)) (.cons (.str _) (.cons (r10.mono (fun _ z => z) (.of x11)) .nil))
      have sh : SeqAt.shaped (.tuple [.str "InvalidWeight", d]) = true := by
        refine shaped_of ?_ ?_
        · show (PyData.canLay0 (.str "InvalidWeight") && (d.canLay0 && true)) = true
          rw [o3]
          decide +kernel
        · show max 0 (max d.depth 0) + 1 ≤ 64
          omega
      refine ⟨_, _, rT.dp, r11.dp, sh, sh, ?_⟩
      have ev : PyData.eqv (.tuple [.str "InvalidWeight", d]) (.tuple [.str "InvalidWeight", d]) = true := by
        simp [PyData.eqv, PyData.eqvAll, o2]
      rw [ev]
      have x711 := x710.trans x11
      exact q H11 r6 k6 (t7.ext x711) (((exM_eqB e16).trans (exM_ofN e7)).trans (.of x711)) (x711 _ _ ((exM_ofN (M := M0) e7).lst (fun z => z) ha6))
    · rw [o1] at h
      cases h
    · rw [o1] at h
      cases h
end
end BK

namespace BK
open PySem PySem.Spec PyProof.Rows L2 GV
section
variable {P : Program} {w : World} {K : PySem.W.Frag} {mg : Str → Option Value} {base : Heap}
def okW (z : Int) : Prop := -1000000000000 ≤ z ∧ z ≤ 1000000000000
theorem okW.is {z : Int} (h : okW z) : isWeightD (.int z) = true := by
  show (decide (-mostW ≤ z) && decide (z ≤ mostW)) = true
  rw [decide_eq_true (by unfold mostW; exact h.1), decide_eq_true (by unfold mostW; exact h.2)]
  rfl
/-! ### a weight out of the list, or any -/
def spAnyW : Sp := fun vs H Q _ => ∃ (a l : Addr) (ns : List Int) (r c k : Int), vs = [.ref a, .ref l] ∧ a ≠ l ∧ H a = some (potL r c k) ∧ H l = some (.lst (ns.map V.int)) ∧ ns ≠ [] ∧ ns.length ≤ 1000 ∧ (∀ z ∈ ns, okW z) ∧
  ∀ z r' k' H', okW z → ExB a H H' → H' a = some (potL r' c k') → Q (.int z) H'
theorem cl_any_weight {f : Addr} {fd : FuncData} (F : At K mg "_law_any_weight" s_law_any_weight f fd) (nb : NoB mg) (cd : Cl P w K mg base CX0 1 "_law_draw" spDraw) : Cl P w K mg base CX0 2 "_law_any_weight" spAnyW := by
  refine ⟨f, fd, _, F.fn.ok sc_law_any_weight (fun vs H Q E h => ?_) (fun cdv A outer sh H vs Q E hr h => ⟨_, wB.ps, ?_⟩), F.gl, F.fn.kp, F.fn.binds fun _ _ _ _ _ _ us hl => match us, hl with | [_, _], _ => rfl⟩
  · obtain ⟨a, l, ns, r, c, k, rfl, _⟩ := h
    rfl
  · obtain ⟨a, l, ns, r, c, k, rfl, nal, ha, hl, hne, hlen, hok, q⟩ := h
    refine b_cons (cs_if (ct_eq hr.units (ce_call cd hr (by decide) rfl (ca_cons (ce_name (i := 0) rfl (.inl rfl) rfl (ca_cons (ce_pd alive0 pd_int fun v H1 x1 r1 => ca_nil ⟨a, _, r, c, k, by cases r1; rfl, x1 _ _ ha, by decide, by decide +kernel, fun z r' k' H2 z0 z1 e2 ha2 => ?_⟩)))))))
    refine ce_pd alive0 pd_int fun y H3 x3 r3 => ⟨.int z, _, .int z, r3.dp, rfl, rfl, ?_⟩
    have ha3 := x3 _ _ ha2
    have e13 : ExB a H H3 := ((ExB.of x1).trans e2).trans (.of x3)
    have hl3 := e13 _ _ (Ne.symm nal) hl
    split
    · refine b_cons (cs_ret (ce_sub (ce_call cd hr (by decide) rfl (ca_cons (ce_name (i := 0) rfl (.inl rfl) rfl (ca_cons (ce_pd alive0 (pd_add (pd_mul pd_int (pd_pow pd_int pd_int ⟨by decide, by decide, by decide⟩) (.inl ⟨by decide, by decide⟩)) pd_int) fun v H4 x4 r4 => ca_nil ⟨a, _, r', c, k', by cases r4; rfl, x4 _ _ ha3, by decide, by decide +kernel, fun z5 r5 k5 H5 z50 z51 e5 ha5 => ?_⟩)))))))
      refine ce_pd alive0 (pd_pow pd_int pd_int ⟨by decide, by decide, by decide⟩) fun y H6 x6 r6 => ?_
      cases r6
      refine ⟨_, _, rfl, rfl, q _ _ _ _ ?_ (((e13.trans (.of x4)).trans e5).trans (.of x6)) (x6 _ _ ha5)⟩
      have : z5 < 2 * 1000000000000 + 1 := z51
      exact ⟨by show -1000000000000 ≤ z5 - 1000000000000; omega, by show z5 - 1000000000000 ≤ 1000000000000; omega⟩
    · have rl : Rp K M0 H3 (.ref l) (intsD ns) := .lst (fun z => z) (.inl hl3) (.ints ns)
      have pos : 0 < ns.length := List.length_pos_iff.mpr hne
      refine b_nil (b_cons (cs_ret (ce_ix (ce_name (i := 1) rfl (.inl rfl) rfl (ce_call cd hr (by decide) rfl (ca_cons (ce_name (i := 0) rfl (.inl rfl) rfl (ca_cons (ce_pd alive0 (pd_len nb rfl (nm 1 rl) (n := ns.length) (by simp [lenD])) fun v H4 x4 r4 => ca_nil ⟨a, _, r', c, k', by cases r4; rfl, x4 _ _ ha3, by omega, ?_, fun z5 r5 k5 H5 z50 z51 e5 ha5 => ?_⟩)))))))))
      · exact Nat.lt_of_le_of_lt (m := 1000) (by omega) (by decide +kernel)
      · obtain ⟨u, hu⟩ : ∃ u, ns[z5.toNat]? = some u := ⟨_, List.getElem?_eq_getElem (by omega)⟩
        have hl5 : H5 l = some (.lst (ns.map V.int)) := e5 _ _ (Ne.symm nal) (x4 _ _ hl3)
        refine rIx_of (M := M0) (da := intsD ns) (d := .int u) (.lst (fun z => z) (.inl hl5) (.ints ns)) ?_ fun v6 r6 => ?_
        · have := ixD_ints hu
          rwa [show ((z5.toNat : Nat) : Int) = z5 by omega] at this
        · cases r6
          exact q u r5 k5 H5 (hok u (List.mem_of_getElem? hu)) ((e13.trans (.of x4)).trans e5) ha5
end
end BK

namespace BK
open PySem PySem.Spec PyProof.Rows L2 GV
section
variable {P : Program} {w : World} {K : PySem.W.Frag} {mg : Str → Option Value} {base : Heap}
/-! ### the world's weights -/
def gaps : List Int := [1, 9, 40000000000, 3]
def starts (u n : Int) : List Int := [0, u - 30, -1000000000000 - 1, 1000000000000 - 3 * n]
theorem ways {i : Nat} {u n g s : Int} (hg : gaps[i]? = some g) (hs : (starts u n)[i]? = some s) (hu : 0 ≤ u ∧ u < 41) (hn : 0 ≤ n ∧ n ≤ 13) : 0 < g ∧ g ≤ 40000000000 ∧ -1000000000000 - 1 ≤ s ∧ s + n * g ≤ 1000000000000 := by
  match i, hg, hs with
  | 0, hg, hs =>
    cases hg
    cases hs
    omega
  | 1, hg, hs =>
    cases hg
    cases hs
    omega
  | 2, hg, hs =>
    cases hg
    cases hs
    omega
  | 3, hg, hs =>
    cases hg
    cases hs
    omega
  | i + 4, hg, hs => cases hg
def spWeights : Sp := fun vs H Q _ => ∃ (a : Addr) (n : Nat) (r c k : Int), vs = [.ref a, .int (n : Nat)] ∧ H a = some (potL r c k) ∧ 1 ≤ n ∧ n ≤ 13 ∧
  ∀ p ns r' k' H', H p = none → ExB a H H' → H' a = some (potL r' c k') → H' p = some (.lst (ns.map V.int)) → ns ≠ [] → ns.length ≤ 1000 → (∀ z ∈ ns, okW z) → Q (.ref p) H'
theorem cl_law_weights {f : Addr} {fd : FuncData} (F : At K mg "_law_weights" s_law_weights f fd) (nb : NoB mg) (cd : Cl P w K mg base CX0 1 "_law_draw" spDraw) : Cl P w K mg base CX0 2 "_law_weights" spWeights := by
  refine ⟨f, fd, _, F.fn.ok sc_law_weights (fun vs H Q E h => ?_) (fun cdv A outer sh H vs Q E hr h => ⟨_, wB.ps, ?_⟩), F.gl, F.fn.kp, F.fn.binds fun _ _ _ _ _ _ us hl => match us, hl with | [_, _], _ => rfl⟩
  · obtain ⟨a, n, r, c, k, rfl, _⟩ := h
    rfl
  · obtain ⟨a, n, r, c, k, rfl, ha, n1, n13, q⟩ := h
    refine b_cons (cs_set (i := 2) sc_law_weights.nd rfl (.inl rfl) (ce_call cd hr (by decide) rfl (ca_cons (ce_name (i := 0) rfl (.inl rfl) rfl (ca_cons (ce_pd alive0 pd_int fun v H1 x1 r1 => ca_nil ⟨a, _, r, c, k, by cases r1; rfl, x1 _ _ ha, by decide, by decide +kernel, fun way r2 k2 H2 w0 w1 e2 ha2 => ?_⟩))))))
    obtain ⟨g, hg⟩ : ∃ g, gaps[way.toNat]? = some g := ⟨_, List.getElem?_eq_getElem (by show way.toNat < 4; omega)⟩
    have hgi := ixD_ints hg
    rw [show ((way.toNat : Nat) : Int) = way by omega] at hgi
    -- gap
    refine b_cons (s_set (i := 3) (d := .int g) alive0 sc_law_weights.nd rfl (.inl rfl) (pd_ix (da := intsD gaps) (FD.pd (fd_lst (ad_cons pd_int (ad_cons pd_int (ad_cons (pd_mul pd_int (pd_pow pd_int pd_int ⟨by decide, by decide, by decide⟩) (.inl ⟨by decide, by decide⟩)) (ad_cons pd_int ad_nil)))) (by show 4 ≤ 100000; decide))) (nm 2 (.int way)) hgi) fun v3 H3 x3 r3 => ?_)
    cases r3
    have ha3 := x3 _ _ ha2
    -- weight
    refine b_cons (cs_set (i := 4) sc_law_weights.nd rfl (.inl rfl) (ce_ix (ce_lst (ca_cons (ce_pd alive0 pd_int fun v4 H4 x4 r4 => ca_cons (ce_sub (ce_call cd hr (by decide) rfl (ca_cons (ce_name (i := 0) rfl (.inl rfl) rfl (ca_cons (ce_pd alive0 pd_int fun v5 H5 x5 r5 => ca_nil ⟨a, _, r2, c, k2, by cases r5; rfl, x5 _ _ (x4 _ _ ha3), by decide, by decide +kernel, fun u r6 k6 H6 u0 u1 e6 ha6 => ?_⟩)))))))))))
    refine ce_pd alive0 pd_int fun v7 H7 x7 r7 => ?_
    cases r7
    refine ⟨u, 30, rfl, rfl, ?_⟩
    refine ca_cons (ce_pd alive0 (pd_sub (pd_neg (pd_pow pd_int pd_int ⟨by decide, by decide, by decide⟩)) pd_int) fun v8 H8 x8 r8 => ca_cons (ce_pd alive0 (pd_sub (pd_pow pd_int pd_int ⟨by decide, by decide, by decide⟩) (pd_mul pd_int (nm 1 (.int (n : Int))) (.inl ⟨by decide, by omega⟩))) fun v9 H9 x9 r9 => ca_nil ⟨(by show 4 ≤ 1000; decide), fun p10 hp10 => ?_⟩))
    cases r4
    cases r8
    cases r9
    have ha9 : H9 a = some (potL r6 c k6) := x9 _ _ (x8 _ _ (x7 _ _ ha6))
    obtain ⟨s0, hs⟩ : ∃ s0, (starts u n)[way.toNat]? = some s0 := ⟨_, List.getElem?_eq_getElem (by show way.toNat < 4; omega)⟩
    have hsi := ixD_ints hs
    rw [show ((way.toNat : Nat) : Int) = way by omega] at hsi
    obtain ⟨g0, g1, s1, s2⟩ := ways hg hs ⟨u0, u1⟩ ⟨by omega, by omega⟩
    refine ce_name (i := 2) rfl (.inl rfl) rfl (rIx_of (M := M0) (da := intsD (starts u n)) (d := .int s0) (.lst (fun z => z) (.inl upd_same) (.ints (starts u n))) hsi fun v10 r10 => ?_)
    cases r10
    generalize hH10 : upd H9 p10 _ = H10
    have x10 : Evl.Ex H9 H10 := hH10 ▸ Evl.Ex.new hp10
    have ha10 := x10 _ _ ha9
    have e10 : ExB a H H10 := (((((((ExB.of x1).trans e2).trans (.of x3)).trans (.of x4)).trans (.of x5)).trans e6).trans (.of ((x7.trans x8).trans (x9.trans x10))))
    -- weights = []
    refine b_cons (cs_set (i := 5) sc_law_weights.nd rfl (.inl rfl) (ce_fd alive0 (fd_lst ad_nil (by simp)) fun p ws H11 hp x11 h11 rw11 => ?_))
    obtain ⟨⟩ := rw11
    have ha11 := x11 _ _ ha10
    have nap : a ≠ p := fun e => by
      rw [← e, ha10] at hp
      cases hp
    have al11 : Alive (S2 a p) H11 := fun x h => h.elim (fun e => ⟨_, e ▸ ha11⟩) fun e => ⟨_, e ▸ h11⟩
    refine b_cons (s_forR (n := n) (slot := 6) PassesOwn.never rfl sc_law_weights.nd rfl (.inl rfl) rfl nb.range (nm 1 (.int (n : Int))) (by omega) al11
      (fun Hs i σ' H' => ∃ (ns : List Int) (wc r' k' : Int) (xk : Option V), σ' = [some (.ref a), some (.int n), some (.int way), some (.int g), some (.int wc), some (.ref p), xk] ∧ ExS (S2 a p) Hs H' ∧ H' a = some (potL r' c k') ∧ H' p = some (.lst (ns.map V.int)) ∧ ns.length = i ∧ s0 + i ≤ wc ∧ wc ≤ s0 + i * g ∧ ∀ z ∈ ns, s0 + 1 ≤ z ∧ z ≤ s0 + i * g) ?_ ?_ ?_ ?_)
    · exact fun Hs xs => ⟨[], s0, r6, k6, none, rfl, fun a o _ h => h, xs _ _ ha11, xs _ _ h11, rfl, by omega, by omega, fun z h => absurd h List.not_mem_nil⟩
    · rintro Hs i σ' H' xs ⟨ns, wc, r', k', xk, rfl, e, h1, h2, _⟩
      exact ⟨e.exM, fun x h => h.elim (fun e => ⟨_, e ▸ h1⟩) fun e => ⟨_, e ▸ h2⟩⟩
    · rintro Hs i σ' H' H12 xs hi ⟨ns, wc, r', k', xk, rfl, e, h1, h2, hlen, b1, b2, hall⟩ x12
      refine b_cons (cs_set (i := 4) sc_law_weights.nd rfl (.inl rfl) (ce_add (ce_pd alive0 (pd_add (nm 4 (.int wc)) pd_int) fun v13 H13 x13 r13 => ce_call cd hr (by decide) rfl (ca_cons (ce_name (i := 0) rfl (.inl rfl) rfl (ca_cons (ce_name (i := 3) rfl (.inl rfl) rfl (ca_nil ⟨a, g, r', c, k', rfl, x13 _ _ (x12 _ _ h1), g0, ?_, fun z r14 k14 H14 z0 z1 e14 ha14 => ?_⟩))))))))
      · exact Nat.lt_of_le_of_lt (m := 40000000000) (by omega) (by decide +kernel)
      cases r13
      refine ⟨_, _, rfl, rfl, ?_⟩
      have hp14 : H14 p = some (.lst (ns.map V.int)) := e14 _ _ (Ne.symm nap) (x13 _ _ (x12 _ _ h2))
      refine b_cons (cs_expr (ce_append (ce_name (i := 5) rfl (.inl rfl) rfl ⟨p, _, rfl, hp14, ce_name (i := 4) rfl (.inl rfl) rfl ⟨_, hp14, by rw [List.length_map]; omega, b_nil ?_⟩⟩)))
      have eg : ((i + 1 : Nat) : Int) * g = (i : Int) * g + g := by
        rw [Int.natCast_add, Int.add_mul]
        show _ + (1 : Int) * g = _
        rw [Int.one_mul]
      refine ⟨ns ++ [wc + 1 + z], wc + 1 + z, r14, k14, _, rfl, ?_, ?_, ?_, ?_, ?_, ?_, fun y hy => ?_⟩
      · exact ((e.trans (.of (x12.trans x13))).trans (ExS.mono (S := fun x => x = a) (fun x o n h => e14 x o n h) fun x e => .inl e)).trans (.upd (.inr rfl))
      · rw [upd_ne nap]
        exact ha14
      · rw [upd_same, List.map_append]
        rfl
      · rw [List.length_append, hlen]
        rfl
      · omega
      · rw [eg]
        omega
      · rw [eg]
        rcases List.mem_append.mp hy with hy | hy
        · have := hall y hy
          omega
        · rw [List.mem_singleton.mp hy]
          omega
    · rintro Hs σ' H' xs ⟨ns, wc, r', k', xk, rfl, e, h1, h2, hlen, b1, b2, hall⟩
      refine b_cons (cs_ret (ce_name (i := 5) rfl (.inl rfl) rfl (q p ns r' k' H' ?_ ?_ h1 h2 (fun e => ?_) (by omega) fun z hz => ?_)))
      · cases hh : H p with
        | none => rfl
        | some o =>
          rw [e10 _ _ (Ne.symm nap) hh] at hp
          cases hp
      · intro x o n h
        refine e x o (fun z => z.elim n fun e => ?_) (xs _ _ (x11 _ _ (e10 x o n h)))
        rw [e] at h
        rw [e10 _ _ (Ne.symm nap) h] at hp
        cases hp
      · rw [e] at hlen
        simp at hlen
        omega
      · have := hall z hz
        exact ⟨by omega, by omega⟩
end
end BK

namespace BK
open PySem PySem.Spec PyProof.Rows L2 GV
section
variable {P : Program} {w : World} {K : PySem.W.Frag} {mg : Str → Option Value} {base : Heap}
theorem flats_pairs (ps : List (Int × Int)) : flats (ps.map pairD) = true := by
  induction ps with
  | nil => simp [flats]
  | cons p r ih => simp [flats, flat, ih]
def spBrookK (C : Addr) : Sp := fun vs H Q _ => ∃ (b r s : Addr) (xs : List Int), vs = [.ref b, .ref r] ∧ BrAt C H b s xs ∧ H r = some (.lst (xs.map V.int)) ∧ xs.length ≤ 40 ∧ ∀ H', Evl.Ex H H' → Q (.bl true) H'
theorem cl_brook_kept {f C CW CT CN : Addr} {fd : FuncData} (F : At K mg "_law_brook_kept" s_law_brook_kept f fd) (nb : NoB mg) (B : BrM P w K mg base C CW CT CN) (cF : Cl P w K mg base CX0 1 "_law_far" (FreshR K R_lfar)) (cR : Cl P w K mg base CX0 3 "_law_is_row" (PureR K R_row)) (cP : Cl P w K mg base CX0 4 "_law_is_pairs" (PureR K R_pairs)) (cN : Cl P w K mg base CX0 1 "_law_is_number" (PureR K R_num)) :
    Cl P w K mg base CX0 8 "_law_brook_kept" (spBrookK C) := by
  refine ⟨f, fd, _, F.fn.ok sc_law_brook_kept (fun vs H Q E h => ?_) (fun cdv A outer sh H vs Q E hr h => ⟨_, wB.ps, ?_⟩), F.gl, F.fn.kp, F.fn.binds fun _ _ _ _ _ _ us hl => match us, hl with | [_, _], _ => rfl⟩
  · obtain ⟨b, r, s, xs, rfl, _⟩ := h
    rfl
  · obtain ⟨b, r, s, xs, rfl, hB, hR, hlen, q⟩ := h
    obtain ⟨pL, fL, fdL, prL, okL, bL⟩ := B.laid
    obtain ⟨pC, fC, fdC, prC, okC, bC⟩ := B.couples
    obtain ⟨pM, fM, fdM, prM, okM, bM⟩ := B.lightest
    have hins : ∀ {H'}, BrAt C H' b s xs → ∃ dx, H' b = some (.ins C dx [("_stones", .ref s)]) := fun h => h.ins
    have rR : ∀ {H'}, Evl.Ex H H' → Rp K M0 H' (.ref r) (intsD xs) := fun x => .lst (fun z => z) (.inl (x _ _ hR)) (.ints xs)
    refine b_cons (cs_set (i := 2) sc_law_brook_kept.nd rfl (.inl rfl) (ce_fd alive0 (fd_callC cF hr (by decide) rfl (ad_cons (nm 1 (rR (Evl.Ex.refl _))) ad_nil) ⟨xs, hlen, rfl, rfl⟩) fun pf wf H1 hpf x1 h1 rf => ?_))
    rw [lawFar_eq] at rf
    have lenF := farL_len xs
    have rFar : ∀ {H'}, Evl.Ex H1 H' → Rp K M0 H' (.ref pf) (pairsD (farL xs)) := fun x => .lst (fun z => z) (.inl (x _ _ h1)) (rf.mono (fun _ z => z) (.of x))
    have hB1 := hB.ex x1
    obtain ⟨dx1, hb1⟩ := hB1.ins
    refine b_cons (cs_if (ct_not (ct_val (ce_call cR hr (by decide) rfl (ca_cons (ce_prop (AtN.name (i := 0) rfl (.inl rfl) rfl) B.br.cls prL okL hr (by decide) bL pass0 hb1 ⟨b, s, xs, rfl, hB1, fun v H2 x2 rv => ca_cons (ce_name (i := 1) rfl (.inl rfl) rfl (ca_nil ⟨M0, _, _, alive0, .cons rv (.cons (rR (x1.trans x2)) .nil), ⟨xs, by omega, rfl, rfl⟩, fun v3 H3 x3 r3 => ?_⟩))⟩))))))
    cases r3
    refine ⟨true, rfl, ?_⟩
    rw [if_neg (by decide)]
    have x13 := x2.trans x3
    have hB3 := hB1.ex x13
    obtain ⟨dx3, hb3⟩ := hB3.ins
    refine b_nil (b_cons (cs_set (i := 3) sc_law_brook_kept.nd rfl (.inl rfl) (ce_prop (AtN.name (i := 0) rfl (.inl rfl) rfl) B.br.cls prC okC hr (by decide) bC pass0 hb3 ⟨b, s, xs, rfl, hlen, hB3, fun p ws H4 hp x4 h4 rws => ?_⟩)))
    have x14 := x13.trans x4
    have rT : ∀ {H'}, Evl.Ex H4 H' → Rp K M0 H' (.ref p) (pairsD (farL xs)) := fun x => .lst (fun z => z) (.inl (x _ _ h4)) (rws.mono (fun _ z => z) (.of x))
    refine b_cons (s_if (k := false) alive0 (td_not (k := true) (td_val (pd_callC cP hr (by decide) rfl (ad_cons (nm 3 (rT (Evl.Ex.refl _))) (ad_cons (nm 2 (rFar x14)) ad_nil)) ⟨farL xs, by omega, rfl, rfl⟩))) (fun k => by cases k) (fun _ H5 x5 => ?_))
    have hp5 := x5 _ _ h4
    refine b_nil (b_cons (cs_expr (ce_append (ce_name (i := 3) rfl (.inl rfl) rfl ⟨p, _, rfl, hp5, ce_pd alive0 (pd_tup (ad_cons pd_int (ad_cons pd_int ad_nil)) (by simp)) fun y H6 x6 ry => ⟨_, x6 _ _ hp5, ?_, ?_⟩⟩))))
    · rw [rws.length, List.length_map]
      omega
    refine b_cons (cs_expr (ce_reverse (ce_name (i := 3) rfl (.inl rfl) rfl ⟨rfl, upd_same, ?_⟩)))
    generalize hH7 : upd (upd H6 p (.lst (ws ++ [y]))) p (.lst (ws ++ [y]).reverse) = H7
    have e37 : ExB p H3 H7 := by
      rw [← hH7]
      exact ((ExB.of ((x4.trans x5).trans x6)).trans .upd).trans .upd
    have x37 : Evl.Ex H3 H7 := fun a o h => e37 a o (ne_of_none h hp) h
    have x17 := x13.trans x37
    have hB7 := hB1.ex x17
    obtain ⟨dx7, hb7⟩ := hB7.ins
    refine b_cons (cs_if (ct_not (ct_val (ce_call cP hr (by decide) rfl (ca_cons (ce_prop (AtN.name (i := 0) rfl (.inl rfl) rfl) B.br.cls prC okC hr (by decide) bC pass0 hb7 ⟨b, s, xs, rfl, hlen, hB7, fun p8 ws8 H8 hp8 x8 h8 rws8 => ca_cons (ce_name (i := 2) rfl (.inl rfl) rfl (ca_nil ⟨M0, [pairsD (farL xs), pairsD (farL xs)], _, alive0, .cons (.lst (fun z => z) (.inl h8) rws8) (.cons (rFar (x17.trans x8)) .nil), ⟨farL xs, by omega, rfl, rfl⟩, fun v9 H9 x9 r9 => ?_⟩))⟩))))))
    cases r9
    refine ⟨true, rfl, ?_⟩
    rw [if_neg (by decide)]
    have x19 := (x17.trans x8).trans x9
    refine b_nil (b_cons (s_if (k := xs.isEmpty) alive0 (TD.is (td_eq hr.units (nm 1 (rR (x1.trans x19))) (FD.pd (fd_lst ad_nil (by simp))) (shapedI _) rfl) (by rw [eqv_nil]; cases xs <;> rfl)) (fun k H10 x10 => ?_) (fun k H10 x10 => ?_)))
    · have hB10 := hB1.ex (x19.trans x10)
      obtain ⟨dx10, hb10⟩ := hB10.ins
      refine b_cons (cs_ret (ce_isN (ce_prop (AtN.name (i := 0) rfl (.inl rfl) rfl) B.br.cls prM okM hr (by decide) bM pass0 hb10 ⟨b, s, xs, rfl, hB10, fun v H11 x11 rv => ?_⟩)))
      rw [List.isEmpty_iff.mp k] at rv
      have rv : Rp K M0 H11 v .none := rv
      cases rv
      exact q _ (x1.trans ((x19.trans x10).trans x11))
    · have hB10 := hB1.ex (x19.trans x10)
      obtain ⟨dx10, hb10⟩ := hB10.ins
      cases hx : xs with
      | nil =>
        rw [hx] at k
        cases k
      | cons n rest =>
        obtain ⟨⟨m1, m2⟩, m3⟩ := fold_min rest n
        have hm : rest.foldl min n ∈ n :: rest := m3.elim (fun e => by rw [e]; exact List.mem_cons_self) (List.mem_cons_of_mem _)
        have hle : ∀ y ∈ n :: rest, rest.foldl min n ≤ y := fun y hy => (List.mem_cons.mp hy).elim (fun e => by rw [e]; exact m1) (m2 y)
        refine b_nil (b_cons (cs_ret (ce_call cN hr (by decide) rfl (ca_cons (ce_prop (AtN.name (i := 0) rfl (.inl rfl) rfl) B.br.cls prM okM hr (by decide) bM pass0 hb10 ⟨b, s, xs, rfl, hB10, fun v H11 x11 rv => ?_⟩)))))
        rw [hx] at rv
        have rv : Rp K M0 H11 v (.int (rest.foldl min n)) := rv
        cases rv
        have x111 := (x19.trans x10).trans x11
        refine ca_cons (ce_pd alive0 (pd_callB (cr_min rfl) rfl nb.min PyProof.Rows.boot_min (ad_cons (nm 1 (hx ▸ rR (x1.trans x111))) ad_nil) (rn_min hm hle)) fun v12 H12 x12 r12 => ca_nil ⟨M0, _, _, alive0, .cons (.int _) (.cons r12 .nil), ⟨_, rfl, rfl⟩, fun v13 H13 x13' r13 => ?_⟩)
        cases r13
        exact q _ (x1.trans ((x111.trans x12).trans x13'))
end
end BK

namespace BK
open PySem PySem.Spec PyProof.Rows L2 GV
section
variable {P : Program} {w : World} {K : PySem.W.Frag} {mg : Str → Option Value} {base : Heap}
abbrev S3 (a s r : Addr) : Addr → Prop := fun x => x = a ∨ x = s ∨ x = r
def spDeed (K : PySem.W.Frag) (C : Addr) (T : List (Addr × Str)) : Sp := fun vs H Q _ => ∃ (a b r l s : Addr) (xs ns : List Int) (r0 c k : Int), vs = [.ref a, .ref b, .ref r, .ref l] ∧ H a = some (potL r0 c k) ∧ BrAt C H b s xs ∧ H r = some (.lst (xs.map V.int)) ∧ H l = some (.lst (ns.map V.int)) ∧ xs.length ≤ 40 ∧ ns ≠ [] ∧ ns.length ≤ 1000 ∧ (∀ z ∈ ns, okW z) ∧
  a ≠ s ∧ a ≠ r ∧ a ≠ l ∧ s ≠ r ∧ s ≠ l ∧ r ≠ l ∧ LamX.Tabs T H ∧
  ∀ H' xs' r' k', LamX.Tabs T H' → ExM (S3 a s r) H H' → H' a = some (potL r' c k') → BrAt C H' b s xs' → H' r = some (.lst (xs'.map V.int)) → xs'.length ≤ 40 → Q (.bl true) H'
theorem tabs_eqB {a : Addr} {H H' : Hp} {T : List (Addr × Str)} {xs : List V} (t : LamX.Tabs T H) (e : ExB a H H') (h : H a = some (.lst xs)) : LamX.Tabs T H' := GV.Tabs.exS (S := fun x => x = a) t (fun x o n h => e x o n h) fun x e => ⟨_, e ▸ h⟩
theorem cl_deed_kept {f C CW CT CN : Addr} {fd : FuncData} {T : List (Addr × Str)} (F : At K mg "_law_deed_kept" s_law_deed_kept f fd) (nb : NoB mg) (cd : Cl P w K mg base CX0 1 "_law_draw" spDraw) (cA : Cl P w K mg base CX0 2 "_law_any_weight" spAnyW) (cLay : Cl P w K mg base CX0 8 "_law_lay_kept" (spLayK K C T)) (cLift : Cl P w K mg base CX0 8 "_law_lift_kept" (spLiftK K C T)) (cOdd : Cl P w K mg base CX0 8 "_law_odd_kept" (spOddK K C T)) :
    Cl P w K mg base CX0 9 "_law_deed_kept" (spDeed K C T) := by
  refine ⟨f, fd, _, F.fn.ok sc_law_deed_kept (fun vs H Q E h => ?_) (fun cdv A outer sh H vs Q E hr h => ⟨_, wB.ps, ?_⟩), F.gl, F.fn.kp, F.fn.binds fun _ _ _ _ _ _ us hl => match us, hl with | [_, _, _, _], _ => rfl⟩
  · obtain ⟨a, b, r, l, s, xs, ns, r0, c, k, rfl, _⟩ := h
    rfl
  · obtain ⟨a, b, r, l, s, xs, ns, r0, c, k, rfl, ha, hB, hR, hl, hlen, hne, nlen, hok, das, dar, dal, dsr, dsl, drl, hT, q⟩ := h
    obtain ⟨dx, hins⟩ := hB.ins
    have nb' : ∀ {y : Addr} {zs : List V}, H y = some (.lst zs) → b ≠ y := fun h e => by
      rw [← e, hins] at h
      cases h
    have nba := nb' ha
    have nbs := nb' hB.lst
    have nbr := nb' hR
    refine b_cons (cs_set (i := 4) sc_law_deed_kept.nd rfl (.inl rfl) (ce_call cd hr (by decide) rfl (ca_cons (ce_name (i := 0) rfl (.inl rfl) rfl (ca_cons (ce_pd alive0 pd_int fun v H1 x1 r1 => ca_nil ⟨a, _, r0, c, k, by cases r1; rfl, x1 _ _ ha, by decide, by decide +kernel, fun z r2 k2 H2 z0 z1 e2 ha2 => ?_⟩))))))
    have e02 : ExB a H H2 := (ExB.of x1).trans e2
    have m02 : ExM (S3 a s r) H H2 := (exM_eqB e02).mono fun x h => .inl h
    have t2 : LamX.Tabs T H2 := tabs_eqB hT e02 ha
    have hB2 : BrAt C H2 b s xs := hB.exM (exM_eqB e02) nba (Ne.symm das)
    have hR2 : H2 r = some (.lst (xs.map V.int)) := e02 _ _ (Ne.symm dar) hR
    have hl2 : H2 l = some (.lst (ns.map V.int)) := e02 _ _ (Ne.symm dal) hl
    -- if deed < 2
    refine b_cons (s_if (k := decide (z < 2)) alive0 (td_lt (nm 4 (.int z)) pd_int) (fun _ H3 x3 => ?_) (fun _ H3 x3 => ?_))
    · refine b_cons (cs_ret (ce_call cLift hr (by decide) rfl (ca_cons (ce_name (i := 1) rfl (.inl rfl) rfl (ca_cons (ce_name (i := 2) rfl (.inl rfl) rfl (ca_nil ⟨b, r, s, xs, rfl, hB2.ex x3, x3 _ _ hR2, dsr, hlen, t2.ext x3, fun H' xs' t' m' hB' hR' hlen' _ => ?_⟩)))))))
      refine q H' xs' r2 k2 t' ((m02.trans (.of x3)).trans (m'.mono fun x h => .inr h)) ?_ hB' hR' hlen'
      exact m'.lst (fun h => h.elim das dar) (x3 _ _ ha2)
    -- if deed == 2
    refine b_nil (b_cons (s_if (k := decide (z = 2)) alive0 (TD.is (td_eq hr.units (nm 4 (.int z)) pd_int rfl rfl) (by simp [PyData.eqv]; rfl)) (fun _ H4 x4 => ?_) (fun _ H4 x4 => ?_)))
    · have x24 := x3.trans x4
      refine b_cons (cs_ret (ce_call cOdd hr (by decide) rfl (ca_cons (ce_name (i := 0) rfl (.inl rfl) rfl (ca_cons (ce_name (i := 1) rfl (.inl rfl) rfl (ca_nil ⟨a, b, s, xs, r2, c, k2, rfl, x24 _ _ ha2, hB2.ex x24, hlen, das, t2.ext x24, fun H' r' k' t' m' ha' => ?_⟩)))))))
      exact q H' xs r' k' t' ((m02.trans (.of x24)).trans (m'.mono fun x h => .inl h)) ha' ((hB2.ex x24).exM m' nba (Ne.symm das)) (m'.lst (Ne.symm dar) (x24 _ _ hR2)) hlen
    -- many = 1 ..
    refine b_nil (b_cons (cs_set (i := 5) sc_law_deed_kept.nd rfl (.inl rfl) (ce_pd alive0 pd_int fun v5 H5 x5 r5 => ?_)))
    cases r5
    have x25 := (x3.trans x4).trans x5
    -- behind it: the loop, for any many
    have loop : ∀ (many : Nat) (H6 : Hp) (r6 k6 : Int), many ≤ 1000 → ExB a H H6 → H6 a = some (potL r6 c k6) → wB (cxOf CX0 P w K mg base n_law_deed_kept "_law_deed_kept" (defScope s_law_deed_kept) f cdv A outer sh H E).nox ((defBody s_law_deed_kept).drop 5) { nx := fun _ H' => Q .non H', rt := Q } [some (.ref a), some (.ref b), some (.ref r), some (.ref l), some (.int z), some (.int many), none] H6 := by
      intro many H6 r6 k6 hmany e6 ha6
      have t6 : LamX.Tabs T H6 := tabs_eqB hT e6 ha
      have al6 : Alive (S3 a s r) H6 := fun x h => by
        rcases h with e | e | e
        · exact ⟨_, e ▸ ha6⟩
        · exact ⟨_, e ▸ e6 _ _ (Ne.symm das) hB.lst⟩
        · exact ⟨_, e ▸ e6 _ _ (Ne.symm dar) hR⟩
      refine b_cons (s_forR (n := many) (slot := 6) PassesOwn.never rfl sc_law_deed_kept.nd rfl (.inl rfl) rfl nb.range (nm 5 (.int (many : Int))) (by omega) al6
        (fun Hs i σ' H' => ∃ (xs' : List Int) (r' k' : Int) (xk : Option V), σ' = [some (.ref a), some (.ref b), some (.ref r), some (.ref l), some (.int z), some (.int many), xk] ∧ ExM (S3 a s r) Hs H' ∧ LamX.Tabs T H' ∧ H' a = some (potL r' c k') ∧ BrAt C H' b s xs' ∧ H' r = some (.lst (xs'.map V.int)) ∧ H' l = some (.lst (ns.map V.int)) ∧ xs'.length ≤ 40) ?_ ?_ ?_ ?_)
      · exact fun Hs xs6 => ⟨xs, r6, k6, none, rfl, ExM.refl _, t6.ext xs6, xs6 _ _ ha6, (hB.exM (exM_eqB e6) nba (Ne.symm das)).ex xs6, xs6 _ _ (e6 _ _ (Ne.symm dar) hR), xs6 _ _ (e6 _ _ (Ne.symm dal) hl), hlen⟩
      · rintro Hs i σ' H' xs6 ⟨xs', r', k', xk, rfl, m, t, h1, h2, h3, h4, h5⟩
        refine ⟨m, fun x h => ?_⟩
        rcases h with e | e | e
        · exact ⟨_, e ▸ h1⟩
        · exact ⟨_, e ▸ h2.lst⟩
        · exact ⟨_, e ▸ h3⟩
      · rintro Hs i σ' H' H7 xs6 hi ⟨xs', r', k', xk, rfl, m, t, h1, h2, h3, h4, h5⟩ x7
        refine b_cons (cs_if (ct_not (ct_val ?_)))
        refine ce_call cLay hr (by decide) rfl ?_
        refine ca_cons (ce_name (i := 1) rfl (.inl rfl) rfl (ca_cons (ce_name (i := 2) rfl (.inl rfl) rfl (ca_cons ?_))))
        refine ce_call cA hr (by decide) rfl (ca_cons (ce_name (i := 0) rfl (.inl rfl) rfl (ca_cons (ce_name (i := 3) rfl (.inl rfl) rfl (ca_nil ⟨a, l, ns, r', c, k', rfl, dal, x7 _ _ h1, x7 _ _ h4, hne, nlen, hok, fun zw r8 k8 H8 hz e8 ha8 => ?_⟩)))))
        refine ca_nil ⟨b, r, s, xs', zw, rfl, ?_, ?_, dsr, h5, hz.is, ?_, fun H9 xs9 t9 m9 hB9 hR9 hlen9 => ?_⟩
        · exact (h2.ex x7).exM (exM_eqB e8) nba (Ne.symm das)
        · exact e8 _ _ (Ne.symm dar) (x7 _ _ h3)
        · exact tabs_eqB (t.ext x7) e8 (x7 _ _ h1)
        · refine ⟨true, rfl, ?_⟩
          rw [if_neg (by decide)]
          refine b_nil (b_nil ⟨xs9, r8, k8, _, rfl, ((m.trans (.of x7)).trans ((exM_eqB e8).mono fun x h => .inl h)).trans (m9.mono fun x h => .inr h), t9, m9.lst (fun h => h.elim das dar) ha8, hB9, hR9, ?_, hlen9⟩)
          exact m9.lst (fun h => h.elim (Ne.symm dsl) (Ne.symm drl)) (e8 _ _ (Ne.symm dal) (x7 _ _ h4))
      · rintro Hs σ' H' xs6 ⟨xs', r', k', xk, rfl, m, t, h1, h2, h3, h4, h5⟩
        refine b_cons (s_ret alive0 pd_bl fun v H8 x8 rv => ?_)
        cases rv
        exact q H8 xs' r' k' (t.ext x8) ((((exM_eqB e6).mono fun x h => .inl h).trans (.of xs6)).trans (m.trans (.of x8))) (x8 _ _ h1) (h2.ex x8) (x8 _ _ h3) h5
    refine b_cons (s_if (k := decide (z = 3)) alive0 (TD.is (td_eq hr.units (nm 4 (.int z)) pd_int rfl rfl) (by simp [PyData.eqv]; rfl)) (fun _ H6 x6 => ?_) (fun _ H6 x6 => ?_))
    · have x26 := x25.trans x6
      refine b_cons (cs_set (i := 5) sc_law_deed_kept.nd rfl (.inl rfl) (ce_add (ce_pd alive0 pd_int fun v7 H7 x7 r7 => ce_call cd hr (by decide) rfl (ca_cons (ce_name (i := 0) rfl (.inl rfl) rfl (ca_cons (ce_pd alive0 pd_int fun v8 H8 x8 r8 => ca_nil ⟨a, _, r2, c, k2, by cases r8; rfl, (x26.trans (x7.trans x8)) _ _ ha2, by decide, by decide +kernel, fun u r9 k9 H9 u0 u1 e9 ha9 => ?_⟩)))))))
      cases r7
      refine ⟨1, u, rfl, rfl, b_nil ?_⟩
      have := loop (1 + u).toNat H9 r9 k9 (by omega) ((e02.trans (.of (x26.trans (x7.trans x8)))).trans e9) ha9
      rw [show (((1 + u).toNat : Nat) : Int) = 1 + u by omega] at this
      exact this
    · exact b_nil (loop 1 H6 r2 k2 (by decide) (e02.trans (.of (x25.trans x6))) ((x25.trans x6) _ _ ha2))
end
end BK

namespace BK
open PySem PySem.Spec PyProof.Rows L2 GV
abbrev S5 (pa s0 r0 s1 r1 : Addr) : Addr → Prop := fun x => x = pa ∨ x = s0 ∨ x = r0 ∨ x = s1 ∨ x = r1
/-- where the law's things stand -/
structure Plc where
  pa : Addr
  b0 : Addr
  s0 : Addr
  r0 : Addr
  b1 : Addr
  s1 : Addr
  r1 : Addr
  wl : Addr
  bl : Addr
  rl : Addr
abbrev Plc.S (p : Plc) : Addr → Prop := S5 p.pa p.s0 p.r0 p.s1 p.r1
/-- what never changes, from the heap B on -/
structure Fix (p : Plc) (ns : List Int) (B : Hp) : Prop where
  bl : B p.bl = some (.lst [.ref p.b0, .ref p.b1])
  rl : B p.rl = some (.lst [.ref p.r0, .ref p.r1])
  wl : B p.wl = some (.lst (ns.map V.int))
  ne : ns ≠ []
  len : ns.length ≤ 1000
  ok : ∀ z ∈ ns, okW z
  nd : [p.pa, p.s0, p.r0, p.s1, p.r1, p.wl, p.bl, p.rl].Nodup
  ls : Lists p.S B
structure WS (C : Addr) (T : List (Addr × Str)) (p : Plc) (B H : Hp) (pa : Addr) (x0 x1 : List Int) : Prop where
  ex : ExM p.S B H
  tabs : LamX.Tabs T H
  new : pa = p.pa ∨ ∀ o, B pa = some o → ¬ NT o
  pot : ∃ r c k, H pa = some (potL r c k)
  br0 : BrAt C H p.b0 p.s0 x0
  row0 : H p.r0 = some (.lst (x0.map V.int))
  len0 : x0.length ≤ 40
  br1 : BrAt C H p.b1 p.s1 x1
  row1 : H p.r1 = some (.lst (x1.map V.int))
  len1 : x1.length ≤ 40
  alv : ∃ l, H p.pa = some (.lst l)
section
variable {C : Addr} {T : List (Addr × Str)} {p : Plc} {B H H' : Hp} {pa : Addr} {x0 x1 ns : List Int}
theorem nt_lst (xs : List V) : NT (.lst xs) := fun _ z => by cases z
theorem WS.ne (W : WS C T p B H pa x0 x1) {x : Addr} {l : List V} (h : B x = some (.lst l)) (n : p.pa ≠ x) : pa ≠ x := fun e => W.new.elim (fun e2 => n (e2 ▸ e)) fun k => k _ (e ▸ h) (nt_lst l)
/-- one pot more may change -/
theorem WS.exS (W : WS C T p B H pa x0 x1) {S : Addr → Prop} (m : ExM S H H') (hS : ∀ x, S x → x = pa ∨ p.S x) : ExM p.S B H' := fun a o h n t => m a o (W.ex a o h n t) (fun s => by
  rcases hS a s with e | e
  · rcases W.new with e2 | k
    · exact n (.inl (e.trans e2))
    · exact k o (e ▸ h) t
  · exact n e) t
theorem WS.insNe {b y : Addr} {dx : Addr} {fs : List (Str × V)} {l : List V} (hb : H b = some (.ins C dx fs)) (hy : H y = some (.lst l)) : b ≠ y := fun e => by
  rw [e, hy] at hb
  cases hb
structure Dist (p : Plc) : Prop where
  as0 : p.pa ≠ p.s0
  ar0 : p.pa ≠ p.r0
  as1 : p.pa ≠ p.s1
  ar1 : p.pa ≠ p.r1
  aw : p.pa ≠ p.wl
  abl : p.pa ≠ p.bl
  arl : p.pa ≠ p.rl
  sr0 : p.s0 ≠ p.r0
  ss : p.s0 ≠ p.s1
  s0r1 : p.s0 ≠ p.r1
  s0w : p.s0 ≠ p.wl
  s0bl : p.s0 ≠ p.bl
  s0rl : p.s0 ≠ p.rl
  r0s1 : p.r0 ≠ p.s1
  rr : p.r0 ≠ p.r1
  r0w : p.r0 ≠ p.wl
  r0bl : p.r0 ≠ p.bl
  r0rl : p.r0 ≠ p.rl
  sr1 : p.s1 ≠ p.r1
  s1w : p.s1 ≠ p.wl
  s1bl : p.s1 ≠ p.bl
  s1rl : p.s1 ≠ p.rl
  r1w : p.r1 ≠ p.wl
  r1bl : p.r1 ≠ p.bl
  r1rl : p.r1 ≠ p.rl
theorem Fix.dist (F : Fix p ns B) : Dist p := by
  have nd := F.nd
  simp only [List.nodup_cons, List.mem_cons, List.not_mem_nil, or_false, not_or] at nd
  obtain ⟨⟨a1, a2, a3, a4, a5, a6, a7⟩, ⟨b1, b2, b3, b4, b5, b6⟩, ⟨c1, c2, c3, c4, c5⟩, ⟨d1, d2, d3, d4⟩, ⟨e1, e2, e3⟩, _⟩ := nd
  exact ⟨a1, a2, a3, a4, a5, a6, a7, b1, b2, b3, b4, b5, b6, c1, c2, c3, c4, c5, d1, d2, d3, d4, e1, e2, e3⟩
theorem Fix.s0 (F : Fix p ns B) : ∃ l, B p.s0 = some (.lst l) := F.ls _ (.inr (.inl rfl))
theorem Fix.r0 (F : Fix p ns B) : ∃ l, B p.r0 = some (.lst l) := F.ls _ (.inr (.inr (.inl rfl)))
theorem Fix.s1 (F : Fix p ns B) : ∃ l, B p.s1 = some (.lst l) := F.ls _ (.inr (.inr (.inr (.inl rfl))))
theorem Fix.r1 (F : Fix p ns B) : ∃ l, B p.r1 = some (.lst l) := F.ls _ (.inr (.inr (.inr (.inr rfl))))
theorem WS.step (W : WS C T p B H pa x0 x1) (x : Evl.Ex H H') : WS C T p B H' pa x0 x1 :=
  ⟨W.ex.trans (.of x), W.tabs.ext x, W.new, let ⟨r, c, k, h⟩ := W.pot; ⟨r, c, k, x _ _ h⟩, W.br0.ex x, x _ _ W.row0, W.len0, W.br1.ex x, x _ _ W.row1, W.len1, let ⟨l, h⟩ := W.alv; ⟨l, x _ _ h⟩⟩
theorem WS.alvX (W : WS C T p B H pa x0 x1) {S : Addr → Prop} (m : ExM S H H') (hS : S p.pa → p.pa = pa) {r c k : Int} (h : H' pa = some (potL r c k)) : ∃ l, H' p.pa = some (.lst l) := by
  by_cases hs : S p.pa
  · rw [hS hs]
    exact ⟨_, h⟩
  · obtain ⟨l, hl⟩ := W.alv
    exact ⟨l, m.lst hs hl⟩
theorem WS.draw (W : WS C T p B H pa x0 x1) (F : Fix p ns B) {r c k : Int} (e : ExB pa H H') (h : H' pa = some (potL r c k)) : WS C T p B H' pa x0 x1 := by
  obtain ⟨l0, h0⟩ := F.s0
  obtain ⟨l1, h1⟩ := F.r0
  obtain ⟨l2, h2⟩ := F.s1
  obtain ⟨l3, h3⟩ := F.r1
  have d := F.dist
  obtain ⟨r', c', k', hp⟩ := W.pot
  obtain ⟨dx0, i0⟩ := W.br0.ins
  obtain ⟨dx1, i1⟩ := W.br1.ins
  exact ⟨W.exS (exM_eqB e) fun x h => .inl h, tabs_eqB W.tabs e hp, W.new, ⟨r, c, k, h⟩, W.br0.exM (exM_eqB e) (WS.insNe i0 hp) (Ne.symm (W.ne h0 d.as0)), e _ _ (Ne.symm (W.ne h1 d.ar0)) W.row0, W.len0, W.br1.exM (exM_eqB e) (WS.insNe i1 hp) (Ne.symm (W.ne h2 d.as1)), e _ _ (Ne.symm (W.ne h3 d.ar1)) W.row1, W.len1, W.alvX (exM_eqB e) id h⟩
theorem WS.deed0 (W : WS C T p B H pa x0 x1) (F : Fix p ns B) {r c k : Int} {y : List Int} (t : LamX.Tabs T H') (m : ExM (S3 pa p.s0 p.r0) H H') (h : H' pa = some (potL r c k)) (hb : BrAt C H' p.b0 p.s0 y) (hr : H' p.r0 = some (.lst (y.map V.int))) (hl : y.length ≤ 40) : WS C T p B H' pa y x1 := by
  obtain ⟨l2, h2⟩ := F.s1
  obtain ⟨l3, h3⟩ := F.r1
  have d := F.dist
  obtain ⟨r', c', k', hp⟩ := W.pot
  obtain ⟨dx1, i1⟩ := W.br1.ins
  refine ⟨W.exS m fun x h => h.imp id fun h => h.elim (fun e => .inr (.inl e)) fun e => .inr (.inr (.inl e)), t, W.new, ⟨r, c, k, h⟩, hb, hr, hl, W.br1.exM m ?_ ?_, m.lst ?_ W.row1, W.len1, W.alvX m (fun z => z.elim id fun z => z.elim (fun e => (d.as0 e).elim) fun e => (d.ar0 e).elim) h⟩
  · exact fun z => z.elim (WS.insNe i1 hp) fun z => z.elim (WS.insNe i1 W.br0.lst) (WS.insNe i1 W.row0)
  · exact fun z => z.elim (Ne.symm (W.ne h2 d.as1)) fun z => z.elim (Ne.symm d.ss) (Ne.symm d.r0s1)
  · exact fun z => z.elim (Ne.symm (W.ne h3 d.ar1)) fun z => z.elim (Ne.symm d.s0r1) (Ne.symm d.rr)
theorem WS.deed1 (W : WS C T p B H pa x0 x1) (F : Fix p ns B) {r c k : Int} {y : List Int} (t : LamX.Tabs T H') (m : ExM (S3 pa p.s1 p.r1) H H') (h : H' pa = some (potL r c k)) (hb : BrAt C H' p.b1 p.s1 y) (hr : H' p.r1 = some (.lst (y.map V.int))) (hl : y.length ≤ 40) : WS C T p B H' pa x0 y := by
  obtain ⟨l2, h2⟩ := F.s0
  obtain ⟨l3, h3⟩ := F.r0
  have d := F.dist
  obtain ⟨r', c', k', hp⟩ := W.pot
  obtain ⟨dx0, i0⟩ := W.br0.ins
  refine ⟨W.exS m fun x h => h.imp id fun h => h.elim (fun e => .inr (.inr (.inr (.inl e)))) fun e => .inr (.inr (.inr (.inr e))), t, W.new, ⟨r, c, k, h⟩, W.br0.exM m ?_ ?_, m.lst ?_ W.row0, W.len0, hb, hr, hl, W.alvX m (fun z => z.elim id fun z => z.elim (fun e => (d.as1 e).elim) fun e => (d.ar1 e).elim) h⟩
  · exact fun z => z.elim (WS.insNe i0 hp) fun z => z.elim (WS.insNe i0 W.br1.lst) (WS.insNe i0 W.row1)
  · exact fun z => z.elim (Ne.symm (W.ne h2 d.as0)) fun z => z.elim d.ss d.s0r1
  · exact fun z => z.elim (Ne.symm (W.ne h3 d.ar0)) fun z => z.elim d.r0s1 d.rr
theorem WS.pot' (W : WS C T p B H pa x0 x1) (F : Fix p ns B) {q : Addr} {r c k : Int} (hq : H q = none) (x : Evl.Ex H H') (h : H' q = some (potL r c k)) : WS C T p B H' q x0 x1 := by
  have W' := W.step x
  refine ⟨W'.ex, W'.tabs, .inr fun o ho hn => ?_, ⟨r, c, k, h⟩, W'.br0, W'.row0, W'.len0, W'.br1, W'.row1, W'.len1, W'.alv⟩
  by_cases hs : p.S q
  · rcases hs with e | e | e | e | e
    · obtain ⟨l, hl⟩ := W.alv
      rw [e, hl] at hq
      cases hq
    · rw [e, W.br0.lst] at hq
      cases hq
    · rw [e, W.row0] at hq
      cases hq
    · rw [e, W.br1.lst] at hq
      cases hq
    · rw [e, W.row1] at hq
      cases hq
  · rw [W.ex _ _ ho hs hn] at hq
    cases hq
end
end BK

namespace BK
open PySem PySem.Spec PyProof.Rows L2 GV
theorem eqvAll_pairs (ps : List (Int × Int)) : PyData.eqv (pairsD ps) (pairsD ps) = true := by
  show PyData.eqvAll _ _ = true
  induction ps with
  | nil => simp [PyData.eqvAll]
  | cons p r ih => simp [PyData.eqvAll, PyData.eqv, ih]
section
variable {P : Program} {w : World} {K : PySem.W.Frag} {mg : Str → Option Value} {base : Heap}
/-- what the law calls -/
structure LCalls (P : Program) (w : World) (K : PySem.W.Frag) (mg : Str → Option Value) (base : Heap) (C CW CT CN : Addr) (T : List (Addr × Str)) : Prop where
  nb : NoB mg
  br : BrM P w K mg base C CW CT CN
  pot : Cl P w K mg base CX0 1 "_law_pot" (spPot K)
  draw : Cl P w K mg base CX0 1 "_law_draw" spDraw
  weights : Cl P w K mg base CX0 2 "_law_weights" spWeights
  lay : Cl P w K mg base CX0 8 "_law_lay_kept" (spLayK K C T)
  kept : Cl P w K mg base CX0 8 "_law_brook_kept" (spBrookK C)
  deed : Cl P w K mg base CX0 9 "_law_deed_kept" (spDeed K C T)
  gC : mg "Brook" = some (.ref C)
  made : ∃ f fd, Mk K C f ∧ FnOk P w K mg base CX0 1 f fd ["self"] (spBInit C) ∧ L2.Binds K fd ["self"] []
def spLaw (K : PySem.W.Frag) (T : List (Addr × Str)) : Sp := fun vs H Q _ => ∃ (a : Addr) (ns : List Int), vs = [.ref a] ∧ SqL K H a (ns.map V.int) ∧ ns.length ≤ 63 ∧ LamX.Tabs T H ∧ ∀ H', Q (.bl true) H'
abbrev XL (P : Program) (w : World) (K : PySem.W.Frag) (mg : Str → Option Value) (base : Heap) (f : Addr) (cdv : Value) (A : Around) (outer : List Env) (sh : Shared) (H : Hp) (E : XK) : Cx := (cxOf CX0 P w K mg base n_law "law" (defScope s_law) f cdv A outer sh H E).nox
abbrev DL (Q : VK) : Ends := { nx := fun _ H' => Q .non H', rt := Q }
section
variable {f : Addr} {cdv : Value} {A : Around} {outer : List Env} {sh : Shared} {H0 : Hp} {E : XK} {Q : VK} {C CW CT CN : Addr} {T : List (Addr × Str)} {p : Plc} {B H : Hp} {ns : List Int} {sc pa ph pk : Addr} {cs : List (Int × Int)} {x0 x1 : List Int} {s5 s8 s9 : Option V}
/-- the slots -/
abbrev SL (p : Plc) (sc pa : Addr) (s5 : Option V) (s6 s7 s8 s9 : Option V) : L2.St := [some (.ref sc), some (.ref pa), some (.ref p.wl), some (.ref p.bl), some (.ref p.rl), s5, s6, s7, s8, s9]
theorem ce_brk0 (L : LCalls P w K mg base C CW CT CN T) (hr : Room 9 (XL P w K mg base f cdv A outer sh H0 E).A) (F : Fix p ns B) (W : WS C T p B H pa x0 x1) {s5 s6 s7 s8 s9 : Option V} {ps p1 p2 p3 p4 p5 p6 p7 : Pos} {Q : VK} (q : ∀ H', Evl.Ex H H' → Q (.bl true) H') :
    wE (XL P w K mg base f cdv A outer sh H0 E) (.Call (.Name "_law_brook_kept" p1) [.Subscript (.Name "brooks" p2) (.Constant (.int 0) 0 p3) p4, .Subscript (.Name "rows" p5) (.Constant (.int 0) 0 p6) p7] [] ps) (SL p sc pa s5 s6 s7 s8 s9) H Q := by
  have d := F.dist
  have hbl := W.ex.lst (fun z => z.elim (Ne.symm d.abl) fun z => z.elim (Ne.symm d.s0bl) fun z => z.elim (Ne.symm d.r0bl) fun z => z.elim (Ne.symm d.s1bl) (Ne.symm d.r1bl)) F.bl
  have hrl := W.ex.lst (fun z => z.elim (Ne.symm d.arl) fun z => z.elim (Ne.symm d.s0rl) fun z => z.elim (Ne.symm d.r0rl) fun z => z.elim (Ne.symm d.s1rl) (Ne.symm d.r1rl)) F.rl
  refine ce_call L.kept hr (by decide) rfl (ca_cons (ce_ix (ce_name (i := 3) rfl (.inl rfl) rfl (ce_pd alive0 pd_int fun y H1 x1' r1 => ?_))))
  cases r1
  refine rIx_lst (x1' _ _ hbl) rfl (ca_cons (ce_ix (ce_name (i := 4) rfl (.inl rfl) rfl (ce_pd alive0 pd_int fun y H2 x2 r2 => ?_))))
  cases r2
  have x02 := x1'.trans x2
  have W2 := W.step x02
  exact rIx_lst (x02 _ _ hrl) rfl (ca_nil ⟨p.b0, p.r0, p.s0, x0, rfl, W2.br0, W2.row0, W2.len0, fun H' x => q H' (x02.trans x)⟩)
theorem ce_brk1 (L : LCalls P w K mg base C CW CT CN T) (hr : Room 9 (XL P w K mg base f cdv A outer sh H0 E).A) (F : Fix p ns B) (W : WS C T p B H pa x0 x1) {s5 s6 s7 s8 s9 : Option V} {ps p1 p2 p3 p4 p5 p6 p7 : Pos} {Q : VK} (q : ∀ H', Evl.Ex H H' → Q (.bl true) H') :
    wE (XL P w K mg base f cdv A outer sh H0 E) (.Call (.Name "_law_brook_kept" p1) [.Subscript (.Name "brooks" p2) (.Constant (.int 1) 0 p3) p4, .Subscript (.Name "rows" p5) (.Constant (.int 1) 0 p6) p7] [] ps) (SL p sc pa s5 s6 s7 s8 s9) H Q := by
  have d := F.dist
  have hbl := W.ex.lst (fun z => z.elim (Ne.symm d.abl) fun z => z.elim (Ne.symm d.s0bl) fun z => z.elim (Ne.symm d.r0bl) fun z => z.elim (Ne.symm d.s1bl) (Ne.symm d.r1bl)) F.bl
  have hrl := W.ex.lst (fun z => z.elim (Ne.symm d.arl) fun z => z.elim (Ne.symm d.s0rl) fun z => z.elim (Ne.symm d.r0rl) fun z => z.elim (Ne.symm d.s1rl) (Ne.symm d.r1rl)) F.rl
  refine ce_call L.kept hr (by decide) rfl (ca_cons (ce_ix (ce_name (i := 3) rfl (.inl rfl) rfl (ce_pd alive0 pd_int fun y H1 x1' r1 => ?_))))
  cases r1
  refine rIx_lst (x1' _ _ hbl) rfl (ca_cons (ce_ix (ce_name (i := 4) rfl (.inl rfl) rfl (ce_pd alive0 pd_int fun y H2 x2 r2 => ?_))))
  cases r2
  have x02 := x1'.trans x2
  have W2 := W.step x02
  exact rIx_lst (x02 _ _ hrl) rfl (ca_nil ⟨p.b1, p.r1, p.s1, x1, rfl, W2.br1, W2.row1, W2.len1, fun H' x => q H' (x02.trans x)⟩)
/-- the end: held == kept, both brooks kept -/
theorem law_end (L : LCalls P w K mg base C CW CT CN T) (hr : Room 9 (XL P w K mg base f cdv A outer sh H0 E).A) (F : Fix p ns B) (W : WS C T p B H pa x0 x1) (hh : Rp K M0 H (.ref ph) (pairsD cs)) (hk : Rp K M0 H (.ref pk) (pairsD cs)) (q : ∀ H', Q (.bl true) H') :
    wB (XL P w K mg base f cdv A outer sh H0 E) ((defBody s_law).drop 9) (DL Q) (SL p sc pa s5 (some (.ref ph)) (some (.ref pk)) s8 s9) H := by
  have shC : SeqAt.shaped (pairsD cs) = true := shaped1 fun d hd => by
    obtain ⟨k, _, rfl⟩ := List.mem_map.mp hd
    trivial
  refine b_cons (s_if (k := false) alive0 (TD.is (td_ne hr.units (nm 6 hh) (nm 7 hk) shC shC) (by rw [eqvAll_pairs]; rfl)) (fun k => by cases k) (fun _ H1 x1' => ?_))
  refine b_nil (b_cons (cs_ret (ce_and (ce_brk0 L hr F (W.step x1') fun H2 x2 => ⟨true, rfl, fun _ => ce_one (ce_brk1 L hr F (W.step (x1'.trans x2)) fun H3 x3 => q H3), fun k => by cases k⟩))))
end
end
end BK

namespace BK
open PySem PySem.Spec PyProof.Rows L2 GV
def bodyOf : Stmt → List Stmt
  | .For _ _ b _ _ => b
  | _ => []
inductive Pick (p : Plc) : Int → Addr → Addr → Addr → Prop
  | zero : Pick p 0 p.b0 p.s0 p.r0
  | one : Pick p 1 p.b1 p.s1 p.r1
section
variable {C : Addr} {T : List (Addr × Str)} {p : Plc} {B H H' : Hp} {pa b s r : Addr} {x0 x1 ns : List Int} {z : Int}
theorem Pick.of (p : Plc) {z : Int} (h0 : 0 ≤ z) (h1 : z < 2) : ∃ b s r, Pick p z b s r := by
  have : z = 0 ∨ z = 1 := by omega
  rcases this with rfl | rfl
  · exact ⟨_, _, _, .zero⟩
  · exact ⟨_, _, _, .one⟩
theorem Pick.br (k : Pick p z b s r) (W : WS C T p B H pa x0 x1) : ∃ y, BrAt C H b s y ∧ H r = some (.lst (y.map V.int)) ∧ y.length ≤ 40 := by
  cases k with
  | zero => exact ⟨x0, W.br0, W.row0, W.len0⟩
  | one => exact ⟨x1, W.br1, W.row1, W.len1⟩
theorem Pick.deed (k : Pick p z b s r) (W : WS C T p B H pa x0 x1) (F : Fix p ns B) {r' c k' : Int} {y : List Int} (t : LamX.Tabs T H') (m : ExM (S3 pa s r) H H') (h : H' pa = some (potL r' c k')) (hb : BrAt C H' b s y) (hr : H' r = some (.lst (y.map V.int))) (hl : y.length ≤ 40) : ∃ y0 y1, WS C T p B H' pa y0 y1 := by
  cases k with
  | zero => exact ⟨_, _, W.deed0 F t m h hb hr hl⟩
  | one => exact ⟨_, _, W.deed1 F t m h hb hr hl⟩
theorem Pick.ixb (k : Pick p z b s r) : atI [V.ref p.b0, V.ref p.b1] z = some (.ref b) := by cases k <;> rfl
theorem Pick.ixr (k : Pick p z b s r) : atI [V.ref p.r0, V.ref p.r1] z = some (.ref r) := by cases k <;> rfl
theorem Pick.ne (k : Pick p z b s r) (W : WS C T p B H pa x0 x1) (F : Fix p ns B) : pa ≠ s ∧ pa ≠ r ∧ pa ≠ p.wl ∧ s ≠ r ∧ s ≠ p.wl ∧ r ≠ p.wl := by
  obtain ⟨l0, h0⟩ := F.s0
  obtain ⟨l1, h1⟩ := F.r0
  obtain ⟨l2, h2⟩ := F.s1
  obtain ⟨l3, h3⟩ := F.r1
  have d := F.dist
  cases k with
  | zero => exact ⟨W.ne h0 d.as0, W.ne h1 d.ar0, W.ne F.wl d.aw, d.sr0, d.s0w, d.r0w⟩
  | one => exact ⟨W.ne h2 d.as1, W.ne h3 d.ar1, W.ne F.wl d.aw, d.sr1, d.s1w, d.r1w⟩
theorem WS.bl (W : WS C T p B H pa x0 x1) (F : Fix p ns B) : H p.bl = some (.lst [.ref p.b0, .ref p.b1]) := by
  have d := F.dist
  exact W.ex.lst (fun z => z.elim (Ne.symm d.abl) fun z => z.elim (Ne.symm d.s0bl) fun z => z.elim (Ne.symm d.r0bl) fun z => z.elim (Ne.symm d.s1bl) (Ne.symm d.r1bl)) F.bl
theorem WS.rl (W : WS C T p B H pa x0 x1) (F : Fix p ns B) : H p.rl = some (.lst [.ref p.r0, .ref p.r1]) := by
  have d := F.dist
  exact W.ex.lst (fun z => z.elim (Ne.symm d.arl) fun z => z.elim (Ne.symm d.s0rl) fun z => z.elim (Ne.symm d.r0rl) fun z => z.elim (Ne.symm d.s1rl) (Ne.symm d.r1rl)) F.rl
theorem WS.wl (W : WS C T p B H pa x0 x1) (F : Fix p ns B) : H p.wl = some (.lst (ns.map V.int)) := by
  have d := F.dist
  exact W.ex.lst (fun z => z.elim (Ne.symm d.aw) fun z => z.elim (Ne.symm d.s0w) fun z => z.elim (Ne.symm d.r0w) fun z => z.elim (Ne.symm d.s1w) (Ne.symm d.r1w)) F.wl
end
section
variable {P : Program} {w : World} {K : PySem.W.Frag} {mg : Str → Option Value} {base : Heap}
variable {f : Addr} {cdv : Value} {A : Around} {outer : List Env} {sh : Shared} {H0 : Hp} {E : XK} {Q : VK} {C CW CT CN : Addr} {T : List (Addr × Str)} {p : Plc} {B H : Hp} {ns : List Int} {sc pa : Addr} {x0 x1 : List Int}
/-- a deed, and the look behind it -/
theorem law_deed (L : LCalls P w K mg base C CW CT CN T) (hr : Room 9 (XL P w K mg base f cdv A outer sh H0 E).A) (F : Fix p ns B) (W : WS C T p B H pa x0 x1) {s5 s6 s7 s8 s9 : Option V} {D : Ends}
    (q : ∀ s9' H' y0 y1, WS C T p B H' pa y0 y1 → D.nx (SL p sc pa s5 s6 s7 s8 s9') H') : wB (XL P w K mg base f cdv A outer sh H0 E) (bodyOf ((bodyOf ((defBody s_law).getD 8 (.Pass ⟨0, 0, 0, 0⟩))).getD 1 (.Pass ⟨0, 0, 0, 0⟩))) D (SL p sc pa s5 s6 s7 s8 s9) H := by
  obtain ⟨r, c, k, hp⟩ := W.pot
  refine b_cons (cs_set (i := 9) sc_law.nd rfl (.inl rfl) (ce_call L.draw hr (by decide) rfl (ca_cons (ce_name (i := 1) rfl (.inl rfl) rfl (ca_cons (ce_pd alive0 pd_int fun v H1 x1' r1 => ca_nil ⟨pa, _, r, c, k, by cases r1; rfl, x1' _ _ hp, by decide, by decide +kernel, fun z r2 k2 H2 z0 z1 e2 h2 => ?_⟩))))))
  have W2 := (W.step x1').draw F e2 h2
  obtain ⟨b, s, rr, pk⟩ := Pick.of p z0 z1
  obtain ⟨y, hB, hR, hl⟩ := pk.br W2
  obtain ⟨n1, n2, n3, n4, n5, n6⟩ := pk.ne W2 F
  -- if not _law_deed_kept(..)
  refine b_cons (cs_if (ct_not (ct_val ?_)))
  refine ce_call L.deed hr (by decide) rfl ?_
  refine ca_cons (ce_name (i := 1) rfl (.inl rfl) rfl (ca_cons ?_))
  refine ce_ix (ce_name (i := 3) rfl (.inl rfl) rfl (ce_name (i := 9) rfl (.inl rfl) rfl (rIx_lst (W2.bl F) pk.ixb (ca_cons ?_))))
  refine ce_ix (ce_name (i := 4) rfl (.inl rfl) rfl (ce_name (i := 9) rfl (.inl rfl) rfl (rIx_lst (W2.rl F) pk.ixr (ca_cons ?_))))
  refine ce_name (i := 2) rfl (.inl rfl) rfl (ca_nil ?_)
  refine ⟨pa, b, rr, p.wl, s, y, ns, r2, c, k2, rfl, h2, hB, hR, W2.wl F, hl, F.ne, F.len, F.ok, n1, n2, n3, n4, n5, n6, W2.tabs, fun H3 y' r3 k3 t3 m3 h3 hB3 hR3 hl3 => ⟨true, rfl, ?_⟩⟩
  rw [if_neg (by decide)]
  obtain ⟨y0, y1, W3⟩ := pk.deed W2 F t3 m3 h3 hB3 hR3 hl3
  -- if _law_draw(pot, 3) > 0 and not _law_brook_kept(..)
  refine b_nil (b_cons (cs_if (ct_w (cw_and (ct_gt ?_)))))
  refine ce_call L.draw hr (by decide) rfl (ca_cons (ce_name (i := 1) rfl (.inl rfl) rfl (ca_cons (ce_pd alive0 pd_int fun v H4 x4 r4 => ca_nil ?_))))
  refine ⟨pa, _, r3, c, k3, by cases r4; rfl, x4 _ _ h3, by decide, by decide +kernel, fun u r5 k5 H5 u0 u1 e5 h5 => ?_⟩
  have W5 := (W3.step x4).draw F e5 h5
  refine ce_pd alive0 pd_int fun v6 H6 x6 r6 => ?_
  cases r6
  have W6 := W5.step x6
  refine ⟨u, 0, rfl, rfl, fun _ => cw_and1 (ct_not (ct_val ?_)), fun hf => ?_⟩
  · obtain ⟨y6, hB6, hR6, hl6⟩ := pk.br W6
    refine ce_call L.kept hr (by decide) rfl (ca_cons ?_)
    refine ce_ix (ce_name (i := 3) rfl (.inl rfl) rfl (ce_name (i := 9) rfl (.inl rfl) rfl (rIx_lst (W6.bl F) pk.ixb (ca_cons ?_))))
    refine ce_ix (ce_name (i := 4) rfl (.inl rfl) rfl (ce_name (i := 9) rfl (.inl rfl) rfl (rIx_lst (W6.rl F) pk.ixr (ca_nil ?_))))
    refine ⟨b, rr, s, y6, rfl, hB6, hR6, hl6, fun H7 x7 => ⟨true, rfl, ?_⟩⟩
    rw [if_neg (by decide)]
    exact b_nil (b_nil (q _ _ _ _ (W6.step x7)))
  · rw [if_neg (by decide)]
    exact b_nil (b_nil (q _ _ _ _ W6))
end
end BK

namespace BK
open PySem PySem.Spec PyProof.Rows L2 GV
theorem WS.sc {C : Addr} {T : List (Addr × Str)} {p : Plc} {B H : Hp} {pa sc : Addr} {x0 x1 ns : List Int} {K : PySem.W.Frag} (W : WS C T p B H pa x0 x1) (h : ScAt K p.S B sc ns) : ScAt K M0 H sc ns := h.mono (fun _ z => z.elim) W.ex
section
variable {P : Program} {w : World} {K : PySem.W.Frag} {mg : Str → Option Value} {base : Heap}
variable {f : Addr} {cdv : Value} {A : Around} {outer : List Env} {sh : Shared} {H0 : Hp} {E : XK} {Q : VK} {C CW CT CN : Addr} {T : List (Addr × Str)} {p : Plc} {B H : Hp} {ns script : List Int} {sc pa ph pk : Addr} {cs : List (Int × Int)} {x0 x1 : List Int}
theorem ix_16 (k : Bool) : ixD (intsD [1, 16]) (.int (if k then 1 else 0)) = some (.int (if k then 16 else 1)) := by cases k <;> rfl
theorem law_loop (L : LCalls P w K mg base C CW CT CN T) (hr : Room 9 (XL P w K mg base f cdv A outer sh H0 E).A) (F : Fix p ns B) (W : WS C T p B H pa x0 x1) (hsc : ScAt K p.S B sc script) (hlen : script.length ≤ 63) (hh : Rp K p.S B (.ref ph) (pairsD cs)) (hk : Rp K p.S B (.ref pk) (pairsD cs)) {s5 s8 s9 : Option V} (q : ∀ H', Q (.bl true) H') :
    wB (XL P w K mg base f cdv A outer sh H0 E) ((defBody s_law).drop 8) (DL Q) (SL p sc pa s5 (some (.ref ph)) (some (.ref pk)) s8 s9) H := by
  have nb := L.nb
  refine b_cons (s_forRW (slot := 8) PassesOwn.never rfl sc_law.nd rfl (.inl rfl) rfl nb.range (ce_pd alive0 (pd_callB (call_min2 rfl) rfl nb.min PyProof.Rows.boot_min (ad_cons pd_int (ad_cons (pd_callB (call_max2 rfl) rfl nb.max PyProof.Rows.boot_max (ad_cons pd_int (ad_cons (pd_scLen (j := 0) (W.sc hsc) rfl nb.len) ad_nil)) rn_max2) ad_nil)) rn_min2) fun v H1 x1' r1 => ?_))
  generalize hm : (if (if (script.length : Int) > 1 then (script.length : Int) else 1) < 63 then (if (script.length : Int) > 1 then (script.length : Int) else 1) else 63) = m at r1
  have hm0 : 0 ≤ m ∧ m ≤ 63 := by
    rw [← hm]
    split <;> split <;> omega
  cases r1
  refine ⟨m.toNat, fun i σ' H' => ∃ pa' y0 y1 s5' s8' s9', σ' = SL p sc pa' s5' (some (.ref ph)) (some (.ref pk)) s8' s9' ∧ WS C T p B H' pa' y0 y1, by rw [Int.toNat_of_nonneg hm0.1], by omega, ⟨_, _, _, _, _, _, rfl, W.step x1'⟩, ?_, ?_⟩
  · rintro i σ' H' hi ⟨pa', y0, y1, s5', s8', s9', rfl, W'⟩
    have inner : ∀ (pb : Addr) (z0 z1 : List Int) (H2 : Hp) (D : Ends), WS C T p B H2 pb z0 z1 → (∀ s5 s9 H3 u0 u1, WS C T p B H3 pb u0 u1 → D.nx (SL p sc pb s5 (some (.ref ph)) (some (.ref pk)) (some (.int (i : Nat))) s9) H3) →
        wB (XL P w K mg base f cdv A outer sh H0 E) ((bodyOf ((defBody s_law).getD 8 (.Pass ⟨0, 0, 0, 0⟩))).drop 1) D (SL p sc pb s5' (some (.ref ph)) (some (.ref pk)) (some (.int (i : Nat))) s9') H2 := by
      intro pb z0 z1 H2 D W2 qn
      refine b_cons (s_forRW (slot := 5) PassesOwn.never rfl sc_law.nd rfl (.inl rfl) rfl nb.range (ce_pd alive0 (pd_ix (FD.pd (fd_lst (ds := [.int 1, .int 16]) (ad_cons pd_int (ad_cons pd_int ad_nil)) (by show 2 ≤ 100000; decide))) (pd_intB nb rfl (pd_eq hr.units (nm 8 (.int (i : Nat))) pd_int rfl rfl)) (ix_16 _)) fun v H3 x3 r3 => ?_))
      generalize hk : PyData.eqv (.int (i : Nat)) (.int 0) = kk at r3
      refine ⟨if kk then 16 else 1, fun j σ' H' => ∃ u0 u1 s5 s9, σ' = SL p sc pb s5 (some (.ref ph)) (some (.ref pk)) (some (.int (i : Nat))) s9 ∧ WS C T p B H' pb u0 u1, ?_, ?_, ⟨_, _, _, _, rfl, W2.step x3⟩, ?_, ?_⟩
      · cases r3
        cases kk <;> rfl
      · cases kk <;> decide
      · rintro j σ' H4 hj ⟨u0, u1, s5, s9, rfl, W4⟩
        exact law_deed L hr F W4 fun s9' H5 y0 y1 W5 => ⟨_, _, _, _, rfl, W5⟩
      · rintro σ' H4 ⟨u0, u1, s5, s9, rfl, W4⟩
        exact b_nil (qn _ _ _ _ _ W4)
    refine b_cons (s_if alive0 (td_gt (nm 8 (.int (i : Nat))) pd_int) (fun _ H2 x2 => ?_) (fun _ H2 x2 => ?_))
    · refine b_cons (cs_set (i := 1) sc_law.nd rfl (.inl rfl) (ce_call L.pot hr (by decide) rfl (ca_cons (ce_name (i := 0) rfl (.inl rfl) rfl (ca_cons (ce_name (i := 8) rfl (.inl rfl) rfl (ca_nil ⟨M0, sc, script, i, rfl, alive0, (W'.step x2).sc hsc, fun pq r c H3 hq x3 h3 => ?_⟩)))))))
      exact b_nil (inner pq y0 y1 H3 _ ((W'.step x2).pot' F hq x3 h3) fun s5 s9 H4 u0 u1 W4 => ⟨_, _, _, _, _, _, rfl, W4⟩)
    · exact b_nil (inner pa' y0 y1 H2 _ (W'.step x2) fun s5 s9 H4 u0 u1 W4 => ⟨_, _, _, _, _, _, rfl, W4⟩)
  · rintro σ' H' ⟨pa', y0, y1, s5', s8', s9', rfl, W'⟩
    exact law_end L hr F W' (hh.mono (fun _ z => z.elim) W'.ex) (hk.mono (fun _ z => z.elim) W'.ex) q
end
end BK

namespace BK
open PySem PySem.Spec PyProof.Rows L2 GV
theorem WS.lists {C : Addr} {T : List (Addr × Str)} {p : Plc} {B H : Hp} {pa : Addr} {x0 x1 : List Int} (W : WS C T p B H pa x0 x1) : Lists p.S H := fun a h => by
  rcases h with e | e | e | e | e
  · obtain ⟨l, hl⟩ := W.alv
    exact ⟨l, e ▸ hl⟩
  · exact ⟨_, e ▸ W.br0.lst⟩
  · exact ⟨_, e ▸ W.row0⟩
  · exact ⟨_, e ▸ W.br1.lst⟩
  · exact ⟨_, e ▸ W.row1⟩
theorem WS.alive {C : Addr} {T : List (Addr × Str)} {p : Plc} {B H : Hp} {pa : Addr} {x0 x1 : List Int} (W : WS C T p B H pa x0 x1) : Alive p.S H := fun a h => let ⟨l, hl⟩ := W.lists a h; ⟨_, hl⟩
theorem WS.rebase {C : Addr} {T : List (Addr × Str)} {p : Plc} {B H : Hp} {x0 x1 ns : List Int} (W : WS C T p B H p.pa x0 x1) (F : Fix p ns B) : Fix p ns H ∧ WS C T p H H p.pa x0 x1 :=
  ⟨⟨W.bl F, W.rl F, W.wl F, F.ne, F.len, F.ok, F.nd, W.lists⟩, ExM.refl _, W.tabs, .inl rfl, W.pot, W.br0, W.row0, W.len0, W.br1, W.row1, W.len1, W.alv⟩
section
variable {P : Program} {w : World} {K : PySem.W.Frag} {mg : Str → Option Value} {base : Heap}
variable {f : Addr} {cdv : Value} {A : Around} {outer : List Env} {sh : Shared} {H0 : Hp} {E : XK} {Q : VK} {C CW CT CN : Addr} {T : List (Addr × Str)} {p : Plc} {B H : Hp} {ns script : List Int} {sc : Addr} {x0 x1 : List Int}
/-- held, kept, and what follows -/
theorem law_held (L : LCalls P w K mg base C CW CT CN T) (hr : Room 9 (XL P w K mg base f cdv A outer sh H0 E).A) (F : Fix p ns B) (W : WS C T p B H p.pa x0 x1) (hsc : ScAt K p.S B sc script) (hlen : script.length ≤ 63) {s5 s6 s7 s8 s9 : Option V} (q : ∀ H', Q (.bl true) H') :
    wB (XL P w K mg base f cdv A outer sh H0 E) ((defBody s_law).drop 6) (DL Q) (SL p sc p.pa s5 s6 s7 s8 s9) H := by
  obtain ⟨pC, fC, fdC, prC, okC, bC⟩ := L.br.couples
  refine b_cons (cs_set (i := 6) sc_law.nd rfl (.inl rfl) (ce_propE L.br.br.cls prC okC hr (by decide) bC pass0 ?_))
  refine ce_ix (ce_name (i := 3) rfl (.inl rfl) rfl (ce_pd alive0 pd_int fun y H1 x1' r1 => ?_))
  cases r1
  have W1 := W.step x1'
  obtain ⟨dx, hi⟩ := W1.br0.ins
  refine rIx_lst (W1.bl F) rfl ⟨p.b0, dx, _, rfl, hi, p.b0, p.s0, x0, rfl, W1.len0, W1.br0, fun ph ws H2 hph x2 h2 rws => ?_⟩
  have W2 := W1.step x2
  have nph : ¬ p.S ph := fun z => by
    obtain ⟨l, hl⟩ := W1.lists ph z
    rw [hl] at hph
    cases hph
  have hh : Rp K p.S H2 (.ref ph) (pairsD (farL x0)) := .lst nph (.inl h2) (GV.RpAll.off rws (flats_pairs _) W2.lists)
  refine b_cons (cs_set (i := 7) sc_law.nd rfl (.inl rfl) (ce_fd W2.alive (fd_callTy call_list_of rfl L.nb.list PyProof.Rows.boot_list (ad_cons (nm 6 hh) ad_nil) (rf_list rfl)) fun pk wk H3 hpk x3 h3 rk => ?_))
  have npk : ¬ p.S pk := fun z => by
    obtain ⟨l, hl⟩ := W2.lists pk z
    rw [hl] at hpk
    cases hpk
  have W3 := W2.step x3
  obtain ⟨F3, W33⟩ := W3.rebase F
  exact law_loop L hr F3 W33 (hsc.mono (fun _ z => z) W3.ex) hlen (hh.mono (fun _ z => z) (.of x3)) (.lst npk (.inl h3) rk) q
/-- perhaps many stones first -/
theorem law_many (L : LCalls P w K mg base C CW CT CN T) (hr : Room 9 (XL P w K mg base f cdv A outer sh H0 E).A) (F : Fix p ns B) (W : WS C T p B H p.pa x0 x1) (hsc : ScAt K p.S B sc script) (hlen : script.length ≤ 63) {s5 s6 s7 s8 s9 : Option V} (q : ∀ H', Q (.bl true) H') :
    wB (XL P w K mg base f cdv A outer sh H0 E) ((defBody s_law).drop 5) (DL Q) (SL p sc p.pa s5 s6 s7 s8 s9) H := by
  have nb := L.nb
  have d := F.dist
  obtain ⟨r, c, k, hp⟩ := W.pot
  refine b_cons (cs_if (ct_eq hr.units ?_))
  refine ce_call L.draw hr (by decide) rfl (ca_cons (ce_name (i := 1) rfl (.inl rfl) rfl (ca_cons (ce_pd alive0 pd_int fun v H1 x1' r1 => ca_nil ?_))))
  refine ⟨p.pa, _, r, c, k, by cases r1; rfl, x1' _ _ hp, by decide, by decide +kernel, fun z r2 k2 H2 z0 z1 e2 h2 => ?_⟩
  have W2 := (W.step x1').draw F e2 h2
  refine ce_pd alive0 pd_int fun y H3 x3 r3 => ⟨.int z, _, .int z, r3.dp, rfl, rfl, ?_⟩
  have W3 := W2.step x3
  split
  · refine b_cons (s_forRW (slot := 5) PassesOwn.never rfl sc_law.nd rfl (.inl rfl) rfl nb.range ?_)
    refine ce_add (ce_pd alive0 pd_int fun v4 H4 x4 r4 => ?_)
    cases r4
    obtain ⟨r5, c5, k5, hp5⟩ := (W3.step x4).pot
    refine ce_call L.draw hr (by decide) rfl (ca_cons (ce_name (i := 1) rfl (.inl rfl) rfl (ca_cons (ce_pd alive0 pd_int fun v H5 x5 r6 => ca_nil ?_))))
    refine ⟨p.pa, _, r5, c5, k5, by cases r6; rfl, x5 _ _ hp5, by decide, by decide +kernel, fun u r7 k7 H7 u0 u1 e7 h7 => ?_⟩
    have W7 := ((W3.step x4).step x5).draw F e7 h7
    refine ⟨36, u, rfl, rfl, (36 + u).toNat, fun i σ' H' => ∃ y0 s5', σ' = SL p sc p.pa s5' s6 s7 s8 s9 ∧ WS C T p B H' p.pa y0 x1, by rw [Int.toNat_of_nonneg (by omega)], by omega, ⟨_, _, rfl, W7⟩, ?_, ?_⟩
    · rintro i σ' H8 hi ⟨y0, s5', rfl, W8⟩
      refine b_cons (cs_if (ct_not (ct_val ?_)))
      refine ce_call L.lay hr (by decide) rfl (ca_cons ?_)
      refine ce_ix (ce_name (i := 3) rfl (.inl rfl) rfl (ce_pd alive0 pd_int fun v9 H9 x9 r9 => ?_))
      cases r9
      refine rIx_lst ((W8.step x9).bl F) rfl (ca_cons ?_)
      refine ce_ix (ce_name (i := 4) rfl (.inl rfl) rfl (ce_pd alive0 pd_int fun v10 H10 x10 r10 => ?_))
      cases r10
      have W10 := (W8.step x9).step x10
      refine rIx_lst (W10.rl F) rfl (ca_cons ?_)
      refine ce_ix (ce_name (i := 2) rfl (.inl rfl) rfl ?_)
      have rw10 : Rp K M0 H10 (.ref p.wl) (intsD ns) := .lst (fun z => z) (.inl (W10.wl F)) (.ints ns)
      obtain ⟨r11, c11, k11, hp11⟩ := W10.pot
      have pos : 0 < ns.length := List.length_pos_iff.mpr F.ne
      have nlen := F.len
      refine ce_call L.draw hr (by decide) rfl (ca_cons (ce_name (i := 1) rfl (.inl rfl) rfl (ca_cons (ce_pd alive0 (pd_len nb rfl (nm 2 rw10) (n := ns.length) (by simp [lenD])) fun v H11 x11 r6 => ca_nil ?_))))
      refine ⟨p.pa, _, r11, c11, k11, by cases r6; rfl, x11 _ _ hp11, by omega, Nat.lt_of_le_of_lt (m := 1000) (by omega) (by decide +kernel), fun u r12 k12 H12 u0 u1 e12 h12 => ?_⟩
      have W12 := (W10.step x11).draw F e12 h12
      obtain ⟨zw, hzw⟩ : ∃ zw, ns[u.toNat]? = some zw := ⟨_, List.getElem?_eq_getElem (by omega)⟩
      refine rIx_of (M := M0) (da := intsD ns) (d := .int zw) (.lst (fun z => z) (.inl (W12.wl F)) (.ints ns)) ?_ fun v6 r6 => ?_
      · have := ixD_ints hzw
        rwa [show ((u.toNat : Nat) : Int) = u by omega] at this
      cases r6
      refine ca_nil ⟨p.b0, p.r0, p.s0, y0, zw, rfl, W12.br0, W12.row0, d.sr0, W12.len0, (F.ok zw (List.mem_of_getElem? hzw)).is, W12.tabs, fun H13 y13 t13 m13 hB13 hR13 hl13 => ⟨true, rfl, ?_⟩⟩
      rw [if_neg (by decide)]
      have hp13 : H13 p.pa = some (potL r12 c11 k12) := m13.lst (fun z => z.elim d.as0 d.ar0) h12
      exact b_nil (b_nil ⟨_, _, rfl, W12.deed0 F t13 (m13.mono fun x h => .inr h) hp13 hB13 hR13 hl13⟩)
    · rintro σ' H8 ⟨y0, s5', rfl, W8⟩
      exact b_nil (law_held L hr F W8 hsc hlen q)
  · exact b_nil (law_held L hr F W3 hsc hlen q)
end
end BK

namespace BK
open PySem PySem.Spec PyProof.Rows L2 GV
theorem mk_ex {H H' : Hp} {b dx C : Addr} (hb : H b = none) (hd : H dx = none) (k : ∀ a o, upd (upd H dx (.own b)) b (.ins C dx []) a = some o → a ≠ b → H' a = some o) : Evl.Ex H H' := fun a o h => k a o (by
  rw [upd_ne (ne_of_none h hb), upd_ne (ne_of_none h hd)]
  exact h) (ne_of_none h hb)
theorem mk_none {H : Hp} {b dx C s : Addr} (h : upd (upd H dx (.own b)) b (.ins C dx []) s = none) : H s = none := by
  by_cases e : s = b
  · rw [e, upd_same] at h
    cases h
  · by_cases e2 : s = dx
    · rw [upd_ne e, e2, upd_same] at h
      cases h
    · rwa [upd_ne e, upd_ne e2] at h
section
variable {P : Program} {w : World} {K : PySem.W.Frag} {mg : Str → Option Value} {base : Heap}
theorem ok_law {f C CW CT CN : Addr} {fd : FuncData} {T : List (Addr × Str)} (F : At K mg "law" s_law f fd) (L : LCalls P w K mg base C CW CT CN T) : FnOk P w K mg base CX0 10 f fd ["script"] (spLaw K T) := by
  refine F.fn.ok sc_law (fun vs H Q E h => ?_) (fun cdv A outer sh H vs Q E hr h => ⟨_, wB.ps, ?_⟩)
  · obtain ⟨a, ns, rfl, _⟩ := h
    rfl
  obtain ⟨a0, script, rfl, hS, hlen, hT, q⟩ := h
  obtain ⟨fI, fdI, mk, okI, bI⟩ := L.made
  have sc0 : ScAt K M0 H a0 script := ScAt.of hS fun z => z
  refine b_cons (cs_set (i := 1) sc_law.nd rfl (.inl rfl) (ce_call L.pot hr (by decide) rfl (ca_cons (ce_name (i := 0) rfl (.inl rfl) rfl (ca_cons (ce_pd alive0 pd_int fun v Ha xa ra => ca_nil ?_))))))
  refine ⟨M0, a0, script, 0, by cases ra; rfl, alive0, sc0.mono (fun _ z => z) (.of xa), fun pa r c H1 hpa x1 h1 => ?_⟩
  -- weights
  refine b_cons (cs_set (i := 2) sc_law.nd rfl (.inl rfl) (ce_call L.weights hr (by decide) rfl (ca_cons (ce_name (i := 1) rfl (.inl rfl) rfl (ca_cons (ce_add (ce_pd alive0 pd_int fun v Hb xb rb => ?_)))))))
  cases rb
  refine ce_call L.draw hr (by decide) rfl (ca_cons (ce_name (i := 1) rfl (.inl rfl) rfl (ca_cons (ce_pd alive0 pd_int fun v Hc xc rc => ca_nil ?_))))
  refine ⟨pa, _, r, c, 0, by cases rc; rfl, xc _ _ (xb _ _ h1), by decide, by decide +kernel, fun z r2 k2 H2 z0 z1 e2 h2 => ?_⟩
  refine ⟨1, z, rfl, rfl, ca_nil ⟨pa, (1 + z).toNat, r2, c, k2, by rw [Int.toNat_of_nonneg (by omega)], h2, by omega, by omega, fun wl ns r3 k3 H3 hwl e3 h3 hw hne hnl hok => ?_⟩⟩
  -- brooks
  refine b_cons (cs_set (i := 3) sc_law.nd rfl (.inl rfl) (ce_lst (ca_cons (ce_make0 mk okI hr (by decide) rfl L.gC bI pass0 fun b0 dx0 hb0 hd0 ne0 => ⟨b0, dx0, rfl, upd_same, fun s0 H4 hs0 k4 hB0 => ⟨rfl, ca_cons (ce_make0 mk okI hr (by decide) rfl L.gC bI pass0 fun b1 dx1 hb1 hd1 ne1 => ⟨b1, dx1, rfl, upd_same, fun s1 H5 hs1 k5 hB1 => ⟨rfl, ca_nil ⟨(by show 2 ≤ 1000; decide), fun bl hbl => ?_⟩⟩⟩)⟩⟩))))
  have x34 : Evl.Ex H3 H4 := mk_ex hb0 hd0 k4
  have x45 : Evl.Ex H4 H5 := mk_ex hb1 hd1 k5
  have hs0 := mk_none hs0
  have hs1 := mk_none hs1
  generalize hH6 : upd H5 bl (.lst [V.ref b0, V.ref b1]) = H6
  have x56 : Evl.Ex H5 H6 := hH6 ▸ Evl.Ex.new hbl
  have h6 : H6 bl = some (.lst [V.ref b0, V.ref b1]) := by rw [← hH6, upd_same]
  -- rows
  refine b_cons (cs_set (i := 4) sc_law.nd rfl (.inl rfl) (ce_lst (ca_cons (ce_fd alive0 (fd_lst ad_nil (by simp)) fun r0 w0 H7 hr0 x67 h7 rw0 => ca_cons (ce_fd alive0 (fd_lst ad_nil (by simp)) fun r1 w1 H8 hr1 x78 h8 rw1 => ca_nil ⟨(by show 2 ≤ 1000; decide), fun rl hrl => ?_⟩)))))
  obtain ⟨⟩ := rw0
  obtain ⟨⟩ := rw1
  generalize hH9 : upd H8 rl (.lst [V.ref r0, V.ref r1]) = H9
  have x89 : Evl.Ex H8 H9 := hH9 ▸ Evl.Ex.new hrl
  have h9 : H9 rl = some (.lst [V.ref r0, V.ref r1]) := by rw [← hH9, upd_same]
  have x69 : Evl.Ex H6 H9 := (x67.trans x78).trans x89
  have x39 : Evl.Ex H3 H9 := ((x34.trans x45).trans x56).trans x69
  have hB9 : BrAt C H9 b0 s0 [] := ((hB0.ex x45).ex x56).ex x69
  refine b_cons (cs_if (ct_not (ct_val (ce_call L.kept hr (by decide) rfl (ca_cons (ce_ix (ce_name (i := 3) rfl (.inl rfl) rfl (ce_pd alive0 pd_int fun y H10 x10 r10 => ?_))))))))
  cases r10
  refine rIx_lst (x10 _ _ (x69 _ _ h6)) rfl (ca_cons (ce_fd alive0 (fd_lst ad_nil (by simp)) fun e we H11 he x11 h11 rwe => ca_nil ⟨b0, e, s0, [], rfl, (hB9.ex x10).ex x11, by cases rwe; exact h11, by simp, fun H12 x12 => ⟨true, rfl, ?_⟩⟩))
  rw [if_neg (by decide)]
  refine b_nil ?_
  have x9b : Evl.Ex H9 H12 := (x10.trans x11).trans x12
  -- where all stands
  have e03 : ExB pa H H3 := (((((ExB.of xa).trans (.of x1)).trans (.of xb)).trans (.of xc)).trans e2).trans e3
  have t2 : LamX.Tabs T H2 := tabs_eqB ((((hT.ext xa).ext x1).ext xb).ext xc) e2 (xc _ _ (xb _ _ h1))
  have t3 : LamX.Tabs T H3 := tabs_eqB t2 e3 h2
  have x38 : Evl.Ex H3 H8 := ((x34.trans x45).trans x56).trans (x67.trans x78)
  have x37 : Evl.Ex H3 H7 := ((x34.trans x45).trans x56).trans x67
  have x36 : Evl.Ex H3 H6 := (x34.trans x45).trans x56
  have x35 : Evl.Ex H3 H5 := x34.trans x45
  have pw : pa ≠ wl := ne_of_none h2 hwl
  have ps0 : pa ≠ s0 := ne_of_none h3 hs0
  have ws0 : wl ≠ s0 := ne_of_none hw hs0
  have ps1 : pa ≠ s1 := ne_of_none (x34 _ _ h3) hs1
  have ws1 : wl ≠ s1 := ne_of_none (x34 _ _ hw) hs1
  have ss1 : s0 ≠ s1 := ne_of_none hB0.lst hs1
  have pbl : pa ≠ bl := ne_of_none (x35 _ _ h3) hbl
  have wbl : wl ≠ bl := ne_of_none (x35 _ _ hw) hbl
  have sbl : s0 ≠ bl := ne_of_none (x45 _ _ hB0.lst) hbl
  have s1bl : s1 ≠ bl := ne_of_none hB1.lst hbl
  have pr0 : pa ≠ r0 := ne_of_none (x36 _ _ h3) hr0
  have wr0 : wl ≠ r0 := ne_of_none (x36 _ _ hw) hr0
  have sr0 : s0 ≠ r0 := ne_of_none ((x45.trans x56) _ _ hB0.lst) hr0
  have s1r0 : s1 ≠ r0 := ne_of_none (x56 _ _ hB1.lst) hr0
  have blr0 : bl ≠ r0 := ne_of_none h6 hr0
  have pr1 : pa ≠ r1 := ne_of_none (x37 _ _ h3) hr1
  have wr1 : wl ≠ r1 := ne_of_none (x37 _ _ hw) hr1
  have sr1 : s0 ≠ r1 := ne_of_none (((x45.trans x56).trans x67) _ _ hB0.lst) hr1
  have s1r1 : s1 ≠ r1 := ne_of_none ((x56.trans x67) _ _ hB1.lst) hr1
  have blr1 : bl ≠ r1 := ne_of_none (x67 _ _ h6) hr1
  have rr : r0 ≠ r1 := ne_of_none h7 hr1
  have prl : pa ≠ rl := ne_of_none (x38 _ _ h3) hrl
  have wrl : wl ≠ rl := ne_of_none (x38 _ _ hw) hrl
  have srl : s0 ≠ rl := ne_of_none ((((x45.trans x56).trans x67).trans x78) _ _ hB0.lst) hrl
  have s1rl : s1 ≠ rl := ne_of_none (((x56.trans x67).trans x78) _ _ hB1.lst) hrl
  have blrl : bl ≠ rl := ne_of_none ((x67.trans x78) _ _ h6) hrl
  have r0rl : r0 ≠ rl := ne_of_none (x78 _ _ h7) hrl
  have r1rl : r1 ≠ rl := ne_of_none h8 hrl
  let p : Plc := ⟨pa, b0, s0, r0, b1, s1, r1, wl, bl, rl⟩
  have W : WS C T p H12 H12 pa [] [] := ⟨ExM.refl _, (t3.ext x39).ext x9b, .inl rfl, ⟨r3, c, k3, x9b _ _ (x39 _ _ h3)⟩, hB9.ex x9b, x9b _ _ ((x78.trans x89) _ _ h7), by simp, ((hB1.ex x56).ex x69).ex x9b, x9b _ _ (x89 _ _ h8), by simp, ⟨_, x9b _ _ (x39 _ _ h3)⟩⟩
  have Fx : Fix p ns H12 := ⟨x9b _ _ (x69 _ _ h6), x9b _ _ h9, x9b _ _ (x39 _ _ hw), hne, hnl, hok, by
    simp only [p, List.nodup_cons, List.mem_cons, List.not_mem_nil, or_false, not_or, List.nodup_nil, and_true, not_false_eq_true]
    exact ⟨⟨ps0, pr0, ps1, pr1, pw, pbl, prl⟩, ⟨sr0, ss1, sr1, Ne.symm ws0, sbl, srl⟩, ⟨Ne.symm s1r0, rr, Ne.symm wr0, Ne.symm blr0, r0rl⟩, ⟨s1r1, Ne.symm ws1, s1bl, s1rl⟩, ⟨Ne.symm wr1, Ne.symm blr1, r1rl⟩, ⟨wbl, wrl⟩, blrl⟩, W.lists⟩
  have back : ∀ {x : Addr}, pa ≠ x → H3 x = none → H x = none := fun {x} n h => by
    cases hx : H x with
    | none => rfl
    | some o =>
      rw [e03 x o (Ne.symm n) hx] at h
      cases h
  have e0b : ExB pa H H12 := e03.trans (.of (x39.trans x9b))
  have hsc : ScAt K p.S H12 a0 script := by
    rcases hS with h | h
    · have hn : H a0 ≠ none := GV.Rd.there h
      have n0 : a0 ≠ pa := fun e => hn (by rw [e]; exact Evl.fresh_back xa hpa)
      have nn : ¬ p.S a0 := fun z => by
        rcases z with e | e | e | e | e
        · exact n0 e
        · exact hn (by rw [e]; exact back ps0 hs0)
        · exact hn (by rw [e]; exact back pr0 (Evl.fresh_back x36 hr0))
        · exact hn (by rw [e]; exact back ps1 (Evl.fresh_back x34 hs1))
        · exact hn (by rw [e]; exact back pr1 (Evl.fresh_back x37 hr1))
      refine .inl ⟨nn, ?_⟩
      rcases h with h | ⟨o, h⟩
      · exact .inl (e0b _ _ n0 h)
      · exact .inr ⟨o, e0b _ _ n0 h⟩
    · exact .inr fun _ => .inr h
  exact law_many L hr Fx W hsc hlen q
end
end BK

namespace BK
open PySem PySem.Spec PyProof.Rows L2 GV
section
variable {K : PySem.W.Frag} {h : Heap} {mg : Str → Option Value}
theorem at_mk {x : Str} {st : Stmt} {f : Addr} {od an : Option Addr} {sl : Array (Option Value)} {oc kV dc pm cd ct : Value} (X : K.In h) (G : h.Ns mainGlobals mg) (a : PySem.W.nsIn K mainGlobals x = some (some (.ref f)))
    (l : K.lookup f = some ⟨oc, od, .func (PySem.W.fnOf x x (defArgs st) (defBody st) (defScope st) .none kV dc pm an cd ct), sl⟩) (c : PySem.W.codeIn K cd x = true) (k : PySem.W.keepIn K (.ref f) = true) : ∃ f fd, At K mg x st f fd :=
  ⟨f, _, fun_mk l c k, PySem.W.mg_of X G a⟩
theorem fc_mk {x : Str} {st : Stmt} {f : Addr} {od an : Option Addr} {sl : Array (Option Value)} {oc kV dc pm cd ct : Value} (X : K.In h) (G : h.Ns mainGlobals mg) (a : PySem.W.nsIn K mainGlobals x = some (some (.ref f)))
    (l : K.lookup f = some ⟨oc, od, .func (PySem.W.fnOf x x (defArgs st) (defBody st) (defScope st) .none kV dc pm an cd ct), sl⟩) (c : PySem.W.codeIn K cd x = true) (k : PySem.W.keepIn K (.ref f) = true) : ∃ f fd, FunC K mg x st f fd cd :=
  ⟨f, _, ⟨_, _, _, _, _, _, _, _, rfl, l, c⟩, k, PySem.W.mg_of X G a⟩
theorem fun_mk' {x q : Str} {st : Stmt} {f : Addr} {od an : Option Addr} {sl : Array (Option Value)} {oc kV dc pm cd ct : Value}
    (l : K.lookup f = some ⟨oc, od, .func (PySem.W.fnOf x q (defArgs st) (defBody st) (defScope st) .none kV dc pm an cd ct), sl⟩) (c : PySem.W.codeIn K cd q = true) (k : PySem.W.keepIn K (.ref f) = true) : ∃ fd, Fun K x q st f fd := ⟨_, fun_mk l c k⟩
/-- whether an error of the class at S is one of the class at D -/
theorem exm_of {S D : Addr} {b : Bool} (h1 : PySem.W.subIn K (.ref S) (.type "BaseException") = some true) (h0 : PySem.W.subIn K (.ref D) (.type "BaseException") = some true) (h2 : PySem.W.isClsIn K D = true) (h3 : PySem.W.typeIn K (.ref D) = some (.type "type")) (h4 : PySem.W.subIn K (.ref S) (.ref D) = some b) : PySem.W.exmOne K (.ref S) (.ref D) = some b := by
  have e1 : (PySem.W.subIn K (.ref D) (.type "BaseException") == some true) = true := by rw [h0] <;> rfl
  have e2 : ((PySem.W.clsIn K D).isSome && PySem.W.typeIn K (.ref D) == some (.type "type")) = true := by
    have h2' : (PySem.W.clsIn K D).isSome = true := h2
    rw [h2', h3] <;> rfl
  show (if (PySem.W.subIn K (.ref D) (.type "BaseException") == some true) = true then (if ((PySem.W.clsIn K D).isSome && PySem.W.typeIn K (.ref D) == some (.type "type")) = true then PySem.W.subIn K (.ref S) (.ref D) else none) else none) = some b
  rw [if_pos e1, if_pos e2]
  exact h4
end
section
variable {P : Program} {w : World} {K : PySem.W.Frag} {mg : Str → Option Value}
/-- all that the top has written, as facts -/
structure Facts (K : PySem.W.Frag) (mg : Str → Option Value) (base : Heap) (T : List (Addr × Str)) : Prop where
  nb : NoB mg
  is_integer : ∃ f fd, At K mg "is_integer" s_is_integer f fd
  is_number : ∃ f fd, At K mg "is_number" s_is_number f fd
  is_weight : ∃ f fd, At K mg "is_weight" s_is_weight f fd
  check_weight : ∃ f fd, At K mg "check_weight" s_check_weight f fd
  covers : ∃ f fd, At K mg "covers" s_covers f fd
  covered : ∃ f fd, At K mg "covered" s_covered f fd
  couples_with : ∃ f fd, At K mg "_couples_with" s_couples_with f fd
  far_of : ∃ f fd, At K mg "far_of" s_far_of f fd
  law_pot : ∃ f fd, At K mg "_law_pot" s_law_pot f fd
  law_draw : ∃ f fd, At K mg "_law_draw" s_law_draw f fd
  law_weights : ∃ f fd, At K mg "_law_weights" s_law_weights f fd
  law_is_number : ∃ f fd, At K mg "_law_is_number" s_law_is_number f fd
  law_is_list : ∃ f fd, At K mg "_law_is_list" s_law_is_list f fd
  law_is_row : ∃ f fd, At K mg "_law_is_row" s_law_is_row f fd
  law_is_pairs : ∃ f fd, At K mg "_law_is_pairs" s_law_is_pairs f fd
  law_far : ∃ f fd, At K mg "_law_far" s_law_far f fd
  law_told : ∃ f fd, At K mg "_law_told" s_law_told f fd
  law_brook_kept : ∃ f fd, At K mg "_law_brook_kept" s_law_brook_kept f fd
  law_any_weight : ∃ f fd, At K mg "_law_any_weight" s_law_any_weight f fd
  law_deed_kept : ∃ f fd, At K mg "_law_deed_kept" s_law_deed_kept f fd
  lay_kept : ∃ f fd cdv, FunC K mg "_law_lay_kept" s_law_lay_kept f fd cdv ∧ LamB mg base T cdv ((PyProof.Rows.envOfC "_law_lay_kept" (defScope s_law_lay_kept) 0 f cdv).qual ++ "<lambda>")
  lift_kept : ∃ f fd cdv, FunC K mg "_law_lift_kept" s_law_lift_kept f fd cdv ∧ LamB mg base T cdv ((PyProof.Rows.envOfC "_law_lift_kept" (defScope s_law_lift_kept) 0 f cdv).qual ++ "<lambda>")
  odd_kept : ∃ f fd cdv, FunC K mg "_law_odd_kept" s_law_odd_kept f fd cdv ∧ LamB mg base T cdv ((PyProof.Rows.envOfC "_law_odd_kept" (defScope s_law_odd_kept) 0 f cdv).qual ++ "<lambda>")
  gW : ∃ t, mg "MOST_WEIGHT" = some (.int mostW t)
  gS : ∃ t, mg "MOST_STONES" = some (.int 40 t)
/-- the error classes -/
structure EFacts (K : PySem.W.Frag) (mg : Str → Option Value) (CW CT CN : Addr) : Prop where
  told : Told K mg CW CT CN
  oW : OexC K CW
  oT : OexC K CT
  e0 : Err0 K mg "NothingLaid" CN
  iW : ∃ f fd, PySem.W.findIn K (.ref CW) "__init__" = some (some (.ref f)) ∧ PySem.W.typeIn K (.ref f) = some (.type "function") ∧ Fun K "__init__" "InvalidWeight.__init__" s_InvalidWeight_init f fd
  iT : ∃ f fd, PySem.W.findIn K (.ref CT) "__init__" = some (some (.ref f)) ∧ PySem.W.typeIn K (.ref f) = some (.type "function") ∧ Fun K "__init__" "TooMany.__init__" s_TooMany_init f fd
/-- the class -/
structure BFacts (K : PySem.W.Frag) (mg : Str → Option Value) (C : Addr) : Prop where
  br : BrC K C
  gC : mg "Brook" = some (.ref C)
  init : ∃ f fd, Mk K C f ∧ Fun K "__init__" "Brook.__init__" s_Brook_init f fd
  laid : ∃ p f fd, PropOf K C "laid" p f ∧ Fun K "laid" "Brook.laid" s_Brook_laid f fd
  couples : ∃ p f fd, PropOf K C "couples" p f ∧ Fun K "couples" "Brook.couples" s_Brook_couples f fd
  lightest : ∃ p f fd, PropOf K C "lightest" p f ∧ Fun K "lightest" "Brook.lightest" s_Brook_lightest f fd
  lay : ∃ f fd, Meth K C "lay" f ∧ Fun K "lay" "Brook.lay" s_Brook_lay f fd
  lift : ∃ f fd, Meth K C "lift" f ∧ Fun K "lift" "Brook.lift" s_Brook_lift f fd
theorem lcalls {base : Heap} {T : List (Addr × Str)} {C CW CT CN : Addr} (FA : Facts K mg base T) (EF : EFacts K mg CW CT CN) (BF : BFacts K mg C) : LCalls P w K mg base C CW CT CN T := by
  have nb := FA.nb
  obtain ⟨_, _, a1⟩ := FA.is_integer
  have c1 : Cl P w K mg base CX0 1 "is_integer" _ := cl_is_integer a1 nb
  obtain ⟨_, _, a2⟩ := FA.is_number
  have c2 := cl_is_number a2 c1
  obtain ⟨_, _, a3⟩ := FA.is_weight
  obtain ⟨_, gW⟩ := FA.gW
  have c3 := cl_is_weight a3 c2 gW
  obtain ⟨fW, fdW, w1, w2, w3⟩ := EF.iW
  obtain ⟨fT, fdT, t1, t2, t3⟩ := EF.iT
  have To := EF.told
  have erW : ErrC P w K mg base "InvalidWeight" CW ["weight"] := ⟨To.gW, EF.oW, To.xW, fun f hf => by rw [List.mem_singleton.mp hf]; exact To.nW, fW, fdW, _, w1, w2, ok_initW w3 EF.oW To.nW, w3.binds fun _ _ _ _ _ _ us hl => match us, hl with | [_, _], _ => rfl⟩
  have erT : ErrC P w K mg base "TooMany" CT ["most", "given"] := ⟨To.gT, EF.oT, To.xT, fun f hf => by
    rcases List.mem_cons.mp hf with e | e
    · rw [e]
      exact To.nM
    · rw [List.mem_singleton.mp e]
      exact To.nG, fT, fdT, _, t1, t2, ok_initT t3 EF.oT To.nM To.nG, t3.binds fun _ _ _ _ _ _ us hl => match us, hl with | [_, _, _], _ => rfl⟩
  obtain ⟨_, _, a4⟩ := FA.check_weight
  have c4 := cl_check_weight a4 c3 erW
  obtain ⟨_, _, a5⟩ := FA.covers
  have c5 : Cl P w K mg base CX0 1 "covers" _ := cl_covers a5
  obtain ⟨_, _, a6⟩ := FA.covered
  have c6 := cl_covered a6 c5 nb
  obtain ⟨_, _, a7⟩ := FA.couples_with
  have c7 := cl_couples_with a7 c6
  obtain ⟨_, _, a8⟩ := FA.far_of
  have c8 := cl_far_of a8 c7 nb
  obtain ⟨_, gS⟩ := FA.gS
  obtain ⟨f1, fd1, m1, F1⟩ := BF.init
  obtain ⟨p2, f2, fd2, m2, F2⟩ := BF.laid
  obtain ⟨p3, f3, fd3, m3, F3⟩ := BF.couples
  obtain ⟨p4, f4, fd4, m4, F4⟩ := BF.lightest
  obtain ⟨f5, fd5, m5, F5⟩ := BF.lay
  obtain ⟨f6, fd6, m6, F6⟩ := BF.lift
  have B : BrM P w K mg base C CW CT CN := ⟨BF.br, ⟨f5, fd5, m5, ok_lay F5 BF.br nb c4 erT gS, F5.binds fun _ _ _ _ _ _ us hl => match us, hl with | [_, _], _ => rfl⟩, ⟨f6, fd6, m6, ok_lift F6 BF.br nb EF.e0, F6.binds fun _ _ _ _ _ _ us hl => match us, hl with | [_], _ => rfl⟩,
    ⟨p2, f2, fd2, m2, ok_laid F2 BF.br nb, F2.binds fun _ _ _ _ _ _ us hl => match us, hl with | [_], _ => rfl⟩, ⟨p3, f3, fd3, m3, ok_couples F3 BF.br c8, F3.binds fun _ _ _ _ _ _ us hl => match us, hl with | [_], _ => rfl⟩, ⟨p4, f4, fd4, m4, ok_lightest F4 BF.br nb, F4.binds fun _ _ _ _ _ _ us hl => match us, hl with | [_], _ => rfl⟩⟩
  obtain ⟨_, _, a10⟩ := FA.law_pot
  obtain ⟨_, _, a11⟩ := FA.law_draw
  have cd : Cl P w K mg base CX0 1 "_law_draw" spDraw := cl_law_draw a11 nb
  obtain ⟨_, _, a12⟩ := FA.law_weights
  obtain ⟨_, _, a13⟩ := FA.law_is_number
  have cN : Cl P w K mg base CX0 1 "_law_is_number" _ := cl_law_is_number a13 nb
  obtain ⟨_, _, a14⟩ := FA.law_is_list
  have cL := cl_law_is_list a14 cN nb
  obtain ⟨_, _, a15⟩ := FA.law_is_row
  have cR := cl_law_is_row a15 cL nb
  obtain ⟨_, _, a16⟩ := FA.law_is_pairs
  have cP := cl_law_is_pairs a16 cR nb
  obtain ⟨_, _, a17⟩ := FA.law_far
  obtain ⟨_, _, a18⟩ := FA.law_told
  obtain ⟨_, _, a19⟩ := FA.law_brook_kept
  obtain ⟨_, _, a20⟩ := FA.law_any_weight
  obtain ⟨_, _, a21⟩ := FA.law_deed_kept
  obtain ⟨_, _, _, b1, l1⟩ := FA.lay_kept
  obtain ⟨_, _, _, b2, l2⟩ := FA.lift_kept
  obtain ⟨_, _, _, b3, l3⟩ := FA.odd_kept
  have cLay := cl_lay_kept b1 nb B a18 To l1
  have cLift := cl_lift_kept b2 nb B a18 To cN l2
  have cOdd := cl_odd_kept b3 nb B a18 To cd l3
  exact ⟨nb, B, cl_law_pot a10 nb, cd, cl_law_weights a12 nb cd, cLay, cl_brook_kept a19 nb B (cl_law_far a17 nb) cR cP cN, cl_deed_kept (CW := CW) (CT := CT) (CN := CN) a21 nb cd (cl_any_weight a20 nb cd) cLay cLift cOdd, BF.gC, ⟨f1, fd1, m1, ok_binit F1 BF.br, F1.binds fun _ _ _ _ _ _ us hl => match us, hl with | [_], _ => rfl⟩⟩
end
end BK

namespace BK
open PySem PySem.Spec PyProof.Rows L2 GV
abbrev qL (x : Str) (st : Stmt) (f c : Addr) : Str := (PyProof.Rows.envOfC x (defScope st) 0 f (.ref c)).qual ++ "<lambda>"
/-- a def with a lambda in it: its code object, and the table that hangs on it -/
structure LamF (K : PySem.W.Frag) (mg : Str → Option Value) (h : Heap) (x : Str) (st : Stmt) (f c Pt : Addr) : Prop where
  fn : ∃ fd, FunC K mg x st f fd (.ref c)
  hd : PySem.W.CodeHd h c Pt
  tb : h.get? Pt = some (PySem.W.tabObj #[])
  no : K.lookup Pt = none
theorem lam_mk {K : PySem.W.Frag} {h : Heap} {mg : Str → Option Value} {x : Str} {st : Stmt} {f c Pt : Addr} {od an : Option Addr} {sl : Array (Option Value)} {oc kV dc pm ct : Value} (X : K.In h) (G : h.Ns mainGlobals mg) (a : PySem.W.nsIn K mainGlobals x = some (some (.ref f)))
    (l : K.lookup f = some ⟨oc, od, .func (PySem.W.fnOf x x (defArgs st) (defBody st) (defScope st) .none kV dc pm an (.ref c) ct), sl⟩) (co : PySem.W.codeIn K (.ref c) x = true) (k : PySem.W.keepIn K (.ref f) = true) (hd : PySem.W.codeHdIn K c Pt = true) (tb : h.get? Pt = some (PySem.W.tabObj #[])) (no : K.lookup Pt = none) : LamF K mg h x st f c Pt :=
  ⟨⟨_, ⟨_, _, _, _, _, _, _, _, rfl, l, co⟩, k, PySem.W.mg_of X G a⟩, PySem.W.codeHd_of_K X hd, tb, no⟩
structure Facts0 (K : PySem.W.Frag) (mg : Str → Option Value) : Prop where
  nb : NoB mg
  is_integer : ∃ f fd, At K mg "is_integer" s_is_integer f fd
  is_number : ∃ f fd, At K mg "is_number" s_is_number f fd
  is_weight : ∃ f fd, At K mg "is_weight" s_is_weight f fd
  check_weight : ∃ f fd, At K mg "check_weight" s_check_weight f fd
  covers : ∃ f fd, At K mg "covers" s_covers f fd
  covered : ∃ f fd, At K mg "covered" s_covered f fd
  couples_with : ∃ f fd, At K mg "_couples_with" s_couples_with f fd
  far_of : ∃ f fd, At K mg "far_of" s_far_of f fd
  law_pot : ∃ f fd, At K mg "_law_pot" s_law_pot f fd
  law_draw : ∃ f fd, At K mg "_law_draw" s_law_draw f fd
  law_weights : ∃ f fd, At K mg "_law_weights" s_law_weights f fd
  law_is_number : ∃ f fd, At K mg "_law_is_number" s_law_is_number f fd
  law_is_list : ∃ f fd, At K mg "_law_is_list" s_law_is_list f fd
  law_is_row : ∃ f fd, At K mg "_law_is_row" s_law_is_row f fd
  law_is_pairs : ∃ f fd, At K mg "_law_is_pairs" s_law_is_pairs f fd
  law_far : ∃ f fd, At K mg "_law_far" s_law_far f fd
  law_told : ∃ f fd, At K mg "_law_told" s_law_told f fd
  law_brook_kept : ∃ f fd, At K mg "_law_brook_kept" s_law_brook_kept f fd
  law_any_weight : ∃ f fd, At K mg "_law_any_weight" s_law_any_weight f fd
  law_deed_kept : ∃ f fd, At K mg "_law_deed_kept" s_law_deed_kept f fd
  law : ∃ f fd, At K mg "law" s_law f fd
  gW : ∃ t, mg "MOST_WEIGHT" = some (.int mostW t)
  gS : ∃ t, mg "MOST_STONES" = some (.int 40 t)
theorem law_at {l : PySem.W.OpenLaw} {w : World} {K : PySem.W.Frag} {h : Heap} {mg : Str → Option Value} {fa C CW CT CN f1 c1 P1 f2 c2 P2 f3 c3 P3 : Addr} (hfa : mg "law" = some (.ref fa)) (A : Facts0 K mg) (EF : EFacts K mg CW CT CN) (BF : BFacts K mg C)
    (l1 : LamF K mg h "_law_lay_kept" s_law_lay_kept f1 c1 P1) (l2 : LamF K mg h "_law_lift_kept" s_law_lift_kept f2 c2 P2) (l3 : LamF K mg h "_law_odd_kept" s_law_odd_kept f3 c3 P3) (n12 : P1 ≠ P2) (n13 : P1 ≠ P3) (n23 : P2 ≠ P3) : LamX.LawAtS l w K CX0 10 63 "script" mg fa h := by
  obtain ⟨f, fd, AL⟩ := A.law
  have e := hfa.symm.trans AL.gl
  cases e
  obtain ⟨oc, od, kV, doc, pm, an, cdv, ct, osl, e1, _, _⟩ := AL.fn.ex
  refine ⟨fd, [(c1, P1), (c2, P2), (c3, P3)], spLaw K [(P1, qL "_law_lay_kept" s_law_lay_kept f1 c1), (P2, qL "_law_lift_kept" s_law_lift_kept f2 c2), (P3, qL "_law_odd_kept" s_law_odd_kept f3 c3)], ?_, ?_, ?_, ?_, ?_, ?_⟩
  · simp only [List.mem_cons, List.not_mem_nil, or_false]
    rintro p (rfl | rfl | rfl)
    · exact l1.tb
    · exact l2.tb
    · exact l3.tb
  · simp only [List.mem_cons, List.not_mem_nil, or_false]
    rintro p (rfl | rfl | rfl)
    · exact l1.no
    · exact l2.no
    · exact l3.no
  · simp only [List.mem_cons, List.not_mem_nil, or_false]
    rintro p (rfl | rfl | rfl)
    · exact l1.hd
    · exact l2.hd
    · exact l3.hd
  · intro s u
    rw [e1]
    exact .of_eq rfl
  · intro H a ns hl _ ht hS
    refine ⟨a, ns, rfl, hS, hl, ?_, fun _ => rfl⟩
    intro p hp
    simp only [List.mem_cons, List.not_mem_nil, or_false] at hp
    rcases hp with rfl | rfl | rfl
    · exact LamX.TabS.nil (ht (c1, P1) (by simp))
    · exact LamX.TabS.nil (ht (c2, P2) (by simp))
    · exact LamX.TabS.nil (ht (c3, P3) (by simp))
  · intro base KB GB tb
    obtain ⟨fd1, F1⟩ := l1.fn
    obtain ⟨fd2, F2⟩ := l2.fn
    obtain ⟨fd3, F3⟩ := l3.fn
    refine ok_law AL (lcalls (CW := CW) (CT := CT) (CN := CN) ⟨A.nb, A.is_integer, A.is_number, A.is_weight, A.check_weight, A.covers, A.covered, A.couples_with, A.far_of, A.law_pot, A.law_draw, A.law_weights, A.law_is_number, A.law_is_list, A.law_is_row, A.law_is_pairs, A.law_far, A.law_told, A.law_brook_kept, A.law_any_weight, A.law_deed_kept,
      ⟨f1, fd1, .ref c1, F1, c1, P1, rfl, tb (c1, P1) (by simp), by simp [qL], ?_⟩, ⟨f2, fd2, .ref c2, F2, c2, P2, rfl, tb (c2, P2) (by simp), by simp [qL], ?_⟩, ⟨f3, fd3, .ref c3, F3, c3, P3, rfl, tb (c3, P3) (by simp), by simp [qL], ?_⟩, A.gW, A.gS⟩ EF BF)
    · simp only [List.mem_cons, List.not_mem_nil, or_false]
      rintro p (rfl | rfl | rfl) e
      · rfl
      · exact absurd e.symm n12
      · exact absurd e.symm n13
    · simp only [List.mem_cons, List.not_mem_nil, or_false]
      rintro p (rfl | rfl | rfl) e
      · exact absurd e n12
      · rfl
      · exact absurd e.symm n23
    · simp only [List.mem_cons, List.not_mem_nil, or_false]
      rintro p (rfl | rfl | rfl) e
      · exact absurd e n13
      · exact absurd e n23
      · rfl
end BK

namespace BK
open PySem PySem.Spec PyProof.Rows L2 GV
open PySem.W (nsIn findIn typeIn subIn keepIn isClsIn hasDictIn codeIn fnOf)
theorem ef_mk {K : PySem.W.Frag} {h : Heap} {mg : Str → Option Value} {CW CT CN fW fT : Addr} (X : K.In h) (G : h.Ns mainGlobals mg)
    {nmW qW nmT qT : Str} {NW NT : Addr} {bsW bmW bsT bmT : List Value} {snW snT : List Str} {subW subT : List Value} {abW abT : Bool} {colW colT : Option Bool} {ddW ddT : Option Addr} {w0 w1 w2 w3 w5 t0 t1 t2 t3 t5 : Option Value}
    {od1 an1 od2 an2 : Option Addr} {sl1 sl2 : Array (Option Value)} {oc1 kV1 dc1 pm1 cd1 ct1 oc2 kV2 dc2 pm2 cd2 ct2 : Value}
    (aW : nsIn K mainGlobals "InvalidWeight" = some (some (.ref CW))) (aT : nsIn K mainGlobals "TooMany" = some (some (.ref CT))) (aN : nsIn K mainGlobals "NothingLaid" = some (some (.ref CN)))
    (lW : K.lookup CW = some (excClassObj nmW qW CW NW bsW bmW true snW subW abW colW ddW w0 w1 w2 w3 w5 "ValueError.__new__")) (rW : HandSPX.refsVE bmW = true)
    (lT : K.lookup CT = some (excClassObj nmT qT CT NT bsT bmT true snT subT abT colT ddT t0 t1 t2 t3 t5 "ValueError.__new__")) (rT : HandSPX.refsVE bmT = true)
    (saW : findIn K (.ref CW) "__setattr__" = some (some (.builtin "object.__setattr__"))) (saT : findIn K (.ref CT) "__setattr__" = some (some (.builtin "object.__setattr__")))
    (eW : subIn K (.ref CW) (.type "BaseException") = some true) (eT : subIn K (.ref CT) (.type "BaseException") = some true) (eN : subIn K (.ref CN) (.type "BaseException") = some true)
    (tW : typeIn K (.ref CW) = some (.type "type")) (tT : typeIn K (.ref CT) = some (.type "type")) (tN : typeIn K (.ref CN) = some (.type "type"))
    (kW : keepIn K (.ref CW) = true) (kT : keepIn K (.ref CT) = true) (kN : keepIn K (.ref CN) = true)
    (gaW : findIn K (.ref CW) "__getattribute__" = some (some (.builtin "BaseException.__getattribute__"))) (gaT : findIn K (.ref CT) "__getattribute__" = some (some (.builtin "BaseException.__getattribute__")))
    (ggW : findIn K (.ref CW) "__getattr__" = some none) (ggT : findIn K (.ref CT) "__getattr__" = some none) (hdW : hasDictIn K CW = true) (hdT : hasDictIn K CT = true)
    (nW : findIn K (.ref CW) "weight" = some none) (nM : findIn K (.ref CT) "most" = some none) (nG : findIn K (.ref CT) "given" = some none)
    (xN : PySem.W.excIn K CN [.type "ValueError", .type "Exception", .type "BaseException", .type "object"] "ValueError.__new__" = true)
    (cW : isClsIn K CW = true) (cT : isClsIn K CT = true) (cN : isClsIn K CN = true)
    (ww : subIn K (.ref CW) (.ref CW) = some true) (tw : subIn K (.ref CT) (.ref CW) = some false) (tt : subIn K (.ref CT) (.ref CT) = some true) (nw : subIn K (.ref CN) (.ref CW) = some false) (nt : subIn K (.ref CN) (.ref CT) = some false) (nn : subIn K (.ref CN) (.ref CN) = some true)
    (iW : findIn K (.ref CW) "__init__" = some (some (.ref fW))) (yW : typeIn K (.ref fW) = some (.type "function")) (l1 : K.lookup fW = some ⟨oc1, od1, .func (fnOf "__init__" "InvalidWeight.__init__" (defArgs s_InvalidWeight_init) (defBody s_InvalidWeight_init) (defScope s_InvalidWeight_init) .none kV1 dc1 pm1 an1 cd1 ct1), sl1⟩) (c1 : codeIn K cd1 "InvalidWeight.__init__" = true) (k1 : keepIn K (.ref fW) = true)
    (iT : findIn K (.ref CT) "__init__" = some (some (.ref fT))) (yT : typeIn K (.ref fT) = some (.type "function")) (l2 : K.lookup fT = some ⟨oc2, od2, .func (fnOf "__init__" "TooMany.__init__" (defArgs s_TooMany_init) (defBody s_TooMany_init) (defScope s_TooMany_init) .none kV2 dc2 pm2 an2 cd2 ct2), sl2⟩) (c2 : codeIn K cd2 "TooMany.__init__" = true) (k2 : keepIn K (.ref fT) = true) : EFacts K mg CW CT CN :=
  ⟨⟨PySem.W.mg_of X G aW, PySem.W.mg_of X G aT, PySem.W.mg_of X G aN, ⟨exm_of eW eW cW tW ww, exm_of eT eW cW tW tw, exm_of eT eT cT tT tt, exm_of eN eW cW tW nw, exm_of eN eT cT tT nt, exm_of eN eN cN tN nn⟩, ⟨gaW, ggW, eW, hdW⟩, ⟨gaT, ggT, eT, hdT⟩, nW, nM, nG⟩,
    ⟨⟨_, _, _, _, _, _, _, _, _, _, _, _, _, _, _, lW, rW⟩, saW, eW, tW, kW⟩, ⟨⟨_, _, _, _, _, _, _, _, _, _, _, _, _, _, _, lT, rT⟩, saT, eT, tT, kT⟩, ⟨PySem.W.mg_of X G aN, xN, kN, eN, tN⟩,
    ⟨fW, _, iW, yW, fun_mk l1 c1 k1⟩, ⟨fT, _, iT, yT, fun_mk l2 c2 k2⟩⟩
theorem bf_mk {K : PySem.W.Frag} {h : Heap} {mg : Str → Option Value} {C f1 f2 f3 f4 f5 f6 p2 p3 p4 : Addr} (X : K.In h) (G : h.Ns mainGlobals mg)
    {od1 an1 od2 an2 od3 an3 od4 an4 od5 an5 od6 an6 : Option Addr} {sl1 sl2 sl3 sl4 sl5 sl6 : Array (Option Value)} {oc1 kV1 dc1 pm1 cd1 ct1 oc2 kV2 dc2 pm2 cd2 ct2 oc3 kV3 dc3 pm3 cd3 ct3 oc4 kV4 dc4 pm4 cd4 ct4 oc5 kV5 dc5 pm5 cd5 ct5 oc6 kV6 dc6 pm6 cd6 ct6 : Value} {r2 r3 r4 : List Value}
    (aC : nsIn K mainGlobals "Brook" = some (some (.ref C)))
    (pg : PySem.W.plainGet K C Str.empty = true) (hd : hasDictIn K C = true) (po : PySem.W.plainOver K C = true) (sa : findIn K (.ref C) "__setattr__" = some (some (.builtin "object.__setattr__"))) (mk : PySem.W.makesIn K C = true) (kc : keepIn K (.ref C) = true) (nS : findIn K (.ref C) "_stones" = some none)
    (a1 : findIn K (.ref C) "__init__" = some (some (.ref f1))) (i1 : PySem.W.isFn K (.ref f1) = true) (l1 : K.lookup f1 = some ⟨oc1, od1, .func (fnOf "__init__" "Brook.__init__" (defArgs s_Brook_init) (defBody s_Brook_init) (defScope s_Brook_init) .none kV1 dc1 pm1 an1 cd1 ct1), sl1⟩) (c1 : codeIn K cd1 "Brook.__init__" = true) (k1 : keepIn K (.ref f1) = true)
    (a2 : findIn K (.ref C) "laid" = some (some (.ref p2))) (g2 : PySem.W.specialIn K (.ref p2) "__get__" = some (some (.builtin "property.__get__"))) (t2 : PySem.W.takesIn K (.ref p2) = some true) (e2 : PySem.W.recIn K p2 "property" = some (.ref f2 :: r2)) (l2 : K.lookup f2 = some ⟨oc2, od2, .func (fnOf "laid" "Brook.laid" (defArgs s_Brook_laid) (defBody s_Brook_laid) (defScope s_Brook_laid) .none kV2 dc2 pm2 an2 cd2 ct2), sl2⟩) (c2 : codeIn K cd2 "Brook.laid" = true) (k2 : keepIn K (.ref f2) = true)
    (a3 : findIn K (.ref C) "couples" = some (some (.ref p3))) (g3 : PySem.W.specialIn K (.ref p3) "__get__" = some (some (.builtin "property.__get__"))) (t3 : PySem.W.takesIn K (.ref p3) = some true) (e3 : PySem.W.recIn K p3 "property" = some (.ref f3 :: r3)) (l3 : K.lookup f3 = some ⟨oc3, od3, .func (fnOf "couples" "Brook.couples" (defArgs s_Brook_couples) (defBody s_Brook_couples) (defScope s_Brook_couples) .none kV3 dc3 pm3 an3 cd3 ct3), sl3⟩) (c3 : codeIn K cd3 "Brook.couples" = true) (k3 : keepIn K (.ref f3) = true)
    (a4 : findIn K (.ref C) "lightest" = some (some (.ref p4))) (g4 : PySem.W.specialIn K (.ref p4) "__get__" = some (some (.builtin "property.__get__"))) (t4 : PySem.W.takesIn K (.ref p4) = some true) (e4 : PySem.W.recIn K p4 "property" = some (.ref f4 :: r4)) (l4 : K.lookup f4 = some ⟨oc4, od4, .func (fnOf "lightest" "Brook.lightest" (defArgs s_Brook_lightest) (defBody s_Brook_lightest) (defScope s_Brook_lightest) .none kV4 dc4 pm4 an4 cd4 ct4), sl4⟩) (c4 : codeIn K cd4 "Brook.lightest" = true) (k4 : keepIn K (.ref f4) = true)
    (a5 : findIn K (.ref C) "lay" = some (some (.ref f5))) (i5 : PySem.W.isFn K (.ref f5) = true) (l5 : K.lookup f5 = some ⟨oc5, od5, .func (fnOf "lay" "Brook.lay" (defArgs s_Brook_lay) (defBody s_Brook_lay) (defScope s_Brook_lay) .none kV5 dc5 pm5 an5 cd5 ct5), sl5⟩) (c5 : codeIn K cd5 "Brook.lay" = true) (k5 : keepIn K (.ref f5) = true)
    (a6 : findIn K (.ref C) "lift" = some (some (.ref f6))) (i6 : PySem.W.isFn K (.ref f6) = true) (l6 : K.lookup f6 = some ⟨oc6, od6, .func (fnOf "lift" "Brook.lift" (defArgs s_Brook_lift) (defBody s_Brook_lift) (defScope s_Brook_lift) .none kV6 dc6 pm6 an6 cd6 ct6), sl6⟩) (c6 : codeIn K cd6 "Brook.lift" = true) (k6 : keepIn K (.ref f6) = true) : BFacts K mg C :=
  ⟨⟨⟨pg, hd, po, sa⟩, nS⟩, PySem.W.mg_of X G aC, ⟨f1, _, ⟨mk, a1, i1, kc⟩, fun_mk l1 c1 k1⟩, ⟨p2, f2, _, ⟨a2, g2, t2, r2, e2⟩, fun_mk l2 c2 k2⟩, ⟨p3, f3, _, ⟨a3, g3, t3, r3, e3⟩, fun_mk l3 c3 k3⟩, ⟨p4, f4, _, ⟨a4, g4, t4, r4, e4⟩, fun_mk l4 c4 k4⟩, ⟨f5, _, ⟨a5, i5, k5⟩, fun_mk l5 c5 k5⟩, ⟨f6, _, ⟨a6, i6, k6⟩, fun_mk l6 c6 k6⟩⟩
theorem gi_mk {K : PySem.W.Frag} {h : Heap} {mg : Str → Option Value} {x : Str} {i : Int} {t : Tok} (X : K.In h) (G : h.Ns mainGlobals mg) (a : nsIn K mainGlobals x = some (some (.int i t))) : ∃ t, mg x = some (.int i t) := ⟨t, PySem.W.mg_of X G a⟩
end BK

open PySem PySem.W PyProof.Rows in
set_option maxRecDepth 100000 in
set_option maxHeartbeats 0 in
theorem PySem.Challenge.cw_millbrook_k14_brook_holds : PySem.Challenge.rw_millbrook_k14_brook.Holds := by
  w_on; o_law; k_head; (case hw => w_witness2)
  k_fill
  refine LamX.walk_ofTs (l := PySem.Challenge.rw_millbrook_k14_brook) (n := 63) (k := 10) (x := "script") (CX := fun _ => L2.CX0) rfl (by rw [sizeLine_eq]; decide) rfl ⟨rfl, by decide, by decide⟩ (fun w h Y => PySem.W.km_in_of Y) ?F (fun _ _ _ _ _ z => z)
  case F =>
    intro w mg fa h Y KX G hmg
    have TB := PySem.W.km_tabs_of Y
    refine' BK.law_at hmg ⟨⟨PySem.W.mg_none_of KX G ?z_0, PySem.W.mg_none_of KX G ?z_1, PySem.W.mg_none_of KX G ?z_2, PySem.W.mg_none_of KX G ?z_3, PySem.W.mg_none_of KX G ?z_4, PySem.W.mg_none_of KX G ?z_5, PySem.W.mg_none_of KX G ?z_6, PySem.W.mg_none_of KX G ?z_7, PySem.W.mg_none_of KX G ?z_8, PySem.W.mg_none_of KX G ?z_9, PySem.W.mg_none_of KX G ?z_10, PySem.W.mg_none_of KX G ?z_11, PySem.W.mg_none_of KX G ?z_12, PySem.W.mg_none_of KX G ?z_13, PySem.W.mg_none_of KX G ?z_14, PySem.W.mg_none_of KX G ?z_15, PySem.W.mg_none_of KX G ?z_16⟩, BK.at_mk KX G ?a_17 ?l_18 ?c_19 ?k_20, BK.at_mk KX G ?a_21 ?l_22 ?c_23 ?k_24, BK.at_mk KX G ?a_25 ?l_26 ?c_27 ?k_28, BK.at_mk KX G ?a_29 ?l_30 ?c_31 ?k_32, BK.at_mk KX G ?a_33 ?l_34 ?c_35 ?k_36, BK.at_mk KX G ?a_37 ?l_38 ?c_39 ?k_40, BK.at_mk KX G ?a_41 ?l_42 ?c_43 ?k_44, BK.at_mk KX G ?a_45 ?l_46 ?c_47 ?k_48, BK.at_mk KX G ?a_49 ?l_50 ?c_51 ?k_52, BK.at_mk KX G ?a_53 ?l_54 ?c_55 ?k_56, BK.at_mk KX G ?a_57 ?l_58 ?c_59 ?k_60, BK.at_mk KX G ?a_61 ?l_62 ?c_63 ?k_64, BK.at_mk KX G ?a_65 ?l_66 ?c_67 ?k_68, BK.at_mk KX G ?a_69 ?l_70 ?c_71 ?k_72, BK.at_mk KX G ?a_73 ?l_74 ?c_75 ?k_76, BK.at_mk KX G ?a_77 ?l_78 ?c_79 ?k_80, BK.at_mk KX G ?a_81 ?l_82 ?c_83 ?k_84, BK.at_mk KX G ?a_85 ?l_86 ?c_87 ?k_88, BK.at_mk KX G ?a_89 ?l_90 ?c_91 ?k_92, BK.at_mk KX G ?a_93 ?l_94 ?c_95 ?k_96, BK.at_mk KX G ?a_97 ?l_98 ?c_99 ?k_100, BK.gi_mk KX G ?g_101, BK.gi_mk KX G ?g_102⟩ (BK.ef_mk KX G ?e_103 ?e_104 ?e_105 ?e_106 ?dec_107 ?e_108 ?dec_109 ?e_110 ?e_111 ?e_112 ?e_113 ?e_114 ?e_115 ?e_116 ?e_117 ?e_118 ?e_119 ?e_120 ?e_121 ?e_122 ?e_123 ?e_124 ?e_125 ?e_126 ?e_127 ?e_128 ?e_129 ?e_130 ?e_131 ?e_132 ?e_133 ?sub_134 ?sub_135 ?sub_136 ?sub_137 ?sub_138 ?sub_139 ?e_140 ?e_141 ?e_142 ?e_143 ?e_144 ?e_145 ?e_146 ?e_147 ?e_148 ?e_149) (BK.bf_mk KX G ?b_150 ?b_151 ?b_152 ?b_153 ?b_154 ?b_155 ?b_156 ?b_157 ?b_158 ?b_159 ?b_160 ?b_161 ?b_162 ?b_163 ?b_164 ?b_165 ?b_166 ?b_167 ?b_168 ?b_169 ?b_170 ?b_171 ?b_172 ?b_173 ?b_174 ?b_175 ?b_176 ?b_177 ?b_178 ?b_179 ?b_180 ?b_181 ?b_182 ?b_183 ?b_184 ?b_185 ?b_186 ?b_187 ?b_188 ?b_189 ?b_190 ?b_191 ?b_192 ?b_193) (BK.lam_mk (Pt := 258) KX G ?m_194 ?m_195 ?m_196 ?m_197 ?m_198 ?tab_199 ?no_200) (BK.lam_mk (Pt := 265) KX G ?m_201 ?m_202 ?m_203 ?m_204 ?m_205 ?tab_206 ?no_207) (BK.lam_mk (Pt := 272) KX G ?m_208 ?m_209 ?m_210 ?m_211 ?m_212 ?tab_213 ?no_214) (by decide) (by decide) (by decide)
    (case z_0 => k_is)
    (case z_1 => k_is)
    (case z_2 => k_is)
    (case z_3 => k_is)
    (case z_4 => k_is)
    (case z_5 => k_is)
    (case z_6 => k_is)
    (case z_7 => k_is)
    (case z_8 => k_is)
    (case z_9 => k_is)
    (case z_10 => k_is)
    (case z_11 => k_is)
    (case z_12 => k_is)
    (case z_13 => k_is)
    (case z_14 => k_is)
    (case z_15 => k_is)
    (case z_16 => k_is)
    (case a_17 => k_is)
    (case l_18 => k_is)
    (case c_19 => k_is)
    (case k_20 => k_is)
    (case a_21 => k_is)
    (case l_22 => k_is)
    (case c_23 => k_is)
    (case k_24 => k_is)
    (case a_25 => k_is)
    (case l_26 => k_is)
    (case c_27 => k_is)
    (case k_28 => k_is)
    (case a_29 => k_is)
    (case l_30 => k_is)
    (case c_31 => k_is)
    (case k_32 => k_is)
    (case a_33 => k_is)
    (case l_34 => k_is)
    (case c_35 => k_is)
    (case k_36 => k_is)
    (case a_37 => k_is)
    (case l_38 => k_is)
    (case c_39 => k_is)
    (case k_40 => k_is)
    (case a_41 => k_is)
    (case l_42 => k_is)
    (case c_43 => k_is)
    (case k_44 => k_is)
    (case a_45 => k_is)
    (case l_46 => k_is)
    (case c_47 => k_is)
    (case k_48 => k_is)
    (case a_49 => k_is)
    (case l_50 => k_is)
    (case c_51 => k_is)
    (case k_52 => k_is)
    (case a_53 => k_is)
    (case l_54 => k_is)
    (case c_55 => k_is)
    (case k_56 => k_is)
    (case a_57 => k_is)
    (case l_58 => k_is)
    (case c_59 => k_is)
    (case k_60 => k_is)
    (case a_61 => k_is)
    (case l_62 => k_is)
    (case c_63 => k_is)
    (case k_64 => k_is)
    (case a_65 => k_is)
    (case l_66 => k_is)
    (case c_67 => k_is)
    (case k_68 => k_is)
    (case a_69 => k_is)
    (case l_70 => k_is)
    (case c_71 => k_is)
    (case k_72 => k_is)
    (case a_73 => k_is)
    (case l_74 => k_is)
    (case c_75 => k_is)
    (case k_76 => k_is)
    (case a_77 => k_is)
    (case l_78 => k_is)
    (case c_79 => k_is)
    (case k_80 => k_is)
    (case a_81 => k_is)
    (case l_82 => k_is)
    (case c_83 => k_is)
    (case k_84 => k_is)
    (case a_85 => k_is)
    (case l_86 => k_is)
    (case c_87 => k_is)
    (case k_88 => k_is)
    (case a_89 => k_is)
    (case l_90 => k_is)
    (case c_91 => k_is)
    (case k_92 => k_is)
    (case a_93 => k_is)
    (case l_94 => k_is)
    (case c_95 => k_is)
    (case k_96 => k_is)
    (case a_97 => k_is)
    (case l_98 => k_is)
    (case c_99 => k_is)
    (case k_100 => k_is)
    (case g_101 => k_is)
    (case g_102 => k_is)
    (case e_103 => k_is)
    (case e_104 => k_is)
    (case e_105 => k_is)
    (case e_106 => k_is)
    (case dec_107 => decide +kernel)
    (case e_108 => k_is)
    (case dec_109 => decide +kernel)
    (case e_110 => k_is)
    (case e_111 => k_is)
    (case e_112 => k_is)
    (case e_113 => k_is)
    (case e_114 => k_is)
    (case e_115 => k_is)
    (case e_116 => k_is)
    (case e_117 => k_is)
    (case e_118 => k_is)
    (case e_119 => k_is)
    (case e_120 => k_is)
    (case e_121 => k_is)
    (case e_122 => k_is)
    (case e_123 => k_is)
    (case e_124 => k_is)
    (case e_125 => k_is)
    (case e_126 => k_is)
    (case e_127 => k_is)
    (case e_128 => k_is)
    (case e_129 => k_is)
    (case e_130 => first | kernel_rfl | with_unfolding_all rfl | rfl)
    (case e_131 => k_is)
    (case e_132 => k_is)
    (case e_133 => k_is)
    (case sub_134 => first | rfl | k_is)
    (case sub_135 => first | rfl | k_is)
    (case sub_136 => first | rfl | k_is)
    (case sub_137 => first | rfl | k_is)
    (case sub_138 => first | rfl | k_is)
    (case sub_139 => first | rfl | k_is)
    (case e_140 => k_is)
    (case e_141 => k_is)
    (case e_142 => k_is)
    (case e_143 => k_is)
    (case e_144 => k_is)
    (case e_145 => k_is)
    (case e_146 => k_is)
    (case e_147 => k_is)
    (case e_148 => k_is)
    (case e_149 => k_is)
    (case b_150 => k_is)
    (case b_151 => k_is)
    (case b_152 => k_is)
    (case b_153 => k_is)
    (case b_154 => k_is)
    (case b_155 => k_is)
    (case b_156 => k_is)
    (case b_157 => k_is)
    (case b_158 => k_is)
    (case b_159 => k_is)
    (case b_160 => k_is)
    (case b_161 => k_is)
    (case b_162 => k_is)
    (case b_163 => k_is)
    (case b_164 => k_is)
    (case b_165 => k_is)
    (case b_166 => k_is)
    (case b_167 => k_is)
    (case b_168 => k_is)
    (case b_169 => k_is)
    (case b_170 => k_is)
    (case b_171 => k_is)
    (case b_172 => k_is)
    (case b_173 => k_is)
    (case b_174 => k_is)
    (case b_175 => k_is)
    (case b_176 => k_is)
    (case b_177 => k_is)
    (case b_178 => k_is)
    (case b_179 => k_is)
    (case b_180 => k_is)
    (case b_181 => k_is)
    (case b_182 => k_is)
    (case b_183 => k_is)
    (case b_184 => k_is)
    (case b_185 => k_is)
    (case b_186 => k_is)
    (case b_187 => k_is)
    (case b_188 => k_is)
    (case b_189 => k_is)
    (case b_190 => k_is)
    (case b_191 => k_is)
    (case b_192 => k_is)
    (case b_193 => k_is)
    (case m_194 => k_is)
    (case m_195 => k_is)
    (case m_196 => k_is)
    (case m_197 => k_is)
    (case m_198 => first | kernel_rfl | with_unfolding_all rfl | rfl)
    (case tab_199 => exact TB _ (by simp))
    (case no_200 => first | rfl | k_is)
    (case m_201 => k_is)
    (case m_202 => k_is)
    (case m_203 => k_is)
    (case m_204 => k_is)
    (case m_205 => first | kernel_rfl | with_unfolding_all rfl | rfl)
    (case tab_206 => exact TB _ (by simp))
    (case no_207 => first | rfl | k_is)
    (case m_208 => k_is)
    (case m_209 => k_is)
    (case m_210 => k_is)
    (case m_211 => k_is)
    (case m_212 => first | kernel_rfl | with_unfolding_all rfl | rfl)
    (case tab_213 => exact TB _ (by simp))
    (case no_214 => first | rfl | k_is)
#print axioms PySem.Challenge.cw_millbrook_k14_brook_holds

